import PyProof.Rows.All
import Wide.All
import OpenK.AllK
import Wide.FinOn
import Lean
import PyProof.EqAt
import PyProof.EqKinds
import PyProof.TupleCall
import KE.KTryMore
import KE.KDictLaws
import KE.KDictList
import KE.KDictOf
import PyProof.AttrMiss
import PyProof.SetScanFacts
import PyProof.SetKind
import PyProof.WalkInts
import KE.KIntText
import PyProof.ZipIter
import KE.KMinKey
import KE.RegKTryMore
import PySem.Challenge.RW_askbook_k04_whole_within
set_option Elab.async false
set_option linter.all false
set_option maxRecDepth 100000
set_option maxHeartbeats 4000000
open PySem renaming wpAny_bind→dA,wpAny_pure→dB,Value→dG,sizeLine→dN,Shared→dP,wpAny→dX,starEach→eE,model→eJ,Program→eS,compareOp→fH,World→fI,wpAny_mono→fL,wpAny_newObj_type→fO,wpAny_call_entry→fP,wpAny_seqItems→fU,Around→fV,wpAny_callSpecial?_slot→fW,mainGlobals→gA,cLine→gQ,wpAny_field→gS,SetTable→gV,wpAny_holding→gW,wpAny_truthy_bool→gX,wpAny_forIn_list→hJ,rawInt→iD,wpAny_setState_of→iO,PyData→iW,backTo→iY,wpAny_setField→jA,sizeLine_eq→jC,codeAny_builtin→jE,sysModules→jH,wpAny_typeNameOfWhole_keyiter→jL,mem_of_lookup→jQ,bootBuiltins→jR,Scope→jW,plainId_quiet→jZ,wpAny_isInstance→kA,swapsWith→kB,wpAny_Call_Name_kw→kE,wpAny_setField_rec→kG,wpAny_specialOf→kK,foldedSetIterable→kQ,binaryOp→kR,ofAClassStatement→kW,pyNext→kZ,wpAny_typeNameOf_keyiter→lD,NameKind→lE,IsTupleKey→lI,wpAny_rule→lJ,codeAny→lM,wpAny_typeOf→lO,Keyword→lP,FuncData→lS,attributeBase→lT,wpAny_pyIter_list→lW,assignEach→mF,wpAny_tryCatch→mJ,firstArgMember→mL,wpAny_askSetting→mQ,behindInMarks→nA,wpAny_attempt→nD,wpAny_passesOwn→nH,wpAny_updateSeq→nI,sliceBounds→nQ,keywordEach→nR,hashByValue→nU,wpAny_letGo→nV,codeAny_mono→nX,argBest→oJ,isSubtype_tuple_tuple→oM,builtinLookup_eq_fast→oO,builtinsNs→oQ,lookup_relabel_local→oY,wpAny_of_eq→oZ,wpAny_updateSeq_pair→pE,letOwnedTupleGo→pF,wpAny_loadPart'→pH,wpAny_ite_split→pK,wpAny_setEntries_of→pN,relabel→pP,seqItems?→pU,wpAny_tupleItemsOf→pW,wpAny_fieldsOf→pZ,fresh→qM,wpAny_pyIter_slot→qP,wpAny_dictEntries→qQ,wpAny_onRaise→qY,noFill_tuple_add→qZ,backToKw→rA,ReadsAll→rB,concat_meets→rL,IsPart→rM,getItem→rN,wpAny_execs_nil→rP,typeLookup_type→rS,wpAny_dictEpoch→rT,IsPair→rY,eqIsQuiet→sC,lastMarks→sF,holding→sG,cellsFrom→sH,valueAt→sI,callerA→sJ
open List renaming map_cons→dC,length_map→dD,mem_cons_of_mem→dF,mem_cons_self→dH,length_cons→dI,length_append→dU,getElem?_set_self→dW,getElem?_set_ne→dZ,replicate→eA,size_toArray→eF,getElem?_map→eP,map_map→eQ,getElem?_eq_getElem→eR,range→eY,mem_of_getElem?→fB,length_set→fE,getD_eq_getElem?_getD→fJ,drop_eq_getElem_cons→fN,map_append→fQ,all_cons→fT,getElem?_append_left→fY,mem_cons→gD,getElem?_append_right→gE,cons_lt_cons_iff→gH,filterMap_cons→gI,map_congr_left→gJ,length_replicate→gR,append_nil→gZ,length_take→hV,length_filterMap_le→iB,mem_append_right→iE,getElem?_cons_succ→iF,length_drop→iI,getElem?_eq_none→iQ,getElem?_of_mem→iV,any_cons→iX,nodup_nil→iZ,drop_of_length_le→jB,length_nil→jD,lt_irrefl→kF,find?_cons→kL,nil_append→kN,length→kS,map_nil→kU,flatMap_cons→kY,getElem?_cons_zero→lG,length_range→lV,pairwise_map→lX,ext_getElem?→lY,mem_append_left→mE,drop_zero→mM,not_mem_nil→mP,getElem_mem→mR,getElem?_range→mT,mem_map_of_mem→mU,mem_append→nJ,append_assoc→oD,mem_map→oH,take_append_drop→oP,cons_append→oS,lt_trans→oV,mem_of_mem_take→pB,pairwise_append→pC,zip_cons_cons→pX,set_cons_succ→qF,set_cons_zero→qG,mem_singleton→qH,map_take→qX,lookup_cons→rC,map_fst_zip→rE,of_mem_zip→rQ,forIn_cons→rR
open PySem.Heap renaming get?_push_of_some→dE,lt_size→dY,get?_push_size→eD,get?_update_other→fS,get?_update_self→gF,SameBut→gU,size_push→iR,get?_none_of_le→oW,get?→sL
open PySem.PyData renaming canLayAll0→dO,strOk→eK,eqv→eL,depthAll→eU,canLay0→fM,int→gK,eqvAll→iH,depth→iK,str→kH
open Bool renaming and_eq_true→dQ,not_true→hU,or_eq_true→jO,not_false→mD,and_false→mI,not_eq_true'→qO,and_self→qW
open Nat renaming le_refl→dR,ne_of_lt→eM,lt_of_lt_of_le→eW,le_trans→fF,lt_irrefl→fR,zero_le→fZ,ne_of_gt→jS,lt_or_ge→jV,le_add_right→lH,le_of_eq→lQ,lt_of_succ_lt_succ→lR,lt_trichotomy→lZ,lt_trans→oA,lt_succ_of_lt→oG,le_of_not_lt→oR,le_succ→oX,not_lt_zero→pI,zero_add→pS,add_assoc→qS,lt_succ_self→rF
open PySem.W renaming Frag→eB,mg_of→fX,keepIn→gO,exmOne→iS,fnOf→iU,kia_one→jN,excIn→jY,nsIn→kX,codeIn→lF,kitOne→mH,subIn→nE,tabObj→qC,methodObj→qI,codeHdIn→rH,kitMeta→rW
open Array renaming length_toList→eC,getElem?_eq_getElem→eO,getElem?_toList→eV,forIn_toList→jG,getD→pY
open Option.some renaming inj→eI,injEq→oC
open PySem.SeqAt renaming shaped→eX,canLay_of_shaped→jU,readOf→pQ
open PySem.Value renaming ref→eZ,none→fC,int→mO,bool→nL,type→rJ,str→sA
open PySem.Builtin.SmallTypes renaming nextOf→gN,ownedTupleIsFree→iT,ownedTupleHandOut→mY
open PySem.Builtin.Tuple renaming tupleHashOf→gY,tupleExact→lA,tupleItemsOf→mC,tupleCompareSizes→oK
open PySem.Heap.SameBut renaming update→iC
open PySem.Around renaming under_plainId→iG
open PySem.Str renaming ofString→iJ
open PyProof.Rows.F renaming plain_set_update_loop→iM,entry_set_update_loop→mV
open Int renaming toNat_natCast→iN,ofNat→iP,emod_lt_of_pos→qA,cast_ofNat_Int→qD,emod_nonneg→rV
open PyProof.Rows renaming slot_tuple_getitem→jF,callWith_type1→jT,slot_tupleiter_next→mW,IsTup→nW,room_in_shaped→oE,AllBare→pO,IsTupIter→pV,envOfC→qT,seqObj→qU
open PySem.Obj renaming data_mapFields→jI,mapFields→jK,isFreed_of_fields→lU,putSet→nN,cls_mapFields→qN,mapSeq→rO
open Ne renaming symm→jJ
open True renaming intro→jM
open PySem.F renaming slot_dict_keyiterator_next→jP,plain_max_loop→kC,args_tuple_add_2→nB,entry_tuple_add→nP,plainAttrs_list→nT,slot_tuple_add→nY,slot_dict_get→oN,args_dict_keyiterator_next_1→oU,entry_dict_keyiterator_next→pA,slot_dict_setdefault→pJ,slot_zip_next→pM,entry_max_loop→rG
open PySem.NameKind renaming free→jX
open PySem.Builtin.Slice renaming slicePlaces→kI,sliceAdjust→mS
open Classical renaming byContradiction→kJ
open Option renaming map_some→kM,isSome_map→qK
open Sum renaming inl→kP,inr→nF
open PySem.Builtin.List renaming listTooLong→lB,listLengthHint→pR
open PySem.AutoSeq1 renaming wpAny_loadPart'→lC,sub_tuple_tuple→nC
open PySem.Calls renaming spliced_cons→lK,evalArgs_plain→mG,callWith_builtin→nZ,spliced_nil→qJ
open False renaming elim→lN
open PySem.SetTable renaming insertAt→mB,below→qB,fits→qV
open List.Perm renaming refl→mK,swap→oF
open PySem.Paired renaming length→mZ
open Std renaming lt_of_le_of_ne→nM
open PySem.Builtin.Str renaming occurrences→nO
open ForInStep renaming yield→pG
open PySem.Builtin.Dict_items renaming ownsTuple→pL
open PySem.Builtin.Builtins renaming bindParams→pT
open List.Pairwise renaming nil→qL,imp→qR
open Sum.inl renaming inj→rX
open ToString renaming toString→rZ
open PySem.Data renaming cell→sE
abbrev dJ.{u}:=@if_pos.{u}
abbrev dM.{u}:=@if_neg.{u}
set_option bootstrap.genMatcherCode false
set_option compiler.extract_closed false
noncomputable section
section
namespace L2
open PySem
def vm:List Str:=["many"]
end L2
end
section
namespace L2
open PySem PySem.Spec PyProof.Rows
abbrev fo:=Sum Int Str
def Bj:fo->dG->Bool
 |.inl k,v=>Value.isInt k v
 |.inr x,v=>Value.isStrOf x v
def ZP(w:fI):fo->Int
 |.inl k=>hashInt k
 |.inr x=>hashStr w x
def cj:∀{k:fo}{v:dG},Bj k v=true->(∃i t,k=kP i/\v=mO i t)\/(∃x t,k=nF x/\v=sA x t)
 |.inl i,v,h=>by
  obtain⟨t,e⟩:=Value.isInt_shape (k:=i) (v:=v) h;exact .inl ⟨i,t,rfl,e⟩
 |.inr x,v,h=>by
  obtain⟨t,e⟩:=Value.isStrOf_shape (x:=x) (v:=v) h;exact .inr ⟨x,t,rfl,e⟩
def Uw(i:Int)(t:Tok):Bj (.inl i) (.int i t)=true:=by simp[Bj,Value.isInt]
def Ux(x:Str)(t:Tok):Bj (.inr x) (.str x t)=true:=by simp[Bj,Value.isStrOf]
def LG(a b:Int):decide ((kP a:fo)=kP b)=(a==b):=by
 by_cases e:a=b
 ·subst e;simp
 ·have h:¬(kP a:fo)=kP b:=λq=>e (rX q);rw[decide_eq_false h];exact(beq_eq_false_iff_ne.mpr e).symm
def LA(a b:Str):decide ((nF a:fo)=nF b)=decide (a=b):=by
 by_cases e:a=b
 ·subst e;simp
 ·have h:¬(nF a:fo)=nF b:=λq=>e (Sum.inr.inj q);rw[decide_eq_false h,decide_eq_false e]
def LF(a:Int)(b:Str):decide ((kP a:fo)=nF b)=false:=decide_eq_false (λq=>nomatch q)
def LB(a:Str)(b:Int):decide ((nF a:fo)=kP b)=false:=decide_eq_false (λq=>nomatch q)
def ba(prog:eS)(w:fI):PySem.KeyKind prog w fo where
 is:=Bj
 hash:=ZP w
 inj:=λv a b ha hb=>by
  rcases cj ha with ⟨i,t,rfl,rfl⟩|⟨x,t,rfl,rfl⟩
  ·rcases cj hb with ⟨j,u,rfl,e⟩|⟨y,u,rfl,e⟩
   ·injection e with e1 _;rw[e1]
   ·exact nomatch e
  ·rcases cj hb with ⟨j,u,rfl,e⟩|⟨y,u,rfl,e⟩
   ·exact nomatch e
   ·injection e with e1 _;rw[e1]
 byValue:=λk v h=>by
  rcases cj h with ⟨i,t,rfl,rfl⟩|⟨x,t,rfl,rfl⟩<;>rfl
 pyHash:=λhv h=>by
  rcases cj hv with ⟨i,t,rfl,rfl⟩|⟨x,t,rfl,rfl⟩
  ·exact wpAny_pyHash_int h
  ·exact wpAny_pyHash_str h
 eqBool:=λhu hv h=>by
  rcases cj hu with ⟨i,t,rfl,rfl⟩|⟨x,t,rfl,rfl⟩
  ·rcases cj hv with ⟨j,u,rfl,rfl⟩|⟨y,u,rfl,rfl⟩
   ·rw[LG]at h;exact wpAny_eqBool_int h
   ·rw[LF]at h;exact SeqAt.EqAt.int_str i t y u _ _ _ _ h
  ·rcases cj hv with ⟨j,u,rfl,rfl⟩|⟨y,u,rfl,rfl⟩
   ·rw[LB]at h;exact SeqAt.EqAt.str_int x t j u _ _ _ _ h
   ·rw[LA]at h;exact wpAny_eqBool_str h
 «strs»:=λk x t v h=>by
  rcases cj h with ⟨i,u,rfl,e⟩|⟨y,u,rfl,e⟩
  ·exact nomatch e
  ·injection e with e1 _
   subst e1;cases v<;>rfl
def Mj(prog:eS)(w:fI)(i:Int)(t:Tok):(ba prog w).is (.inl i) (.int i t)=true:=Uw i t
def Ml(prog:eS)(w:fI)(x:Str)(t:Tok):(ba prog w).is (.inr x) (.str x t)=true:=Ux x t
end L2
namespace L2
open PySem PySem.Spec PyProof.Rows
abbrev NK:=Sum fo (List fo)
abbrev bg:=List NK
def Cg(prog:eS)(w:fI)(h:Heap):NK->dG->Prop
 |.inl k,v=>(ba prog w).is k v=true
 |.inr ks,v=>∃b,v=.ref b/\lI (ba prog w) h ks b
def NItems(prog:eS)(w:fI)(h:Heap):bg->List dG->Prop
 |[],vs=>vs=[]
 |k::r,vs=>∃v t,vs=v::t/\Cg prog w h k v/\NItems prog w h r t
def c6(prog:eS)(w:fI)(h:Heap)(ks:bg)(a:Addr):Prop:=∃o items n,h.get? a=some o/\o.cls=.type "tuple"/\o.data=.seq items n/\NItems prog w h ks items.toList
section
variable{prog:eS}{w:fI}
def Yo:∀{x y:NK}{v:dG},Cg prog w h x v->Cg prog w h y v->x=y
 |.inl a,.inl b,v,h1,h2=>by rw[(ba prog w).inj v a b h1 h2]
 |.inl a,.inr ys,v,h1,⟨b,e,_⟩=>by subst e;exact absurd ((ba prog w).byValue _ _ h1) (by intro z;cases z)
 |.inr xs,.inl b,v,⟨c,e,_⟩,h2=>by subst e;exact absurd ((ba prog w).byValue _ _ h2) (by intro z;cases z)
 |.inr xs,.inr ys,v,⟨b,e,q⟩,⟨c,e',q'⟩=>by subst e;cases e';rw[q.inj q']
theorem NItems.inj:∀{x y:bg}{vs:List dG},NItems prog w h x vs->NItems prog w h y vs->x=y
 |[],[],_,_,_=>rfl
 |[],_::_,vs,h1,⟨v,t,e,_⟩=>by rw[show vs=[]from h1]at e;cases e
 |_::_,[],vs,⟨v,t,e,_⟩,h2=>by rw[show vs=[]from h2]at e;cases e
 |a::x,b::y,vs,⟨v,t,e,h1,h2⟩,⟨v',t',e',h1',h2'⟩=>by
  subst e;cases e';rw[Yo h1 h1',NItems.inj h2 h2']
def Pt{h h':Heap}{o:Obj}{es ep}(ho:h.get? d=some o)(hd:o.data=.dict es ep)(hs:gU d h h'):∀{k:NK}{v:dG},Cg prog w h k v->Cg prog w h' k v
 |.inl k,v,e=>e
 |.inr ks,v,⟨b,e,q⟩=>⟨b,e,q.keeps ho hd hs⟩
theorem NItems.keeps{h h':Heap}{o:Obj}{es ep}(ho:h.get? d=some o)(hd:o.data=.dict es ep)(hs:gU d h h'):∀{ks:bg}{vs:List dG},NItems prog w h ks vs->NItems prog w h' ks vs
 |[],_,e=>e
 |_::_,_,⟨v,t,e,h1,h2⟩=>⟨v,t,e,Pt ho hd hs h1,NItems.keeps ho hd hs h2⟩
def ur(w:fI)(prog:eS):NK->Int
 |.inl k=>(ba prog w).hash k
 |.inr ks=>tupleKeyHash (ba prog w) ks
def Ss:NK->Nat
 |.inl _=>1
 |.inr ks=>ks.length+1
def zp(k:bg):Nat:=(k.map Ss).sum
variable{A:fV}{E:dG->dP->Prop}{s:dP}
def Vm(hu:A.units<gQ)(hk:Cg prog w s.heap k v)(h:Q (ur w prog k) {s with toks:=s.toks+Ss k}):dX (eJ prog w) A (pyHash v) Q E s:=by
 cases k with
 |inl k=>exact(ba prog w).pyHash hk h
 |inr ks=>obtain⟨b,rfl,q⟩:=hk;exact wpAny_pyHash_tuple hu q h
def Vn{ks:bg}(hu:A.units+4<gQ)(hk:c6 prog w s.heap ks a)(h:Q (reduceHash (gY (ks.map (ur w prog)))) {s with toks:=s.toks+(zp ks+1)}):
  dX (eJ prog w) A (pyHash (.ref a)) Q E s:=by
 obtain⟨o,items,n,ho,hc,hd,hi⟩:=hk;have hT:s.TypeIs (.ref a) "tuple":=⟨o,ho,hc⟩;unfold pyHash
 first|unfold pyHashByItsType|skip
 first|refine dA (wpAny_cRoomFor_or (.inr (by lia)) ?_)|skip
 refine dA (kK hT F.slot_tuple_hash.lookup ?_);show dX _ _ (if(some (Value.builtin "tuple.__hash__")==some fC)=true then _ else _) Q E s;rw[dM (by rw[beq_builtin_none];exact Bool.false_ne_true)];refine dA (kK hT F.slot_tuple_hash.lookup ?_);show dX _ _ (callSpecialIfBoundUnlessNone? (.ref a) "__hash__" _>>=_) Q E s;refine dA (wpAny_callSpecialIfBoundUnlessNone?_slot hT F.slot_tuple_hash (fP F.slot_tuple_hash hT F.entry_tuple_hash ?_ (F.args_tuple_hash_1 _)));show dX _ _ (mC (.ref a)>>=_) _ _ s;refine dA (pW ho hd ?_);refine dA ?_;rw[<-jG];refine hJ _
  (λrest (b:Array Int) s'=>∃done left,ks=done++left/\NItems prog w s.heap left rest/\b.toList=done.map (ur w prog)/\s'={s with toks:=s.toks+zp done})
  _ ?_ ?_ _ _ ⟨[],ks,rfl,hi,rfl,rfl⟩
 ·rintro x rest b s' ⟨done,left,rfl,hl,hb,rfl⟩
  cases left with
  |nil=>cases (show x::rest=[]from hl)
  |cons k ks'=>
   obtain⟨v,t,e,h1,hl'⟩:=hl;cases e;refine dA (Vm (by show A.units+_<gQ;lia) h1 ?_)
   first
    |exact dB ⟨done++[k],ks',by simp,hl',by simp[hb],by simp[zp,qS]⟩
    |exact dA (dB (dB ⟨done++[k],ks',by simp,hl',by simp[hb],by simp[zp,qS]⟩))
 ·rintro b s' ⟨done,left,rfl,hl,hb,rfl⟩
  cases left with
  |cons k ks'=>obtain⟨v,t,e,_⟩:=hl;cases e
  |nil=>
  rw[gZ]at h;show dX _ _ (retInt (gY b.toList)) _ _ _;rw[hb];refine wpAny_ret_mkInt ?_;show dX _ _ (if(decide (-(2:Int) ^ 63<=gY (done.map (ur w prog))) && decide (gY (done.map (ur w prog))<2 ^ 63))=true then _ else _) Q E _;unfold reduceHash at h
  by_cases hr:(decide (-(2:Int) ^ 63<=gY (done.map (ur w prog))) && decide (gY (done.map (ur w prog))<2 ^ 63))=true
  ·rw[dJ hr];rw[dJ hr]at h;exact dB (by simpa[qS]using h)
  ·rw[dM hr];rw[dM hr]at h;exact dA (lJ (dB (by simpa[qS]using h)))
def Vo(hk:lI (ba prog w) s.heap ks a)(h:Q true s):dX (eJ prog w) A (sC (n+1) (.ref a)) Q E s:=by
 have hT:=hk.typeIs;obtain⟨o,items,n,ho,_,hd,hi⟩:=hk;unfold sC;refine dA (kK hT F.slot_tuple_eq.lookup ?_);show dX _ _ (isInstance (.ref a) (.type "tuple")>>=_) _ _ s;refine dA (kA hT oM ?_);simp only[hU,Bool.false_eq_true,if_false];refine dA (fU ho hd ?_);refine dA ?_;show dX _ _ (forIn items _ _) _ _ s;rw[<-jG];refine hJ _ (λrest r s'=>r.1=none/\s'=s/\∀v∈rest,carriedByValue v=true) _ ?_ ?_ _ _ ⟨rfl,rfl,hi.byValue⟩
 ·rintro v rest r s' ⟨hr,rfl,hall⟩
  rw[eqIsQuiet_byValue _ (hall v dH)];refine dA (dB ?_);simp only[hU,Bool.false_eq_true,if_false];exact dB ⟨rfl,rfl,λu hu'=>hall u (dF _ hu')⟩
 ·rintro ⟨r1,r2⟩ s' ⟨hr,rfl,_⟩
  simp only at hr;subst hr;exact dB h
def E4(hk:c6 prog w s.heap ks a)(h:Q true s):dX (eJ prog w) A (sC 8 (.ref a)) Q E s:=by
 obtain⟨o,items,n,ho,hc,hd,hi⟩:=hk;have hT:s.TypeIs (.ref a) "tuple":=⟨o,ho,hc⟩;unfold sC;refine dA (kK hT F.slot_tuple_eq.lookup ?_);show dX _ _ (isInstance (.ref a) (.type "tuple")>>=_) _ _ s;refine dA (kA hT oM ?_);simp only[hU,Bool.false_eq_true,if_false];refine dA (fU ho hd ?_);refine dA ?_;show dX _ _ (forIn items _ _) _ _ s;rw[<-jG];refine hJ _ (λrest r s'=>r.1=none/\s'=s/\∃left,NItems prog w s.heap left rest) _ ?_ ?_ _ _ ⟨rfl,rfl,ks,hi⟩
 ·rintro v rest r s' ⟨hr,rfl,left,hl⟩
  cases left with
  |nil=>cases (show v::rest=[]from hl)
  |cons k ks'=>
   obtain⟨v',t,e,h1,hl'⟩:=hl;cases e;refine dA ?_;have go:dX (eJ prog w) A (sC 7 v) (λb s''=>b=true/\s''=s') E s':=by
    cases k with
    |inl k=>rw[eqIsQuiet_byValue _ ((ba prog w).byValue _ _ h1)];exact dB ⟨rfl,rfl⟩
    |inr ys=>obtain⟨b,rfl,q⟩:=h1;exact Vo q ⟨rfl,rfl⟩
   refine fL go (λb s'' ⟨e1,e2⟩=>?_) λ_ _ q=>q;subst e1 e2;simp only[hU,Bool.false_eq_true,if_false];exact dB ⟨rfl,rfl,ks',hl'⟩
 ·rintro ⟨r1,r2⟩ s' ⟨hr,rfl,_⟩
  simp only at hr;subst hr;exact dB h
def Hj(hu:A.units<gQ)(hk:Bj k v=true)(hb:s.heap.IsTuple b its)(h:Q false s):dX (eJ prog w) A (eqBool v (.ref b)) Q E s/\dX (eJ prog w) A (eqBool (.ref b) v) Q E s:=by
 rcases cj hk with ⟨i,t,rfl,rfl⟩|⟨x,t,rfl,rfl⟩
 ·exact⟨SeqAt.EqAt.int_tuple i t hb hu _ _ _ _ h,SeqAt.EqAt.tuple_int i t hb hu _ _ _ _ h⟩
 ·exact⟨SeqAt.EqAt.str_tuple x t hb hu _ _ _ _ h,SeqAt.EqAt.tuple_str x t hb hu _ _ _ _ h⟩
def Uk(hu:A.units<gQ)(hx:Cg prog w s.heap x u)(hy:Cg prog w s.heap y v)(h:Q (decide (x=y)) s):dX (eJ prog w) A (eqBool u v) Q E s:=by
 cases x with
 |inl a=>
  cases y with
  |inl b=>exact(ba prog w).eqBool hx hy (by
    have e:decide (a=b)=decide ((kP a:NK)=kP b):=by by_cases q:a=b<;>simp[q]
    rw[e];exact h)
  |inr ys=>
   obtain⟨b,rfl,o,its,n,h1,h2,h3,_⟩:=hy;exact(Hj hu hx ⟨o,h1,h2,n,h3⟩ h).1
 |inr xs=>
  cases y with
  |inl b=>
   obtain⟨c,rfl,o,its,n,h1,h2,h3,_⟩:=hx;exact(Hj hu hy ⟨o,h1,h2,n,h3⟩ h).2
  |inr ys=>
   obtain⟨b,rfl,q⟩:=hx;obtain⟨c,rfl,q'⟩:=hy;exact wpAny_eqBool_tuple hu q q' (by
    have e:decide (xs=ys)=decide ((nF xs:NK)=nF ys):=by by_cases q:xs=ys<;>simp[q]
    rw[e];exact h)
theorem NItems.length:∀{x:bg}{vs:List dG},NItems prog w h x vs->x.length=vs.length
 |[],vs,e=>by rw[show vs=[]from e];rfl
 |_::_,_,⟨v,t,e,_,h2⟩=>by rw[e,dI,dI,NItems.length h2]
def Qv(hu:A.units+2<gQ)(hx:c6 prog w s.heap x a)(hy:c6 prog w s.heap y b)(h:P (.done (.ret (.bool (decide (x=y))))) s):
  dX (eJ prog w) A (Builtin.«tuple.__eq__» ⟨[.ref a,.ref b],[]⟩) P E s:=by
 obtain⟨oa,xs,na,hoa,hca,hda,hia⟩:=hx;obtain⟨ob,ys,nb,hob,hcb,hdb,hib⟩:=hy;have hTb:s.TypeIs (.ref b) "tuple":=⟨ob,hob,hcb⟩;show dX _ _ (isInstance (.ref b) (.type "tuple")>>=_) _ _ s;refine dA (kA hTb oM ?_);simp only[hU,Bool.false_eq_true,if_false];refine dA (pW hoa hda ?_);refine dA (pW hob hdb ?_);refine dA ?_;refine hJ _
  (λrest r s'=>r.1=none/\s'=s/\∃x' y' xs' ys',rest=List.zip xs' ys'/\NItems prog w s.heap x' xs'/\NItems prog w s.heap y' ys'/\decide (x'=y')=decide (x=y)/\(xs'.length==ys'.length)=(xs.size==ys.size))
  _ ?_ ?_ _ _ ⟨rfl,rfl,x,y,xs.toList,ys.toList,rfl,hia,hib,rfl,by simp⟩
 ·rintro ⟨u,v⟩ rest r s' ⟨hr,rfl,x',y',xs',ys',hz,hx',hy',hdec,hlen⟩
  cases x' with
  |nil=>rw[show xs'=[]from hx']at hz;simp at hz
  |cons k1 x''=>
   cases y' with
   |nil=>rw[show ys'=[]from hy']at hz;simp at hz
   |cons k2 y''=>
    obtain⟨u',xs'',rfl,h1,hx''⟩:=hx';obtain⟨v',ys'',rfl,h2,hy''⟩:=hy';simp only[pX,List.cons.injEq,Prod.mk.injEq]at hz;obtain⟨⟨rfl,rfl⟩,rfl⟩:=hz;refine dA (Uk (by lia) h1 h2 ?_)
    by_cases hk:k1=k2
    ·subst hk;rw[decide_eq_true rfl];simp only[hU,Bool.false_eq_true,if_false];refine dB ⟨rfl,rfl,x'',y'',xs'',ys'',rfl,hx'',hy'',?_,by simpa using hlen⟩;rw[<-hdec]
     by_cases hxy:x''=y''
     ·simp[hxy]
     ·simp[hxy]
    ·rw[decide_eq_false hk];simp only[mD,if_true];have hf:decide (x=y)=false:=by rw[<-hdec];simp[hk]
     rw[hf]at h;exact dA (dB (dB (dB h)))
 ·rintro ⟨r1,r2⟩ s' ⟨hr,rfl,x',y',xs',ys',hz,hx',hy',hdec,hlen⟩
  simp only at hr;subst hr;refine dB ?_;have hfin:(xs.size==ys.size)=decide (x=y):=by
   rw[<-hdec,<-hlen,<-hx'.length,<-hy'.length];cases x' with
   |nil=>
    cases y' with
    |nil=>simp
    |cons _ _=>simp
   |cons _ _=>
    cases y' with
    |nil=>simp
    |cons _ _=>
     obtain⟨_,_,rfl,_⟩:=hx';obtain⟨_,_,rfl,_⟩:=hy';simp at hz
  show P (.done (.ret (.bool (xs.size==ys.size)))) s';rw[hfin];exact h
def Ul(hu:A.units+4<gQ)(hx:c6 prog w s.heap x a)(hy:c6 prog w s.heap y b)(h:Q (decide (x=y)) s):
  dX (eJ prog w) A (eqBool (.ref a) (.ref b)) Q E s:=by
 have tx:s.TypeIs (.ref a) "tuple":=let ⟨o,_,_,h1,h2,_⟩:=hx;⟨o,h1,h2⟩;have ty:s.TypeIs (.ref b) "tuple":=let ⟨o,_,_,h1,h2,_⟩:=hy;⟨o,h1,h2⟩;unfold eqBool
 try with_reducible refine gW ?_
 show dX _ _ (if(eZ a==eZ b)=true then _ else _) Q E s
 by_cases hab:(eZ a==eZ b)=true
 ·rw[dJ hab];have e:a=b:=by have:=eq_of_beq hab;injection this
  subst e;obtain⟨o,items,n,ho,_,hd,hi⟩:=hx;obtain⟨o',items',n',ho',_,hd',hi'⟩:=hy;obtain rfl:o=o':=eI (ho.symm.trans ho');rw[hd]at hd';injection hd' with h1 _
  subst h1;obtain rfl:=hi.inj hi';exact dA (lJ (dB (by simpa using h)))
 ·rw[dM hab];exact dA (wpAny_richCompare_same_room (op:=.Eq) tx ty F.slot_tuple_eq
   (fP F.slot_tuple_eq tx F.entry_tuple_eq (Qv (by show A.units+1+2<gQ;lia) hx hy ⟨_,rfl,(λe=>nomatch e),gX h⟩) (F.args_tuple_eq_2 _ _)) (by lia))
end
noncomputable def a9(prog:eS)(w:fI):HeapKind prog w bg where
 is:=c6 prog w
 hash:=λk=>reduceHash (gY (k.map (ur w prog)))
 draws:=λk=>zp k+1
 room:=λA=>A.units+4<gQ
 inj:=λhx hy=>by
  obtain⟨o,items,n,ho,_,hd,hi⟩:=hx;obtain⟨o',items',n',ho',_,hd',hi'⟩:=hy;obtain rfl:o=o':=eI (ho.symm.trans ho');rw[hd]at hd';injection hd' with h1 _
  subst h1;exact hi.inj hi'
 keeps:=λx ho hd hs=>by
  obtain⟨o',items,n,ho',hc,hd',hi⟩:=x;refine⟨o',items,n,(hs.2 _ ?_).trans ho',hc,hd',hi.keeps ho hd hs⟩
  rintro rfl
  obtain rfl:=eI (ho'.symm.trans ho);rw[hd]at hd';exact nomatch hd'
 pyHash:=λhu hk h=>Vn hu hk h
 eqBool:=λhu hx hy h=>Ul hu hx hy h
 quiet:=λhk h=>E4 hk h
def f7{A:fV}(h:A.units+5<gQ):(a9 prog w).room A.in1:=by show A.units+1+4<gQ;lia
end L2
namespace L2
open PySem PySem.Spec PyProof.Rows
inductive V where
 |non|bl (b:Bool)|int (i:Int)|str (x:Str)|byt (b:Array UInt8)|flt (b:UInt64)|ref (a:Addr)|ty (n:String)
 deriving DecidableEq
def RelV:V->dG->Prop
 |.non,u=>u=fC
 |.bl b,u=>u=nL b
 |.int i,u=>∃t,u=mO i t
 |.str x,u=>∃t,u=sA x t
 |.byt b,u=>∃t,u=Value.bytes b t
 |.flt b,u=>∃t,u=Value.float b t
 |.ref a,u=>u=eZ a
 |.ty n,u=>u=rJ n
abbrev Vals:List V->List dG->Prop:=Paired RelV
theorem Vals.length{xs:List V}{us:List dG}(r:Vals xs us):xs.length=us.length:=mZ r
theorem Vals.get:∀{xs:List V}{us:List dG}{i:Nat}{x:V},Vals xs us->xs[i]?=some x->∃u,us[i]?=some u/\RelV x u
 |_,_,_,_,.nil,e=>by simp at e
 |_,_,0,_,.cons r _,e=>by simp at e;subst e;exact⟨_,rfl,r⟩
 |_,_,i+1,x,.cons _ t,e=>by
  obtain⟨u,h1,h2⟩:=Vals.get (i:=i) (x:=x) t (by simpa using e);exact⟨u,by simpa using h1,h2⟩
theorem Vals.append:∀{xs ys:List V}{us ws:List dG},Vals xs us->Vals ys ws->Vals (xs++ys) (us++ws)
 |_,_,_,_,.nil,s=>s
 |_,_,_,_,.cons r t,s=>.cons r (Vals.append t s)
theorem Vals.take:∀{xs:List V}{us:List dG}(n:Nat),Vals xs us->Vals (xs.take n) (us.take n)
 |_,_,0,_=>.nil
 |_,_,_+1,.nil=>.nil
 |_,_,n+1,.cons r t=>.cons r (Vals.take n t)
theorem Vals.drop:∀{xs:List V}{us:List dG}(n:Nat),Vals xs us->Vals (xs.drop n) (us.drop n)
 |_,_,0,r=>r
 |_,_,_+1,.nil=>.nil
 |_,_,n+1,.cons _ t=>Vals.drop n t
def RelO:Option V->Option dG->Prop
 |some v,some u=>RelV v u
 |none,none=>True
 |_,_=>False
def KV:List (κ×V)->List (κ×dG)->Prop:=Paired λ(p:κ×V)(q:κ×dG)=>p.1=q.1/\RelV p.2 q.2
def kV:fo->V
 |.inl i=>.int i
 |.inr x=>.str x
inductive HO where
 |lst (xs:List V)
 |tup (xs:List V)
 |dK (kvs:List (fo×V))|dT (kvs:List (bg×V))
 |set (S:Int->Bool) (n:Nat)
 |ins (C dx:Addr) (fs:List (Str×V))
 |own (x:Addr)
 |xd (fs:List (Str×V))
 |met (f x:Addr)
 |rng (lo hi:Int)
 |frz (o:Obj) (u:HO)
 |tbl (q:Str)
 |ext (φ:Heap->Prop)
abbrev Hp:=Addr->Option HO
def upd(H:Hp)(a:Addr)(o:HO):Hp:=λb=>if b=a then some o else H b
def bj:upd H a o a=some o:=by unfold upd;rw[dJ rfl]
def a6(h:b≠a):upd H a o b=H b:=by unfold upd;rw[dM h]
def SM{H:Hp}{a b:Addr}{o u:HO}(h:H a=some o)(h':H b=some u)(d:o≠u):a≠b:=by
 intro e;subst e;rw[h]at h';exact d (eI h')
def b0{H:Hp}{a b:Addr}{o:HO}(h:H a=some o)(h':H b=none):a≠b:=by
 intro e;subst e;rw[h]at h';cases h'
def nkAt(H:Hp):NK->V->Prop
 |.inl k,v=>v=kV k
 |.inr ks,v=>∃b,v=.ref b/\H b=some (.tup (ks.map kV))
def NkL(H:Hp):bg->List V->Prop
 |[],vs=>vs=[]
 |k::r,vs=>∃v t,vs=v::t/\nkAt H k v/\NkL H r t
def TkAt(H:Hp)(k:bg)(b:Addr):Prop:=∃vs,H b=some (.tup vs)/\NkL H k vs
def nkAt.mono(ht:∀b xs,H b=some (.tup xs)->H' b=some (.tup xs)):∀{k:NK}{v:V},nkAt H k v->nkAt H' k v
 |.inl _,_,e=>e
 |.inr _,_,⟨b,e,q⟩=>⟨b,e,ht _ _ q⟩
theorem NkL.mono(ht:∀b xs,H b=some (.tup xs)->H' b=some (.tup xs)):∀{k:bg}{vs:List V},NkL H k vs->NkL H' k vs
 |[],_,e=>e
 |_::_,_,⟨v,t,e,q,r⟩=>⟨v,t,e,nkAt.mono ht q,NkL.mono ht r⟩
theorem TkAt.mono(ht:∀b xs,H b=some (.tup xs)->H' b=some (.tup xs))(h:TkAt H k b):TkAt H' k b:=
 let ⟨vs,h1,h2⟩:=h
 ⟨vs,ht _ _ h1,h2.mono ht⟩
def Trip(H:Hp)(q:Str):List dG->Prop
 |[]=>True
 |.int _ _::.int _ _::.ref c'::r=>(∃(oc:Obj) (vs:Array dG) (t:Tok),H c'=some (.frz oc (.own 0))/\oc.data=.fields vs/\vs[1]?=some (.str q t))/\Trip H q r
 |_=>False
def Trip.mono(hz:∀b o u,H b=some (.frz o u)->H' b=some (.frz o u))(l:List dG)(h:Trip H q l):Trip H' q l:=by
 fun_induction Trip H q l with
 |case1=>unfold Trip;trivial
 |case2 _ _ _ _ c' r ih=>
  obtain⟨⟨oc,vs,t,e1,e2⟩,h2⟩:=h;unfold Trip;exact⟨⟨oc,vs,t,hz _ _ _ e1,e2⟩,ih h2⟩
 |case3=>exact h.elim
section
variable(P:eS)(w:fI)
def ObjOk(H:Hp)(h:Heap)(a:Addr):HO->Prop
 |.lst xs=>xs.length<=dN/\∃(its:List dG) (n:Nat),Vals xs its/\h.get? a=some {cls:=.type "list",data:=.seq its.toArray n}
 |.tup xs=>xs.length<=dN/\∃its:List dG,Vals xs its/\nW h a its.toArray
 |.dK kvs=>kvs.length<=dN/\(a==jH)=false/\∃vs,KV kvs vs/\h.DictOf (ba P w) a vs
 |.dT kvs=>kvs.length<=dN/\(a==jH)=false/\∃xs:List (bg×Addr×dG),
   Paired (λ(p:bg×V)(q:bg×Addr×dG)=>p.1=q.1/\TkAt H p.1 q.2.1/\RelV p.2 q.2.2) kvs xs/\
   ∃o es ep,h.get? a=some o/\o.ExactDict/\o.data=.dict es ep/\es.toList=xs.map (entryOfKey (a9 P w))/\(xs.map (·.1)).Nodup
 |.set S n=>h.SetOf (intKind P w) a S n
 |.ins C dx fs=>H dx=some (.own a)/\fs.length<=1000/\dx≠a/\h.get? a=some (PySem.W.instObj C dx)/\
   ∃mA,h.Ns1 dx mA/\(∀f,RelO (fs.lookup f) (mA f))/\PySem.Within mA (fs.map (·.1))
 |.own _=>∃o,h.get? a=some o
 |.xd fs=>∃mA,h.Ns1 a mA/\∀f,RelO (fs.lookup f) (mA f)
 |.rng lo hi=>∃t u v,h.get? a=some {cls:=.type "range",data:=.fields #[.int lo t,.int hi u,.int 1 v]}
 |.frz o u=>h.get? a=some o/\ObjOk H h a u
 |.tbl q=>∃ps:Array dG,h.get? a=some {cls:=.none,data:=.fields ps}/\Trip H q ps.toList
 |.met f x=>h.get? a=some (qI (.ref f) (.ref x))
 |.ext φ=>φ h/\(∃o,h.get? a=some o)/\∀h1 h2:Heap,φ h1->(∀o,h1.get? a=some o->h2.get? a=some o)->φ h2
def HOk(H:Hp)(h:Heap):Prop:=∀a o,H a=some o->ObjOk P w H h a o
end
section
variable{P:eS}{w:fI}{H H':Hp}{h h':Heap}{a:Addr}{o:HO}
theorem ObjOk.lt(x:ObjOk P w H h a o):a<h.objs.size:=by
 cases o with
 |lst xs=>obtain⟨_,_,_,_,e⟩:=x;exact dY e
 |tup xs=>obtain⟨_,_,_,p⟩:=x;exact p.lt
 |dK kvs=>obtain⟨_,_,_,_,o,_,_,e,_⟩:=x;exact dY e
 |dT kvs=>obtain⟨_,_,_,_,o,_,_,e,_⟩:=x;exact dY e
 |set S n=>obtain⟨o,_,_,_,e,_⟩:=x;exact dY e
 |ins C dx fs=>obtain⟨_,_,_,e,_⟩:=x;exact dY e
 |own y=>obtain⟨_,e⟩:=x;exact dY e
 |xd fs=>obtain⟨_,⟨_,_,_,e,_⟩,_⟩:=x;exact dY e
 |rng lo hi=>obtain⟨_,_,_,e⟩:=x;exact dY e
 |frz ob u=>obtain⟨e,_⟩:=x;exact dY e
 |tbl q=>obtain⟨ps,e,_⟩:=x;exact dY e
 |met f y=>exact dY (show h.get? a=some _ from x)
 |ext φ=>obtain⟨_,⟨_,e⟩,_⟩:=x;exact dY e
theorem Paired.mapP:∀{l₁:List α}{l₂:List β},Paired F l₁ l₂->(∀a b,F a b->G a b)->Paired G l₁ l₂
 |_,_,.nil,_=>.nil
 |_,_,.cons r t,f=>.cons (f _ _ r) (Paired.mapP t f)
def ObjOk.stay(x:ObjOk P w H h a o)(k:∀b u,(b=a\/H b=some (.own a))->h.get? b=some u->h'.get? b=some u)
  (ho:∀b,H b=some (.own a)->H' b=some (.own a))(ht:∀b xs,H b=some (.tup xs)->H' b=some (.tup xs))(hz:∀b o u,H b=some (.frz o u)->H' b=some (.frz o u):=by exact λ_ _ _ q=>q):ObjOk P w H' h' a o:=by
 induction o with
 |lst xs=>obtain⟨z,its,n,r,e⟩:=x;exact⟨z,its,n,r,k _ _ (.inl rfl) e⟩
 |tup xs=>obtain⟨z,its,r,ob,e,c⟩:=x;exact⟨z,its,r,ob,k _ _ (.inl rfl) e,c⟩
 |dK kvs=>obtain⟨z,y,vs,r,ob,es,ep,e,c⟩:=x;exact⟨z,y,vs,r,ob,es,ep,k _ _ (.inl rfl) e,c⟩
 |dT kvs=>
  obtain⟨z,y,xs,r,ob,es,ep,e,c⟩:=x;exact⟨z,y,xs,Paired.mapP r λp q z=>⟨z.1,z.2.1.mono ht,z.2.2⟩,ob,es,ep,k _ _ (.inl rfl) e,c⟩
 |set S n=>obtain⟨ob,es,ep,t,e,c⟩:=x;exact⟨ob,es,ep,t,k _ _ (.inl rfl) e,c⟩
 |ins C dx fs=>
  obtain⟨d,z,ne,e,mA,⟨od,es,ep,e2,c⟩,r⟩:=x;exact⟨ho _ d,z,ne,k _ _ (.inl rfl) e,mA,⟨od,es,ep,k _ _ (.inr d) e2,c⟩,r⟩
 |own y=>obtain⟨ob,e⟩:=x;exact⟨ob,k _ _ (.inl rfl) e⟩
 |xd fs=>obtain⟨mA,⟨od,es,ep,e,c⟩,r⟩:=x;exact⟨mA,⟨od,es,ep,k _ _ (.inl rfl) e,c⟩,r⟩
 |rng lo hi=>obtain⟨t,u,v,e⟩:=x;exact⟨t,u,v,k _ _ (.inl rfl) e⟩
 |frz ob u ih=>obtain⟨e,q⟩:=x;exact⟨k _ _ (.inl rfl) e,ih q⟩
 |tbl q=>
  obtain⟨ps,e,r⟩:=x;exact⟨ps,k a _ (.inl rfl) e,r.mono hz⟩
 |met f y=>
  have e:h.get? a=some (qI (.ref f) (.ref y)):=x;show h'.get? a=some (qI (.ref f) (.ref y));exact k a _ (.inl rfl) e
 |ext φ=>obtain⟨p,⟨o,e⟩,st⟩:=x;exact⟨st _ _ p λo q=>k _ _ (.inl rfl) q,⟨o,k _ _ (.inl rfl) e⟩,st⟩
theorem HOk.lt(x:HOk P w H h)(e:H a=some o):a<h.objs.size:=(x a o e).lt
def HOk.fresh(x:HOk P w H h)(e:h.objs.size<=a):H a=none:=by
 cases q:H a with
 |none=>rfl
 |some u=>exact absurd (eW (x.lt q) e) (fR _)
def HOk.kept(x:HOk P w H h)(k:∀b u,h.get? b=some u->h'.get? b=some u):HOk P w H h':=λa o e=>
 (x a o e).stay (λb u _ q=>k b u q) (λ_ q=>q) λ_ _ q=>q
def HOk.laid(x:HOk P w H h)(k:∀b u,h.get? b=some u->h'.get? b=some u)(hp:h.objs.size<=a)(new:ObjOk P w (upd H a o) h' a o):HOk P w (upd H a o) h':=λb u e=>by
 have hn:=x.fresh hp
 by_cases hb:b=a
 ·subst hb;rw[bj]at e;cases e;exact new
 ·rw[a6 hb]at e;exact(x b u e).stay (λc v _ q=>k c v q) (λc q=>by rw[a6 (b0 q hn)];exact q) (λc xs q=>by rw[a6 (b0 q hn)];exact q) λc ob u q=>by rw[a6 (b0 q hn)];exact q
end
def Rd(H:Hp)(a:Addr)(u:HO):Prop:=H a=some u\/∃o,H a=some (.frz o u)
def Rd.ok(r:Rd H a u)(x:HOk P w H h):ObjOk P w H h a u:=by
 rcases r with r|⟨o,r⟩
 ·exact x a u r
 ·obtain⟨_,q⟩:=x a _ r;exact q
def RY:Option HO->Prop
 |some (.lst _)=>True
 |some (.dK _)=>True
 |some (.dT _)=>True
 |some (.set _ _)=>True
 |some (.ins _ _ _)=>True
 |some (.ext _)=>True
 |_=>False
section
variable{P:eS}{w:fI}{H:Hp}{h h':Heap}{x e:Addr}{o':HO}
def HOk.write(ok:HOk P w H h)(mu:RY (H x))(he:e=x\/H e=some (.own x))(k:∀b u,b≠e->h.get? b=some u->h'.get? b=some u)(heo:∃u,h'.get? e=some u)
  (new:ObjOk P w (upd H x o') h' x o'):HOk P w (upd H x o') h':=λb u q=>by
 have nown:∀c y,H c=some (.own y)->c≠x:=λc y r z=>by subst z;rw[r]at mu;exact mu
 have ntup:∀c xs,H c=some (.tup xs)->c≠x:=λc xs r z=>by subst z;rw[r]at mu;exact mu
 have nfrz:∀c ob v,H c=some (.frz ob v)->c≠x:=λc ob v r z=>by subst z;rw[r]at mu;exact mu
 by_cases hb:b=x
 ·subst hb;rw[bj]at q;cases q;exact new
 ·rw[a6 hb]at q
  by_cases hbe:b=e
  ·have q':H b=some (.own x):=by
    rcases he with z|z
    ·exact absurd (hbe.trans z) hb
    ·rw[hbe];exact z
   rw[q]at q';cases q';obtain⟨v,hv⟩:=heo;exact⟨v,by rw[hbe];exact hv⟩
  ·refine(ok b u q).stay (λc v hc r=>k c v ?_ r) (λc r=>by rw[a6 (nown c b r)];exact r) (λc xs r=>by rw[a6 (ntup c xs r)];exact r) λc ob v r=>by rw[a6 (nfrz c ob v r)];exact r
   rcases hc with rfl|hc
   ·exact hbe
   ·rintro rfl
    rcases he with z|z
    ·exact nown c b hc z
    ·rw[hc]at z;cases z;exact hb rfl
end
structure Un(fs ex:List Addr)(H H':Hp)(h h':Heap):Prop where
 keep:∀b o,h.get? b=some o->H b=none->b∉fs->b∉ex->h'.get? b=some o
 slot:∀b o,h.get? b=some o->H b=none->b∈fs->b∉ex->∃sl,h'.get? b=some {o with slots:=sl}
 free:∀b o,h.get? b=some o->H b=none->b∉ex->H' b=none
 there:∀b o,h.get? b=some o->b∉ex->∃o',h'.get? b=some o'
 tups:∀b xs,H b=some (.tup xs)->H' b=some (.tup xs)
 frzs:∀b o u,H b=some (.frz o u)->H' b=some (.frz o u)
 tbls:∀b q,H b=some (.tbl q)->H' b=some (.tbl q)
section
variable{fs fs' ex ex':List Addr}{H H1 H2:Hp}{h h1 h2 h':Heap}{a x e:Addr}{o:HO}
def Un.any(u:Un fs ex H H1 h h1)(q:h.get? b=some ob)(n:H b=none)(hx:b∉ex):∃sl,h1.get? b=some {ob with slots:=sl}:=by
 by_cases hb:b∈fs
 ·exact u.slot b ob q n hb hx
 ·exact⟨ob.slots,u.keep b ob q n hb hx⟩
def Un.trans(a:Un fs ex H H1 h h1)(b:Un fs ex H1 H2 h1 h2):Un fs ex H H2 h h2 where
 keep:=λc ob q n hc hx=>b.keep c ob (a.keep c ob q n hc hx) (a.free c ob q n hx) hc hx
 slot:=λc ob q n hc hx=>by
  obtain⟨sl,e1⟩:=a.slot c ob q n hc hx;obtain⟨sl',e2⟩:=b.slot c _ e1 (a.free c ob q n hx) hc hx;exact⟨sl',e2⟩
 free:=λc ob q n hx=>by
  obtain⟨o',e1⟩:=a.there c ob q hx;exact b.free c o' e1 (a.free c ob q n hx) hx
 there:=λc ob q hx=>by
  obtain⟨o',e1⟩:=a.there c ob q hx;exact b.there c o' e1 hx
 tups:=λc xs q=>b.tups c xs (a.tups c xs q)
 frzs:=λc ob xs q=>b.frzs c ob xs (a.frzs c ob xs q)
 tbls:=λp q z=>b.tbls p q (a.tbls p q z)
def Un.kept(k:∀b u,h.get? b=some u->h'.get? b=some u):Un fs ex H H h h':=
 ⟨λb ob q _ _ _=>k b ob q,λb ob q _ _ _=>⟨ob.slots,k b ob q⟩,λ_ _ _ n _=>n,λb ob q _=>⟨ob,k b ob q⟩,λ_ _ q=>q,λ_ _ _ q=>q,λ_ _ q=>q⟩
def Un.refl:Un fs ex H H h h:=Un.kept λ_ _ q=>q
def Un.laid(k:∀b u,h.get? b=some u->h'.get? b=some u)(hp:h.objs.size<=a)(hn:H a=none):Un fs ex H (upd H a o) h h' where
 keep:=λb u q _ _ _=>k b u q
 slot:=λb u q _ _ _=>⟨u.slots,k b u q⟩
 free:=λb u q n _=>by rw[a6 (eM (eW (dY q) hp))];exact n
 there:=λb u q _=>⟨u,k b u q⟩
 tups:=λb xs q=>by rw[a6 (b0 q hn)];exact q
 frzs:=λb u xs q=>by rw[a6 (b0 q hn)];exact q
 tbls:=λb _ q=>by rw[a6 (b0 q hn)];exact q
def Un.write(mu:RY (H x))(he:e=x\/H e=some (.own x))(k:∀b u,b≠e->h.get? b=some u->h'.get? b=some u)(heo:∃u,h'.get? e=some u):Un fs ex H (upd H x o) h h':=by
 have hx:∀b,H b=none->b≠x:=λb n z=>by subst z;rw[n]at mu;exact mu
 have hb:∀b,H b=none->b≠e:=λb n z=>by
  subst z;rcases he with r|r
  ·exact hx b n r
  ·rw[n]at r;cases r
 have hm:∀b u,H b=some u->¬RY (some u)->b≠x:=λb u q nm z=>by subst z;rw[q]at mu;exact nm mu
 refine⟨λb u q n _ _=>k b u (hb b n) q,λb u q n _ _=>⟨u.slots,k b u (hb b n) q⟩,λb u q n _=>by rw[a6 (hx b n)];exact n,λb u q _=>?_,
  λb xs q=>by rw[a6 (hm b _ q λz=>z)];exact q,λb u xs q=>by rw[a6 (hm b _ q λz=>z)];exact q,λb _ q=>by rw[a6 (hm b _ q λz=>z)];exact q⟩
 by_cases hbe:b=e
 ·subst hbe;exact heo
 ·exact⟨u,k b u hbe q⟩
end
def WS(h:Heap)(H:Hp):List Addr:=(eY h.objs.size).filter λa=>(H a).isSome
def F9(h:Heap)(H:Hp):Heap:=PySem.W.hideAll h (WS h H)
def Up(h:Heap)(H:Hp):(F9 h H).objs.size=h.objs.size:=PySem.W.hideAll_size _ _
def Xt{h:Heap}(e:h.get? b=some o)(n:H b=none):(F9 h H).get? b=some o:=
 PySem.W.hideAll_get _ e λhm=>by
  have q:(H b).isSome=true:=(List.mem_filter.mp hm).2;rw[n]at q;simp at q
def EG{h:Heap}(e:(F9 h H).get? b=some o):h.get? b=some o/\H b=none:=by
 have e':h.get? b=some o:=PySem.W.of_hideAll (WS h H) e;refine⟨e',?_⟩;cases q:H b with
 |none=>rfl
 |some x=>
  have hm:b∈WS h H:=List.mem_filter.mpr ⟨List.mem_range.mpr (dY e'),by simp[q]⟩;have z:(F9 h H).get? b=none:=PySem.W.hideAll_none (WS h H) hm;rw[z]at e;cases e
end L2
namespace L2
open PySem PySem.Spec PyProof.Rows
structure Mod(K:eB)(mg:Str->Option dG)(base:Heap):Prop where
 kin:K.In base
 glob:base.Ns gA mg
 blt:∃mb,base.Ns oQ mb/\∀x:Str,x≠"__name__"->mb x=jR x
 nolimit:base.NoLimit
structure Cx where
 prog:eS
 w:fI
 K:eB
 mg:Str->Option dG
 base:Heap
 A:fV
 N:List Str
 s₀:dP
 H₀:Hp
 env:Env
 outer:List Env
 stack:List Env
 ex:List Addr
 fn:Str->Bool
 calm:Bool
 pn:List (Addr×Obj)
 xe:dG->dP->Prop
def F7(l:List Env):List Addr:=l.filterMap (·.frame)
abbrev Cx.fs(X:Cx):List Addr:=F7 X.outer
def RV(sc:jW)(x:Str):Prop:=sc.names.lookup x=some .local\/sc.names.lookup x=some .cell\/sc.names.lookup x=some .free
def IP(sc:jW)(x:Str):Prop:=sc.names.lookup x=some .local\/sc.names.lookup x=some .cell
def YC(env:Env)(h:Heap)(m:Str->Option dG)(x:Str)(u:dG):Prop:=
 (env.kindOf x=some .local/\m x=some u)\/((env.kindOf x=some .cell\/env.kindOf x=some .free)/\∃c,env.cells.lookup x=some c/\h.IsCell c (some u))
structure Cx.Ok(X:Cx):Prop where
 mod:Mod X.K X.mg X.base
 kind:X.env.scope.kind=.function
 glob:X.env.globals=gA
 blt:X.env.builtins=oQ
 above:X.s₀.heap.objs.size<=X.env.locals
 inj:∀x y c,X.env.cells.lookup x=some c->X.env.cells.lookup y=some c->x=y
 has:∀x,(X.env.kindOf x=some .cell\/X.env.kindOf x=some .free)->∃c,X.env.cells.lookup x=some c
 cab:∀x c,X.fn x=true->X.env.cells.lookup x=some c->X.s₀.heap.objs.size<=c
 hd:X.calm=true->X.A.handled=none
 frames:X.A.frames=some X.stack
 stk:X.stack=X.outer\/(X.stack=X.env::X.outer/\X.env.frame=some X.env.locals)
 exf:∀b∈X.ex,b≠X.env.locals/\∀x c,X.env.cells.lookup x=some c->c≠b
 bs:∀b o,X.base.get? b=some o->X.s₀.heap.get? b=some o/\X.H₀ b=none
 bsz:X.base.objs.size<=X.s₀.heap.objs.size
 noex:∀b o,X.base.get? b=some o->b∉X.ex
 exfs:∀b∈X.ex,b∉X.fs
 funs:X.s₀.heap.FunFrames X.base X.outer
 frf:∀b∈X.fs,X.H₀ b=none
structure Inv(X:Cx)(pins:List (Addr×Obj))(U:List (Option V))(H:Hp)(s:dP):Prop where
 ok:X.Ok
 os:s.os=X.s₀.os
 bare:pO s.gens
 base:Un X.fs X.ex X.H₀ H X.s₀.heap s.heap
 loc:∃m,s.heap.Ns X.env.locals m/\∀(i:Nat)(x:Str)(v:V),X.N[i]?=some x->U[i]?=some (some v)->RV X.env.scope x->∃u,RelV v u/\YC X.env s.heap m x u
 cell:∀x c,X.env.cells.lookup x=some c->∃v,s.heap.IsCell c v
 free:H X.env.locals=none
 freeC:∀x c,X.env.cells.lookup x=some c->H c=none\/(X.fn x=false/\∃o,H c=some (.frz o (.own 0)))
 pin:∀p∈X.pn++pins,s.heap.get? p.1=some p.2/\H p.1=none/\p.1≠X.env.locals/\p.1∉X.fs/\∀v,p.2.data≠.cell v
 hok:HOk X.prog X.w H s.heap
 len:U.length=X.N.length
section
variable{X:Cx}{pins:List (Addr×Obj)}{U:List (Option V)}{H H':Hp}{s:dP}{h':Heap}
def Cx.Ok.nofr(ok:X.Ok)(e:X.base.get? b=some o):b∉X.fs:=λhb=>by
 have:=(ok.funs.mem hb).1;rw[e]at this;cases this
theorem Inv.bs(I:Inv X pins U H s):∀b o,X.base.get? b=some o->s.heap.get? b=some o/\H b=none:=λb o e=>
 ⟨I.base.keep b o (I.ok.bs b o e).1 (I.ok.bs b o e).2 (I.ok.nofr e) (I.ok.noex b o e),I.base.free b o (I.ok.bs b o e).1 (I.ok.bs b o e).2 (I.ok.noex b o e)⟩
def Inv.bk(I:Inv X pins U H s):∀b o,X.base.get? b=some o->s.heap.get? b=some o:=λb o e=>(I.bs b o e).1
theorem Inv.mod(I:Inv X pins U H s):Mod X.K X.mg X.base:=I.ok.mod
def Inv.kIn(I:Inv X pins U H s):X.K.In s.heap:=I.ok.mod.kin.keeps I.bk
theorem Inv.lt(I:Inv X pins U H s):X.env.locals<s.heap.objs.size:=let ⟨_,hn,_⟩:=I.loc;hn.lt
def Inv.sz(I:Inv X pins U H s):X.s₀.heap.objs.size<=s.heap.objs.size:=fF I.ok.above (Nat.le_of_lt I.lt)
def Inv.nofs(I:Inv X pins U H s)(h:s.heap.objs.size<=a):a∉X.fs:=λhb=>by
 obtain⟨_,o,ho,_⟩:=I.ok.funs.mem hb;exact absurd (eW (dY ho) (fF I.sz h)) (fR _)
def Inv.cne(I:Inv X pins U H s):∀x c,X.env.cells.lookup x=some c->c≠X.env.locals:=λx c e z=>by
 obtain⟨v,o,ho,hd⟩:=I.cell x c e;obtain⟨m,⟨o',es,ep,ho',hd',_⟩,_⟩:=I.loc;rw[z,ho']at ho;cases ho;rw[hd']at hd;cases hd
theorem Inv.funs(I:Inv X pins U H s):s.heap.FunFrames X.base X.outer:=by
 have all:∀(l:List Env),(∀b∈F7 l,b∈X.fs)->X.s₀.heap.FunFrames X.base l->s.heap.FunFrames X.base l:=by
  intro l;induction l with
  |nil=>intro _ _;trivial
  |cons env r ih=>
   intro hs hl;obtain⟨hk,⟨L,o,hf,hn,ho,hd⟩,hr⟩:=hl;have hL:L∈X.fs:=hs L (by unfold F7;rw[gI,hf];exact dH);obtain⟨sl,e⟩:=I.base.slot L o ho (I.ok.frf L hL) hL λz=>I.ok.exfs L z hL;exact⟨hk,⟨L,_,hf,hn,e,hd⟩,ih (λb hb=>hs b (by unfold F7;rw[gI,hf];exact dF _ hb)) hr⟩
 exact all X.outer (λ_ hb=>hb) I.ok.funs
theorem Inv.stack(I:Inv X pins U H s):s.heap.FunFrames X.base X.stack:=by
 rcases I.ok.stk with e|⟨e,hf⟩
 ·rw[e];exact I.funs
 ·rw[e];obtain⟨m,hn,_⟩:=I.loc;refine .cons (by rw[I.ok.kind];decide) hf hn ?_ I.funs;exact oW (fF I.ok.bsz I.ok.above)
def Inv.stkSub(I:Inv X pins U H s):∀b∈F7 X.stack,b∈X.env.locals::X.fs:=λb hb=>by
 rcases I.ok.stk with e|⟨e,hf⟩
 ·rw[e]at hb;exact dF _ hb
 ·rw[e]at hb;unfold F7 at hb;rw[gI,hf]at hb;exact hb
def Inv.stkFree(I:Inv X pins U H s):∀b∈F7 X.stack,H b=none:=λb hb=>by
 rcases List.mem_cons.mp (I.stkSub b hb)with e|hb
 ·rw[e];exact I.free
 ·obtain⟨_,o,ho,_⟩:=I.ok.funs.mem hb;exact I.base.free b o ho (I.ok.frf b hb) λz=>I.ok.exfs b z hb
def Inv.step{g':Array GenState}{t':Nat}{d':Drawn}{ch:List Addr}(I:Inv X pins U H s)
  (hch:∀b∈ch,(b∈X.ex\/X.s₀.heap.objs.size<=b)/\b≠X.env.locals/\(∀x c,X.env.cells.lookup x=some c->c≠b)/\∀p∈X.pn++pins,p.1≠b)
  (keep:∀b o,b≠X.env.locals->b∉X.fs->b∉ch->s.heap.get? b=some o->H b=none->h'.get? b=some o)
  (slot:∀b o,b≠X.env.locals->b∈X.fs->b∉ch->s.heap.get? b=some o->H b=none->∃sl,h'.get? b=some {o with slots:=sl}) (free:∀b o,b∉ch->s.heap.get? b=some o->H b=none->H' b=none)
  (there:∀b o,b∉ch->s.heap.get? b=some o->∃o',h'.get? b=some o')
  (tups:∀b xs,H b=some (.tup xs)->H' b=some (.tup xs)) (frzs:∀b o u,H b=some (.frz o u)->H' b=some (.frz o u)) (tbls:∀b q,H b=some (.tbl q)->H' b=some (.tbl q))
  (ns:∀m,s.heap.Ns X.env.locals m->h'.Ns X.env.locals m) (hok:HOk X.prog X.w H' h') (hg:pO g'):
  Inv X pins U H' {s with heap:=h',gens:=g',drawn:=d',toks:=t'}:=by
 have neL:∀b o,X.s₀.heap.get? b=some o->b≠X.env.locals:=λb o e=>eM (eW (dY e) I.ok.above);have neC:∀b o,X.s₀.heap.get? b=some o->b∉X.ex->b∉ch:=λb o e hx hb=>by
  rcases(hch b hb).1 with z|z
  ·exact hx z
  ·exact absurd (eW (dY e) z) (fR _)
 have cellK:∀x c,X.env.cells.lookup x=some c->∀v,s.heap.IsCell c v->h'.IsCell c v:=λx c e v ⟨o,ho,hd⟩=>by
  have nch:c∉ch:=λz=>(hch c z).2.2.1 x c e rfl;rcases I.freeC x c e with fr|⟨_,ob,fr⟩
  ·by_cases hc:c∈X.fs
   ·obtain⟨sl,q⟩:=slot c o (I.cne x c e) hc nch ho fr;exact⟨_,q,hd⟩
   ·exact⟨o,keep c o (I.cne x c e) hc nch ho fr,hd⟩
  ·obtain⟨q1,_⟩:=I.hok c _ fr;obtain⟨q2,_⟩:=hok c _ (frzs c ob _ fr);rw[ho]at q1;cases q1;exact⟨o,q2,hd⟩
 refine⟨I.ok,I.os,hg,⟨λb o e n hb hx=>?_,λb o e n hb hx=>?_,λb o e n hx=>?_,λb o e hx=>?_,λb xs e=>tups b xs (I.base.tups b xs e),λb o xs e=>frzs b o xs (I.base.frzs b o xs e),λb q e=>tbls b q (I.base.tbls b q e)⟩,?_,λx c e=>?_,?_,λx c e=>?_,λp hp=>?_,hok,I.len⟩
 ·exact keep b o (neL b o e) hb (neC b o e hx) (I.base.keep b o e n hb hx) (I.base.free b o e n hx)
 ·obtain⟨sl,e1⟩:=I.base.slot b o e n hb hx;obtain⟨sl',e2⟩:=slot b _ (neL b o e) hb (neC b o e hx) e1 (I.base.free b o e n hx);exact⟨sl',e2⟩
 ·obtain⟨o',e1⟩:=I.base.there b o e hx;exact free b o' (neC b o e hx) e1 (I.base.free b o e n hx)
 ·obtain⟨o',e1⟩:=I.base.there b o e hx;exact there b o' (neC b o e hx) e1
 ·obtain⟨m,hn,hl⟩:=I.loc;refine⟨m,ns m hn,λi x v e1 e2 e3=>?_⟩;obtain⟨u,r,l⟩:=hl i x v e1 e2 e3;refine⟨u,r,?_⟩;rcases l with l|⟨k,c,e,z⟩
  ·exact .inl l
  ·exact .inr ⟨k,c,e,cellK x c e _ z⟩
 ·obtain⟨v,z⟩:=I.cell x c e;exact⟨v,cellK x c e v z⟩
 ·obtain⟨m,⟨o,_,_,ho,_⟩,_⟩:=I.loc;exact free _ o (λz=>(hch _ z).2.1 rfl) ho I.free
 ·obtain⟨v,o,ho,hd⟩:=I.cell x c e;rcases I.freeC x c e with fr|⟨hf,ob,fr⟩
  ·exact .inl (free c o (λz=>(hch c z).2.2.1 x c e rfl) ho fr)
  ·exact .inr ⟨hf,ob,frzs c ob _ fr⟩
 ·obtain⟨e,n,ne,nf,d⟩:=I.pin p hp;have nch:p.1∉ch:=λz=>(hch p.1 z).2.2.2 p hp rfl;exact⟨keep p.1 p.2 ne nf nch e n,free p.1 p.2 nch e n,ne,nf,d⟩
def Inv.un(I:Inv X pins U H s)(u:Un X.fs [] H H' s.heap h')(hok:HOk X.prog X.w H' h'):Inv X pins U H' {s with heap:=h',toks:=t'}:=by
 obtain⟨m,⟨o,es,ep,ho,r⟩,_⟩:=id I.loc;obtain⟨sl,hL⟩:=u.any ho I.free (by simp);exact I.step (g':=s.gens) (d':=s.drawn) (ch:=[]) (λ_ z=>nomatch z) (λb o _ hb _ e n=>u.keep b o e n hb (by simp)) (λb o _ hb _ e n=>u.slot b o e n hb (by simp)) (λb o _ e n=>u.free b o e n (by simp)) (λb o _ e=>u.there b o e (by simp)) u.tups u.frzs u.tbls (λm' hm=>by
  obtain⟨o',es',ep',ho',r'⟩:=hm;rw[ho]at ho';cases ho';exact⟨_,es',ep',hL,r'⟩) hok I.bare
def Inv.call(I:Inv X pins U H s)(u:Un (F7 X.stack) ch H H' s.heap h')(hok:HOk X.prog X.w H' h')(hg:pO g')
  (hch:∀b∈ch,(b∈X.ex\/X.s₀.heap.objs.size<=b)/\b≠X.env.locals/\(∀x c,X.env.cells.lookup x=some c->c≠b)/\∀p∈X.pn++pins,p.1≠b):
  Inv X pins U H' {s with heap:=h',gens:=g',drawn:=d',toks:=t'}:=by
 obtain⟨m,⟨o,es,ep,ho,r⟩,_⟩:=id I.loc;obtain⟨sl,hL⟩:=u.any ho I.free λz=>(hch _ z).2.1 rfl;exact I.step (ch:=ch) hch (λb o hL hb hc e n=>u.keep b o e n (λz=>(List.mem_cons.mp (I.stkSub b z)).elim hL hb) hc) (λb o _ _ hc e n=>u.any e n hc) (λb o hc e n=>u.free b o e n hc) (λb o hc e=>u.there b o e hc) u.tups u.frzs u.tbls (λm' hm=>by
  obtain⟨o',es',ep',ho',r'⟩:=hm;rw[ho]at ho';cases ho';exact⟨_,es',ep',hL,r'⟩) hok hg
def Inv.turned(I:Inv X pins U H s)(k:∀b o,b≠it->s.heap.get? b=some o->h'.get? b=some o)(hn:H it=none)(hL:it≠X.env.locals)
  (h1:it∈X.ex\/X.s₀.heap.objs.size<=it)(h2:∀x c,X.env.cells.lookup x=some c->c≠it)(h3:∀p∈X.pn++pins,p.1≠it):Inv X pins U H {s with heap:=h',toks:=t'}:=by
 have nit:∀b u,H b=some u->b≠it:=λb u e z=>by rw[z,hn]at e;cases e
 refine I.step (g':=s.gens) (d':=s.drawn) (ch:=[it]) (λb hb=>?_) (λb o _ _ hc e _=>k b o (λz=>hc (by simp[z])) e) (λb o _ _ hc e _=>⟨o.slots,k b o (λz=>hc (by simp[z])) e⟩) (λ_ _ _ _ n=>n)
  (λb o hc e=>⟨o,k b o (λz=>hc (by simp[z])) e⟩) (λ_ _ e=>e) (λ_ _ _ e=>e) (λ_ _ e=>e) (λm hm=>?_) (λb u e=>?_) I.bare
 ·have e:b=it:=by simpa using hb
  subst e;exact⟨h1,hL,h2,h3⟩
 ·obtain⟨o,es,ep,ho,r⟩:=hm;exact⟨o,es,ep,k _ o (jJ hL) ho,r⟩
 ·refine(I.hok b u e).stay (λc v hc q=>k c v ?_ q) (λ_ q=>q) λ_ _ q=>q;rcases hc with z|z
  ·rw[z];exact nit b u e
  ·exact nit c _ z
def Inv.tok(I:Inv X pins U H s)(t:Nat):Inv X pins U H {s with toks:=t}:=I.un (h':=s.heap) (t':=t) Un.refl I.hok
theorem Inv.kept(I:Inv X pins U H s)(k:∀b u,s.heap.get? b=some u->h'.get? b=some u):Inv X pins U H {s with heap:=h',toks:=t'}:=I.un (Un.kept k) (I.hok.kept k)
theorem Inv.laid(I:Inv X pins U H s)(k:∀b u,s.heap.get? b=some u->h'.get? b=some u)(hp:s.heap.objs.size<=a)(new:ObjOk X.prog X.w (upd H a o) h' a o):
  Inv X pins U (upd H a o) {s with heap:=h',toks:=t'}:=I.un (Un.laid k hp (I.hok.fresh hp)) (I.hok.laid k hp new)
theorem Inv.write(I:Inv X pins U H s)(mu:RY (H x))(he:e=x\/H e=some (.own x))(k:∀b u,b≠e->s.heap.get? b=some u->h'.get? b=some u)(heo:∃u,h'.get? e=some u)
  (new:ObjOk X.prog X.w (upd H x o) h' x o):Inv X pins U (upd H x o) {s with heap:=h',toks:=t'}:=I.un (Un.write mu he k heo) (I.hok.write mu he k heo new)
def Inv.pins_of(I:Inv X pins U H s)(h:∀p∈pins',s.heap.get? p.1=some p.2/\H p.1=none/\p.1≠X.env.locals/\p.1∉X.fs/\∀v,p.2.data≠.cell v):Inv X pins' U H s:=
 ⟨I.ok,I.os,I.bare,I.base,I.loc,I.cell,I.free,I.freeC,λp hp=>(List.mem_append.mp hp).elim (λz=>I.pin p (mE _ z)) (h p),I.hok,I.len⟩
def Mq{N:List Str}(hN:N.Nodup){i j:Nat}{x:Str}(a:N[i]?=some x)(b:N[j]?=some x):i=j:=by
 obtain⟨h1,e1⟩:=List.getElem?_eq_some_iff.mp a;obtain⟨h2,e2⟩:=List.getElem?_eq_some_iff.mp b;exact(List.getElem_inj hN).mp (e1.trans e2.symm)
def Ic(I:Inv X pins U H s)(hN:X.N.Nodup)(hi:X.N[i]?=some x)(hx:IP X.env.scope x)(r:RelV v u)
  (h:∀s',Inv X pins (U.set i (some v)) H s'->(∃a,gU a s.heap s'.heap/\(a=X.env.locals\/X.env.cells.lookup x=some a))->Q () s')(hf:X.fn x=true\/X.env.scope.names.lookup x=some .local:=by first|exact .inl rfl|exact .inr rfl|assumption):dX M A (storeName X.env x u) Q E s:=by
 obtain⟨m,hn,hl⟩:=id I.loc;have hcls:(X.env.scope.kind==.class||(X.env.scope.kind==.module && X.env.locals !=X.env.globals))=false:=by rw[I.ok.kind];rfl
 have hiσ:i<U.length:=by rw[I.len];exact(List.getElem?_eq_some_iff.mp hi).1
 have cne:=I.cne;have tracked:∀{a:Addr}{h':Heap},(∃o,s.heap.get? a=some o/\H a=none)->gU a s.heap h'->HOk X.prog X.w H h':=λ{a h'} ha hs b ob e=>by
  obtain⟨_,_,hfree⟩:=ha;refine(I.hok b ob e).stay (λc w' hc q=>(hs.2 c ?_).trans q) (λ_ q=>q) λ_ _ q=>q
  rintro rfl
  rcases hc with rfl|hc
  ·rw[hfree]at e;cases e
  ·rw[hfree]at hc;cases hc
 rcases hx with hk|hk
 ·refine wpAny_storeName_local hk hn (λh' hn' hs=>?_) hcls;obtain⟨oL,_,_,hoL,_⟩:=id hn;refine h _ ⟨I.ok,I.os,I.bare,⟨λb o e n hb hx=>?_,λb o e n hb hx=>?_,I.base.free,λb o e hx=>?_,I.base.tups,I.base.frzs,I.base.tbls⟩,⟨_,hn',λj y v' e1 e2 e3=>?_⟩,λy c e=>?_,I.free,I.freeC,λp hp=>?_,tracked ⟨oL,hoL,I.free⟩ hs,by simpa using I.len⟩ ⟨_,hs,.inl rfl⟩
  ·exact(hs.2 b (eM (eW (dY e) I.ok.above))).trans (I.base.keep b o e n hb hx)
  ·obtain⟨sl,e1⟩:=I.base.slot b o e n hb hx;exact⟨sl,(hs.2 b (eM (eW (dY e) I.ok.above))).trans e1⟩
  ·obtain⟨o',e1⟩:=I.base.there b o e hx;exact⟨o',(hs.2 b (eM (eW (dY e) I.ok.above))).trans e1⟩
  ·by_cases hj:j=i
   ·subst hj;rw[hi]at e1;cases e1;rw[dW hiσ]at e2;cases e2;exact⟨u,r,.inl ⟨hk,by simp⟩⟩
   ·rw[dZ (jJ hj)]at e2;obtain⟨u',r',q⟩:=hl j y v' e1 e2 e3;refine⟨u',r',?_⟩;rcases q with ⟨k,e⟩|⟨k,c,e,z⟩
    ·refine .inl ⟨k,?_⟩;have:y≠x:=λe=>hj (Mq hN e1 (e▸hi));simp[this,e]
    ·exact .inr ⟨k,c,e,z.sameBut hs (cne y c e)⟩
  ·obtain⟨w',z⟩:=I.cell y c e;exact⟨w',z.sameBut hs (cne y c e)⟩
  ·obtain⟨e,n,ne,nf,d⟩:=I.pin p hp;exact⟨(hs.2 p.1 ne).trans e,n,ne,nf,d⟩
 ·have hfn:X.fn x=true:=by
   rcases hf with z|z
   ·exact z
   ·rw[z]at hk;cases hk
  obtain⟨c,hc⟩:=I.ok.has x (.inl hk);obtain⟨w',z⟩:=I.cell x c hc;refine wpAny_storeName_cell I.ok.kind hk hc z (λh' hc' hs=>?_);obtain⟨oc,hoc,hocd⟩:=id z;have hfr:H c=none:=(I.freeC x c hc).elim (λz=>z) λz=>by rw[hfn]at z;exact absurd z.1 (by decide)
  refine h {s with heap:=h'} ⟨I.ok,I.os,I.bare,⟨λb o e n hb hx=>?_,λb o e n hb hx=>?_,I.base.free,λb o e hx=>?_,I.base.tups,I.base.frzs,I.base.tbls⟩,⟨m,hn.sameBut hs (jJ (cne x c hc)),λj y v' e1 e2 e3=>?_⟩,λy c' e=>?_,I.free,I.freeC,λp hp=>?_,tracked ⟨oc,hoc,hfr⟩ hs,by simpa using I.len⟩ ⟨c,hs,.inr hc⟩
  ·exact(hs.2 b (eM (eW (dY e) (I.ok.cab x c hfn hc)))).trans (I.base.keep b o e n hb hx)
  ·obtain⟨sl,e1⟩:=I.base.slot b o e n hb hx;exact⟨sl,(hs.2 b (eM (eW (dY e) (I.ok.cab x c hfn hc)))).trans e1⟩
  ·obtain⟨o',e1⟩:=I.base.there b o e hx;exact⟨o',(hs.2 b (eM (eW (dY e) (I.ok.cab x c hfn hc)))).trans e1⟩
  ·by_cases hj:j=i
   ·subst hj;rw[hi]at e1;cases e1;rw[dW hiσ]at e2;cases e2;exact⟨u,r,.inr ⟨.inl hk,c,hc,hc'⟩⟩
   ·rw[dZ (jJ hj)]at e2;obtain⟨u',r',q⟩:=hl j y v' e1 e2 e3;refine⟨u',r',?_⟩;rcases q with q|⟨k,c',e,z'⟩
    ·exact .inl q
    ·refine .inr ⟨k,c',e,z'.sameBut hs ?_⟩
     rintro rfl
     exact hj (Mq hN e1 (I.ok.inj _ _ _ e hc▸hi))
  ·by_cases hcc:c'=c
   ·subst hcc;exact⟨_,hc'⟩
   ·obtain⟨w2,z2⟩:=I.cell y c' e;exact⟨w2,z2.sameBut hs hcc⟩
  ·obtain⟨e,n,ne,nf,d⟩:=I.pin p hp;refine⟨(hs.2 p.1 ?_).trans e,n,ne,nf,d⟩;intro q;rw[q,hoc]at e;have q':oc=p.2:=eI e;exact d w' (by rw[<-q'];exact hocd)
def Np(I:Inv X pins U H s)(hN:X.N.Nodup)(hi:X.N[i]?=some x)(hx:IP X.env.scope x)(r:RelV v u)
  (h:∀s',Inv X pins (U.set i (some v)) H s'->Q () s')(hf:X.fn x=true\/X.env.scope.names.lookup x=some .local:=by first|exact .inl rfl|exact .inr rfl|assumption):dX M A (storeName X.env x u) Q E s:=
 Ic I hN hi hx r (λs' I' _=>h s' I') hf
def Inv.call'{s':dP}(I:Inv X pins U H s)(ho:s'.os=s.os)(u:Un (F7 X.stack) ch H H' s.heap s'.heap)(hok:HOk X.prog X.w H' s'.heap)(hg:pO s'.gens)
  (hch:∀b∈ch,(b∈X.ex\/X.s₀.heap.objs.size<=b)/\b≠X.env.locals/\(∀x c,X.env.cells.lookup x=some c->c≠b)/\∀p∈X.pn++pins,p.1≠b):Inv X pins U H' s':=by
 obtain⟨h',g',d',t',o'⟩:=s';have e:o'=s.os:=ho;subst e;exact I.call (g':=g') (t':=t') (d':=d') u hok hg hch
end
abbrev XK:=dG->Option Addr->Hp->Prop
abbrev St:=List (Option V)
abbrev VK:=V->Hp->Prop
abbrev TE:=St->Hp->VK->Prop
abbrev TT:=St->Hp->(Bool->Hp->Prop)->Prop
abbrev TA:=St->Hp->(List V->Hp->Prop)->Prop
structure Ends where
 nx:St->Hp->Prop
 rt:VK
 bk:St->Hp->Prop:=λ_ _=>False
 ct:St->Hp->Prop:=λ_ _=>False
abbrev TS:=Ends->St->Hp->Prop
def EP(X:Cx)(pins:List (Addr×Obj))(U:St)(Q:VK)(u:dG)(s':dP):Prop:=∃v H',Inv X pins U H' s'/\RelV v u/\Q v H'
def TP(X:Cx)(pins:List (Addr×Obj))(U:St)(Q:Bool->Hp->Prop)(b:Bool)(s':dP):Prop:=∃H',Inv X pins U H' s'/\Q b H'
def AP(X:Cx)(pins:List (Addr×Obj))(U:St)(Q:List V->Hp->Prop)(us:List dG)(s':dP):Prop:=∃vs H',Inv X pins U H' s'/\Vals vs us/\Q vs H'
def SP(X:Cx)(pins:List (Addr×Obj))(D:Ends)(f:Flow)(s':dP):Prop:=
 match f with
 |.next=>∃σ' H',Inv X pins σ' H' s'/\D.nx σ' H'
 |.brk=>∃σ' H',Inv X pins σ' H' s'/\D.bk σ' H'
 |.cont=>∃σ' H',Inv X pins σ' H' s'/\D.ct σ' H'
 |.ret u=>∃v σ' H',Inv X pins σ' H' s'/\RelV v u/\D.rt v H'
def PE(X:Cx)(e:Expr)(t:TE):Prop:=
 ∀(pins:List (Addr×Obj))(s:dP)(U:St)(H:Hp)(Q:VK),Inv X pins U H s->t U H Q->dX (eJ X.prog X.w) X.A (eval e X.env) (EP X pins U Q) X.xe s
def PT(X:Cx)(e:Expr)(t:TT):Prop:=
 ∀(pins:List (Addr×Obj))(s:dP)(U:St)(H:Hp)(Q:Bool->Hp->Prop),Inv X pins U H s->t U H Q->dX (eJ X.prog X.w) X.A (isTrue e X.env (eval e X.env)) (TP X pins U Q) X.xe s
def PW(X:Cx)(e:Expr)(t:TT):Prop:=
 ∀(whole:Sem dG)(pins:List (Addr×Obj))(s:dP)(U:St)(H:Hp)(Q:Bool->Hp->Prop),Inv X pins U H s->t U H Q->dX (eJ X.prog X.w) X.A (isTrue e X.env whole) (TP X pins U Q) X.xe s
def PW.pt(h:PW X e t):PT X e t:=h _
def PA(X:Cx)(es:List Expr)(t:TA):Prop:=
 ∀(pos:Pos)(pins:List (Addr×Obj))(s:dP)(U:St)(H:Hp)(Q:List V->Hp->Prop),Inv X pins U H s->t U H Q->dX (eJ X.prog X.w) X.A (spliced (iY pos (eE es X.env))) (AP X pins U Q) X.xe s
def PS(X:Cx)(st:Stmt)(t:TS):Prop:=
 ∀(pins:List (Addr×Obj))(s:dP)(U:St)(H:Hp)(D:Ends),Inv X pins U H s->t D U H->dX (eJ X.prog X.w) X.A (exec st X.env) (SP X pins D) X.xe s
def PSs(X:Cx)(st:List Stmt)(t:TS):Prop:=
 ∀(pins:List (Addr×Obj))(s:dP)(U:St)(H:Hp)(D:Ends),Inv X pins U H s->t D U H->dX (eJ X.prog X.w) X.A (execs st X.env) (SP X pins D) X.xe s
def iz(h:dX M A t Q E s)(hQ:∀a s,Q a s->Q' a s):dX M A t Q' E s:=fL h hQ λ_ _ x=>x
end L2
namespace L2
open PySem PySem.Spec PyProof.Rows
section
variable{X:Cx}
def Gc(i:Nat):TE:=λU H Q=>∃v,U[i]?=some (some v)/\Q v H
def tC(v:V):TE:=λ_ H Q=>Q v H
def MB(hN:X.N[i]?=some x)(hv:RV X.env.scope x)(hd:(x==("__debug__":Str))=false:=by decide)(hcd:(x==("__classdict__":Str))=false:=by decide):PE X (.Name x pos) (Gc i):=by
 intro pins s U H Q I h;obtain⟨v,e,h⟩:=h;obtain⟨m,hn,hl⟩:=I.loc;obtain⟨u,r,l⟩:=hl i x v hN e hv;have fin:EP X pins U Q u s:=⟨v,H,I,r,h⟩;rcases l with ⟨hk,hm⟩|⟨hk,c,hc,hcell⟩
 ·exact wpAny_Name (wpAny_loadName_local I.ok.kind hk hn hm fin) hd
 ·rcases hk with hk|hk
  ·exact wpAny_Name (wpAny_loadName_cell I.ok.kind hk hc hcell fin) hd
  ·exact wpAny_Name (wpAny_loadName_free I.ok.kind hk hc hcell fin hcd) hd
def Zc{i j pos}:PE X (.Constant (.int i) j pos) (tC (.int i)):=λ_ _ _ H _ I h=>wpAny_Constant_int ⟨.int i,H,I.tok _,⟨_,rfl⟩,h⟩
def SD{b j pos}:PE X (.Constant (.bool b) j pos) (tC (.bl b)):=λ_ _ _ H _ I h=>Constant_bool ⟨.bl b,H,I,rfl,h⟩
def MG{j pos}:PE X (.Constant .none j pos) (tC .non):=λ_ _ _ H _ I h=>Constant_none ⟨.non,H,I,rfl,h⟩
def MD{x j pos}:PE X (.Constant (.str x) j pos) (tC (.str x)):=λ_ _ _ H _ I h=>Calls.Constant_str ⟨.str x,H,I.tok _,⟨_,rfl⟩,h⟩
def Gl(X:Cx)(x:Str):Prop:=X.env.kindOf x=some .globalImplicit
def Cp(I:Inv X pins U H s)(hg:Gl X x)(hm:X.mg x=some u)(h:Q u s)
  (hd:(x==("__debug__":Str))=false:=by decide):dX (eJ X.prog X.w) X.A (eval (.Name x pos) X.env) Q E s:=
 Calls.Name_function_global I.ok.kind hg (Calls.loadGlobal_global (by rw[I.ok.glob];exact I.mod.glob.keeps I.bk) hm h) hd
def xt(I:Inv X pins U H s)(hg:Gl X x)(hm:X.mg x=none)(hv:jR x=some u)(h:Q u s)
  (hn:x≠"__name__":=by decide)(hd:(x==("__debug__":Str))=false:=by decide):dX (eJ X.prog X.w) X.A (eval (.Name x pos) X.env) Q E s:=by
 obtain⟨mb,h1,h2⟩:=I.mod.blt;exact Calls.Name_function_global I.ok.kind hg (Calls.loadGlobal_builtin (by rw[I.ok.glob];exact I.mod.glob.keeps I.bk) hm (by rw[I.ok.blt];exact h1.keeps I.bk) ((h2 x hn).trans hv) h) hd
def Sz(hg:Gl X x)(hm:X.mg x=some u)(r:RelV v u)(hd:(x==("__debug__":Str))=false:=by decide):PE X (.Name x pos) (tC v):=
 λ_ _ _ H _ I h=>Cp I hg hm ⟨v,H,I,r,h⟩ hd
def FR(hg:Gl X x)(hm:X.mg x=none)(hv:jR x=some u)(r:RelV v u)(hn:x≠"__name__":=by decide)(hd:(x==("__debug__":Str))=false:=by decide):PE X (.Name x pos) (tC v):=
 λ_ _ _ H _ I h=>xt I hg hm hv ⟨v,H,I,r,h⟩ hn hd
variable{a b:Expr}{ta tb:TE}{pos:Pos}
variable{tA tB':TT}{rest:List Expr}
def ZA(t u:TT):TT:=λU H Q=>t U H λc H1=>if c=true then u U H1 Q else Q false H1
def cN(t u:TT):TT:=λU H Q=>t U H λc H1=>if c=true then Q true H1 else u U H1 Q
def aW(t:TT):TT:=λU H Q=>t U H λc H1=>Q (!c) H1
def GH(ha:PT X a tA):PW X (.BoolOp .And [a] pos) tA:=by
 intro wh pins s U H Q I h;refine isTrue_and (iz (ha pins s U H Q I h) λc s1 e=>?_);cases c with
 |true=>exact isTrue_and_nil e
 |false=>exact e
def OT(ha:PT X a tA):PW X (.BoolOp .Or [a] pos) tA:=by
 intro wh pins s U H Q I h;refine isTrue_or (iz (ha pins s U H Q I h) λc s1 e=>?_);cases c with
 |false=>exact isTrue_or_nil e
 |true=>exact e
def OV(ha:PT X a tA)(hb:PW X (.BoolOp .And (b::rest) pos) tB'):PW X (.BoolOp .And (a::b::rest) pos) (ZA tA tB'):=by
 intro wh pins s U H Q I h;refine isTrue_and (iz (ha pins s U H _ I h) λc s1 ⟨H1,I1,q1⟩=>?_);cases c with
 |true=>exact hb wh pins s1 U H1 Q I1 q1
 |false=>exact⟨H1,I1,q1⟩
def TF(ha:PT X a tA)(hb:PW X (.BoolOp .Or (b::rest) pos) tB'):PW X (.BoolOp .Or (a::b::rest) pos) (cN tA tB'):=by
 intro wh pins s U H Q I h;refine isTrue_or (iz (ha pins s U H _ I h) λc s1 ⟨H1,I1,q1⟩=>?_);cases c with
 |true=>exact⟨H1,I1,q1⟩
 |false=>exact hb wh pins s1 U H1 Q I1 q1
def NR(ha:PT X a tA):PT X (.UnaryOp .Not a pos) (aW tA):=by
 intro pins s U H Q I h;exact isTrue_not (ha pins s U H (λc H1=>Q (!c) H1) I h)
def UF(ta tb:TE):TE:=λU H Q=>ta U H λx H1=>∃c,x=.bl c/\if c=true then tb U H1 Q else Q (.bl false) H1
def aV(ta tb:TE):TE:=λU H Q=>ta U H λx H1=>∃c,x=.bl c/\if c=true then Q (.bl true) H1 else tb U H1 Q
def UC(ta:TE):TE:=λU H Q=>ta U H λx H1=>∃c,x=.bl c/\Q (.bl (!c)) H1
def ME{op}(h:PE X a t):PE X (.BoolOp op [a] pos) t:=λpins s U H Q I hw=>BoolOp_one (h pins s U H Q I hw)
def MI(ha:PE X a ta)(hb:PE X (.BoolOp .And (b::rest) pos) tb):PE X (.BoolOp .And (a::b::rest) pos) (UF ta tb):=by
 intro pins s U H Q I h;refine BoolOp_and (iz (ha pins s U H _ I h) λv s1 ⟨x,H1,I1,r1,q1⟩=>?_);obtain⟨c,rfl,q1⟩:=q1;cases r1;refine gX ?_;cases c with
 |true=>exact hb pins s1 U H1 Q I1 q1
 |false=>exact⟨.bl false,H1,I1,rfl,q1⟩
def TY(ha:PE X a ta)(hb:PE X (.BoolOp .Or (b::rest) pos) tb):PE X (.BoolOp .Or (a::b::rest) pos) (aV ta tb):=by
 intro pins s U H Q I h;refine BoolOp_or (iz (ha pins s U H _ I h) λv s1 ⟨x,H1,I1,r1,q1⟩=>?_);obtain⟨c,rfl,q1⟩:=q1;cases r1;refine gX ?_;cases c with
 |false=>exact hb pins s1 U H1 Q I1 q1
 |true=>exact⟨.bl true,H1,I1,rfl,q1⟩
def MF(ha:PE X a ta):PE X (.UnaryOp .Not a pos) (UC ta):=by
 intro pins s U H Q I h;refine UnaryOp_ (iz (ha pins s U H _ I h) λv s1 ⟨x,H1,I1,r1,q1⟩=>?_);obtain⟨c,rfl,q1⟩:=q1;cases r1;exact not_of (gX ⟨.bl (!c),H1,I1,rfl,q1⟩)
def cP(t:TT)(ta tb:TE):TE:=λU H Q=>t U H λc H1=>if c=true then ta U H1 Q else tb U H1 Q
def M3(hc:PT X c tA)(ha:PE X a ta)(hb:PE X b tb):PE X (.IfExp c a b pos) (cP tA ta tb):=by
 intro pins s U H Q I h;refine wpAny_IfExp (iz (hc pins s U H _ I h) λd s1 ⟨H1,I1,q1⟩=>?_);cases d with
 |true=>exact ha pins s1 U H1 Q I1 q1
 |false=>exact hb pins s1 U H1 Q I1 q1
end
end L2
namespace L2
open PySem PySem.Spec PyProof.Rows
def SqL(K:eB)(H:Hp)(a:Addr)(xs:List V):Prop:=
 Rd H a (.lst xs)\/
  ∃(o:Obj) (its:Array dG) (n:Nat),K.lookup a=some o/\o.cls=.type "list"/\o.dict=none/\o.data=.seq its n/\its.size<=dN/\Vals xs its.toList
def SqT(K:eB)(H:Hp)(a:Addr)(xs:List V):Prop:=
 Rd H a (.tup xs)\/
  ∃(o:Obj) (its:Array dG) (n:Nat),K.lookup a=some o/\o.cls=.type "tuple"/\o.data=.seq its n/\its.size<=dN/\Vals xs its.toList
noncomputable def ZZ:dG->Option V
 |.none=>some .non
 |.bool b=>some (.bl b)
 |.int i _=>some (.int i)
 |.str x _=>some (.str x)
 |.bytes b _=>some (.byt b)
 |.float b _=>some (.flt b)
 |.ref a=>some (.ref a)
 |.type n=>some (.ty n)
 |_=>none
def RelV.abs(r:RelV x u):ZZ u=some x:=by
 cases x with
 |non=>cases r;rfl
 |bl _=>cases r;rfl
 |int _=>obtain⟨t,rfl⟩:=r;rfl
 |str _=>obtain⟨t,rfl⟩:=r;rfl
 |byt _=>obtain⟨t,rfl⟩:=r;rfl
 |flt _=>obtain⟨t,rfl⟩:=r;rfl
 |ref _=>cases r;rfl
 |ty _=>cases r;rfl
def RelV.inj(r:RelV x u)(q:RelV y u):x=y:=eI (r.abs.symm.trans q.abs)
theorem Vals.inj:∀{xs ys:List V}{us:List dG},Vals xs us->Vals ys us->xs=ys
 |_,_,_,.nil,.nil=>rfl
 |_,_,_,.cons r t,.cons r' t'=>by rw[r.inj r',Vals.inj t t']
section
variable{X:Cx}{pins:List (Addr×Obj)}{U:St}{H:Hp}{s:dP}{a:Addr}{xs ys:List V}
def SqL.of{K:eB}(h:H a=some (.lst xs)):SqL K H a xs:=.inl (.inl h)
def SqT.of{K:eB}(h:H a=some (.tup xs)):SqT K H a xs:=.inl (.inl h)
def Inv.list(I:Inv X pins U H s)(h:SqL X.K H a xs):∃its:List dG,Vals xs its/\PlainL s.heap a its.toArray/\xs.length<=dN:=by
 rcases h with h|⟨o,its,n,hk,hc,hd,hs,hz,r⟩
 ·obtain⟨z,its,n,r,e⟩:=h.ok I.hok;exact⟨its,r,⟨_,n,e,rfl,rfl,rfl⟩,z⟩
 ·refine⟨its.toList,r,⟨o,n,I.kIn a o hk,hc,hd,by simpa using hs⟩,?_⟩;have e:=r.length;simp only[eC]at e
  lia
def Inv.tuple(I:Inv X pins U H s)(h:SqT X.K H a xs):∃its:List dG,Vals xs its/\nW s.heap a its.toArray/\xs.length<=dN:=by
 rcases h with h|⟨o,its,n,hk,hc,hs,hz,r⟩
 ·obtain⟨z,its,r,p⟩:=h.ok I.hok;exact⟨its,r,p,z⟩
 ·refine⟨its.toList,r,⟨o,I.kIn a o hk,hc,n,by simpa using hs⟩,?_⟩;have e:=r.length;simp only[eC]at e
  lia
def Inv.list_inj(I:Inv X pins U H s)(h:SqL X.K H a xs)(h':SqL X.K H a ys):xs=ys:=by
 obtain⟨its,r,⟨o,n,e,_,_,d⟩,_⟩:=I.list h;obtain⟨its',r',⟨o',n',e',_,_,d'⟩,_⟩:=I.list h';rw[e]at e';cases e';rw[d]at d';injection d' with d1 _
 have:its=its':=by simpa using congrArg Array.toList d1
 subst this;exact r.inj r'
def Inv.tuple_inj(I:Inv X pins U H s)(h:SqT X.K H a xs)(h':SqT X.K H a ys):xs=ys:=by
 obtain⟨its,r,⟨o,e,_,n,d⟩,_⟩:=I.tuple h;obtain⟨its',r',⟨o',e',_,n',d'⟩,_⟩:=I.tuple h';rw[e]at e';cases e';rw[d]at d';injection d' with d1 _
 have:its=its':=by simpa using congrArg Array.toList d1
 subst this;exact r.inj r'
end
section
variable{X:Cx}{st:Stmt}{rest:List Stmt}{t u:TS}{e:Expr}{te:TE}{pos:Pos}
def JC:TS:=λD U H=>D.nx U H
def VY(t u:TS):TS:=λD U H=>t {D with nx:=u D} U H
def GY:PSs X [] JC:=λ_ _ U H _ I h=>rP ⟨U,H,I,h⟩
def Zq(h1:PS X st t)(h2:PSs X rest u):PSs X (st::rest) (VY t u):=by
 intro pins s U H D I h;refine wpAny_execs_cons (iz (h1 pins s U H {D with nx:=u D} I h) λf s1 q=>?_);cases f with
 |next=>
  obtain⟨σ',H',I',q⟩:=q;exact h2 pins s1 σ' H' D I' q
 |ret v=>exact q
 |brk=>exact q
 |cont=>exact q
def GX(h1:PS X st t):PSs X [st] t:=by
 intro pins s U H D I h;refine wpAny_execs_cons (iz (h1 pins s U H D I h) λf s1 q=>?_);cases f with
 |next=>exact rP q
 |ret v=>exact q
 |brk=>exact q
 |cont=>exact q
def Inv.quiet(I:Inv X pins U H s):interactive X.env=false:=by simp[interactive,I.ok.kind]
def NV{x j pos pos'}:PS X (.Expr (.Constant (.str x) j pos) pos') JC:=λ_ s U H _ I h=>wpAny_Expr (Calls.Constant_str (show SP X _ _ .next {s with toks:=s.toks+1}from⟨U,H,I.tok _,h⟩)) I.quiet
def UD(te:TE):TS:=λD U H=>te U H λ_ H1=>D.nx U H1
def Cu(he:PE X e te)(hs:kB e none pos.line X.env=pure false:=by rfl):PS X (.Expr e pos) (UD te):=by
 intro pins s U H D I h;exact wpAny_Expr_any (iz (he pins s U H _ I h) λv s1 ⟨x,H1,I1,r1,q1⟩=>⟨U,H1,I1,q1⟩) I.quiet hs
def aU(te:TE):TS:=λD U H=>te U H D.rt
def NT(he:PE X e te):PS X (.Return (some e) pos) (aU te):=by
 intro pins s U H D I h;exact wpAny_Return_some (iz (he pins s U H _ I h) λv s1 ⟨x,H1,I1,r1,q1⟩=>⟨x,U,H1,I1,r1,q1⟩)
def VZ:TS:=λD _ H=>D.rt .non H
def GZ:PS X (.Return none pos) VZ:=λ_ _ U H _ I h=>wpAny_Return_none ⟨.non,U,H,I,rfl,h⟩
def aY(c:TT)(t u:TS):TS:=λD U H=>c U H λb H1=>if b=true then t D U H1 else u D U H1
def JO(hc:PT X c tc)(ha:PSs X a t)(hb:PSs X b u):PS X (.If c a b pos) (aY tc t u):=by
 intro pins s U H D I h;refine wpAny_If (iz (hc pins s U H _ I h) λd s1 ⟨H1,I1,q1⟩=>?_);cases d with
 |true=>exact ha pins s1 U H1 D I1 q1
 |false=>exact hb pins s1 U H1 D I1 q1
end
abbrev TG:=V->St->Hp->(St->Hp->Prop)->Prop
abbrev QW:=List V->St->Hp->(St->Hp->Prop)->Prop
def PG(X:Cx)(target:Expr)(t:TG):Prop:=
 ∀(pins:List (Addr×Obj))(s:dP)(U:St)(H:Hp)(v:V)(u:dG)(Q:St->Hp->Prop),Inv X pins U H s->RelV v u->t v U H Q->
  dX (eJ X.prog X.w) X.A (assign target X.env u) (λ_ s'=>∃σ' H',Inv X pins σ' H' s'/\Q σ' H') X.xe s
def RX(X:Cx)(ts:List Expr)(t:QW):Prop:=
 ∀(pins:List (Addr×Obj))(s:dP)(U:St)(H:Hp)(vs:List V)(us:List dG)(Q:St->Hp->Prop),Inv X pins U H s->Vals vs us->t vs U H Q->
  dX (eJ X.prog X.w) X.A (assignInOrder ((mF ts X.env).map (·.2)) us) (λ_ s'=>∃σ' H',Inv X pins σ' H' s'/\Q σ' H') X.xe s
section
variable{X:Cx}{pos:Pos}
def tf(i:Nat):TG:=λv U H Q=>Q (U.set i (some v)) H
def Ct(hN:X.N.Nodup)(hi:X.N[i]?=some x)(hx:IP X.env.scope x)(hf:X.fn x=true\/X.env.scope.names.lookup x=some .local:=by first|exact .inl rfl|exact .inr rfl|assumption):PG X (.Name x pos) (tf i):=by
 intro pins s U H v u Q I r h;exact wpAny_assign_Name (Np I hN hi hx r (λs' I'=>⟨_,H,I',h⟩) hf)
noncomputable def ao:QW:=λvs U H Q=>vs=[]/\Q U H
noncomputable def af(t:TG)(u:QW):QW:=λvs U H Q=>∃v r,vs=v::r/\t v U H λσ' H'=>u r σ' H' Q
def S3:RX X [] ao:=by
 intro pins s U H vs us Q I r h;obtain⟨e,h⟩:=h;subst e;cases r;exact assignInOrder_nil ⟨U,H,I,h⟩
def Et(h1:PG X e t)(h2:RX X es u)
  (hs:(mF (e::es) X.env).map (·.2)=assign e X.env::(mF es X.env).map (·.2):=by rfl):RX X (e::es) (af t u):=by
 intro pins s U H vs us Q I r h;obtain⟨v,vr,e1,h⟩:=h;subst e1;cases r with
 |cons r rr=>
  rw[hs];refine assignInOrder_cons (iz (h1 pins s U H _ _ _ I r h) λ_ s1 ⟨σ1,H1,I1,q1⟩=>?_);exact h2 pins s1 σ1 H1 _ _ Q I1 rr q1
noncomputable def gz(K:eB)(n:Nat)(t:QW):TG:=λv U H Q=>∃a xs,v=.ref a/\SqT K H a xs/\xs.length=n/\t xs U H Q
def Ze(hc:X.calm=true)(h:RX X es t)
  (hn:(mF es X.env).length=n:=by rfl)(hst:(mF es X.env).findIdx? (·.1)=none:=by rfl):PG X (.Tuple es k pos) (gz X.K n t):=by
 intro pins s U H v u Q I r hw;obtain⟨a,xs,e1,hq,hl,hw⟩:=hw;subst e1;cases r;obtain⟨its,rv,ht,hz⟩:=I.tuple hq;refine assign_Tuple_tuple (I.ok.hd hc) ht (by simp[hn,<-hl,rv.length]) hst λh' hx=>?_;have I1:Inv X pins U H {s with heap:=h'}:=I.kept (t':=s.toks) λb o e=>hx b o (eM (dY e)) e;exact h pins _ U H xs _ Q I1 (by simpa using rv) hw
def Nr(te:TE)(g:TG):TS:=λD U H=>te U H λx H1=>g x U H1 D.nx
def NS(hN:X.N.Nodup)(hi:X.N[i]?=some x)(hx:IP X.env.scope x)(he:PE X e te)(hs:kB e (some (.Name x pos')) pos.line X.env=pure false:=by rfl)(hf:X.fn x=true\/X.env.scope.names.lookup x=some .local:=by first|exact .inl rfl|exact .inr rfl|assumption):
  PS X (.Assign [.Name x pos'] e pos) (Nr te (tf i)):=by
 intro pins s U H D I h;refine wpAny_Assign_Name (iz (he pins s U H _ I h) λv s1 ⟨y,H1,I1,r1,q1⟩=>?_) hs;exact Np I1 hN hi hx r1 (λs2 I2=>⟨_,H1,I2,q1⟩) hf
end
structure It where
 go:Nat->Hp->Prop
 yld:Nat->Hp->V->Hp->Prop
 stop:Nat->Hp->Prop
def B7(X:Cx)(pins:List (Addr×Obj))(H:Hp)(b:Addr):Prop:=
 H b=none/\b≠X.env.locals/\b∉X.fs/\(b∈X.ex\/X.s₀.heap.objs.size<=b)/\(∀x c,X.env.cells.lookup x=some c->c≠b)/\∀p∈X.pn++pins,p.1≠b
def Inv.fpOk{s:dP}(I:Inv X pins U H s)(hb:s.heap.objs.size<=b)(hn:H' b=none):B7 X pins H' b:=by
 refine⟨hn,jS (eW I.lt hb),I.nofs hb,.inr (fF I.sz hb),λx c e z=>?_,λp hp z=>?_⟩
 ·obtain⟨v,q⟩:=I.cell x c e;exact absurd (eW q.lt (by rw[z];exact hb)) (fR _)
 ·exact absurd (eW (dY (I.pin p hp).1) (by rw[z];exact hb)) (fR _)
structure Turn(P:eS)(w:fI)(K:eB)(tg:Expr)(J:It)(fp:List Addr)(it:Addr)(tn:Nat->Heap->Prop):Prop where
 mem:it∈fp
 obj:∀i h,tn i h->∀b∈fp,∃o,h.get? b=some o/\∀v,o.data≠.cell v
 keep:∀i h h',tn i h->(∀b∈fp,∀o,h.get? b=some o->h'.get? b=some o)->tn i h'
 item:∀(X:Cx),X.prog=P->X.w=w->X.K=K->X.calm=true->∀(i:Nat)(pins:List (Addr×Obj))(s:dP)(U:St)(H:Hp)(E:dG->dP->Prop),Inv X pins U H s->(∀b∈fp,B7 X pins H b)->tn i s.heap->J.go i H->
  dX (eJ P w) X.A (kZ (.ref it)) (λr s1=>∃u,r=some u/\
   dX (eJ P w) X.A (pF tg (.ref it) u) (λ_ s2=>∃x H',Inv X pins U H' s2/\RelV x u/\J.yld i H x H'/\tn (i+1) s2.heap/\∀b∈fp,H' b=none) E s1) E s
 done:∀(X:Cx),X.prog=P->X.w=w->X.K=K->X.calm=true->∀(i:Nat)(pins:List (Addr×Obj))(s:dP)(U:St)(H:Hp)(E:dG->dP->Prop),Inv X pins U H s->(∀b∈fp,B7 X pins H b)->tn i s.heap->J.stop i H->
  dX (eJ P w) X.A (kZ (.ref it)) (λr s1=>r=none/\Inv X pins U H s1) E s
 self:∀(A:fV)(i:Nat)(s:dP)(Q:dG->dP->Prop)(E:dG->dP->Prop),tn i s.heap->Q (.ref it) s->dX (eJ P w) A (pyIter (.ref it)) Q E s
abbrev TI:=St->Hp->(It->Hp->Prop)->Prop
def aG(X:Cx)(pins:List (Addr×Obj))(U:St)(tg:Expr)(R:It->Hp->Prop)(itv:dG)(s2:dP):Prop:=
 ∃(it:Addr) (fp:List Addr) (tn:Nat->Heap->Prop) (J:It) (H':Hp),itv=.ref it/\Inv X pins U H' s2/\Turn X.prog X.w X.K tg J fp it tn/\tn 0 s2.heap/\(∀b∈fp,B7 X pins H' b)/\R J H'
def PI(X:Cx)(tg iter:Expr)(wi:TI):Prop:=
 ∀(pins:List (Addr×Obj))(s:dP)(U:St)(H:Hp)(R:It->Hp->Prop),Inv X pins U H s->wi U H R->
  dX (eJ X.prog X.w) X.A (eval iter X.env) (λv s1=>dX (eJ X.prog X.w) X.A (pyIter v) (aG X pins U tg R) X.xe s1) X.xe s
def Ls{s:dP}{o:Obj}(ho:s.heap.get? it=some o)(hc:o.cls=.type n)(hd:o.data=.fields vs)
  (hn:["enumerate","zip","dict_itemiterator","dict_reverseitemiterator","odict_iterator","itertools.zip_longest","itertools.pairwise"].contains n=false)(hQ:Q () s):dX M A (pF tg (.ref it) u) Q E s:=by
 unfold pF;cases tg<;>first
  |exact dB hQ
  | (cases u <;> first
    |exact dB hQ
    | (refine dA (wpAny_load ho ?_)
       rw[hc,hd];show dX M A (if(["enumerate","zip","dict_itemiterator","dict_reverseitemiterator","odict_iterator","itertools.zip_longest","itertools.pairwise"].contains n && vs[0]?==some (iD _))=true then _ else _) Q E s;rw[dM (by intro h;rw[hn,Bool.false_and]at h;cases h)];exact dB hQ))
def YG(K:eB)(a:Addr):It:=
 ⟨λi H=>∃xs x,SqL K H a xs/\xs[i]?=some x,λi H x H'=>H'=H/\∀xs,SqL K H a xs->xs[i]?=some x,λi H=>∃xs,SqL K H a xs/\xs.length<=i⟩
def YF(K:eB)(a:Addr):It:=
 ⟨λi H=>∃xs x,SqT K H a xs/\xs[i]?=some x,λi H x H'=>H'=H/\∀xs,SqT K H a xs->xs[i]?=some x,λi H=>∃xs,SqT K H a xs/\xs.length<=i⟩
def VD(lo:Int)(n:Nat):It:=⟨λi _=>i<n,λi H x H'=>H'=H/\x=.int (lo+i),λi _=>n<=i⟩
def V3{P:eS}{w:fI}{K:eB}{tg:Expr}(a it:Addr):Turn P w K tg (YG K a) [it] it (λi h=>h.IsListIter it a i) where
 mem:=by simp
 obj:=λi h st b hb=>by
  have e:b=it:=by simpa using hb
  subst e;obtain⟨o,e,c,d⟩:=st;exact⟨o,e,λv z=>by rw[d]at z;cases z⟩
 keep:=λi h h' st k=>st.at λo e=>k it (by simp) o e
 item:=by
  intro X hP hw hK hc i pins s U H E I hf st hg;subst hP hw hK;obtain⟨xs,x,hq,hx⟩:=hg;obtain⟨its,rv,p,hz⟩:=I.list hq;obtain⟨u,hu,ru⟩:=rv.get hx;obtain⟨f0,f1,f2,f3,f4,f5⟩:=hf it (by simp);refine wpAny_pyNext_list_item st p.isList (x:=u) (by simpa using hu) λh' st' sb=>?_;have I1:Inv X pins U H {s with heap:=h'}:=I.turned (t':=s.toks) (λb o hb e=>(sb.2 b hb).trans e) f0 f1 f3 f4 f5;obtain⟨o,e,c,d⟩:=id st';exact⟨u,rfl,Ls (s:={s with heap:=h'}) e c d (by decide) ⟨x,H,I1,ru,⟨rfl,λys hy=>by rw[I.list_inj hy hq];exact hx⟩,st',λb hb=>(hf b hb).1⟩⟩
 done:=by
  intro X hP hw hK hc i pins s U H E I hf st hg;subst hP hw hK;obtain⟨xs,hq,hx⟩:=hg;obtain⟨its,rv,p,hz⟩:=I.list hq;obtain⟨f0,f1,f2,f3,f4,f5⟩:=hf it (by simp);have hl:=rv.length;exact wpAny_pyNext_list_end (I.ok.hd hc) st p.isList (by simp;lia) λh' eb=>⟨rfl,I.turned (t':=s.toks) (λb o hb e=>eb b o hb e) f0 f1 f3 f4 f5⟩
 self:=λ_ _ _ _ _ st h=>wpAny_pyIter_listiter st h
def Qz{P:eS}{w:fI}{K:eB}{tg:Expr}(a it:Addr):Turn P w K tg (YF K a) [it] it (λi h=>h.IsTupleIter it a i) where
 mem:=by simp
 obj:=λi h st b hb=>by
  have e:b=it:=by simpa using hb
  subst e;obtain⟨o,e,c,d⟩:=st;exact⟨o,e,λv z=>by rw[d]at z;cases z⟩
 keep:=λi h h' st k=>st.at λo e=>k it (by simp) o e
 item:=by
  intro X hP hw hK hc i pins s U H E I hf st hg;subst hP hw hK;obtain⟨xs,x,hq,hx⟩:=hg;obtain⟨its,rv,p,hz⟩:=I.tuple hq;obtain⟨u,hu,ru⟩:=rv.get hx;obtain⟨f0,f1,f2,f3,f4,f5⟩:=hf it (by simp);refine wpAny_pyNext_tuple_item st (show s.heap.IsTuple a its.toArray from p) (x:=u) (by simpa using hu) λh' st' sb=>?_;have I1:Inv X pins U H {s with heap:=h'}:=I.turned (t':=s.toks) (λb o hb e=>(sb.2 b hb).trans e) f0 f1 f3 f4 f5;obtain⟨o,e,c,d⟩:=id st';exact⟨u,rfl,Ls (s:={s with heap:=h'}) e c d (by decide) ⟨x,H,I1,ru,⟨rfl,λys hy=>by rw[I.tuple_inj hy hq];exact hx⟩,st',λb hb=>(hf b hb).1⟩⟩
 done:=by
  intro X hP hw hK hc i pins s U H E I hf st hg;subst hP hw hK;obtain⟨xs,hq,hx⟩:=hg;obtain⟨its,rv,p,hz⟩:=I.tuple hq;obtain⟨f0,f1,f2,f3,f4,f5⟩:=hf it (by simp);have hl:=rv.length;exact wpAny_pyNext_tuple_end (I.ok.hd hc) st (show s.heap.IsTuple a its.toArray from p) (by simp;lia) λh' eb=>⟨rfl,I.turned (t':=s.toks) (λb o hb e=>eb b o hb e) f0 f1 f3 f4 f5⟩
 self:=λ_ _ _ _ _ st h=>wpAny_pyIter_tupleiter st h
def Qy{P:eS}{w:fI}{K:eB}{tg:Expr}(it:Addr)(lo:Int)(n:Nat):Turn P w K tg (VD lo n) [it] it (λi h=>IsRangeIter h it (lo+(i:Nat) * 1) ((n:Int) - (i:Nat)) 1) where
 mem:=by simp
 obj:=λi h st b hb=>by
  have e:b=it:=by simpa using hb
  subst e;exact⟨_,st,λv z=>by
   have z':Data.fields _=sE v:=z;cases z'⟩
 keep:=λi h h' st k=>k it (by simp) _ st
 item:=by
  intro X hP hw hK hc i pins s U H E I hf st hg;subst hP hw hK;obtain⟨f0,f1,f2,f3,f4,f5⟩:=hf it (by simp);have W:=Walks.range (prog:=X.prog) (w:=X.w) (I.ok.hd hc) it lo 1 n;refine W.item i s _ _ hg st λv h' tk hv st' kk=>?_;obtain⟨t,rfl⟩:=hv;have I1:Inv X pins U H {s with heap:=h',toks:=tk}:=I.turned (λb o hb e=>kk b o (by simpa using hb) e) f0 f1 f3 f4 f5;refine⟨_,rfl,Ls (s:={s with heap:=h',toks:=tk}) (n:="range_iterator") st' rfl rfl (by decide) ⟨.int (lo+i),H,I1,⟨t,?_⟩,⟨rfl,rfl⟩,st',λb hb=>(hf b hb).1⟩⟩;rw[Int.mul_one]
 done:=by
  intro X hP hw hK hc i pins s U H E I hf st hg;subst hP hw hK;obtain⟨f0,f1,f2,f3,f4,f5⟩:=hf it (by simp);exact wpAny_pyNext_range_end (I.ok.hd hc) st (by have:n<=i:=hg;lia) λh' eb=>⟨rfl,I.turned (t':=s.toks) (λb o hb e=>eb b o hb e) f0 f1 f3 f4 f5⟩
 self:=λ_ _ _ _ _ st h=>wpAny_pyIter_rangeiter st h
end L2
namespace L2
open PySem PySem.Spec PyProof.Rows
section
variable{X:Cx}{tg:Expr}
def AY{pins:List (Addr×Obj)}{U:St}{H:Hp}{s:dP}{R:It->Hp->Prop}{E:dG->dP->Prop}{lo hi:Int}{t u v:Tok}{tk:Nat}(I:Inv X pins U H s)(h1:-(2 ^ 62)<=lo)(h2:lo<2 ^ 62)(h3:-(2 ^ 62)<=hi)(h4:hi<2 ^ 62)
  (q:R (VD lo (hi - lo).toNat) H):dX (eJ X.prog X.w) X.A (pyIter (.ref s.heap.objs.size)) (aG X pins U tg R) E {s with heap:=s.heap.push {cls:=.type "range",data:=.fields #[.int lo t,.int hi u,.int 1 v]},toks:=tk}:=by
 refine wpAny_pyIter_range (IsRange.new ..) (small_one h1 h2 h3 h4) ?_;have I1:Inv X pins U H {s with heap:=s.heap.push {cls:=.type "range",data:=.fields #[.int lo t,.int hi u,.int 1 v]},toks:=tk}:=I.kept λb o e=>dE _ e;refine⟨(s.heap.push {cls:=.type "range",data:=.fields #[.int lo t,.int hi u,.int 1 v]}).objs.size,[(s.heap.push {cls:=.type "range",data:=.fields #[.int lo t,.int hi u,.int 1 v]}).objs.size],_,_,H,rfl,
  I1.kept (t':=tk) λb o e=>dE _ e,Qy _ lo (hi - lo).toNat,?_,λb hb=>?_,q⟩
 ·have e1:lo+((0:Nat):Int) * 1=lo:=by simp
  have e2:(((hi - lo).toNat:Nat):Int) - ((0:Nat):Int)=Builtin.Range.rangeSize lo hi 1:=by rw[rangeSize_one];split<;>lia
  show IsRangeIter _ _ (lo+((0:Nat):Int) * 1) ((((hi - lo).toNat:Nat):Int) - ((0:Nat):Int)) 1;rw[e1,e2];exact eD _ rfl
 ·have e:b=(s.heap.push {cls:=.type "range",data:=.fields #[.int lo t,.int hi u,.int 1 v]}).objs.size:=by simpa using hb
  subst e;exact I1.fpOk (dR _) (I1.hok.fresh (dR _))
def RC(ta:TA):TI:=λU H R=>ta U H λvs H1=>∃j:Int,vs=[.int j]/\-(2 ^ 62)<=j/\j<2 ^ 62/\R (VD 0 j.toNat) H1
def Vc{a:Expr}{ta:TA}{p pos:Pos}(hg:Gl X "range")(hm:X.mg "range"=none)(ha:PA X [a] ta)(hs:eE [a] X.env=[(false,eval a X.env)]:=by rfl):PI X tg (.Call (.Name "range" p) [a] [] pos) (RC ta):=by
 intro pins s U H R I h;refine Call_ (xt I hg hm boot_range (jT (iz (ha pos pins s U H _ I h) λus s1 ⟨vs,H1,I1,r1,q1⟩=>?_) hs rfl));obtain⟨j,e,q1,q2,q⟩:=q1;subst e;cases r1 with
 |cons r rr=>
  cases rr;obtain⟨t,rfl⟩:=r;exact call_range_1 (AY I1 (by lia) (by lia) q1 q2 (by simpa using q))
def aZ(wi:TI)(g:TG)(tb:TS):TS:=λD U H=>wi U H λJ H1=>∃W:Nat->Nat->St->Hp->Prop,(∃m,W 0 m U H1)/\∀i m U H,W i m U H->
 (J.stop i H/\D.nx U H)\/(J.go i H/\∃N:St->Hp->Prop,(∀σ' H',N σ' H'->∃m',m'<m/\W (i+1) m' σ' H')/\∀x H',J.yld i H x H'->g x U H' λσ2 H2=>tb {D with nx:=N,ct:=N,bk:=D.nx} σ2 H2)
def Aw(fp:List Addr)(h:Heap):List (Addr×Obj):=fp.filterMap λb=>(h.get? b).map λo=>(b,o)
def xy{h:Heap}(hb:b∈fp)(e:h.get? b=some o):(b,o)∈Aw fp h:=List.mem_filterMap.mpr ⟨b,hb,by rw[e];rfl⟩
def U8{h:Heap}(hp:p∈Aw fp h):p.1∈fp/\h.get? p.1=some p.2:=by
 obtain⟨b,hb,e⟩:=List.mem_filterMap.mp hp;cases q:h.get? b with
 |none=>rw[q]at e;cases e
 |some o=>
  rw[q]at e;have e':(b,o)=p:=eI e;subst e';exact⟨hb,q⟩
def Inv.pinned{s:dP}(I:Inv X pins U H s)(hf:∀b∈fp,B7 X pins H b)(ho:∀b∈fp,∃o,s.heap.get? b=some o/\∀v,o.data≠.cell v):Inv X (pins++Aw fp s.heap) U H s:=
 I.pins_of λp hp=>(List.mem_append.mp hp).elim (λz=>I.pin p (iE _ z)) λz=>by
  obtain⟨hb,e⟩:=U8 z;obtain⟨f0,f1,f2,_⟩:=hf p.1 hb;obtain⟨o,e',d⟩:=ho p.1 hb;rw[e]at e';cases e';exact⟨e,f0,f1,f2,d⟩
def Inv.unpinned(I:Inv X (pins++pl) U H s):Inv X pins U H s:=I.pins_of λp hp=>I.pin p (iE _ (mE _ hp))
def NU(hp:PassesOwn (eJ X.prog X.w) X.A X.env X.xe)(hc:X.calm=true)(hi:PI X tg iter wi)(hg:PG X tg g)(hb:PSs X body tb)
  (hs:∀x,kQ iter X.env x=pure x:=by intro _;rfl):PS X (.For tg iter body [] pos) (aZ wi g tb):=by
 intro pins s U H D I h;refine wpAny_For (iz (hi pins s U H _ I h) λv s1 h1=>iz h1 λitv s2 h2=>?_) hs;obtain⟨it,fp,tn,J,H2,e,I2,T,st2,f2,W,⟨m0,w0⟩,turn⟩:=h2;subst e;have stat:∀{H':Hp},(∀b∈fp,H' b=none)->∀b∈fp,B7 X pins H' b:=λhn b hb=>⟨hn b hb,(f2 b hb).2⟩;refine codeAny_forLoop_any (λn s'=>∃i σ' H',Inv X pins σ' H' s'/\tn i s'.heap/\(∀b∈fp,H' b=none)/\W i n σ' H') ?_ m0 ⟨0,U,H2,I2,st2,λb hb=>(f2 b hb).1,w0⟩
 rintro n s3 ⟨i,σ3,H3,I3,st3,fr3,w3⟩
 rcases turn i n σ3 H3 w3 with ⟨stop,qn⟩|⟨go,N,hN,step⟩
 ·refine nH hp (iz (T.done X rfl rfl rfl hc i pins s3 σ3 H3 X.xe I3 (stat fr3) st3 stop) λr s4 ⟨hr,I4⟩=>?_);subst hr;exact rP ⟨σ3,H3,I4,qn⟩
 ·refine nH hp (iz (T.item X rfl rfl rfl hc i pins s3 σ3 H3 X.xe I3 (stat fr3) st3 go) λr s4 ⟨u,hr,h4⟩=>?_);subst hr;refine nH hp (iz h4 λ_ s5 ⟨x,H5,I5,r5,y5,st5,fr5⟩=>?_);have I5':=I5.pinned (stat fr5) (T.obj _ _ st5);refine nH hp (iz (hg _ s5 σ3 H5 x u _ I5' r5 (step x H5 y5)) λ_ s6 ⟨σ6,H6,I6,q6⟩=>?_);refine nH hp (iz (hb _ s6 σ6 H6 _ I6 q6) λf s7 q7=>?_);have again:∀{σ7:St}{H7:Hp},Inv X (pins++Aw fp s5.heap) σ7 H7 s7->N σ7 H7->∃m,m<n/\∃i σ' H',Inv X pins σ' H' s7/\tn i s7.heap/\(∀b∈fp,H' b=none)/\W i m σ' H':=λ{σ7 H7} I7 n7=>by
   obtain⟨m',hm,w7⟩:=hN σ7 H7 n7;refine⟨m',hm,i+1,σ7,H7,I7.unpinned,T.keep _ _ _ st5 λb hb o e=>(I7.pin (b,o) (iE _ (iE _ (xy hb e)))).1,λb hb=>?_,w7⟩;obtain⟨o,e,d⟩:=T.obj _ _ st5 b hb;exact(I7.pin (b,o) (iE _ (iE _ (xy hb e)))).2.1
  cases f with
  |next=>obtain⟨σ7,H7,I7,n7⟩:=q7;exact again I7 n7
  |cont=>obtain⟨σ7,H7,I7,n7⟩:=q7;exact again I7 n7
  |brk=>obtain⟨σ7,H7,I7,q7⟩:=q7;exact⟨σ7,H7,I7.unpinned,q7⟩
  |ret v=>obtain⟨x7,σ7,H7,I7,r7,q7⟩:=q7;exact⟨x7,σ7,H7,I7.unpinned,r7,q7⟩
end
end L2
namespace L2
open PySem PySem.Spec PyProof.Rows
abbrev R2:=V->V->Hp->VK->Prop
def OpR(X:Cx)(f:dG->dG->Sem dG)(r:R2):Prop:=
 ∀(pins:List (Addr×Obj))(s:dP)(U:St)(H:Hp)(x y:V)(v u:dG)(Q:VK),Inv X pins U H s->RelV x v->RelV y u->r x y H Q->
  dX (eJ X.prog X.w) X.A (f v u) (EP X pins U Q) X.xe s
def WZ(X:Cx)(f:dG->Sem dG)(r:V->Hp->VK->Prop):Prop:=
 ∀(pins:List (Addr×Obj))(s:dP)(U:St)(H:Hp)(x:V)(v:dG)(Q:VK),Inv X pins U H s->RelV x v->r x H Q->
  dX (eJ X.prog X.w) X.A (f v) (EP X pins U Q) X.xe s
def CallR(X:Cx)(f:dG)(r:List V->Hp->VK->Prop):Prop:=
 ∀(pins:List (Addr×Obj))(s:dP)(U:St)(H:Hp)(xs:List V)(us:List dG)(Q:VK),Inv X pins U H s->Vals xs us->r xs H Q->
  dX (eJ X.prog X.w) X.A (call f us) (EP X pins U Q) X.xe s
def YA(X:Cx)(r:V->Hp->(Bool->Hp->Prop)->Prop):Prop:=
 ∀(pins:List (Addr×Obj))(s:dP)(U:St)(H:Hp)(x:V)(v:dG)(Q:Bool->Hp->Prop),Inv X pins U H s->RelV x v->r x H Q->
  dX (eJ X.prog X.w) X.A (truthy v) (TP X pins U Q) X.xe s
def UB(r:R2)(ta tb:TE):TE:=λU H Q=>ta U H λx H1=>tb U H1 λy H2=>r x y H2 Q
def bR(r:V->Hp->VK->Prop)(ta:TE):TE:=λU H Q=>ta U H λx H1=>r x H1 Q
def rI(C:Int->Int->Prop)(g:Int->Int->V):R2:=λx y H Q=>∃i j,x=.int i/\y=.int j/\C i j/\Q (g i j) H
def Z6(g:Int->Int->V):R2:=λx y H Q=>∃i j,x=.int i/\y=.int j/\Q (g i j) H
def rU(g:Int->V):V->Hp->VK->Prop:=λx H Q=>∃i,x=.int i/\Q (g i) H
section
variable{X:Cx}{a b c:Expr}{ta tb tc:TE}{pos:Pos}
def KH(ha:PE X a ta)(hb:PE X b tb){pins:List (Addr×Obj)}{s:dP}{U:St}{H:Hp}{R:V->V->Hp->Prop}(I:Inv X pins U H s)
  (h:ta U H λx H1=>tb U H1 λy H2=>R x y H2){Q:dG->dP->Prop}{f:dG->dG->Sem dG}
  (hf:∀v u s2 x y H2,Inv X pins U H2 s2->RelV x v->RelV y u->R x y H2->dX (eJ X.prog X.w) X.A (f v u) Q X.xe s2):
  dX (eJ X.prog X.w) X.A (eval a X.env) (λv s₁=>dX (eJ X.prog X.w) X.A (eval b X.env) (λu s₂=>dX (eJ X.prog X.w) X.A (f v u) Q X.xe s₂) X.xe s₁) X.xe s:=by
 refine iz (ha pins s U H _ I h) λv s1 ⟨x,H1,I1,r1,q1⟩=>?_;refine iz (hb pins s1 U H1 _ I1 q1) λu s2 ⟨y,H2,I2,r2,q2⟩=>?_;exact hf v u s2 x y H2 I2 r1 r2 q2
def TZ{op:Operator}(ho:OpR X (kR op) r)(ha:PE X a ta)(hb:PE X b tb):PE X (.BinOp a op b pos) (UB r ta tb):=by
 intro pins s U H Q I h;exact wpAny_BinOp (KH ha hb I h λv u s2 x y H2 I2 rx ry q=>ho pins s2 U H2 x y v u Q I2 rx ry q)
def TX(ho:WZ X (unaryOp op) r)(ha:PE X a ta):PE X (.UnaryOp op a pos) (bR r ta):=by
 intro pins s U H Q I h;exact UnaryOp_ (iz (ha pins s U H _ I h) λv s1 ⟨x,H1,I1,r1,q1⟩=>ho pins s1 U H1 x v Q I1 r1 q1)
def WV{g:Int->Int->Int}
  (rule:∀(i j:Int)(t u:Tok)(s:dP)(Q:dG->dP->Prop)(E:dG->dP->Prop),C i j->Q (.int (g i j) s.toks) {s with toks:=s.toks+1}->dX (eJ X.prog X.w) X.A (f (.int i t) (.int j u)) Q E s):
  OpR X f (rI C λi j=>.int (g i j)):=by
 intro pins s U H x y v u Q I rx ry h;obtain⟨i,j,rfl,rfl,hc,q⟩:=h;obtain⟨t,rfl⟩:=rx;obtain⟨t',rfl⟩:=ry;exact rule i j t t' s _ _ hc ⟨.int (g i j),H,I.tok _,⟨_,rfl⟩,q⟩
def SK{g:Int->Int->Int}
  (rule:∀(i j:Int)(t u:Tok)(s:dP)(Q:dG->dP->Prop)(E:dG->dP->Prop),Q (.int (g i j) s.toks) {s with toks:=s.toks+1}->dX (eJ X.prog X.w) X.A (f (.int i t) (.int j u)) Q E s):
  OpR X f (Z6 λi j=>.int (g i j)):=by
 intro pins s U H x y v u Q I rx ry h;obtain⟨i,j,rfl,rfl,q⟩:=h;obtain⟨t,rfl⟩:=rx;obtain⟨t',rfl⟩:=ry;exact rule i j t t' s _ _ ⟨.int (g i j),H,I.tok _,⟨_,rfl⟩,q⟩
def EE{g:Int->Int->Bool}
  (rule:∀(i j:Int)(t u:Tok)(s:dP)(Q:dG->dP->Prop)(E:dG->dP->Prop),Q (.bool (g i j)) s->dX (eJ X.prog X.w) X.A (f (.int i t) (.int j u)) Q E s):
  OpR X f (Z6 λi j=>.bl (g i j)):=by
 intro pins s U H x y v u Q I rx ry h;obtain⟨i,j,rfl,rfl,q⟩:=h;obtain⟨t,rfl⟩:=rx;obtain⟨t',rfl⟩:=ry;exact rule i j t t' s _ _ ⟨.bl (g i j),H,I,rfl,q⟩
def YL(i j:Int):Prop:=0<j/\j<1073741824
def YK(i j:Int):Prop:=0<=j/\j<=1000000/\i.natAbs<2 ^ 64
def CMul(i j:Int):Prop:=(-(2 ^ 64)<i/\i<2 ^ 64)\/(-(2 ^ 64)<j/\j<2 ^ 64)
def CMul.ok(h:CMul i j):IntMulOk i j:=by
 rcases h with ⟨h1,h2⟩|⟨h1,h2⟩
 ·exact .of_left (intBits_le_64 h1 h2)
 ·exact .of_right (intBits_le_64 h1 h2)
def MW:OpR X (kR .Add) (Z6 λi j=>.int (i+j)):=SK λ_ _ _ _ _ _ _ q=>add_int q
def ML:OpR X (kR .Sub) (Z6 λi j=>.int (i - j)):=SK λ_ _ _ _ _ _ _ q=>sub_int q
def MO:OpR X (kR .Mult) (rI CMul λi j=>.int (i * j)):=WV λ_ _ _ _ _ _ _ hc q=>mul_int q hc.ok
def EB:OpR X (kR .FloorDiv) (rI YL λi j=>.int (i / j)):=WV λi j _ _ _ _ _ hc q=>by
 have h1:(0:Int)<j:=hc.1;have h2:j<1073741824:=hc.2;exact floordiv_int (by lia) (by rw[Int.fdiv_eq_ediv_of_nonneg i (by lia)];exact q) (.inl (PyProof.noPylong_small (by lia)))
def MP:OpR X (kR .Mod) (rI (λ_ j=>0<j) λi j=>.int (i % j)):=WV λi j _ _ _ _ _ hc q=>by
 have h1:(0:Int)<j:=hc;exact mod_int' (by lia) (by rw[Int.fmod_eq_emod_of_nonneg i (by lia)];exact q)
def MM:OpR X (kR .Pow) (rI YK λi j=>.int (i ^ j.toNat)):=WV λ_ _ _ _ _ _ _ hc q=>pow_int_small hc.1 hc.2.1 hc.2.2 q
def cK{g:Int->Int}
  (rule:∀(i:Int)(t:Tok)(s:dP)(Q:dG->dP->Prop)(E:dG->dP->Prop),Q (.int (g i) s.toks) {s with toks:=s.toks+1}->dX (eJ X.prog X.w) X.A (f (.int i t)) Q E s):
  WZ X f (rU λi=>.int (g i)):=by
 intro pins s U H x v Q I rx h;obtain⟨i,rfl,q⟩:=h;obtain⟨t,rfl⟩:=rx;exact rule i t s _ _ ⟨.int (g i),H,I.tok _,⟨_,rfl⟩,q⟩
def PL:WZ X (unaryOp .USub) (rU λi=>.int (-i)):=cK λ_ _ _ _ _ q=>neg_int q
end
section
variable{X:Cx}{a b c:Expr}{ta tb tc:TE}{pos:Pos}
def Jm(I:Inv X pins U H s)(q:Q (.bl k) H)(e:k=k'):EP X pins U Q (.bool k') s:=by
 subst e;exact⟨.bl k,H,I,rfl,q⟩
def SG:OpR X (fH .Lt) (Z6 λi j=>.bl (decide (i<j))):=EE λ_ _ _ _ _ _ _ q=>lt_int q
def SH:OpR X (fH .LtE) (Z6 λi j=>.bl (decide (i<=j))):=EE λ_ _ _ _ _ _ _ q=>le_int q
def SI:OpR X (fH .Gt) (Z6 λi j=>.bl (decide (j<i))):=EE λ_ _ _ _ _ _ _ q=>gt_int q
def SJ:OpR X (fH .GtE) (Z6 λi j=>.bl (decide (j<=i))):=EE λ_ _ _ _ _ _ _ q=>ge_int q
def Va:OpR X (fH .In) (λx y H Q=>∃i j,x=.str i/\y=.str j/\Q (.bl (!(nO j i 0 j.length 1).isEmpty)) H):=by
 intro pins s U H x y v u Q I rx ry h;obtain⟨i,j,rfl,rfl,q⟩:=h;obtain⟨t,rfl⟩:=rx;obtain⟨t',rfl⟩:=ry;exact in_str (Jm I q rfl)
def MS:OpR X (fH .Is) (λx y H Q=>y=.non/\Q (.bl (decide (x=.non))) H):=by
 intro pins s U H x y v u Q I rx ry h;obtain⟨rfl,q⟩:=h;cases ry;refine is_none_gen (Jm I q ?_);cases x<;>first
  |(cases rx;rfl)
  |(obtain⟨t,rfl⟩:=rx;rfl)
def FY:OpR X (fH .IsNot) (λx y H Q=>y=.non/\Q (.bl (!decide (x=.non))) H):=by
 intro pins s U H x y v u Q I rx ry h;obtain⟨rfl,q⟩:=h;cases ry;refine isnot_none_gen (Jm I q ?_);cases x<;>first
  |(cases rx;rfl)
  |(obtain⟨t,rfl⟩:=rx;rfl)
def J1:OpR X (fH .NotIn) (λx y H Q=>∃i j,x=.str i/\y=.str j/\Q (.bl (!(!(nO j i 0 j.length 1).isEmpty))) H):=by
 intro pins s U H x y v u Q I rx ry h;obtain⟨i,j,rfl,rfl,q⟩:=h;obtain⟨t,rfl⟩:=rx;obtain⟨t',rfl⟩:=ry;exact notIn_str (Jm I q rfl)
def OpR.or(h:OpR X f r)(h':OpR X f r'):OpR X f (λx y H Q=>r x y H Q\/r' x y H Q):=by
 intro pins s U H x y v u Q I rx ry q;rcases q with q|q
 ·exact h pins s U H x y v u Q I rx ry q
 ·exact h' pins s U H x y v u Q I rx ry q
def FP{op:CmpOp}(ho:OpR X (fH op) r)(ha:PE X a ta)(hb:PE X b tb)(hm:nA op b=false):PE X (.Compare a [op] [b] pos) (UB r ta tb):=by
 intro pins s U H Q I h;exact wpAny_Compare1 (KH ha hb I h λv u s2 x y H2 I2 rx ry q=>ho pins s2 U H2 x y v u Q I2 rx ry q) hm
def JB(t:TE):TT:=λU H Q=>t U H λx H'=>∃k,x=.bl k/\Q k H'
def Tb(ho:OpR X (fH op) r)(ha:PE X a ta)(hb:PE X b tb)(hm:nA op b=false):PT X (.Compare a [op] [b] pos) (JB (UB r ta tb)):=by
 intro pins s U H Q I h;refine wpAny_isTrue_Compare1 (iz (ha pins s U H _ I h) λv s1 ⟨x,H1,I1,r1,q1⟩=>iz (hb pins s1 U H1 _ I1 q1) λu s2 ⟨y,H2,I2,r2,q2⟩=>
  iz (ho pins s2 U H2 x y v u _ I2 r1 r2 q2) λc s3 ⟨z,H3,I3,r3,k,e,q3⟩=>?_) hm
 subst e;cases r3;exact gX ⟨H3,I3,q3⟩
def Qr(r r':R2)(ta tb tc:TE):TE:=λU H Q=>ta U H λx H1=>tb U H1 λy H2=>r x y H2 λz H3=>∃k,z=.bl k/\
 (if k=true then tc U H3 λw' H4=>r' y w' H4 Q else Q (.bl false) H3)
def Y9(ho:OpR X (fH op) r)(ho':OpR X (fH op') r')(ha:PE X a ta)(hb:PE X b tb)(hc:PE X c tc)
  (hm:sF [op,op'] [b,c]=false:=by with_unfolding_all rfl):PE X (.Compare a [op,op'] [b,c] pos) (Qr r r' ta tb tc):=by
 intro pins s U H Q I h;refine Compare_chain (iz (ha pins s U H _ I h) λv s1 ⟨x,H1,I1,r1,q1⟩=>chain_link (iz (hb pins s1 U H1 _ I1 q1) λu s2 ⟨y,H2,I2,r2,q2⟩=>
  iz (ho pins s2 U H2 x y v u _ I2 r1 r2 q2) λd s3 ⟨z,H3,I3,r3,k,e,q3⟩=>?_)) hm
 subst e;cases r3;refine gX ?_;cases k with
 |false=>exact ite_ff ⟨.bl false,H3,I3,rfl,q3⟩
 |true=>exact ite_tt (chain_last (iz (hc pins s3 U H3 _ I3 q3) λw' s4 ⟨z',H4,I4,r4,q4⟩=>ho' pins s4 U H4 y z' u w' Q I4 r2 r4 q4))
def Zr(ho:OpR X (fH op) r)(ho':OpR X (fH op') r')(ha:PE X a ta)(hb:PE X b tb)(hc:PE X c tc)
  (hm:sF [op,op'] [b,c]=false:=by with_unfolding_all rfl):PT X (.Compare a [op,op'] [b,c] pos) (JB (Qr r r' ta tb tc)):=by
 intro pins s U H Q I h;refine isTrue_chain (iz (ha pins s U H _ I h) λv s1 ⟨x,H1,I1,r1,q1⟩=>test_link (iz (hb pins s1 U H1 _ I1 q1) λu s2 ⟨y,H2,I2,r2,q2⟩=>
  iz (ho pins s2 U H2 x y v u _ I2 r1 r2 q2) λd s3 ⟨z,H3,I3,r3,k,e,q3⟩=>?_)) hm
 subst e;cases r3;refine gX ?_;cases k with
 |false=>
  obtain⟨k',e',q'⟩:=q3;cases e';exact ite_ff ⟨H3,I3,q'⟩
 |true=>
  refine ite_tt (test_last (iz (hc pins s3 U H3 _ I3 q3) λw' s4 ⟨z',H4,I4,r4,q4⟩=>iz (ho' pins s4 U H4 y z' u w' _ I4 r2 r4 q4) λd' s5 ⟨z2,H5,I5,r5,k2,e2,q5⟩=>?_));subst e2;cases r5;exact gX ⟨H5,I5,q5⟩
def KP(K:eB)(x:V)(H:Hp)(k:Bool):Prop:=
 match x with
 |.non=>k=false
 |.bl b=>k=b
 |.int i=>k=(i !=0)
 |.str y=>y.length<=dN/\k=((y.length:Int) !=0)
 |.byt y=>y.size<=dN/\k=((y.size:Int) !=0)
 |.ref p=>(∃xs,SqL K H p xs/\k= !xs.isEmpty)\/(∃xs,SqT K H p xs/\k= !xs.isEmpty)\/∃kvs,H p=some (.dK kvs)/\k= !kvs.isEmpty
 |_=>False
def O7{kvs:List (κ×V)}{vs:List (κ×dG)}(r:KV kvs vs):(!vs.isEmpty)= !kvs.isEmpty:=by
 cases r<;>rfl
def D7{xs:List V}{its:List dG}(r:Vals xs its):(!its.toArray.isEmpty)= !xs.isEmpty:=by
 cases r<;>simp
def Eg:(dN:Nat)<2 ^ 63:=by rw[jC];decide
def PR:YA X (λx H Q=>∃k,KP X.K x H k/\Q k H):=by
 intro pins s U H x v Q I rx h;obtain⟨k,e,q⟩:=h;have hl:=Eg;have hs:dN=16777216:=jC;cases x with
 |non=>
  cases rx;have e':k=false:=e;subst e';exact truthy_none ⟨H,I,q⟩
 |bl b=>
  cases rx;have e':k=b:=e;subst e';exact gX ⟨H,I,q⟩
 |int i=>
  obtain⟨t,rfl⟩:=rx;have e':k=(i !=0):=e;subst e';exact PySem.P.truthy_int ⟨H,I,q⟩
 |str y=>
  obtain⟨t,rfl⟩:=rx;obtain⟨hy,e'⟩:y.length<=dN/\k=((y.length:Int) !=0):=e;subst e';exact PySem.P.truthy_str (by lia) ⟨H,I.tok _,q⟩
 |byt y=>
  obtain⟨t,rfl⟩:=rx;obtain⟨hy,e'⟩:y.size<=dN/\k=((y.size:Int) !=0):=e;subst e';exact PySem.W.truthy_bytes (by lia) ⟨H,I.tok _,q⟩
 |ref p=>
  cases rx;have e':(∃xs,SqL X.K H p xs/\k= !xs.isEmpty)\/(∃xs,SqT X.K H p xs/\k= !xs.isEmpty)\/∃kvs,H p=some (.dK kvs)/\k= !kvs.isEmpty:=e;rcases e' with ⟨xs,hx,e'⟩|⟨xs,hx,e'⟩|⟨kvs,hx,e'⟩
  ·subst e';obtain⟨its,r,pl,hz⟩:=I.list hx;have hlen:=r.length;exact wpAny_truthy_list pl.isList (by simp only[eF];lia) ⟨H,I.tok _,by rw[D7 r];exact q⟩
  ·subst e';obtain⟨its,r,pl,hz⟩:=I.tuple hx;have hlen:=r.length;exact truthy_tuple pl (by simp only[eF];lia) ⟨H,I.tok _,by rw[D7 r];exact q⟩
  ·subst e';obtain⟨hz,hS,vs,r,m⟩:kvs.length<=dN/\(p==jH)=false/\∃vs,KV kvs vs/\s.heap.DictOf (ba X.prog X.w) p vs:=I.hok p _ hx;have hlen:kvs.length=vs.length:=mZ r;exact wpAny_truthy_dict hS m (by lia) ⟨H,I.tok _,by rw[O7 r];exact q⟩
 |_=>exact(show False from e).elim
def Zt(ha:PE X a ta)(he:∀whole,isTrue a X.env whole=(do let v <-whole;standAt a.pos;sG [v] (truthy v))):
  PT X a (λU H Q=>ta U H λx H'=>∃k,KP X.K x H' k/\Q k H'):=by
 intro pins s U H Q I h;exact isTrue_plain (iz (ha pins s U H _ I h) λv s1 ⟨x,H1,I1,r1,q1⟩=>PR pins s1 U H1 x v Q I1 r1 q1) (he _)
def Px:OpR X (kR .Add) (λx y H Q=>∃i j,x=.str i/\y=.str j/\i.length+j.length<=dN/\Q (.str (i++j)) H):=by
 intro pins s U H x y v u Q I rx ry h;obtain⟨i,j,rfl,rfl,hz,q⟩:=h;obtain⟨t,rfl⟩:=rx;obtain⟨t',rfl⟩:=ry;exact add_str (λt' tk=>⟨.str (i++j),H,I.tok _,⟨_,rfl⟩,q⟩) hz
def l9(r:Vals [x] us):∃u,us=[u]/\RelV x u:=by
 cases r with
 |cons r1 r2=>cases r2;exact⟨_,rfl,r1⟩
def BI(r:Vals [x,y] us):∃u w',us=[u,w']/\RelV x u/\RelV y w':=by
 cases r with
 |cons r1 r2=>
  cases r2 with
  |cons r3 r4=>cases r4;exact⟨_,_,rfl,r1,r3⟩
def T3:CallR X (.type "int") (λxs H Q=>(∃i,xs=[.int i]/\Q (.int i) H)\/∃k,xs=[.bl k]/\Q (.int (if k then 1 else 0)) H):=by
 intro pins s U H xs us Q I r h;rcases h with ⟨i,rfl,q⟩|⟨k,rfl,q⟩
 ·obtain⟨u,rfl,t,rfl⟩:=l9 r;exact call_int_int ⟨.int i,H,I,⟨_,rfl⟩,q⟩
 ·obtain⟨u,rfl,r1⟩:=l9 r;cases r1;exact call_int_bool ⟨.int (if k then 1 else 0),H,I.tok _,⟨_,rfl⟩,q⟩
def YD(K:eB)(x:V)(H:Hp)(n:Nat):Prop:=
 match x with
 |.str y=>y.length<=dN/\n=y.length
 |.byt y=>y.size<=dN/\n=y.size
 |.ref p=>(∃xs,SqL K H p xs/\n=xs.length)\/∃xs,SqT K H p xs/\n=xs.length
 |_=>False
def Wy:CallR X (.builtin "len") (λxs H Q=>∃x n,xs=[x]/\YD X.K x H n/\Q (.int n) H):=by
 intro pins s U H xs us Q I r h;obtain⟨x,n,rfl,e,q⟩:=h;obtain⟨u,rfl,rx⟩:=l9 r;have hl:=Eg;have hs:dN=16777216:=jC;cases x with
 |str y=>
  obtain⟨t,rfl⟩:=rx;obtain⟨hy,e'⟩:y.length<=dN/\n=y.length:=e;subst e';exact len_str (by lia) ⟨.int _,H,I.tok _,⟨_,rfl⟩,q⟩
 |byt y=>
  obtain⟨t,rfl⟩:=rx;obtain⟨hy,e'⟩:y.size<=dN/\n=y.size:=e;subst e';exact PySem.W.len_bytes (by lia) ⟨.int _,H,I.tok _,⟨_,rfl⟩,q⟩
 |ref p=>
  cases rx;have e':(∃xs,SqL X.K H p xs/\n=xs.length)\/∃xs,SqT X.K H p xs/\n=xs.length:=e;rcases e' with ⟨xs,hx,e'⟩|⟨xs,hx,e'⟩
  ·subst e';obtain⟨its,r',pl,hz⟩:=I.list hx;have hlen:=r'.length;exact Calls.call_len_list pl.isList (by simp only[eF];lia) ⟨.int xs.length,H,I.tok _,⟨_,by simp only[eF];rw[hlen]⟩,q⟩
  ·subst e';obtain⟨its,r',pl,hz⟩:=I.tuple hx;have hlen:=r'.length;exact len_tuple pl (by simp only[eF];lia) ⟨.int xs.length,H,I.tok _,⟨_,by simp only[eF];rw[hlen]⟩,q⟩
 |_=>exact(show False from e).elim
end
end L2
namespace L2
open PySem PySem.Spec PyProof.Rows
def RelO.some_of(r:RelO (some v) o):∃u,o=some u/\RelV v u:=by
 cases o with
 |none=>exact(show False from r).elim
 |some u=>exact⟨u,rfl,r⟩
end L2
namespace L2
open PySem PySem.Spec PyProof.Rows
structure Room(k:Nat)(A:fV):Prop where
 hd:A.handled=none
 dp:A.depth+3 * k+5<recursionLimit
 un:A.units+16 * k+200<gQ
theorem Room.deeper{A:fV}(r:Room (k+1) A)(env:Env):Room k (A.deeper env):=
 ⟨r.hd,by have:=r.dp;show A.depth+1+3 * k+5<_;lia,by have:=r.un;show A.units+3+16 * k+200<_;lia⟩
theorem Room.depth{A:fV}(r:Room k A):A.depth<recursionLimit:=by have:=r.dp;lia
def PX:TA:=λ_ H Q=>Q [] H
def JD(ta:TE)(tr:TA):TA:=λU H Q=>ta U H λx H1=>tr U H1 λxs H2=>Q (x::xs) H2
section
variable{X:Cx}{e:Expr}{es:List Expr}{te:TE}{t:TA}{pos:Pos}
def J3:PA X [] PX:=λ_ _ _ _ H Q I h=>qJ ⟨[],H,I,.nil,h⟩
def vo(ha:PE X e te)(hr:PA X es t)(hs:eE (e::es) X.env=(false,eval e X.env)::eE es X.env:=by rfl):PA X (e::es) (JD te t):=by
 intro pos pins s U H Q I h;rw[hs];show dX _ _ (spliced ((false,eval e X.env)::iY pos (eE es X.env))) _ _ s;refine lK (iz (ha pins s U H _ I h) λu s1 ⟨x,H1,I1,r1,q1⟩=>?_);exact iz (hr pos pins s1 U H1 _ I1 q1) λus s2 ⟨xs,H2,I2,r2,q2⟩=>⟨x::xs,H2,I2,.cons r1 r2,q2⟩
def aT(t:TA):TE:=λU H Q=>t U H λxs H1=>xs.length<=dN/\∀p,H1 p=none->Q (.ref p) (upd H1 p (.tup xs))
def aX(t:TA):TE:=λU H Q=>t U H λxs H1=>xs.length<=dN/\∀p,H1 p=none->Q (.ref p) (upd H1 p (.lst xs))
def MC{x1}(h:PA X es t):PE X (.Tuple es x1 pos) (aT t):=by
 intro pins s U H Q I hq;refine wpAny_Tuple_spliced (iz (h pos pins s U H _ I hq) λus s1 ⟨xs,H1,I1,r,z,q⟩=>⟨by rw[<-r.length];exact z,?_⟩);have hf:H1 s1.heap.objs.size=none:=I1.hok.fresh (dR _);refine⟨.ref s1.heap.objs.size,upd H1 s1.heap.objs.size (.tup xs),I1.laid (t':=s1.toks) (λb u e=>dE _ e) (dR _) ?_,rfl,q _ hf⟩;exact⟨z,us,r,⟨_,eD _ rfl,rfl,_,rfl⟩⟩
def MH(h:PA X es t):PE X (.List es pos) (aX t):=by
 intro pins s U H Q I hq;refine wpAny_List_spliced (iz (h pos pins s U H _ I hq) λus s1 ⟨xs,H1,I1,r,z,q⟩=>⟨by rw[<-r.length];exact z,?_⟩);have hf:H1 s1.heap.objs.size=none:=I1.hok.fresh (dR _);refine⟨.ref s1.heap.objs.size,upd H1 s1.heap.objs.size (.lst xs),I1.laid (t':=s1.toks) (λb u e=>dE _ e) (dR _) ?_,rfl,q _ hf⟩;exact⟨z,us,0,r,eD _ rfl⟩
end
abbrev Sp:=List V->Hp->VK->XK->Prop
abbrev BD:=List Env->Hp->dP->XK->dG->dP->Prop
structure Env0(P:eS)(w:fI)(K:eB)(mg:Str->Option dG)(base:Heap)(A:fV)(outer:List Env)(s:dP)(H:Hp):Prop where
 frames:A.frames=some outer
 mod:Mod K mg base
 bs:∀b o,base.get? b=some o->s.heap.get? b=some o/\H b=none
 bsz:base.objs.size<=s.heap.objs.size
 funs:s.heap.FunFrames base outer
 frf:∀b∈F7 outer,H b=none
 hok:HOk P w H s.heap
 bare:pO s.gens
def CE(outer:List Env)(P:eS)(w:fI)(H:Hp)(s:dP)(Q:VK)(u:dG)(s':dP):Prop:=
 ∃v H',s'.os=s.os/\pO s'.gens/\Un (F7 outer) [] H H' s.heap s'.heap/\HOk P w H' s'.heap/\RelV v u/\Q v H'
def CR(CX:BD)(outer:List Env)(P:eS)(w:fI)(H:Hp)(s:dP)(Q:VK)(E:XK)(r:Result)(s':dP):Prop:=
 match r with
 |.ok (.ret u)=>CE outer P w H s Q u s'
 |.ok _=>False
 |.error e=>CX outer H s E e s'
structure FnOk(P:eS)(w:fI)(K:eB)(mg:Str->Option dG)(base:Heap)(CX:BD)(k:Nat)(f:Addr)(fd:lS)(ps:List Str)(sp:Sp):Prop where
 len:∀vs H Q E,sp vs H Q E->vs.length=ps.length
 run:∀(A:fV)(outer:List Env)(s:dP)(H:Hp)(args:Args)(us:List dG)(vs:List V)(Q:VK)(E:XK),Room k A->Env0 P w K mg base A outer s H->BindsTo s fd args (ps.zip us)->Vals vs us->sp vs H Q E->
  lM (eJ P w) A (.call (.ref f) args) (CR CX outer P w H s Q E) s
def FnOk.imp{P:eS}{w:fI}{K:eB}{mg:Str->Option dG}{base:Heap}{CX:BD}{k:Nat}{f:Addr}{fd:lS}{ps:List Str}{sp sp':Sp}(F:FnOk P w K mg base CX k f fd ps sp)
  (h:∀vs H Q E,sp' vs H Q E->sp vs H Q E):FnOk P w K mg base CX k f fd ps sp':=
 ⟨λvs H Q E q=>F.len vs H Q E (h _ _ _ _ q),λA outer s H args us vs Q E hr he hb hv hs=>F.run A outer s H args us vs Q E hr he hb hv (h _ _ _ _ hs)⟩
section
variable{X:Cx}{pins:List (Addr×Obj)}{U:St}{H:Hp}{s s':dP}
def Inv.env0(I:Inv X pins U H s):Env0 X.prog X.w X.K X.mg X.base X.A X.stack s H:=
 ⟨I.ok.frames,I.ok.mod,I.bs,fF I.ok.bsz I.sz,I.stack,I.stkFree,I.hok,I.bare⟩
def Inv.after(I:Inv X pins U H s)(h:CE X.stack X.prog X.w H s Q u s'):EP X pins U Q u s':=by
 obtain⟨v,H',os,bare,un,hok,r,q⟩:=h;obtain⟨hh,g,d,t,os'⟩:=s';obtain rfl:os'=s.os:=os;exact⟨v,H',I.call (h':=hh) (g':=g) (d':=d) (t':=t) (ch:=[]) un hok bare (λb z=>absurd z (by simp)),r,q⟩
end
def JE(sp:Sp)(dvs:List V)(E:XK)(t:TA):TE:=λU H Q=>t U H λvs H1=>sp (vs++dvs) H1 Q E
def Binds(K:eB)(fd:lS)(ps:List Str)(ds:List dG):Prop:=
 ∀(s:dP)(us:List dG),K.In s.heap->(us++ds).length=ps.length->BindsTo s fd ⟨us,[]⟩ (ps.zip (us++ds))
def Binds.all{K:eB}{fd:lS}{ps:List Str}(h:∀us:List dG,us.length=ps.length->bindArgs fd ⟨us,[]⟩=pure (ps.zip us)):Binds K fd ps []:=λs us _ hl=>by
 rw[gZ]at hl⊢;exact .of_eq (h us hl)
def pj(CX:BD)(X:Cx)(E:XK):Prop:=∀(pins:List (Addr×Obj))(U:St)(H:Hp)(s:dP)(e:dG)(s':dP),Inv X pins U H s->CX X.stack H s E e s'->X.xe e s'
section
variable{X:Cx}{CX:BD}{k:Nat}{f C:Addr}{fd:lS}{ps:List Str}{sp:Sp}{dvs:List V}{ds:List dG}{E:XK}{x m:Str}{p pos apos:Pos}{e o:Expr}{es:List Expr}{ta:TE}{t:TA}
def P9(F:FnOk X.prog X.w X.K X.mg X.base CX k f fd ps sp)(hr:Room k X.A)(hb:Binds X.K fd ps ds)(hd:Vals dvs ds)(hx:pj CX X E)
  (I:Inv X pins U H s)(r:Vals vs us)(h:sp (vs++dvs) H Q E):dX (eJ X.prog X.w) X.A (call (.ref f) us) (EP X pins U Q) X.xe s:=by
 have r2:Vals (vs++dvs) (us++ds):=r.append hd;have hl:(us++ds).length=ps.length:=by rw[<-r2.length];exact F.len _ _ _ _ h
 refine wpAny_call (nX (F.run X.A X.stack s H ⟨us,[]⟩ (us++ds) (vs++dvs) Q E hr I.env0 (hb s us I.kIn hl) r2 h) λr s' hq=>?_);cases r with
 |error e=>exact hx pins U H s e s' I hq
 |ok fl=>
  cases fl with
  |ret u=>exact I.after hq
  |next=>exact lN hq
  |brk=>exact lN hq
  |cont=>exact lN hq
def FQ(F:FnOk X.prog X.w X.K X.mg X.base CX k f fd ps sp)(hr:Room k X.A)(hg:Gl X x)(hm:X.mg x=some (.ref f))(hk:gO X.K (.ref f)=true)(hb:Binds X.K fd ps ds)(hd:Vals dvs ds)(hx:pj CX X E)
  (ha:PA X (e::es) t)(hdb:(x==("__debug__":Str))=false:=by decide)(he:eE (e::es) X.env=(false,eval e X.env)::eE es X.env:=by rfl)(hpl:(iY pos (eE es X.env)).any (·.1)=false:=by rfl):
  PE X (.Call (.Name x p) (e::es) [] pos) (JE sp dvs E t):=by
 intro pins s U H Q I h;refine kE (Cp I hg hm ?_ hdb);refine PySem.W.callWith_K (h₀:=X.base) I.ok.mod.kin hk (iz (ha pos pins s U H _ I h) λus s1 ⟨vs,H1,I1,r,q⟩=>⟨I1.kIn,?_⟩) he hpl;exact P9 F hr hb hd hx I1 r q
def Y8(F:FnOk X.prog X.w X.K X.mg X.base CX k f fd ps sp)(hr:Room k X.A)(hg:Gl X x)(hm:X.mg x=some (.ref f))(hk:gO X.K (.ref f)=true)(hb:Binds X.K fd ps ds)(hd:Vals dvs ds)(hx:pj CX X E)
  (hdb:(x==("__debug__":Str))=false:=by decide):PE X (.Call (.Name x p) [] [] pos) (JE sp dvs E PX):=by
 intro pins s U H Q I h;refine kE (Cp I hg hm ?_ hdb);exact PySem.W.callWith_K0 I.kIn hk (P9 (us:=[]) F hr hb hd hx I .nil h)
structure Mk(K:eB)(C f:Addr):Prop where
 makes:PySem.W.makesIn K C=true
 init:PySem.W.findIn K (.ref C) "__init__"=some (some (.ref f))
 fn:PySem.W.isFn K (.ref f)=true
 kp:gO K (.ref C)=true
end
structure FnScope(N P:List Str)(sc:jW):Prop where
 kind:sc.kind=.function
 co:sc.isCoroutine=false
 gen:sc.isGenerator=false
 nd:N.Nodup
 pre:N.take P.length=P
 par:∀x∈P,sc.names.lookup x=some .local\/sc.names.lookup x=some .cell
 nofree:∀y∈sc.names,y.2≠.free
theorem Gq{kindOf:Str->Option lE}{x:Str}:∀{binds:List (Str×dG)}{m:Str->Option dG},(∀v,(x,v)∉binds)->bindL kindOf binds m x=m x
 |[],_,_=>rfl
 |(n,v)::r,m,h=>by
  unfold bindL;rw[Gq λw hw=>h w (dF _ hw)];split
  ·have:x≠n:=by rintro rfl;exact h v dH
   simp[this]
  ·rfl
theorem Gn{kindOf:Str->Option lE}{x:Str}:∀{binds:List (Str×dG)}{m:Str->Option dG},(∀v,(x,v)∉binds)->bindC kindOf binds m x=m x
 |[],_,_=>rfl
 |(n,v)::r,m,h=>by
  unfold bindC;rw[Gn λw hw=>h w (dF _ hw)];split
  ·rfl
  ·have:x≠n:=by rintro rfl;exact h v dH
   simp[this]
theorem Gp{kindOf:Str->Option lE}{x:Str}{v:dG}:∀{P:List Str}{vs:List dG}{i:Nat}{m:Str->Option dG},P.Nodup->P[i]?=some x->vs[i]?=some v->kindOf x=some .local->
  bindL kindOf (P.zip vs) m x=some v
 |[],_,_,_,_,h,_,_=>by simp at h
 |_::_,[],_,_,_,_,h,_=>by simp at h
 |p::P,w::vs,0,m,nd,h1,h2,hk=>by
  simp at h1 h2;subst h1;subst h2;show bindL kindOf ((p,w)::P.zip vs) m p=_;unfold bindL;rw[Gq λv hv=>(List.nodup_cons.mp nd).1 (rQ hv).1,dJ hk];simp
 |p::P,w::vs,i+1,m,nd,h1,h2,hk=>by
  show bindL kindOf ((p,w)::P.zip vs) m x=_;unfold bindL;exact Gp (i:=i) (List.nodup_cons.mp nd).2 (by simpa using h1) (by simpa using h2) hk
theorem Gm{kindOf:Str->Option lE}{x:Str}{v:dG}:∀{P:List Str}{vs:List dG}{i:Nat}{m:Str->Option dG},P.Nodup->P[i]?=some x->vs[i]?=some v->kindOf x≠some .local->
  bindC kindOf (P.zip vs) m x=some v
 |[],_,_,_,_,h,_,_=>by simp at h
 |_::_,[],_,_,_,_,h,_=>by simp at h
 |p::P,w::vs,0,m,nd,h1,h2,hk=>by
  simp at h1 h2;subst h1;subst h2;show bindC kindOf ((p,w)::P.zip vs) m p=_;unfold bindC;rw[Gn λv hv=>(List.nodup_cons.mp nd).1 (rQ hv).1,dM hk];simp
 |p::P,w::vs,i+1,m,nd,h1,h2,hk=>by
  show bindC kindOf ((p,w)::P.zip vs) m x=_;unfold bindC;exact Gm (i:=i) (List.nodup_cons.mp nd).2 (by simpa using h1) (by simpa using h2) hk
def rf(N:List Str)(vs:List V):St:=vs.map some++eA (N.length - vs.length) none
noncomputable def Ca(CX:BD)(P:eS)(w:fI)(K:eB)(mg:Str->Option dG)(base:Heap)(N:List Str)(qual:Str)(scope:jW)(f:Addr)(cd:dG)(A:fV)(outer:List Env)(s:dP)(H:Hp)(E:XK):Cx where
 prog:=P
 w:=w
 K:=K
 mg:=mg
 base:=base
 A:=A.deeper (qT qual scope s.heap.objs.size f cd)
 N:=N
 s₀:=s
 H₀:=H
 env:=qT qual scope s.heap.objs.size f cd
 outer:=outer
 stack:=qT qual scope s.heap.objs.size f cd::outer
 ex:=[]
 calm:=true
 fn:=λx=>decide (x∉vm)
 pn:=[]
 xe:=λe s'=>dX (eJ P w) (A.deeper (qT qual scope s.heap.objs.size f cd)) (leaving (qT qual scope s.heap.objs.size f cd) e) (λ_ s''=>CX outer H s E e s'') (λe' s''=>CX outer H s E e' s'') s'
def K0{sc:jW}(h:sc.names.lookup x=some .cell):∃c,(sH n sc.names []).lookup x=some c:=by
 have q:=PySem.W.cellsFrom_some sc.names n [] (.inl h);exact Option.isSome_iff_exists.mp q
def Uq{CX:BD}{P:eS}{w:fI}{K:eB}{mg:Str->Option dG}{base:Heap}{N ps:List Str}{qual:Str}{scope:jW}{f:Addr}{cd:dG}{A:fV}{outer:List Env}{s s1:dP}{H:Hp}{E:XK}{us:List dG}{vs:List V}
  (S:FnScope N ps scope)(hd:A.handled=none)(e0:Env0 P w K mg base A outer s H)(hl:vs.length=ps.length)(r:Vals vs us)
  (x:InCallC s s.heap.objs.size (bindL (qT qual scope s.heap.objs.size f cd).kindOf (ps.zip us) λ_=>none) (sH (s.heap.objs.size+1) scope.names []) (bindC (qT qual scope s.heap.objs.size f cd).kindOf (ps.zip us) λ_=>none) s1):
  Inv (Ca CX P w K mg base N qual scope f cd A outer s H E) [] (rf N vs) H s1:=by
 have hpl:ps.length<=N.length:=by have:=congrArg kS S.pre;rw[hV]at this;lia
 obtain⟨h1,tk,rfl,hk⟩:=x.done;have noA:∀b:Addr,b∉(Ca CX P w K mg base N qual scope f cd A outer s H E).ex:=λb z=>absurd (show b∈([]:List Addr)from z) (by simp);refine⟨⟨e0.mod,S.kind,rfl,rfl,dR _,λy z c h1 h2=>?_,λy hy=>?_,λy c _ h=>?_,λ_=>hd,Around.frames_deeper e0.frames,.inr ⟨rfl,rfl⟩,λb z=>absurd z (noA b),e0.bs,e0.bsz,λb _ _=>noA b,λb z=>absurd z (noA b),e0.funs,e0.frf⟩,
  rfl,e0.bare,Un.kept hk,⟨_,x.toInCall.ns,λi y v h1 h2 h3=>?_⟩,λy c h=>⟨_,x.cell y c h⟩,e0.hok.fresh (dR _),λy c h=>?_,λp hp=>absurd (show p∈([]:List (Addr×Obj))from hp) (by simp),e0.hok.kept hk,?_⟩
 ·exact name_of_addr x.apart (jQ h1) (jQ h2)
 ·have hy:scope.names.lookup y=some .cell\/scope.names.lookup y=some .free:=hy;rcases hy with hy|hy
  ·exact K0 hy
  ·exact absurd rfl (S.nofree _ (jQ hy))
 ·exact Nat.le_of_lt (x.above y c (jQ h))
 ·have hi:i<vs.length:=by
   unfold rf at h2
   by_cases hi:i<vs.length
   ·exact hi
   ·rw[gE (by simpa using hi)]at h2;rw[List.getElem?_replicate]at h2;split at h2<;>cases h2
  have ha:vs[i]?=some v:=by
   unfold rf at h2;rw[fY (by simpa using hi),eP]at h2;cases e:vs[i]? with
   |none=>rw[e]at h2;cases h2
   |some a=>rw[e]at h2;cases h2;rfl
  obtain⟨u,hu,rv⟩:=r.get ha;have hp:ps[i]?=some y:=by
   rw[<-S.pre,List.getElem?_take_of_lt (by lia)];exact h1
  have ndP:ps.Nodup:=by rw[<-S.pre];exact S.nd.sublist (List.take_sublist _ _)
  refine⟨u,rv,?_⟩;rcases S.par y (fB hp)with k|k
  ·exact .inl ⟨k,Gp ndP hp hu k⟩
  ·obtain⟨c,e⟩:=K0 (n:=s.heap.objs.size+1) k;refine .inr ⟨.inl k,c,e,?_⟩;have q:=x.cell y c e;rw[Gm ndP hp hu (by show scope.names.lookup y≠_;rw[k];decide)]at q;exact q
 ·exact .inl (e0.hok.fresh (Nat.le_of_lt (x.above y c (jQ h))))
 ·unfold rf;show _=N.length;rw[dU,dD,gR]
  lia
def RE{CX:BD}{P:eS}{w:fI}{K:eB}{mg:Str->Option dG}{base:Heap}{k:Nat}{f:Addr}{name qual:Str}{params:Arguments}{body:List Stmt}{scope:jW}{dV kV doc pm cdv ct oc:dG}{an od:Option Addr}
  {osl:Array (Option dG)} {N ps:List Str} {sp:Sp} (lk:K.lookup f=some ⟨oc,od,.func (iU name qual params body scope dV kV doc pm an cdv ct),osl⟩) (hcd:lF K cdv qual=true) (S:FnScope N ps scope)
  (len:∀vs H Q E,sp vs H Q E->vs.length=ps.length)
  (hbody:∀(A:fV)(outer:List Env)(s:dP)(H:Hp)(vs:List V)(Q:VK)(E:XK),Room k (A.deeper (qT qual scope s.heap.objs.size f cdv))->sp vs H Q E->
   ∃t,PSs (Ca CX P w K mg base N qual scope f cdv A outer s H E) body t/\t {nx:=λ_ H'=>Q .non H',rt:=Q} (rf N vs) H):
  FnOk P w K mg base CX (k+1) f (iU name qual params body scope dV kV doc pm an cdv ct) ps sp:=by
 refine⟨len,λA outer s H args us vs Q E hr e0 hb r hsp=>?_⟩;have hl:=len _ _ _ _ hsp;have KX:K.In s.heap:=e0.mod.kin.keeps λb o e=>(e0.bs b o e).1;have lim:s.heap.NoLimit:=e0.mod.nolimit.keeps λb o e=>(e0.bs b o e).1;have hkind:∀y∈ps.zip us,scope.names.lookup y.1=some .local\/(scope.names.lookup y.1=some .cell/\((sH (s.heap.objs.size+1) scope.names []).lookup y.1).isSome=true):=λ⟨n,v⟩ hy=>by
  rcases S.par n (rQ hy).1 with q|q
  ·exact .inl q
  ·exact .inr ⟨q,PySem.W.cellsFrom_some _ _ _ (.inl q)⟩
 refine codeAny_call_function hr.depth (KX _ _ lk) rfl S.co S.gen rfl (PySem.W.codeRec_of KX hcd) (hb _ _ _ _ ?_);refine wpAny_newFunctionEnv_cells S.kind hkind λenv he s1 x=>?_;subst he;refine⟨lim.keeps x.toInCall.keep,codeAny_func ?_⟩;obtain⟨t,ht,hq⟩:=hbody A outer s H vs Q E (hr.deeper _) hsp;have I:Inv (Ca CX P w K mg base N qual scope f cdv A outer s H E) [] (rf N vs) H s1:=Uq S hr.hd e0 hl r x;refine fL (ht [] s1 (rf N vs) H _ I hq) (λfl s' hs=>?_) λe s' hs=>hs;have fin:∀{σ':St}{H':Hp}{v:V}{u:dG},Inv (Ca CX P w K mg base N qual scope f cdv A outer s H E) [] σ' H' s'->RelV v u->Q v H'->CE outer P w H s Q u s':=
  λ{σ' H' v u} J rv q=>⟨v,H',J.os,J.bare,J.base,J.hok,rv,q⟩
 cases fl with
 |ret u=>
  obtain⟨v,σ',H',J,rv,q⟩:=hs;exact fin J rv q
 |next=>
  obtain⟨σ',H',J,q⟩:=hs;exact fin (v:=V.non) (u:=fC) J rfl q
 |brk=>
  obtain⟨_,_,_,q⟩:=hs;exact lN q
 |cont=>
  obtain⟨_,_,_,q⟩:=hs;exact lN q
end L2
namespace L2
open PySem PySem.Spec PyProof.Rows
section
variable{X:Cx}{x:Str}{p pos:Pos}{e:Expr}{es:List Expr}{t:TA}{id T:String}{r:List V->Hp->VK->Prop}
def WU(r:List V->Hp->VK->Prop)(t:TA):TE:=λU H Q=>t U H λvs H1=>r vs H1 Q
def nj(hc:CallR X (.builtin id) r)(hg:Gl X x)(hm:X.mg x=none)(hv:jR x=some (.builtin id))(ha:PA X (e::es) t)(hn:x≠"__name__":=by decide)(hdb:(x==("__debug__":Str))=false:=by decide)
  (he:eE (e::es) X.env=(false,eval e X.env)::eE es X.env:=by rfl)(hpl:(iY pos (eE es X.env)).any (·.1)=false:=by rfl):PE X (.Call (.Name x p) (e::es) [] pos) (WU r t):=by
 intro pins s U H Q I h;refine kE (xt I hg hm hv ?_ hn hdb);exact PyProof.Rows.callWith_builtin1 (iz (ha pos pins s U H _ I h) λus s1 ⟨vs,H1,I1,r1,q1⟩=>hc pins s1 U H1 vs us Q I1 r1 q1) he hpl
def ml(hc:CallR X (.type T) r)(hg:Gl X x)(hm:X.mg x=none)(hv:jR x=some (.type T))(ha:PA X (e::es) t)(hn:x≠"__name__":=by decide)(hdb:(x==("__debug__":Str))=false:=by decide)
  (he:eE (e::es) X.env=(false,eval e X.env)::eE es X.env:=by rfl)(hpl:(iY pos (eE es X.env)).any (·.1)=false:=by rfl):PE X (.Call (.Name x p) (e::es) [] pos) (WU r t):=by
 intro pins s U H Q I h;refine kE (xt I hg hm hv ?_ hn hdb);exact jT (iz (ha pos pins s U H _ I h) λus s1 ⟨vs,H1,I1,r1,q1⟩=>hc pins s1 U H1 vs us Q I1 r1 q1) he hpl
end
end L2
namespace HT
open PySem PyProof.Rows
section
variable{prog:eS}{w:fI}{A:fV}{E:dG->dP->Prop}{s:dP}
def CP{vs ws:List dG}(ht:nW s.heap t vs.toArray)(hb:nW s.heap b ws.toArray)(hv:vs≠[])
  (h1:ws=[]->Q (.ref t) s)(h2:ws≠[]->Q (.ref s.heap.objs.size) {s with heap:=s.heap.push {cls:=.type "tuple",data:=.seq (vs++ws).toArray}})
  (hsz:vs.length+ws.length<=dN):dX (eJ prog w) A (kR .Add (.ref t) (.ref b)) Q E s:=by
 obtain⟨⟨cls,dd,data,sl⟩,ho,hc,n,hd⟩:=id ht;obtain⟨⟨cls2,dd2,data2,sl2⟩,ho2,hc2,n2,hd2⟩:=id hb;simp only at hc hd hc2 hd2;subst hc hd hc2 hd2;have e:vs.toArray++ws.toArray=(vs++ws).toArray:=by simp
 by_cases hw:ws=[]
 ·exact rL ⟨_,ho,rfl⟩ ⟨_,ho2,rfl⟩ qZ seq_tuple_add nY nP (nB _ _)
   (tuple_addW1 t b vs.toArray ws.toArray n n2 dd dd2 sl sl2 (by simpa using hv) (by simp[hw])) ⟨ho,ho2,h1 hw⟩
 ·refine rL ⟨_,ho,rfl⟩ ⟨_,ho2,rfl⟩ qZ seq_tuple_add nY nP (nB _ _)
   (tuple_addW2 t b vs.toArray ws.toArray n n2 dd dd2 sl sl2 (by simpa using hv) (by simpa using hw) (by rw[eF,eF];exact hsz)) ⟨ho,ho2,?_⟩
  rw[e];exact h2 hw
def jl(n d:Nat):Option Int->Nat
 |none=>d
 |some v=>if v<0 then(v+(n:Int)).toNat else min v.toNat n
def Nd(n d:Nat):jl n d none=d:=rfl
def Td(n d k:Nat):jl n d (some (k:Int))=min k n:=by
 show(if(k:Int)<0 then((k:Int)+(n:Int)).toNat else min (k:Int).toNat n)=min k n;rw[dM (by lia),iN]
def OM(n d:Nat)(hd:d<=n)(o:Option Int):jl n d o<=n:=by
 cases o with
 |none=>exact hd
 |some v=>
  show(if v<0 then(v+(n:Int)).toNat else min v.toNat n)<=n
  by_cases hv:v<0
  ·rw[dJ hv];lia
  ·rw[dM hv];exact Nat.min_le_right _ _
def Ri(v:Int)(n d:Nat):(if v<0 then max (v+(n:Int)) 0 else min v (n:Int))=((jl n d (some v):Nat):Int):=by
 show(if v<0 then max (v+(n:Int)) 0 else min v (n:Int))=(((if v<0 then(v+(n:Int)).toNat else min v.toNat n):Nat):Int)
 by_cases hv:v<0
 ·simp only[dJ hv];lia
 ·simp only[dM hv];lia
def Oa(lo hi:Option Int)(n:Nat):mS lo hi 1 (n:Int)=(((jl n 0 lo:Nat):Int),((jl n n hi:Nat):Int)):=by
 have h1:¬((1:Int)<0):=by lia
 unfold mS;simp only[h1,if_false];refine Prod.ext ?_ ?_
 ·cases lo with
  |none=>rfl
  |some v=>exact Ri v n 0
 ·cases hi with
  |none=>rfl
  |some v=>exact Ri v n n
def P2(i j:Nat):kI (i:Int) (j:Int) 1=j - i:=by
 unfold kI;have h1:(1:Int)>0:=by lia
 simp only[h1,if_true,Int.ediv_one];split<;>lia
def Ff(p:rM v o)(h:Q o s):dX (eJ prog w) A (Builtin.Slice.slicePartIndex v) Q E s:=by
 cases p with
 |none=>exact slicePart_none h
 |int i t=>exact slicePart_int h
def q9{sl:Addr}{vl vu:dG}{lo hi:Option Int}{n:Nat}{Q:Int×Int×Nat->dP->Prop}(hs:s.heap.IsSliceOf sl vl vu .none)(pl:rM vl lo)(pu:rM vu hi)
  (h:Q (((jl n 0 lo:Nat):Int),1,jl n n hi - jl n 0 lo) s):dX (eJ prog w) A (Builtin.Slice.sliceApplied (.ref sl) (pure (n:Int))) Q E s:=by
 obtain⟨os,hos,hcs,hds⟩:=id hs;unfold Builtin.Slice.sliceApplied Builtin.Slice.sliceFields;refine dA (dA (gS hos hds (x:=vl) rfl (dA (gS hos hds (x:=vu) rfl (dA (gS hos hds (x:=.none) rfl (dB ?_)))))));refine dA (slicePart_none ?_);show dX _ _ (if((1:Int)==0)=true then _ else _) _ _ s;rw[dM (by decide)];refine dA (Ff pl (dA (Ff pu (dA (dB ?_)))));show dX _ _ (match mS lo hi 1 (n:Int)with|(lo,hi)=>pure (lo,(1:Int),kI lo hi 1)) _ _ s;rw[Oa lo hi n];show dX _ _ (pure (((jl n 0 lo:Nat):Int),(1:Int),kI ((jl n 0 lo:Nat):Int) ((jl n n hi:Nat):Int) 1)) _ _ s;rw[P2];exact dB h
def Zh(xs:Array dG)(i k:Nat):((eY k).filterMap λ(m:Nat)=>xs[((i:Int)+(m:Int) * 1).toNat]?).toArray=((xs.toList.drop i).take k).toArray:=by
 have e:(λ(m:Nat)=>xs[((i:Int)+(m:Int) * 1).toNat]?)=λm=>xs[i+m]?:=by
  funext m
  have:((i:Int)+(m:Int) * 1).toNat=i+m:=by lia
  rw[this]
 rw[e];have:=pick_run xs i k;rw[List.filterMap_map]at this;have e2:((λx=>xs[x]?) ∘ λx=>i+x)=λm=>xs[i+m]?:=rfl;rw[e2]at this;rw[this]
def yr{t sl:Addr}{items:Array dG}{vl vu:dG}{lo hi:Option Int}{Q:dG->dP->Prop}(ht:nW s.heap t items)(hs:s.heap.IsSliceOf sl vl vu .none)(pl:rM vl lo)(pu:rM vu hi)
  (hw:¬(jl items.size 0 lo=0/\jl items.size items.size hi=items.size))
  (h:Q (.ref s.heap.objs.size) {s with heap:=s.heap.push {cls:=.type "tuple",data:=.seq ((items.toList.drop (jl items.size 0 lo)).take (jl items.size items.size hi - jl items.size 0 lo)).toArray}})
  (hsz:items.size<=dN):dX (eJ prog w) A (rN (.ref t) (.ref sl)) Q E s:=by
 have htake:sizeOk (.seq ((items.toList.drop (jl items.size 0 lo)).take (jl items.size items.size hi - jl items.size 0 lo)).toArray):=by
  show((items.toList.drop (jl items.size 0 lo)).take (jl items.size items.size hi - jl items.size 0 lo)).toArray.size<=dN;rw[eF,hV,iI,eC]
  lia
 have hj:jl items.size items.size hi<=items.size:=OM _ _ (dR _) hi;obtain⟨os,hos,hcs,hds⟩:=id hs;have hTs:s.TypeIs (.ref sl) "slice":=⟨os,hos,hcs⟩;unfold rN
 try with_reducible refine gW ?_
 first|refine dA (dB ?_)|skip
 refine dA (wpAny_sequenceKey ht.typeIs (by decide) ?_);refine dA (fW (name:=iJ "__getitem__") ht.typeIs jF
  (fP jF ht.typeIs entry_tuple_getitem ?_ (args_tuple_getitem _ _)))
 show dX _ _ (mC (.ref t)>>=_) _ _ s;refine dA (tupleItemsOf_ ht ?_);refine dA (lO hTs ?_);rw[dJ (by decide)];refine dA (q9 hs pl pu ?_);have hno:¬((((jl items.size 0 lo:Nat):Int)==0 && (1:Int)==1 && (jl items.size items.size hi - jl items.size 0 lo)==items.size)=true):=by
  intro q;rw[dQ,dQ]at q;have q1:((jl items.size 0 lo:Nat):Int)=0:=eq_of_beq q.1.1;have q2:jl items.size items.size hi - jl items.size 0 lo=items.size:=eq_of_beq q.2;exact hw ⟨by lia,by lia⟩
 show dX _ _ (if(((jl items.size 0 lo:Nat):Int)==0 && (1:Int)==1 && (jl items.size items.size hi - jl items.size 0 lo)==items.size)=true then _ else _) _ _ s;rw[dM hno,Zh]
 first
  |exact dA (m:=lA _) (fO (dB ⟨_,rfl,dB h⟩) htake)
  |exact dA (m:=lA _) (fO (dA (dB (dB ⟨_,rfl,dB h⟩))) htake)
  |exact dA (dA (m:=lA _) (fO (dB (dB ⟨_,rfl,dB h⟩)) htake))
  |exact dA (dA (m:=lA _) (fO (dB ⟨_,rfl,dB h⟩) htake))
end
end HT
namespace L2
open PySem PySem.Spec PyProof.Rows
abbrev TO:=St->Hp->(Option Int->Hp->Prop)->Prop
def PO(X:Cx)(e:Option Expr)(t:TO):Prop:=
 ∀(pins:List (Addr×Obj))(s:dP)(U:St)(H:Hp)(Q:Option Int->Hp->Prop),Inv X pins U H s->t U H Q->
  dX (eJ X.prog X.w) X.A (evalPart e X.env) (λu s'=>∃o H',Inv X pins U H' s'/\rM u o/\Q o H') X.xe s
def HG:TO:=λ_ H Q=>Q none H
def UA(t:TE):TO:=λU H Q=>t U H λx H1=>∃i,x=.int i/\Q (some i) H1
section
variable{X:Cx}{e:Expr}{te:TE}{lo hi:Option Expr}{tl th:TO}{pos p2:Pos}
def FH:PO X none HG:=by
 intro pins s U H Q I h;rw[evalPart_none];exact dB ⟨none,H,I,.none,h⟩
def FG(h:PE X e te):PO X (some e) (UA te):=by
 intro pins s U H Q I hw;rw[evalPart_some];refine iz (h pins s U H _ I hw) λu s1 ⟨x,H1,I1,r1,q1⟩=>?_;obtain⟨i,rfl,q⟩:=q1;obtain⟨t,rfl⟩:=r1;exact⟨some i,H1,I1,.int i t,q⟩
def SlR(X:Cx)(r:V->Option Int->Option Int->Hp->VK->Prop):Prop:=
 ∀(pins:List (Addr×Obj))(s:dP)(U:St)(H:Hp)(x:V)(v vl vu:dG)(lo hi:Option Int)(sl:Addr)(Q:VK),Inv X pins U H s->RelV x v->s.heap.IsSliceOf sl vl vu .none->rM vl lo->rM vu hi->r x lo hi H Q->
  ∃T id,typeLookup (.type T) "__getitem__"=pure (some (.builtin id))/\s.TypeIs v T/\dX (eJ X.prog X.w) X.A (rN v (.ref sl)) (EP X pins U Q) X.xe s
def SlR.or(h:SlR X r)(h':SlR X r'):SlR X (λx lo hi H Q=>r x lo hi H Q\/r' x lo hi H Q):=by
 intro pins s U H x v vl vu lo hi sl Q I rx hs pl pu q;rcases q with q|q
 ·exact h pins s U H x v vl vu lo hi sl Q I rx hs pl pu q
 ·exact h' pins s U H x v vl vu lo hi sl Q I rx hs pl pu q
def cM(r:V->Option Int->Option Int->Hp->VK->Prop)(te:TE)(tl th:TO):TE:=λU H Q=>te U H λx H1=>tl U H1 λl H2=>th U H2 λu H3=>r x l u H3 Q
def Zd(hr:SlR X r)(he:PE X e te)(hl:PO X lo tl)(hu:PO X hi th):PE X (.Subscript e (.Slice lo hi none p2) pos) (cM r te tl th):=by
 intro pins s U H Q I h;refine Subscript_ (iz (he pins s U H _ I h) λv s1 ⟨x,H1,I1,r1,q1⟩=>?_);refine wpAny_Slice (iz (hl pins s1 U H1 _ I1 q1) λvl s2 ⟨l,H2,I2,pl,q2⟩=>iz (hu pins s2 U H2 _ I2 q2) λvu s3 ⟨u,H3,I3,pu,q3⟩=>?_);rw[evalPart_none];refine dB ?_;have I4:Inv X pins U H3 {s3 with heap:=s3.heap.push {cls:=.type "slice",data:=.fields #[vl,vu,.none]}}:=I3.kept (t':=s3.toks) λb ob q=>dE _ q;obtain⟨T,id,hT,ht,hg⟩:=hr pins {s3 with heap:=s3.heap.push {cls:=.type "slice",data:=.fields #[vl,vu,.none]}} U H3 x v vl vu l u s3.heap.objs.size Q I4 r1 (Heap.IsSliceOf.new ..) pl pu q3;show dX (eJ X.prog X.w) X.A (subscriptTail e (.Slice lo hi none p2) v (.ref s3.heap.objs.size)) (EP X pins U Q) X.xe {s3 with heap:=s3.heap.push {cls:=.type "slice",data:=.fields #[vl,vu,.none]}};exact tail_any (ops:=[.ref s3.heap.objs.size,v]) ht hT hg (by with_unfolding_all rfl)
def B9(xs:List V)(lo hi:Option Int):List V:=(xs.drop (HT.jl xs.length 0 lo)).take (HT.jl xs.length xs.length hi - HT.jl xs.length 0 lo)
def Be(xs:List V)(lo hi:Option Int):(B9 xs lo hi).length<=xs.length:=by
 unfold B9;rw[hV,iI]
 lia
def ZG(K:eB):V->Option Int->Option Int->Hp->VK->Prop:=λx lo hi H Q=>∃a xs,x=.ref a/\SqT K H a xs/\
 ¬(HT.jl xs.length 0 lo=0/\HT.jl xs.length xs.length hi=xs.length)/\∀p,H p=none->Q (.ref p) (upd H p (.tup (B9 xs lo hi)))
def OC:SlR X (ZG X.K):=by
 intro pins s U H x v vl vu lo hi sl Q I rx hs pl pu h;obtain⟨a,xs,rfl,hx,hw,q⟩:=h;cases rx;obtain⟨its,r,ht,hz⟩:=I.tuple hx;have hlen:its.toArray.size=xs.length:=by rw[eF];exact r.length.symm
 refine⟨"tuple",_,PyProof.Rows.slot_tuple_getitem.lookup,ht.typeIs,?_⟩;refine HT.yr ht hs pl pu (by rw[hlen];exact hw) ?_ (by rw[hlen];exact hz);rw[hlen];refine⟨.ref s.heap.objs.size,_,I.laid (t':=s.toks) (o:=.tup (B9 xs lo hi)) (λb ob q=>dE _ q) (dR _) ?_,rfl,q _ (I.hok.fresh (dR _))⟩;exact⟨fF (Be xs lo hi) hz,_,(r.drop (HT.jl xs.length 0 lo)).take (HT.jl xs.length xs.length hi - HT.jl xs.length 0 lo),IsTup.new _ _⟩
def UW(K:eB):R2:=λx y H Q=>∃a b xs ys,x=.ref a/\y=.ref b/\SqT K H a xs/\SqT K H b ys/\xs≠[]/\xs.length+ys.length<=dN/\
 (ys=[]->Q (.ref a) H)/\(ys≠[]->∀p,H p=none->Q (.ref p) (upd H p (.tup (xs++ys))))
def Vals.nil_iff(r:Vals xs us):us=[]↔xs=[]:=by
 cases r with
 |nil=>simp
 |cons _ _=>simp
def EC:OpR X (kR .Add) (UW X.K):=by
 intro pins s U H x y v u Q I rx ry h;obtain⟨a,b,xs,ys,rfl,rfl,ha,hb,hx,hz,q1,q2⟩:=h;cases rx;cases ry;obtain⟨its,r1,p1,_⟩:=I.tuple ha;obtain⟨its2,r2,p2,_⟩:=I.tuple hb;refine HT.CP p1 p2 (λz=>hx (r1.nil_iff.mp z)) (λz=>⟨.ref a,H,I,rfl,q1 (r2.nil_iff.mp z)⟩) (λz=>?_) (by rw[<-r1.length,<-r2.length];exact hz);refine⟨.ref s.heap.objs.size,_,I.laid (t':=s.toks) (o:=.tup (xs++ys)) (λb ob q=>dE _ q) (dR _) ?_,rfl,q2 (λw=>z (r2.nil_iff.mpr w)) _ (I.hok.fresh (dR _))⟩;exact⟨by rw[dU];exact hz,_,r1.append r2,IsTup.new _ _⟩
end
end L2
namespace L2
open PySem PySem.Spec PyProof.Rows
def LL(n:Nat)(i:Int):Option Nat:=if 0<=i then(if i<n then some i.toNat else none)else if -(n:Int)<=i then some (i+n).toNat else none
def atI(xs:List α)(i:Int):Option α:=(LL xs.length i).bind λj=>xs[j]?
def DO(h:LL n i=some j):seqIndex? i n=some j/\j<n/\-(n:Int)<=i/\i<n:=by
 unfold LL at h
 by_cases h0:0<=i
 ·rw[dJ h0]at h
  by_cases h1:i<n
  ·rw[dJ h1]at h;have e:i.toNat=j:=eI h;exact⟨by rw[seqIndex_of h0 h1,e],by lia,by lia,h1⟩
  ·rw[dM h1]at h;cases h
 ·rw[dM h0]at h
  by_cases h1:-(n:Int)<=i
  ·rw[dJ h1]at h;have e:(i+n).toNat=j:=eI h;exact⟨by rw[seqIndex_neg (by lia) h1,e],by lia,h1,by lia⟩
  ·rw[dM h1]at h;cases h
def Iv{xs:List α}(h:atI xs i=some v):∃j,seqIndex? i xs.length=some j/\xs[j]?=some v/\j<xs.length/\-(xs.length:Int)<=i/\i<xs.length:=by
 unfold atI at h;cases e:LL xs.length i with
 |none=>rw[e]at h;cases h
 |some j=>
  rw[e]at h;obtain⟨h1,h2,h3,h4⟩:=DO e;exact⟨j,h1,h,h2,h3,h4⟩
def rh{α:Type}{xs:List α}{j:Nat}{v:α}(h:xs[j]?=some v):atI xs (j:Int)=some v:=by
 have hj:j<xs.length:=(List.getElem?_eq_some_iff.mp h).1;have e:LL xs.length (j:Int)=some j:=by
  unfold LL;rw[dJ (by lia),dJ (by lia)];simp
 unfold atI;rw[e];exact h
def Iq(b:Expr):Prop:=∀o i,subscripted b false o i=operate [o,i] (rN o i)
def IxR(X:Cx)(r:R2):Prop:=
 ∀(value slice:Expr)(pins:List (Addr×Obj))(s:dP)(U:St)(H:Hp)(x y:V)(v u:dG)(Q:VK),Inv X pins U H s->RelV x v->RelV y u->r x y H Q->
  subscripted slice false v u=operate [v,u] (rN v u)->dX (eJ X.prog X.w) X.A (subscriptTail value slice v u) (EP X pins U Q) X.xe s
def YB(X:Cx)(id:String)(r:V->List V->Hp->VK->Prop):Prop:=
 ∀(pins:List (Addr×Obj))(s:dP)(U:St)(H:Hp)(x:V)(xs:List V)(v:dG)(us:List dG)(Q:VK),Inv X pins U H s->RelV x v->Vals xs us->r x xs H Q->
  dX (eJ X.prog X.w) X.A (call (.builtin id) (v::us)) (EP X pins U Q) X.xe s
section
variable{X:Cx}{a b:Expr}{ta tb:TE}{pos:Pos}
def IxR.or(h:IxR X r)(h':IxR X r'):IxR X (λx y H Q=>r x y H Q\/r' x y H Q):=by
 intro value slice pins s U H x y v u Q I rx ry q hs;rcases q with q|q
 ·exact h value slice pins s U H x y v u Q I rx ry q hs
 ·exact h' value slice pins s U H x y v u Q I rx ry q hs
def SA{r:R2}(hr:IxR X r)(ha:PE X a ta)(hb:PE X b tb)(hs:Iq b):PE X (.Subscript a b pos) (UB r ta tb):=by
 intro pins s U H Q I h;exact Subscript_ (KH ha hb I h λv u s2 x y H2 I2 rx ry q=>hr a b pins s2 U H2 x y v u Q I2 rx ry q (hs _ _))
def UT(K:eB):R2:=λx y H Q=>∃p xs i v,x=.ref p/\y=.int i/\SqL K H p xs/\atI xs i=some v/\Q v H
def UR(K:eB):R2:=λx y H Q=>∃p xs i v,x=.ref p/\y=.int i/\SqT K H p xs/\atI xs i=some v/\Q v H
def US:R2:=λx y H Q=>∃z i c,x=.str z/\y=.int i/\z.length<=dN/\atI z.cps.toList i=some c/\Q (.str ⟨#[c]⟩) H
def Ju:IxR X (UT X.K):=by
 intro value slice pins s U H x y v u Q I rx ry h hs;obtain⟨p,xs,i,z,rfl,rfl,hq,he,q⟩:=h;cases rx;obtain⟨t,rfl⟩:=ry;obtain⟨its,r,pl,hz⟩:=I.list hq;obtain⟨j,h1,h2,h3,h4,h5⟩:=Iv he;obtain⟨w,ew,rw'⟩:=r.get h2;have hl:=r.length;have hn:=Eg;have fin:EP X pins U Q w s:=⟨z,H,I,rw',q⟩
 by_cases h0:0<=i
 ·have hj:i.toNat=j:=by
   rw[seqIndex_of h0 h5]at h1;exact eI h1
  exact item_listR pl.isList h0 (by lia) (by rw[hj];simpa using ew) fin hs
 ·have hj:(i+(its.toArray.size:Int)).toNat=j:=by
   rw[seqIndex_neg (by lia) h4]at h1;rw[eF,<-hl];exact eI h1
  exact subscriptTail_builtinR (x:=w) pl.isList.typeIs slot_list_getitem.lookup
   (wpAny_getItem_list_neg (Q:=λr s'=>r=w/\EP X pins U Q r s') pl.isList (by lia) (by rw[eF]<;>lia) (by lia) (by rw[hj];simpa using ew) ⟨rfl,fin⟩) hs
def LH:IxR X (UR X.K):=by
 intro value slice pins s U H x y v u Q I rx ry h hs;obtain⟨p,xs,i,z,rfl,rfl,hq,he,q⟩:=h;cases rx;obtain⟨t,rfl⟩:=ry;obtain⟨its,r,pl,hz⟩:=I.tuple hq;obtain⟨j,h1,h2,h3,h4,h5⟩:=Iv he;obtain⟨w,ew,rw'⟩:=r.get h2;have hl:=r.length;have hn:=Eg;have fin:EP X pins U Q w s:=⟨z,H,I,rw',q⟩;exact subscriptTail_builtinR (x:=w) pl.typeIs slot_tuple_getitem.lookup
  (getItem_tuple (j:=j) (Q:=λr s'=>r=w/\EP X pins U Q r s') pl (by lia) (by lia) (by rw[eF,<-hl];exact h1) (by simpa using ew) ⟨rfl,fin⟩) hs
def LI:IxR X US:=by
 intro value slice pins s U H x y v u Q I rx ry h hs;obtain⟨z,i,c,rfl,rfl,hz,he,q⟩:=h;obtain⟨t,rfl⟩:=rx;obtain⟨t',rfl⟩:=ry;obtain⟨j,h1,h2,h3,h4,h5⟩:=Iv he;have hl:z.cps.toList.length=z.length:=by simp[Str.length]
 rw[hl]at h1 h4 h5;have hn:=Eg;exact tail_any (typeIs_str s z t) slot_str_getitem.lookup (getItem_str (c:=c) (by
  have e1:decide (i< -(2 ^ 63:Int))=false:=decide_eq_false (by lia);have e2:decide (i>=2 ^ 63)=false:=decide_eq_false (by lia);rw[e1,e2,Bool.or_false]) (by rw[h1];simpa using h2) ⟨.str ⟨#[c]⟩,H,I.tok _,⟨_,rfl⟩,q⟩) hs
def bY(K:eB):R2:=λx y H Q=>UT K x y H Q\/UR K x y H Q\/US x y H Q
def LJ:IxR X (bY X.K):=Ju.or (LH.or LI)
def Ka(lo hi:Option Int)(n:Nat):(nQ lo hi none n).1=((HT.jl n 0 lo:Nat):Int)/\(nQ lo hi none n).2.1=((HT.jl n n hi:Nat):Int)/\(nQ lo hi none n).2.2=1:=by
 refine⟨?_,?_,rfl⟩
 ·cases lo with
  |none=>simp[nQ,HT.jl]
  |some i=>
   simp only[nQ,HT.jl,Option.getD_none,show(1:Int)>0 by decide,if_true]
   by_cases h:i<0
   ·simp only[h,if_true]<;>lia
   ·simp only[h,if_false]<;>lia
 ·cases hi with
  |none=>simp[nQ,HT.jl]
  |some i=>
   simp only[nQ,HT.jl,Option.getD_none,show(1:Int)>0 by decide,if_true]
   by_cases h:i<0
   ·simp only[h,if_true]<;>lia
   ·simp only[h,if_false]<;>lia
def Gb(its:List dG)(lo hi:Option Int):slicePick its.toArray lo hi none=((its.drop (HT.jl its.length 0 lo)).take (HT.jl its.length its.length hi - HT.jl its.length 0 lo)).toArray:=by
 obtain⟨h1,h2,h3⟩:=Ka lo hi its.toArray.size;unfold slicePick;rw[h1,h2,h3];simp only[sliceRange_one,pick_run,eF]<;>rfl
def ZH(K:eB):V->Option Int->Option Int->Hp->VK->Prop:=λx lo hi H Q=>∃a xs,x=.ref a/\SqL K H a xs/\∀p,H p=none->Q (.ref p) (upd H p (.lst (B9 xs lo hi)))
def HQ:SlR X (ZH X.K):=by
 intro pins s U H x v vl vu lo hi sl Q I rx hs pl pu h;obtain⟨a,xs,rfl,hx,q⟩:=h;cases rx;obtain⟨its,r,ht,hz⟩:=I.list hx;have hlen:=r.length;refine⟨"list",_,slot_list_getitem.lookup,ht.isList.typeIs,?_⟩;refine wpAny_getItem_list_slice ht.isList hs pl pu .none (by simp) ?_ (by rw[eF]<;>lia);rw[Gb,<-hlen];refine⟨.ref s.heap.objs.size,_,I.laid (t':=s.toks) (o:=.lst (B9 xs lo hi)) (λb ob q=>dE _ q) (dR _) ?_,rfl,q _ (I.hok.fresh (dR _))⟩;exact⟨fF (Be xs lo hi) hz,_,0,(r.drop (HT.jl xs.length 0 lo)).take (HT.jl xs.length xs.length hi - HT.jl xs.length 0 lo),eD _ rfl⟩
def CallR.or(h:CallR X f r)(h':CallR X f r'):CallR X f (λxs H Q=>r xs H Q\/r' xs H Q):=by
 intro pins s U H xs us Q I rs q;rcases q with q|q
 ·exact h pins s U H xs us Q I rs q
 ·exact h' pins s U H xs us Q I rs q
def Iz:CallR X (.type "list") (λxs H Q=>∃p ys,xs=[.ref p]/\(SqL X.K H p ys\/SqT X.K H p ys)/\∀l,H l=none->Q (.ref l) (upd H l (.lst ys))):=by
 intro pins s U H xs us Q I r h;obtain⟨p,ys,rfl,hq,q⟩:=h;obtain⟨u,rfl,rx⟩:=l9 r;cases rx;have fin:∀(its:List dG),Vals ys its->ys.length<=dN->∀(h':Heap)(c':Nat),(∀b o',s.heap.get? b=some o'->h'.get? b=some o')->
   h'.get? s.heap.objs.size=some {cls:=.type "list",dict:=none,data:=.seq its.toArray c',slots:=#[]}->EP X pins U Q (.ref s.heap.objs.size) {s with heap:=h'}:=λits r' hz h' c' kp e=>
  ⟨.ref s.heap.objs.size,_,I.laid (t':=s.toks) kp (dR _) (show ObjOk X.prog X.w _ h' _ (.lst ys)from⟨hz,its,c',r',e⟩),rfl,q _ (I.hok.fresh (dR _))⟩
 rcases hq with hq|hq
 ·obtain⟨its,r',pl,hz⟩:=I.list hq;have hlen:=r'.length;obtain⟨o,ho,hc,n,hd⟩:=pl.isList;exact call_list_seq p (.inl rfl) ho hc hd (λh' c' kp e=>fin its r' hz h' c' kp e) (by simp only[eF]<;>lia)
 ·obtain⟨its,r',pl,hz⟩:=I.tuple hq;have hlen:=r'.length;obtain⟨o,ho,hc,n,hd⟩:=pl;exact call_list_seq p (.inr rfl) ho hc hd (λh' c' kp e=>fin its r' hz h' c' kp e) (by simp only[eF]<;>lia)
def Fx:CallR X (.type "tuple") (λxs H Q=>∃p ys,xs=[.ref p]/\((SqL X.K H p ys/\∀l,H l=none->Q (.ref l) (upd H l (.tup ys)))\/(SqT X.K H p ys/\Q (.ref p) H))):=by
 intro pins s U H xs us Q I r h;obtain⟨p,ys,rfl,h⟩:=h;obtain⟨u,rfl,rx⟩:=l9 r;cases rx;rcases h with ⟨hq,q⟩|⟨hq,q⟩
 ·obtain⟨its,r',pl,hz⟩:=I.list hq;have hlen:=r'.length;refine call_tuple_list pl.isList (λh' kp=>?_) (by simp only[eF]<;>lia);have I1:Inv X pins U H {s with heap:=h'}:=I.kept (t':=s.toks) kp;have I2:Inv X pins U (upd H h'.objs.size (.tup ys)) {s with heap:=h'.push {cls:=.type "tuple",data:=.seq its.toArray}}:=
   I1.laid (t':=s.toks) (λb o e=>dE _ e) (dR _) (show ObjOk X.prog X.w _ _ _ (.tup ys)from⟨hz,its,r',IsTup.new _ _⟩)
  exact⟨.ref h'.objs.size,_,I2,rfl,q _ (I1.hok.fresh (dR _))⟩
 ·obtain⟨its,r',pl,hz⟩:=I.tuple hq;exact call_tuple_same pl ⟨.ref p,H,I,rfl,q⟩
def bQ(K:eB)(T:String)(x:V)(H:Hp):Prop:=match x with
 |.str _=>T="str"
 |.int _=>T="int"
 |.ref p=>(T="list"/\∃xs,SqL K H p xs)\/(T="tuple"/\∃o,K.lookup p=some o/\o.cls=.type "tuple"/\o.dict=none)\/
   (T="dict"/\((∃kvs,H p=some (.dK kvs))\/∃kvs,H p=some (.dT kvs)))\/(T="set"/\∃S n,H p=some (.set S n))
 |_=>False
def PM(I:Inv X pins U H s)(r:RelV x v)(ty:bQ X.K T x H):
  s.TypeIs v T/\∀a,v=.ref a->∃ob,s.heap.get? a=some ob/\ob.dict=none:=by
 cases x with
 |str z=>
  obtain⟨t,rfl⟩:=r;cases (show T="str" from ty);exact⟨typeIs_str s z t,λ_ e=>nomatch e⟩
 |int i=>
  obtain⟨t,rfl⟩:=r;cases (show T="int" from ty);exact⟨typeIs_int s i t,λ_ e=>nomatch e⟩
 |ref p=>
  cases r;rcases ty with ⟨rfl,xs,hq⟩|⟨rfl,o,hk,hc,hd⟩|⟨rfl,hk⟩|⟨rfl,S,n,hk⟩
  ·obtain⟨its,_,pl,_⟩:=I.list hq;refine⟨pl.isList.typeIs,λa e=>?_⟩;cases e;obtain⟨o,n,e,c,hd,_⟩:=pl;exact⟨o,e,hd⟩
  ·refine⟨⟨o,I.kIn p o hk,hc⟩,λa e=>?_⟩;cases e;exact⟨o,I.kIn _ o hk,hd⟩
  ·have z:∃o,s.heap.get? p=some o/\o.ExactDict:=by
    rcases hk with ⟨kvs,hk⟩|⟨kvs,hk⟩
    ·obtain⟨_,_,_,_,o,_,_,e,ex,_⟩:=I.hok p _ hk;exact⟨o,e,ex⟩
    ·obtain⟨_,_,_,_,o,_,_,e,ex,_⟩:=I.hok p _ hk;exact⟨o,e,ex⟩
   obtain⟨o,e,ex⟩:=z;refine⟨⟨o,e,ex.1⟩,λa e2=>?_⟩;cases e2;exact⟨o,e,ex.2.1⟩
  ·obtain⟨o,_,_,_,e,ex,_⟩:=I.hok p _ hk;refine⟨⟨o,e,ex.1⟩,λa e2=>?_⟩;cases e2;exact⟨o,e,ex.2.1⟩
 |_=>exact lN ty
def cS(K:eB)(T:String)(r:V->List V->Hp->VK->Prop)(to:TE)(t:TA):TE:=λU H Q=>to U H λx H1=>bQ K T x H1/\t U H1 λxs H2=>r x xs H2 Q
variable{o e:Expr}{es:List Expr}{to:TE}{t:TA}{name:Str}{apos cpos:Pos}{T id:String}{r:V->List V->Hp->VK->Prop}
def Y7(pa:PlainAttrs T)(slot:Slot T name id)(hty:typeOf (.builtin id)=pure (.type "method_descriptor"))(hm:YB X id r)(ho:PE X o to)(ha:PA X (e::es) t)
  (hbase:lT o name X.env (eval o X.env)=eval o X.env:=by rfl)
  (hfew:((iY cpos (eE (e::es) X.env)).all (λx=> !x.1) && (rA cpos (nR [] X.env)).all (λx=>x.1.isSome)
   && decide ((e::es).length+([]:List lP).length+(if([]:List lP).isEmpty then 0 else 1)<30))=true:=by rfl)
  (hline:(apos.endLine==cpos.line)=true:=by rfl) (hs:eE (e::es) X.env=(false,eval e X.env)::eE es X.env:=by rfl) (hplain:(iY cpos (eE es X.env)).any (·.1)=false:=by rfl):
  PE X (.Call (.Attribute o name apos) (e::es) [] cpos) (cS X.K T r to t):=by
 intro pins s U H Q I h;refine wpAny_Call_method_late hbase hfew hline rfl (iz (ho pins s U H _ I h) λv s1 ⟨x,H1,I1,r1,ty,q1⟩=>?_);obtain⟨h1,h2⟩:=PM I1 r1 ty;refine⟨T,id,pa,slot,hty,h1,h2,?_⟩;have hA:=ha cpos pins s1 U H1 _ I1 q1;rw[hs]at hA⊢;refine nZ (by show(false||(iY cpos (eE es X.env)).any (·.1))=false;rw[hplain]<;>rfl) (mG ?_);exact iz hA λus s2 ⟨vs,H2,I2,r2,q2⟩=>hm pins s2 U H2 x vs v us Q I2 r1 r2 q2
end
end L2
namespace L2
open PySem PySem.Spec PyProof.Rows
def aH(X:Cx)(id:String)(r:V->List V->Hp->VK->Prop):Prop:=
 ∀(pins:List (Addr×Obj))(s:dP)(U:St)(H:Hp)(x:V)(xs:List V)(v:dG)(us:List dG)(Q:VK),Inv X pins U H s->RelV x v->Vals xs us->r x xs H Q->
  dX (eJ X.prog X.w) X.A (call (.builtin id) (v::us)) (EP X pins U Q) X.xe s
def Vals.one:∀{x:V}{us:List dG},Vals [x] us->∃u,us=[u]/\RelV x u
 |_,_,.cons r .nil=>⟨_,rfl,r⟩
section
variable{X:Cx}{pins:List (Addr×Obj)}{U:St}{H:Hp}{s:dP}{l b:Addr}{xs ys zs:List V}
def Inv.lset{its its':List dG}{n:Nat}{f:Array dG->Array dG}{t':Nat}(I:Inv X pins U H s)(hH:H l=some (.lst xs))
  (e:s.heap.get? l=some {cls:=.type "list",data:=.seq its.toArray n})(hf:f its.toArray=its'.toArray)(hv:Vals ys its')(hz:ys.length<=dN):
  Inv X pins U (upd H l (.lst ys)) {s with heap:=s.heap.update l (rO f),toks:=t'}:=by
 have q:=PySem.IsL.update e f;rw[hf]at q;refine I.write (x:=l) (e:=l) (by rw[hH];exact trivial) (.inl rfl) (λb' u hb hu=>(fS s.heap (rO f) (jJ hb)).trans hu) ⟨_,q⟩ ?_;exact⟨hz,its',_,hv,q⟩
def Inv.lnew(I:Inv X pins U H s)(hv:Vals ys its)(hz:ys.length<=dN):
  Inv X pins U (upd H s.heap.objs.size (.lst ys)) {s with heap:=s.heap.push {cls:=.type "list",data:=.seq its.toArray},toks:=t'}:=
 I.laid (λ_ _ q=>dE _ q) (dR _) ⟨hz,its,0,hv,eD _ rfl⟩
theorem Inv.fresh(I:Inv X pins U H s):H s.heap.objs.size=none:=I.hok.fresh (dR _)
def Inv.lstM(I:Inv X pins U H s)(hH:H l=some (.lst xs)):xs.length<=dN/\∃(its:List dG) (n:Nat),Vals xs its/\xs.length=its.length/\s.heap.get? l=some {cls:=.type "list",data:=.seq its.toArray n}:=by
 obtain⟨z,its,n,r,e⟩:=I.hok l _ hH;exact⟨z,its,n,r,r.length,e⟩
def Ys(h:n<=dN):lB n=false:=by
 unfold lB;exact decide_eq_false (by lia)
end
section
variable{X:Cx}
def GF:V->List V->Hp->VK->Prop:=λx vs H Q=>∃l xs y,x=.ref l/\vs=[y]/\H l=some (.lst xs)/\xs.length<dN/\Q .non (upd H l (.lst (xs++[y])))
def Hr:aH X "list.append" GF:=by
 intro pins s U H x vs v us Q I rx rv h;obtain⟨l,xs,y,rfl,rfl,hH,hz,q⟩:=h;cases rx;obtain⟨u,rfl,ru⟩:=rv.one;obtain⟨z,its,n,r,hl,e⟩:=I.lstM hH;refine call_meets F.slot_list_append ⟨_,e,rfl⟩ F.entry_list_append (F.args_list_append_2 _ _) (PySem.list_append l its.toArray n u (by rw[eF];lia)) ⟨e,?_⟩;refine⟨.non,_,I.lset (its':=its++[u]) hH e (by simp) (r.append (.cons ru .nil)) ?_,rfl,q⟩;rw[dU,List.length_singleton]
 lia
end
end L2
namespace L2
open PySem PySem.Spec PyProof.Rows
section
variable{κ:Type}[DecidableEq κ]
def ly(kvs:List (κ×V))(k:κ):Option V:=(kvs.find? λkv=>decide (kv.1=k)).map (·.2)
noncomputable def oi(kvs:List (κ×V))(k:κ)(v:V):List (κ×V):=
 if(kvs.any λkv=>decide (kv.1=k))=true then kvs.map (λkv=>if kv.1=k then(kv.1,v)else kv)else kvs++[(k,v)]
def Nw:ly ([]:List (κ×V)) k=none:=rfl
def va{k:κ}(e:p.1=k):ly (p::r) k=some p.2:=by simp[ly,kL,e]
def n9{k:κ}(e:¬p.1=k):ly (p::r) k=ly r k:=by simp[ly,kL,e]
theorem Nv(k:κ):∀kvs:List (κ×V),(kvs.any λkv=>decide (kv.1=k))=(ly kvs k).isSome
 |[]=>rfl
 |p::r=>by
  rw[iX]
  by_cases e:p.1=k
  ·simp only[va e,decide_eq_true e,Bool.true_or,Option.isSome_some]
  ·rw[n9 e,decide_eq_false e,Bool.false_or];exact Nv k r
def o4(kvs:List (κ×V))(k:κ)(v:V):(oi kvs k v).length<=kvs.length+1:=by
 unfold oi;split
 ·rw[dD];lia
 ·rw[dU,dI,jD];lia
def RelO.isSome_eq{o:Option V}{u:Option dG}(r:RelO o u):o.isSome=u.isSome:=by
 cases o with
 |none=>cases u with
  |none=>rfl
  |some _=>exact(show False from r).elim
 |some _=>cases u with
  |none=>exact(show False from r).elim
  |some _=>rfl
theorem RelO.getD{o:Option V}{u:Option dG}(r:RelO o u)(rd:RelV d d'):RelV (o.getD d) (u.getD d'):=by
 cases o with
 |none=>cases u with
  |none=>exact rd
  |some _=>exact(show False from r).elim
 |some _=>cases u with
  |none=>exact(show False from r).elim
  |some _=>exact r
def KV.val(r:KV kvs vs)(k:κ):RelO (ly kvs k) (sI vs k):=by
 unfold KV at r;induction r with
 |nil=>exact jM
 |@cons p q ps qs h t ih=>
  obtain⟨h1,h2⟩:=h
  by_cases e:p.1=k
  ·have e':q.1=k:=h1.symm.trans e;have b:sI (q::qs) k=some q.2:=by simp[sI,kL,e']
   rw[va e,b];exact h2
  ·have e':¬q.1=k:=λz=>e (h1.trans z);have b:sI (q::qs) k=sI qs k:=by simp[sI,kL,e']
   rw[n9 e,b];exact ih
theorem KV.any{kvs:List (κ×V)}{vs:List (κ×dG)}(r:KV kvs vs)(k:κ):(kvs.any λkv=>decide (kv.1=k))=vs.any λkv=>decide (kv.1=k):=by
 unfold KV at r;induction r with
 |nil=>rfl
 |cons h t ih=>rw[iX,iX,ih,h.1]
def KV.repl(r:KV kvs vs)(k:κ)(ry:RelV y u):
  KV (kvs.map λkv=>if kv.1=k then(kv.1,y)else kv) (vs.map λkv=>if kv.1=k then(kv.1,u)else kv):=by
 unfold KV at r⊢;induction r with
 |nil=>exact .nil
 |@cons p q ps qs h t ih=>
  rw[dC,dC];refine .cons ?_ ih;obtain⟨h1,h2⟩:=h
  by_cases e:p.1=k
  ·rw[dJ e,dJ (h1.symm.trans e)];exact⟨h1,ry⟩
  ·rw[dM e,dM (λz=>e (h1.trans z))];exact⟨h1,h2⟩
def KV.put(r:KV kvs vs)(k:κ)(ry:RelV y u):KV (oi kvs k y) (stored vs k u):=by
 unfold oi stored;rw[r.any k]
 by_cases e:(vs.any λkv=>decide (kv.1=k))=true
 ·rw[dJ e,dJ e];exact r.repl k ry
 ·rw[dM e,dM e];exact Paired.snoc r ⟨rfl,ry⟩
theorem KV.length{kvs:List (κ×V)}{vs:List (κ×dG)}(r:KV kvs vs):kvs.length=vs.length:=mZ r
end
def wq(r:RelV (kV k) u):(ba P w).is k u=true:=by
 cases k with
 |inl i=>obtain⟨t,e⟩:=(show∃t,u=mO i t from r);subst e;exact Mj P w i t
 |inr x=>obtain⟨t,e⟩:=(show∃t,u=sA x t from r);subst e;exact Ml P w x t
theorem Hi:∀{ks:List fo}{us:List dG},Vals (ks.map kV) us->ItemsAre (ba P w) ks us
 |[],_,r=>by rw[kU]at r;cases r;exact .nil
 |k::ks,_,r=>by
  rw[dC]at r;cases r with
  |cons h t=>exact .cons (wq h) (Hi t)
abbrev KT(H:Hp):List (bg×V)->List (bg×Addr×dG)->Prop:=Paired λp q=>p.1=q.1/\TkAt H p.1 q.2.1/\RelV p.2 q.2.2
def KT.val(r:KT H kvs xs)(k:bg):RelO (ly kvs k) ((atKey xs k).map (·.2)):=by
 induction r with
 |nil=>exact jM
 |@cons p q ps qs h t ih=>
  obtain⟨h1,_,h2⟩:=h
  by_cases e:p.1=k
  ·have e':q.1=k:=h1.symm.trans e;have b:atKey (q::qs) k=some q.2:=by simp[atKey,kL,e']
   rw[va e,b];exact h2
  ·have e':¬q.1=k:=λz=>e (h1.trans z);have b:atKey (q::qs) k=atKey qs k:=by simp[atKey,kL,e']
   rw[n9 e,b];exact ih
def KT.repl(r:KT H kvs xs)(k:bg)(ry:RelV y u):
  KT H (kvs.map λkv=>if kv.1=k then(kv.1,y)else kv) (xs.map (putAt k u)):=by
 induction r with
 |nil=>exact .nil
 |@cons p q ps qs h t ih=>
  rw[dC,dC];refine .cons ?_ ih;obtain⟨h1,h2,h3⟩:=h;unfold putAt
  by_cases e:p.1=k
  ·rw[dJ e,dJ (h1.symm.trans e)];exact⟨h1,h2,ry⟩
  ·rw[dM e,dM (λz=>e (h1.trans z))];exact⟨h1,h2,h3⟩
def KT.put(r:KT H kvs xs)(k:bg)(hb:TkAt H k b)(ry:RelV y u):
  KT H (oi kvs k y) (storedH xs k b u):=by
 have e:(kvs.any λkv=>decide (kv.1=k))=(atKey xs k).isSome:=by
  rw[Nv,(r.val k).isSome_eq,qK]
 unfold oi storedH;rw[e]
 by_cases q:(atKey xs k).isSome=true
 ·rw[dJ q,dJ q];exact r.repl k ry
 ·rw[dM q,dM q];exact Paired.snoc r ⟨rfl,hb,ry⟩
def KT.keeps(r:KT H kvs xs)(ht:∀b ys,H b=some (.tup ys)->H' b=some (.tup ys)):KT H' kvs xs:=
 Paired.mapP r λ_ _ z=>⟨z.1,z.2.1.mono ht,z.2.2⟩
section
variable{P:eS}{w:fI}{H:Hp}{h:Heap}{a:Addr}
def JL(ok:HOk P w H h)(e:Rd H a u):ObjOk P w H h a u:=e.ok ok
def Do{kvs:List (fo×V)}(ok:HOk P w H h)(e:Rd H a (.dK kvs)):kvs.length<=dN/\(a==jH)=false/\∃vs,KV kvs vs/\h.DictOf (ba P w) a vs:=
 show ObjOk P w H h a (.dK kvs)from JL ok e
def K9{kvs:List (fo×V)}(ok:HOk P w H h)(e:H a=some (.dK kvs)):kvs.length<=dN/\(a==jH)=false/\∃vs,KV kvs vs/\h.DictOf (ba P w) a vs:=Do ok (.inl e)
def DI{ks:List fo}(ok:HOk P w H h)(e:H a=some (.tup (ks.map kV))):lI (ba P w) h ks a:=by
 obtain⟨_,its,r,o,h1,h2,n,h3⟩:=(show ObjOk P w H h a (.tup (ks.map kV))from ok a _ e);exact⟨o,its.toArray,n,h1,h2,h3,by simpa using Hi r⟩
theorem x6(ok:HOk P w H h):∀{ks:bg}{vs:List V}{us:List dG},NkL H ks vs->Vals vs us->NItems P w h ks us
 |[],vs,us,e,r=>by rw[show vs=[]from e]at r;cases r;exact rfl
 |.inl k::ks,vs,us,⟨v,t,e,q,e2⟩,r=>by
  subst e;cases r with
  |cons h1 t1=>exact⟨_,_,rfl,wq (by rw[<-show v=kV k from q];exact h1),x6 ok e2 t1⟩
 |.inr ys::ks,vs,us,⟨v,t,e,⟨b,e3,q⟩,e2⟩,r=>by
  subst e e3;cases r with
  |cons h1 t1=>exact⟨_,_,rfl,⟨b,h1,DI ok q⟩,x6 ok e2 t1⟩
def xq(ok:HOk P w H h)(e:TkAt H ks a):(a9 P w).is h ks a:=by
 obtain⟨vs,e,nk⟩:=e;obtain⟨_,its,r,o,h1,h2,n,h3⟩:=(show ObjOk P w H h a (.tup vs)from ok a _ e);exact⟨o,its.toArray,n,h1,h2,h3,by simpa using x6 ok nk r⟩
def Dq{kvs:List (bg×V)}(ok:HOk P w H h)(e:Rd H a (.dT kvs)):kvs.length<=dN/\(a==jH)=false/\
  ∃xs,KT H kvs xs/\h.DictOfH (a9 P w) a xs:=by
 obtain⟨z,y,xs,r,o,es,ep,h1,h2,h3,h4,h5⟩:=(show ObjOk P w H h a (.dT kvs)from JL ok e);refine⟨z,y,xs,r,o,es,ep,h1,h2,h3,h4,λx hx=>?_,h5⟩;have all:∀{l:List (bg×V)}{m:List (bg×Addr×dG)},KT H l m->∀x∈m,(a9 P w).is h x.1 x.2.1:=by
  intro l m q;induction q with
  |nil=>intro x hx;exact nomatch hx
  |@cons p q ps qs hq t ih=>
   intro x hx;rcases List.mem_cons.mp hx with e|hx
   ·subst e;exact xq ok (by rw[<-hq.1];exact hq.2.1)
   ·exact ih x hx
 exact all r x hx
def IB{kvs:List (bg×V)}(ok:HOk P w H h)(e:H a=some (.dT kvs)):kvs.length<=dN/\(a==jH)=false/\
  ∃xs,KT H kvs xs/\h.DictOfH (a9 P w) a xs:=Dq ok (.inl e)
end
def DGet(H:Hp)(a:Addr)(y:V)(r:Option V):Prop:=
 (∃kvs k,Rd H a (.dK kvs)/\y=kV k/\r=ly kvs k)\/∃kvs k b,Rd H a (.dT kvs)/\y=.ref b/\TkAt H k b/\r=ly kvs k
def DPut(H:Hp)(a:Addr)(y v:V)(H':Hp):Prop:=
 (∃kvs k,H a=some (.dK kvs)/\y=kV k/\kvs.length<dN/\H'=upd H a (.dK (oi kvs k v)))\/
 ∃kvs k b,H a=some (.dT kvs)/\y=.ref b/\TkAt H k b/\kvs.length<dN/\H'=upd H a (.dT (oi kvs k v))
theorem DGet.k{k:fo}(e:H a=some (.dK kvs)):DGet H a (kV k) (ly kvs k):=.inl ⟨kvs,k,.inl e,rfl,rfl⟩
def DGet.t{H:Hp}{a b:Addr}{kvs:List (bg×V)}{k:bg}(e:H a=some (.dT kvs))(eb:TkAt H k b):DGet H a (.ref b) (ly kvs k):=.inr ⟨kvs,k,b,.inl e,rfl,eb,rfl⟩
theorem DPut.k{H:Hp}{a:Addr}{kvs:List (fo×V)}{k:fo}{v:V}(e:H a=some (.dK kvs))(hl:kvs.length<dN):DPut H a (kV k) v (upd H a (.dK (oi kvs k v))):=.inl ⟨kvs,k,e,rfl,hl,rfl⟩
def DPut.t{H:Hp}{a b:Addr}{kvs:List (bg×V)}{k:bg}{v:V}(e:H a=some (.dT kvs))(eb:TkAt H k b)(hl:kvs.length<dN):
  DPut H a (.ref b) v (upd H a (.dT (oi kvs k v))):=.inr ⟨kvs,k,b,e,rfl,eb,hl,rfl⟩
section
variable{X:Cx}{pins:List (Addr×Obj)}{U:St}{H:Hp}{s:dP}{a:Addr}{y v:V}{u r:dG}{o:Option V}{A:fV}{E:dG->dP->Prop}
def Inv.big(I:Inv X pins U H s):jH<s.heap.objs.size:=by
 have h:gA<s.heap.objs.size:=(I.mod.glob.keeps I.bk).lt;exact oA (by decide) h
def Ub(hu:A.units+5<gQ)(I:Inv X pins U H s)(g:DGet H a y (some v))(ry:RelV y u)(h:∀w' s',Inv X pins U H s'->RelV v w'->Q w' s'):
  dX (eJ X.prog X.w) A (rN (.ref a) u) Q E s:=by
 rcases g with ⟨kvs,k,e,ey,l⟩|⟨kvs,k,b,e,ey,eb,l⟩
 ·subst ey;obtain⟨z,hd,vs,rel,dd⟩:=Do I.hok e;obtain⟨w',hw,rw'⟩:=RelO.some_of (v:=v) (o:=sI vs k) (by rw[l];exact rel.val k);exact wpAny_getItem_of (wq ry) dd.mapOf hw (h w' _ (I.tok _) rw')
 ·subst ey;cases (show u=eZ b from ry);obtain⟨z,hd,xs,rel,dd⟩:=Dq I.hok e;obtain⟨w',hw,rw'⟩:=RelO.some_of (v:=v) (o:=(atKey xs k).map (·.2)) (by rw[l];exact rel.val k);obtain⟨p,hp,hp2⟩:=Option.map_eq_some_iff.mp hw;refine wpAny_getItem_heap (f7 hu) (xq I.hok eb) dd hp ?_;rw[hp2];exact h w' _ (I.tok _) rw'
def ZU(hu:A.units+5<gQ)(I:Inv X pins U H s)(g:DGet H a y o)(ry:RelV y u)(h:∀s',Inv X pins U H s'->Q (.bool o.isSome) s'):
  dX (eJ X.prog X.w) A (fH .In u (.ref a)) Q E s:=by
 rcases g with ⟨kvs,k,e,ey,l⟩|⟨kvs,k,b,e,ey,eb,l⟩
 ·subst ey;obtain⟨z,hd,vs,rel,dd⟩:=Do I.hok e;refine wpAny_in_of (wq ry) hd dd.mapOf ?_;rw[<-(rel.val k).isSome_eq,<-l];exact h _ (I.tok _)
 ·subst ey;cases (show u=eZ b from ry);obtain⟨z,hd,xs,rel,dd⟩:=Dq I.hok e;refine wpAny_in_heap (f7 hu) (xq I.hok eb) hd dd ?_;have q:=(rel.val k).isSome_eq;rw[qK]at q;rw[<-q,<-l];exact h _ (I.tok _)
def CL(hu:A.units+5<gQ)(I:Inv X pins U H s)(g:DGet H a y o)(ry:RelV y u)(h:∀s',Inv X pins U H s'->Q (.bool (!o.isSome)) s'):
  dX (eJ X.prog X.w) A (fH .NotIn u (.ref a)) Q E s:=by
 rcases g with ⟨kvs,k,e,ey,l⟩|⟨kvs,k,b,e,ey,eb,l⟩
 ·subst ey;obtain⟨z,hd,vs,rel,dd⟩:=Do I.hok e;refine wpAny_notIn_of (wq ry) hd dd.mapOf ?_;rw[<-(rel.val k).isSome_eq,<-l];exact h _ (I.tok _)
 ·subst ey;cases (show u=eZ b from ry);obtain⟨z,hd,xs,rel,dd⟩:=Dq I.hok e;refine wpAny_notIn_heap (f7 hu) (xq I.hok eb) hd dd ?_;have q:=(rel.val k).isSome_eq;rw[qK]at q;rw[<-q,<-l];exact h _ (I.tok _)
def Ck{h':Heap}(I:Inv X pins U H s)(mu:RY (H a))(hs:gU a s.heap h')(he:∃q,h'.get? a=some q)(new:ObjOk X.prog X.w (upd H a ob) h' a ob):
  Inv X pins U (upd H a ob) {s with heap:=h',toks:=t'}:=
 I.write (x:=a) (e:=a) mu (.inl rfl) (λb q hb z=>(hs.2 b hb).trans z) he new
def On{h':Heap}{kvs:List (fo×V)}(z:kvs.length<=dN)(hd:(a==jH)=false)(rel:KV kvs vs)(dd:h'.DictOf (ba P w) a vs):
  ObjOk P w H' h' a (.dK kvs):=⟨z,hd,vs,rel,dd⟩
def Uc{H':Hp}{Q:Unit->dP->Prop}(hu:A.units+5<gQ)(I:Inv X pins U H s)(g:DPut H a y v H')(ry:RelV y u)(rv:RelV v r)(h:∀s',Inv X pins U H' s'->Q () s'):
  dX (eJ X.prog X.w) A (setItem (.ref a) u r) Q E s:=by
 rcases g with ⟨kvs,k,e,ey,l,eH⟩|⟨kvs,k,b,e,ey,eb,l,eH⟩
 ·subst ey eH;obtain⟨z,hd,vs,rel,dd⟩:=K9 I.hok e;have hz:vs.length<=dN:=by rw[<-rel.length];exact z
  have hl:(oi kvs k v).length<=dN:=by have:=o4 kvs k v;lia
  refine wpAny_setItem_pairs (hsz:=hz) (wq ry) dd λh' dd' hs=>h _ ?_;have he:∃q,h'.get? a=some q:=let ⟨q,_,_,hq,_⟩:=dd';⟨q,hq⟩;exact Ck I (by rw[e];exact jM) hs he (On hl hd (rel.put k rv) dd')
 ·subst ey eH;cases (show u=eZ b from ry);obtain⟨z,hd,xs,rel,dd⟩:=IB I.hok e;have hz:xs.length<=dN:=by rw[<-mZ rel];exact z
  have hl:(oi kvs k v).length<=dN:=by have:=o4 kvs k v;lia
  refine wpAny_setItem_heap (hsz:=hz) (f7 hu) (xq I.hok eb) dd λh' dd' hs=>h _ ?_;obtain⟨q,es,ep,hq,h2,h3,h4,_,h5⟩:=dd';refine Ck I (by rw[e];exact jM) hs ⟨q,hq⟩ ⟨hl,hd,_,(rel.put k eb rv).keeps λc ys ec=>?_,q,es,ep,hq,h2,h3,h4,h5⟩;rw[a6 (SM ec e (λz=>nomatch z))];exact ec
end
def K6{s:dP}(I:Inv X pins U H s)(g:DGet H a y o):s.TypeIs (.ref a) "dict":=by
 rcases g with ⟨kvs,k,e,_,_⟩|⟨kvs,k,b,e,_,_,_⟩
 ·obtain⟨_,_,vs,_,dd⟩:=Do I.hok e;exact dd.typeIs
 ·obtain⟨_,_,xs,_,dd⟩:=Dq I.hok e;exact dd.typeIs
def UO(td ty tv:TE):TS:=λD U H=>tv U H λv H1=>td U H1 λx H2=>ty U H2 λy H3=>∃a H4,x=.ref a/\DPut H3 a y v H4/\D.nx U H4
section
variable{X:Cx}{o i e value:Expr}{pos pos' tpos:Pos}{td ty tv:TE}
def Ta(hu:X.A.units+5<gQ)(ho:PE X o td)(hi:PE X i ty)(hv:PE X value tv)(hs:kB value (some (.Subscript o i pos')) pos.line X.env=pure false):
  PS X (.Assign [.Subscript o i pos'] value pos) (UO td ty tv):=by
 intro pins s U H D I h;refine wpAny_Assign_Subscript (iz (hv pins s U H _ I h) λr s1 ⟨v,H1,I1,rv,q1⟩=>iz (ho pins s1 U H1 _ I1 q1) λu s2 ⟨x,H2,I2,rx,q2⟩=>iz (hi pins s2 U H2 _ I2 q2) λiv s3 ⟨y,H3,I3,ry,a,H4,ex,g,q3⟩=>?_) hs;subst ex;obtain rfl:u=eZ a:=rx;exact Uc hu I3 g ry rv λs4 I4=>⟨U,H4,I4,q3⟩
end
def K8(h:Heap)(hb:jH<h.objs.size):ObjOk P w H (h.push {cls:=.type "dict",data:=.dict #[]}) h.objs.size (.dK []):=
 ⟨fZ _,beq_eq_false_iff_ne.mpr (jJ (eM hb)),[],.nil,Heap.DictOf.new h⟩
def Xb(h:Heap)(hb:jH<h.objs.size):ObjOk P w H (h.push {cls:=.type "dict",data:=.dict #[]}) h.objs.size (.dT []):=
 ⟨fZ _,beq_eq_false_iff_ne.mpr (jJ (eM hb)),[],.nil,_,#[],0,eD _ rfl,⟨rfl,rfl,rfl⟩,rfl,rfl,iZ⟩
def AC:TE:=λ_ H Q=>∀p,H p=none->Q (.ref p) (upd H p (.dK []))
def AB:TE:=λ_ H Q=>∀p,H p=none->Q (.ref p) (upd H p (.dT []))
section
variable{X:Cx}{pos:Pos}
def M0:PE X (.Dict [] [] pos) AC:=λpins s U H Q I h=>
 wpAny_Dict_empty ⟨.ref s.heap.objs.size,_,I.laid (a:=s.heap.objs.size) (o:=.dK []) (t':=s.toks) (λ_ _ q=>dE _ q) (dR _) (K8 s.heap I.big),rfl,h _ (I.hok.fresh (dR _))⟩
def Zb:PE X (.Dict [] [] pos) AB:=λpins s U H Q I h=>
 wpAny_Dict_empty ⟨.ref s.heap.objs.size,_,I.laid (a:=s.heap.objs.size) (o:=.dT []) (t':=s.toks) (λ_ _ q=>dE _ q) (dR _) (Xb s.heap I.big),rfl,h _ (I.hok.fresh (dR _))⟩
end
def Kk:List (TE×TE)->St->Hp->(List (V×V)->Hp->Prop)->Prop
 |[],_,H,Q=>Q [] H
 |(tk,tv)::r,U,H,Q=>tk U H λx H1=>tv U H1 λy H2=>Kk r U H2 λps H3=>Q ((x,y)::ps) H3
abbrev VV:List (V×V)->List (dG×dG)->Prop:=Paired λp q=>RelV p.1 q.1/\RelV p.2 q.2
def QX(X:Cx)(pos:Pos)(keys:List (Option Expr))(values:List Expr)(trs:List (TE×TE)):Prop:=
 ∀(pins:List (Addr×Obj))(s:dP)(U:St)(H:Hp)(Q:List (V×V)->Hp->Prop),Inv X pins U H s->Kk trs U H Q->
  dX (eJ X.prog X.w) X.A (evalPairs (pairTrees keys values X.env pos)) (λvs s'=>∃ps H',Inv X pins U H' s'/\VV ps vs/\Q ps H') X.xe s
def FF:QX X pos [] [] []:=λpins s U H Q I h=>pairTrees_nil_walk ⟨[],H,I,.nil,h⟩
def Zk(hk:PE X k tk)(hv:PE X v tv)(hr:QX X pos ks vs trs):
  QX X pos (some k::ks) (v::vs) ((tk,tv)::trs):=λpins s U H Q I h=>
 pairTrees_cons_walk (iz (hk pins s U H _ I h) λu s1 ⟨x,H1,I1,rx,q1⟩=>iz (hv pins s1 U H1 _ I1 q1) λw2 s2 ⟨y,H2,I2,ry,q2⟩=>
  iz (hr pins s2 U H2 _ I2 q2) λws s3 ⟨ps,H3,I3,rel,q3⟩=>⟨(x,y)::ps,H3,I3,.cons ⟨rx,ry⟩ rel,q3⟩)
def ni(kvs more:List (fo×V)):List (fo×V):=more.foldl (λacc kv=>oi acc kv.1 kv.2) kvs
def KV.merge:∀{more:List (fo×V)}{rs:List (fo×dG)}{kvs:List (fo×V)}{vs:List (fo×dG)},KV more rs->KV kvs vs->KV (ni kvs more) (merged vs rs):=by
 intro more rs kvs vs r;unfold KV at r;induction r generalizing kvs vs with
 |nil=>intro q;exact q
 |@cons p q ps qs h t ih=>
  intro r0;have e:KV (oi kvs p.1 p.2) (stored vs q.1 q.2):=by
   have:=r0.put p.1 h.2;rw[<-h.1];exact this
  exact ih e
theorem pq:∀(more kvs:List (fo×V)),(ni kvs more).length<=kvs.length+more.length
 |[],kvs=>by show kvs.length<=kvs.length+0;lia
 |p::r,kvs=>by
  have h1:=pq r (oi kvs p.1 p.2);have h2:=o4 kvs p.1 p.2;show(ni (oi kvs p.1 p.2) r).length<=_;rw[dI];lia
theorem Di:∀{kvs:List (fo×V)}{ws:List (dG×dG)},VV (kvs.map λkv=>(kV kv.1,kv.2)) ws->∃rs,Carries (ba P w) ws rs/\KV kvs rs
 |[],_,r=>by rw[kU]at r;cases r;exact⟨[],jM,.nil⟩
 |p::kvs,_,r=>by
  rw[dC]at r;cases r with
  |@cons a b as bs h t=>
   obtain⟨rs,c,q⟩:=Di (P:=P) (w:=w) t;obtain⟨b1,b2⟩:=b;exact⟨(p.1,b2)::rs,⟨wq h.1,rfl,c⟩,.cons ⟨rfl,h.2⟩ q⟩
def UE(trs:List (TE×TE)):TE:=λU H Q=>∀p,H p=none->Kk trs U (upd H p (.dK [])) λps H2=>H2 p=some (.dK [])/\∃kvs:List (fo×V),ps=kvs.map (λkv=>(kV kv.1,kv.2))/\kvs.length<=15/\Q (.ref p) (upd H2 p (.dK (ni [] kvs)))
def FO{keys:List (Option Expr)}{values:List Expr}(h:QX X pos keys values trs)(hall:keys.all (·.isSome)=true)(hl:keys.length=values.length)(h0:keys≠[])
  (h15:keys.length<=15):PE X (.Dict keys values pos) (UE trs):=by
 intro pins s U H Q I q;have hn:=I.hok.fresh (dR s.heap.objs.size);have I1:=I.laid (a:=s.heap.objs.size) (o:=.dK []) (h':=s.heap.push {cls:=.type "dict",data:=.dict #[]}) (t':=s.toks) (λ_ _ q=>dE _ q) (dR _) (K8 s.heap I.big);refine wpAny_Dict_walk (knd:=ba X.prog X.w) hall hl h0 h15 (iz (h pins _ U _ _ I1 (q _ hn)) λws s2 ⟨ps,H2,I2,rel,e,kvs,ep,lk,q2⟩=>?_);subst ep;obtain⟨rs,c,rk⟩:=Di (P:=X.prog) (w:=X.w) rel;obtain⟨z,hd,vs0,r0,dd⟩:=K9 I2.hok e;cases r0;refine⟨rs,c,dd,λh' dd' hs=>⟨.ref s.heap.objs.size,_,?_,rfl,q2⟩⟩;have hz:(ni [] kvs).length<=dN:=by
  have h1:=pq kvs [];rw[jD]at h1;rw[jC];lia
 have he:∃q,h'.get? s.heap.objs.size=some q:=let ⟨q,_,_,hq,_⟩:=dd';⟨q,hq⟩;exact Ck I2 (by rw[e];exact jM) hs he (On hz hd (rk.merge .nil) dd')
structure M1(X:Cx)(o:Expr)(m:Str)(apos:Pos)(e:Expr)(cpos:Pos):Prop where
 base:lT o m X.env (eval o X.env)=eval o X.env
 few:((iY cpos (eE [e] X.env)).all (λx=> !x.1) && (rA cpos (nR [] X.env)).all (λx=>x.1.isSome)
  && decide (([e]:List Expr).length+([]:List lP).length+(if([]:List lP).isEmpty then 0 else 1)<30))=true
 line:(apos.endLine==cpos.line)=true
 trees:iY cpos (eE [e] X.env)=[(false,eval e X.env)]
structure M2(X:Cx)(o:Expr)(m:Str)(apos:Pos)(e f:Expr)(cpos:Pos):Prop where
 base:lT o m X.env (eval o X.env)=eval o X.env
 few:((iY cpos (eE [e,f] X.env)).all (λx=> !x.1) && (rA cpos (nR [] X.env)).all (λx=>x.1.isSome)
  && decide (([e,f]:List Expr).length+([]:List lP).length+(if([]:List lP).isEmpty then 0 else 1)<30))=true
 line:(apos.endLine==cpos.line)=true
 trees:iY cpos (eE [e,f] X.env)=[(false,eval e X.env),(false,eval f X.env)]
def aI(H:Hp)(a:Addr):Prop:=(∃kvs,Rd H a (.dK kvs))\/∃kvs,Rd H a (.dT kvs)
def Xy(I:Inv X pins U H s)(d:aI H a):
  s.TypeIs (.ref a) "dict"/\(∀b,eZ a=.ref b->∃ob,s.heap.get? b=some ob/\ob.dict=none)/\(a==jH)=false:=by
 rcases d with ⟨kvs,e⟩|⟨kvs,e⟩
 ·obtain⟨_,hd,vs,_,dd⟩:=Do I.hok e;refine⟨dd.typeIs,λb q=>?_,hd⟩;cases q;obtain⟨ob,_,_,h1,h2,_⟩:=dd;exact⟨ob,h1,h2.2.1⟩
 ·obtain⟨_,hd,xs,_,dd⟩:=Dq I.hok e;refine⟨dd.typeIs,λb q=>?_,hd⟩;cases q;obtain⟨ob,_,_,h1,h2,_⟩:=dd;exact⟨ob,h1,h2.2.1⟩
section
variable{X:Cx}{pins:List (Addr×Obj)}{U:St}{H:Hp}{s:dP}{a:Addr}{y d:V}{u r:dG}{o:Option V}{A:fV}{E:dG->dP->Prop}
def KB(hu:A.units+5<gQ)(I:Inv X pins U H s)(g:DGet H a y o)(ry:RelV y u)(rd:RelV d r)(h:∀w' s',Inv X pins U H s'->RelV (o.getD d) w'->Q w' s'):
  dX (eJ X.prog X.w) A (call (.builtin "dict.get") [.ref a,u,r]) Q E s:=by
 rcases g with ⟨kvs,k,e,ey,l⟩|⟨kvs,k,b,e,ey,eb,l⟩
 ·subst ey;obtain⟨z,hd,vs,rel,dd⟩:=Do I.hok e;refine call_meetsIn oN dd.typeIs PySem.F.entry_dict_get (PySem.F.args_dict_get_3 _ _ _) (meets_dict_get_default (ba X.prog X.w) a (wq ry) hd r) ⟨_,dd.mapOf,h _ _ (I.tok _) ?_⟩;rw[l];exact(rel.val k).getD rd
 ·subst ey;cases (show u=eZ b from ry);obtain⟨z,hd,xs,rel,dd⟩:=Dq I.hok e;refine call_meetsIn oN dd.typeIs PySem.F.entry_dict_get (PySem.F.args_dict_get_3 _ _ _) (meetsH_dict_get_default (a9 X.prog X.w) a b hd r) ⟨f7 hu,k,xs,xq I.hok eb,dd,h _ _ (I.tok _) ?_⟩;rw[l];exact(rel.val k).getD rd
end
def PY(td ty tx:TE):TE:=λU H Q=>td U H λx H1=>∃a,x=.ref a/\aI H1 a/\ty U H1 λy H2=>tx U H2 λz H3=>∃o,DGet H3 a y o/\Q (o.getD z) H3
section
variable{X:Cx}{o e f:Expr}{apos cpos:Pos}{td ty tx:TE}
def Za(hu:X.A.units+5<gQ)(ho:PE X o td)(he:PE X e ty)(hf:PE X f tx)(m:M2 X o "get" apos e f cpos):PE X (.Call (.Attribute o "get" apos) [e,f] [] cpos) (PY td ty tx):=by
 intro pins s U H Q I h;refine wpAny_Call_method m.base m.few m.line PySem.F.plainAttrs_dict oN PySem.F.type_dict_get (iz (ho pins s U H _ I h) λu s1 ⟨x,H1,I1,rx,a,ex,d,q1⟩=>?_);subst ex;obtain rfl:u=eZ a:=rx;obtain⟨t1,t2,_⟩:=Xy I1 d;refine⟨t1,t2,?_⟩;rw[m.trees];refine nZ rfl (mG (lK (iz (he pins s1 U H1 _ I1 q1) λiv s2 ⟨y,H2,I2,ry,q2⟩=>
  lK (iz (hf pins s2 U H2 _ I2 q2) λfv s3 ⟨z,H3,I3,rz,ov,g,q3⟩=>qJ ?_))))
 exact KB hu I3 g ry rz λw' s4 I4 rw'=>⟨_,H3,I4,rw',q3⟩
end
end L2
namespace Att
open PySem PySem.W PySem.Calls PyProof.Rows
def Cf:∀(ns:List Int)(vs:List dG),WellAll P h vs (ns.map WData.int)->IntsAre vs ns:=by
 intro ns;induction ns with
 |nil=>
  intro vs w;rw[kU]at w;cases w;exact .nil
 |cons n ns ih=>
  intro vs w;rw[dC]at w;cases w with
  |cons a b=>
   cases a;exact .cons _ _ (ih _ b)
def Vt{l:OpenLaw}(hn:l.most=some n)
  (hpre:l.row.toRowW.claim.pre args=true)(hwl:WellAll P h vals args):
  ∃a vs ns,vals=[eZ a]/\args=[WData.list (ns.map WData.int)]/\h.get? a=some {cls:=.type "list",data:=.seq vs.toArray}/\IntsAre vs ns/\ns.length<=n:=by
 have hsh:WShape.hasAll [] args [.list .int]=true:=(pre_splitW hpre).1;have hc:l.pre.holds [] {args:=args}=true:=(pre_splitW hpre).2;obtain⟨d,r,rfl,h1,h2⟩:=hasAllW_cons hsh;obtain rfl:=hasAllW_nil h2;obtain⟨xs,rfl,h3⟩:=hasW_list h1;obtain⟨ns,rfl⟩:=items_int h3;have hlen:ns.length<=n:=by
  unfold OpenLaw.pre at hc;have h4:(WTm.not (.lt (.lit (.int (n:Int))) (.len (.arg 0)))).holds [] {args:=[.list (ns.map .int)]}=true:=by
   have h4:=(holds_andW hc).1;rw[hn]at h4;exact h4
  have h5:=condW_of h4 (w_not (w_lt w_lit (w_len_list (w_arg rfl))));rw[dD]at h5;refine oR λq=>?_;have q':(n:Int)<((ns.length:Nat):Int):=by lia
  first
   |(rw[decide_eq_true q']at h5;exact absurd h5 (by decide))
   |(simp at h5;lia)
 cases hwl with
 |cons w1 w2=>
  cases w2;cases w1 with
  |list ho hall=>exact⟨_,_,ns,rfl,rfl,ho,Cf ns _ hall,hlen⟩
def Vh(l:OpenLaw)(args:List WData):l.row.toRowW.claim.post args (.bool true) args=true:=
 postW_of (r:=l.row.toRowW) (X:=(true==true))
  (show WShape.has [] (.bool true) .bool=true by first|rfl|decide|simp[WShape.has,WShape.arms,WShape.armsAll])
  (show(WTm.eq .res (.lit (.bool true))).value [] {args:=args,res:=some (.bool true),after:=args}=some (.bool (true==true))from w_eq_bool (w_res rfl) w_lit) rfl
def Ku{l:OpenLaw}{n:Nat}{q:eS}{loose:List Str}{XP:(Str->Option dG)->Heap->Prop}{YP:fI->Heap->Prop}{d:DefRec}
  (hn:l.most=some n)(hdf:d.params.defaults=[])
  (call:∀(w:fI)(s₀ s₁:dP)(mg mb:Str->Option dG)(fa:Addr)(o:Obj)(pm cd doc:dG)(a:Addr)(vs:List dG)(ns:List Int),
   Ground q loose [] XP w s₀ mg mb s₁.heap->YP w s₁.heap->
   s₁.heap.get? fa=some o->o.data=.func (docDef d.name d.params d.body d.scope pm cd doc)->s₁.heap.CodeRec cd d.name->mg d.name=some (.ref fa)->
   s₁.heap.get? a=some {cls:=.type "list",data:=.seq vs.toArray}->IntsAre vs ns->ns.length<=n->s₁.gens=#[]->
   lM (eJ l.prog w) sJ (.call (.ref fa) ⟨[.ref a],[]⟩) (λr s'=>r=.ok (.ret (.bool true))/\OldK s₁.heap s'.heap/\s'.os=s₁.os/\pO s'.gens) s₁):
  WalkO q loose XP YP l.row.toRowW d [] (λf vs=>PySem.call f vs):=by
 intro w s₀ s₁ mg mb G Y fa o pm cd doc dV kV ho hd hcd hD hmg hg args vals as hpre hlay hrd hwl hlo;obtain rfl:dV=.none:=Dflts.none hD hdf;obtain rfl:kV=.none:=Dflts.noKw hD;obtain⟨a,vs,ns,rfl,rfl,hobj,hints,hlen⟩:=Vt hn hpre hwl;refine enter_call (nX (call w s₀ s₁ mg mb fa o pm cd doc a vs ns G Y ho (fd_plain hd) hcd hmg hobj hints hlen hg) λr s' hq=>?_);obtain⟨rfl,h2,h3,h4⟩:=hq;exact⟨.inl ⟨.bool true,.bool true,[],rfl,λ_=>rfl,.bool true,Vh l _,λ_=>⟨qL,λ_ hm=>(nomatch hm)⟩⟩,h2,h3,h4⟩
end Att
namespace L2
open PySem PySem.Spec PyProof.Rows
theorem Ii:∀{vs:List dG}{ns:List Int},IntsAre vs ns->Vals (ns.map V.int) vs
 |_,_,.nil=>.nil
 |_,_,.cons n t h=>.cons ⟨t,rfl⟩ (Ii h)
end L2
namespace L2
open PySem PySem.Spec PyProof.Rows
set_option bootstrap.genMatcherCode true in
def jm(s:Stmt):Arguments:=match s with
 |.FunctionDef _ a _ _ _ _ _ _ _ _=>a
 |_=>{posonlyargs:=[],args:=[],vararg:=none,kwonlyargs:=[],kw_defaults:=[],kwarg:=none,defaults:=[]}
set_option bootstrap.genMatcherCode true in
def f6(s:Stmt):List Stmt:=match s with
 |.FunctionDef _ _ b _ _ _ _ _ _ _=>b
 |_=>[]
set_option bootstrap.genMatcherCode true in
def bz(s:Stmt):jW:=match s with
 |.FunctionDef _ _ _ _ _ _ sc _ _ _=>sc
 |_=>{kind:=.function,names:=[],isGenerator:=false,isCoroutine:=false}
abbrev QC:BD:=λ_ _ _ _ _ _=>False
abbrev E0:XK:=λ_ _ _=>False
structure Fun(K:eB)(x qual:Str)(st:Stmt)(f:Addr)(fd:lS):Prop where
 ex:∃(oc:dG) (od:Option Addr) (kV doc pm:dG) (an:Option Addr) (cdv ct:dG) (osl:Array (Option dG)),
  fd=iU x qual (jm st) (f6 st) (bz st) .none kV doc pm an cdv ct/\K.lookup f=some ⟨oc,od,.func fd,osl⟩/\lF K cdv qual=true
 kp:gO K (.ref f)=true
section
variable{P:eS}{w:fI}{K:eB}{mg:Str->Option dG}{base:Heap}
def Fun.binds{x qual:Str}{st:Stmt}{f:Addr}{fd:lS}{ps:List Str}(F:Fun K x qual st f fd)
  (h:∀(kV doc pm:dG)(an:Option Addr)(cdv ct:dG)(us:List dG),us.length=ps.length->bindArgs (iU x qual (jm st) (f6 st) (bz st) .none kV doc pm an cdv ct) ⟨us,[]⟩=pure (ps.zip us)):Binds K fd ps []:=by
 obtain⟨oc,od,kV,doc,pm,an,cdv,ct,osl,rfl,lk,hcd⟩:=F.ex;exact .all (h kV doc pm an cdv ct)
def Xm{x qual:Str}{st:Stmt}{f:Addr}{oc:dG}{od an:Option Addr}{osl:Array (Option dG)}{kV doc pm cdv ct:dG}(l:K.lookup f=some ⟨oc,od,.func (iU x qual (jm st) (f6 st) (bz st) .none kV doc pm an cdv ct),osl⟩)
  (c:lF K cdv qual=true)(k:gO K (.ref f)=true):Fun K x qual st f (iU x qual (jm st) (f6 st) (bz st) .none kV doc pm an cdv ct):=⟨⟨oc,od,kV,doc,pm,an,cdv,ct,osl,rfl,l,c⟩,k⟩
end
def Same(H H':Hp):Prop:=∀b o,H b=some o->H' b=some o
def Same.refl(H:Hp):Same H H:=λ_ _ h=>h
def Same.trans(a:Same H H1)(b:Same H1 H2):Same H H2:=λc o h=>b c o (a c o h)
def Same.seq{K:eB}{H H':Hp}{a:Addr}{xs:List V}(e:Same H H')(h:SqL K H a xs):SqL K H' a xs:=by
 rcases h with (h|⟨o,h⟩)|h
 ·exact .inl (.inl (e _ _ h))
 ·exact .inl (.inr ⟨o,e _ _ h⟩)
 ·exact .inr h
end L2
end
section
namespace Pu
open PySem
def Qs:List (Addr×Addr×Str):=[]
end Pu
end
section
namespace Pu
open PySem PySem.Spec PyProof.Rows L2
abbrev St:=L2.St
structure KA where
 K:eB
 A:Str->Addr
instance:CoeOut KA eB:=⟨KA.K⟩
def Fs(mg:Str->Option dG)(x:Str):Addr:=match mg x with
 |some (.ref a)=>a
 |_=>0
abbrev kx(X:Cx):KA:=⟨X.K,Fs X.mg⟩
abbrev EK:=Str->Hp->Prop
abbrev ek(K:KA)(E:XK):EK:=λc H=>E (.ref (K.A c)) none H
inductive D where
 |non
 |bl (b:Bool)
 |int (i:Int)
 |str (x:Str)
 |tup (ds:List D)
 |lst (ds:List D)
 |dct (t:Bool) (kvs:List (D×D))
 |obj (e:Expr) (fs:List (Str×D))
 |fn (f:Str)
def kD:fo->D
 |.inl i=>.int i
 |.inr x=>.str x
def gi:List (Str×lE)->List Str
 |[]=>[]
 |(n,k)::r=>if k=.free then n::gi r else gi r
def LamAt(H:Hp)(e:Expr)(a:Addr)(vs:List (Str×V)):Prop:=match e with
 |.Lambda params body scope _=>∃(qual:Str) (pm:dG) (c':Addr) (ctv:dG) (cl:List (Str×Addr)) (oc:Obj) (cvs:Array dG) (t:Tok),
   H a=some (.frz (PySem.W.kla_obj "<lambda>" qual params body scope cl pm c' ctv) (.own 0))/\H c'=some (.frz oc (.own 0))/\oc.data=.fields cvs/\cvs[1]?=some (.str qual t)/\
   (∀x y c,cl.lookup x=some c->cl.lookup y=some c->x=y)/\(∀y,(y,jX)∈scope.names->∃c,cl.lookup y=some c)/\(∀y c,cl.lookup y=some c->(y,jX)∈scope.names)/\
   (∀y c,cl.lookup y=some c->∃o v u,H c=some (.frz o (.own 0))/\o.data=.cell (some u)/\(y,v)∈vs/\RelV v u)/\vs.map (·.1)=gi scope.names
 |_=>False
def LamAt.mono(q:Same H H')(h:LamAt H e a vs):LamAt H' e a vs:=by
 unfold LamAt at h⊢;split at h
 ·obtain⟨qual,pm,c',ctv,cl,oc,cvs,t,h1,h2,h3,h4,h5,h6,h7,h8,h9⟩:=h;refine⟨qual,pm,c',ctv,cl,oc,cvs,t,q _ _ h1,q _ _ h2,h3,h4,h5,h6,h7,λy c z=>?_,h9⟩;obtain⟨o,v,u,z1,z2⟩:=h8 y c z;exact⟨o,v,u,q _ _ z1,z2⟩
 ·exact h.elim
def JR:NK->D
 |.inl k=>kD k
 |.inr ks=>.tup (ks.map kD)
def kT(k:bg):D:=.tup (k.map JR)
mutual
def Den(K:KA)(H:Hp):D->V->Prop
 |.non,v=>v=.non
 |.bl b,v=>v=.bl b
 |.int i,v=>v=.int i
 |.str x,v=>v=.str x
 |.tup ds,v=>∃a vs,v=.ref a/\H a=some (.tup vs)/\DenL K H ds vs
 |.lst ds,v=>∃a vs,v=.ref a/\SqL K H a vs/\DenL K H ds vs
 |.dct t kvs,v=>∃a,v=.ref a/\((t=false/\∃es,H a=some (.dK es)/\DenK K H kvs es)\/(t=true/\∃es,H a=some (.dT es)/\DenT K H kvs es))
 |.obj e fs,v=>∃a vs,v=.ref a/\LamAt H e a vs/\DenF K H fs vs
 |.fn f,v=>v=.ref (K.A f)
def DenL(K:KA)(H:Hp):List D->List V->Prop
 |[],vs=>vs=[]
 |d::ds,vs=>∃v r,vs=v::r/\Den K H d v/\DenL K H ds r
def DenF(K:KA)(H:Hp):List (Str×D)->List (Str×V)->Prop
 |[],vs=>vs=[]
 |(n,d)::ds,vs=>∃v r,vs=(n,v)::r/\Den K H d v/\DenF K H ds r
def DenK(K:KA)(H:Hp):List (D×D)->List (fo×V)->Prop
 |[],vs=>vs=[]
 |(k,d)::ds,vs=>∃k' v r,vs=(k',v)::r/\k=kD k'/\Den K H d v/\DenK K H ds r
def DenT(K:KA)(H:Hp):List (D×D)->List (bg×V)->Prop
 |[],vs=>vs=[]
 |(k,d)::ds,vs=>∃k' v r,vs=(k',v)::r/\k=kT k'/\Den K H d v/\DenT K H ds r
end
def SqL.mono{K:KA}{H H':Hp}{a:Addr}{xs:List V}(e:Same H H')(h:SqL K H a xs):SqL K H' a xs:=e.seq h
def SqT.mono{K:KA}{H H':Hp}{a:Addr}{xs:List V}(e:Same H H')(h:SqT K H a xs):SqT K H' a xs:=by
 rcases h with (h|⟨o,h⟩)|h
 ·exact .inl (.inl (e _ _ h))
 ·exact .inl (.inr ⟨o,e _ _ h⟩)
 ·exact .inr h
mutual
theorem Den.mono{K:KA}{H H':Hp}(e:Same H H'):∀{d:D}{v:V},Den K H d v->Den K H' d v
 |.non,_,h=>h
 |.bl _,_,h=>h
 |.int _,_,h=>h
 |.str _,_,h=>h
 |.tup _,_,⟨a,vs,h1,h2,h3⟩=>⟨a,vs,h1,e _ _ h2,DenL.mono e h3⟩
 |.lst _,_,⟨a,vs,h1,h2,h3⟩=>⟨a,vs,h1,SqL.mono e h2,DenL.mono e h3⟩
 |.dct _ _,_,⟨a,h1,h2⟩=>⟨a,h1,h2.elim (λ⟨z,es,q1,q2⟩=>.inl ⟨z,es,e _ _ q1,DenK.mono e q2⟩) λ⟨z,es,q1,q2⟩=>.inr ⟨z,es,e _ _ q1,DenT.mono e q2⟩⟩
 |.obj _ _,_,⟨a,vs,h1,h2,h3⟩=>⟨a,vs,h1,h2.mono e,DenF.mono e h3⟩
 |.fn _,_,h=>h
theorem DenL.mono{K:KA}{H H':Hp}(e:Same H H'):∀{ds:List D}{vs:List V},DenL K H ds vs->DenL K H' ds vs
 |[],_,h=>h
 |_::_,_,⟨v,r,h1,h2,h3⟩=>⟨v,r,h1,Den.mono e h2,DenL.mono e h3⟩
theorem DenF.mono{K:KA}{H H':Hp}(e:Same H H'):∀{ds:List (Str×D)}{vs:List (Str×V)},DenF K H ds vs->DenF K H' ds vs
 |[],_,h=>h
 |(_,_)::_,_,⟨v,r,h1,h2,h3⟩=>⟨v,r,h1,Den.mono e h2,DenF.mono e h3⟩
theorem DenK.mono{K:KA}{H H':Hp}(e:Same H H'):∀{ds:List (D×D)}{vs:List (fo×V)},DenK K H ds vs->DenK K H' ds vs
 |[],_,h=>h
 |(_,_)::_,_,⟨k,v,r,h1,h0,h2,h3⟩=>⟨k,v,r,h1,h0,Den.mono e h2,DenK.mono e h3⟩
theorem DenT.mono{K:KA}{H H':Hp}(e:Same H H'):∀{ds:List (D×D)}{vs:List (bg×V)},DenT K H ds vs->DenT K H' ds vs
 |[],_,h=>h
 |(_,_)::_,_,⟨k,v,r,h1,h0,h2,h3⟩=>⟨k,v,r,h1,h0,Den.mono e h2,DenT.mono e h3⟩
end
section
variable{K:KA}{G H:Hp}
theorem DenL.length:∀{ds:List D}{vs:List V},DenL K H ds vs->ds.length=vs.length
 |[],_,h=>by rw[show _=[]from h];rfl
 |_::_,_,⟨v,r,h1,_,h3⟩=>by rw[h1,dI,dI,DenL.length h3]
theorem DenL.get:∀{ds:List D}{vs:List V}{i:Nat}{d:D},DenL K H ds vs->ds[i]?=some d->∃v,vs[i]?=some v/\Den K H d v
 |[],_,_,_,_,e=>by simp at e
 |_::_,_,0,_,⟨v,r,h1,h2,_⟩,e=>by
  simp at e;subst e;subst h1;exact⟨v,rfl,h2⟩
 |_::_,_,i+1,_,⟨v,r,h1,_,h3⟩,e=>by
  obtain⟨w,q1,q2⟩:=DenL.get (i:=i) h3 (by simpa using e);subst h1;exact⟨w,by simpa using q1,q2⟩
theorem DenL.append:∀{ds es:List D}{vs ws:List V},DenL K H ds vs->DenL K H es ws->DenL K H (ds++es) (vs++ws)
 |[],_,_,_,h,q=>by rw[show _=[]from h];exact q
 |_::_,_,_,_,⟨v,r,h1,h2,h3⟩,q=>⟨v,r++_,by rw[h1];rfl,h2,DenL.append h3 q⟩
def DenL.one(h:Den K H d v):DenL K H [d] [v]:=⟨v,[],rfl,h,rfl⟩
theorem DenL.drop:∀(n:Nat){ds:List D}{vs:List V},DenL K H ds vs->DenL K H (ds.drop n) (vs.drop n)
 |0,_,_,h=>h
 |_+1,[],_,h=>by rw[show _=[]from h];exact rfl
 |n+1,_::_,_,⟨v,r,h1,_,h3⟩=>by subst h1;exact DenL.drop n h3
theorem DenL.take:∀(n:Nat){ds:List D}{vs:List V},DenL K H ds vs->DenL K H (ds.take n) (vs.take n)
 |0,_,_,_=>rfl
 |_+1,[],_,h=>by rw[show _=[]from h];exact rfl
 |n+1,_::_,_,⟨v,r,h1,h2,h3⟩=>by subst h1;exact⟨v,r.take n,rfl,h2,DenL.take n h3⟩
end
def aB:HO->Bool
 |.frz _ _=>false
 |.tup _=>false
 |_=>true
structure Ext(G H G' H':Hp):Prop where
 gg:Same G G'
 hh:Same H H'
 gh:Same G' H'
 fr:∀a o,H a=some o->G a=none->aB o=true->G' a=none
theorem Ext.refl(h:Same G H):Ext G H G H:=⟨Same.refl G,Same.refl H,h,λ_ _ _ q _=>q⟩
theorem Ext.trans(a:Ext G H G1 H1)(b:Ext G1 H1 G2 H2):Ext G H G2 H2:=
 ⟨a.gg.trans b.gg,a.hh.trans b.hh,b.gh,λx o h g z=>b.fr x o (a.hh x o h) (a.fr x o h g z) z⟩
def di(h:H p=none)(o:HO):Same H (upd H p o):=λb u q=>by rw[a6 (b0 q h)];exact q
def Ext.new(h:Same G H)(o:HO)(n:H p=none):Ext G H (upd G p o) (upd H p o):=by
 have ng:G p=none:=by
  cases e:G p with
  |none=>rfl
  |some u=>rw[h p u e]at n;cases n
 refine⟨di ng o,di n o,λb u q=>?_,λa u q g _=>?_⟩
 ·by_cases e:b=p
  ·subst e;rw[bj]at q⊢;exact q
  ·rw[a6 e]at q⊢;exact h b u q
 ·rw[a6 (b0 q n)];exact g
def Ext.own(h:Same G H)(o:HO)(n:H p=none):Ext G H G (upd H p o):=by
 refine⟨Same.refl G,di n o,λb u q=>?_,λa u q g _=>g⟩;exact di n o b u (h b u q)
def Arg(K:KA)(G H:Hp)(d:D)(v:V):Prop:=
 Den K G d v\/(∃ds a vs,d=.lst ds/\v=.ref a/\SqL K H a vs/\DenL K G ds vs)\/
  ∃t kvs a,d=.dct t kvs/\v=.ref a/\((t=false/\∃es,H a=some (.dK es)/\DenK K G kvs es)\/(t=true/\∃es,H a=some (.dT es)/\DenT K G kvs es))
def Arg.ext{K:KA}{G H G' H':Hp}{d:D}{v:V}(e:Ext G H G' H')(h:Arg K G H d v):Arg K G' H' d v:=by
 rcases h with h|⟨ds,a,vs,h1,h2,h3,h4⟩|⟨t,kvs,a,h1,h2,h3⟩
 ·exact .inl (h.mono e.gg)
 ·exact .inr (.inl ⟨ds,a,vs,h1,h2,SqL.mono e.hh h3,h4.mono e.gg⟩)
 ·exact .inr (.inr ⟨t,kvs,a,h1,h2,h3.elim (λ⟨z,es,q1,q2⟩=>.inl ⟨z,es,e.hh _ _ q1,q2.mono e.gg⟩) λ⟨z,es,q1,q2⟩=>.inr ⟨z,es,e.hh _ _ q1,q2.mono e.gg⟩⟩)
theorem Arg.lst{K:KA}{G H:Hp}{ds:List D}{v:V}(s:Same G H)(h:Arg K G H (.lst ds) v):∃a vs,v=.ref a/\SqL K H a vs/\DenL K G ds vs:=by
 rcases h with ⟨a,vs,h1,h2,h3⟩|⟨ds',a,vs,h1,h2,h3,h4⟩|⟨t,kvs,a,h1,_⟩
 ·exact⟨a,vs,h1,SqL.mono s h2,h3⟩
 ·cases h1;exact⟨a,vs,h2,h3,h4⟩
 ·cases h1
def Arg.tup0{K:KA}{G H:Hp}{ds:List D}{v:V}(s:Same G H)(h:Arg K G H (.tup ds) v):∃a vs,v=.ref a/\H a=some (.tup vs)/\DenL K G ds vs:=by
 rcases h with ⟨a,vs,h1,h2,h3⟩|⟨ds',a,vs,h1,_⟩|⟨t,kvs,a,h1,_⟩
 ·exact⟨a,vs,h1,s _ _ h2,h3⟩
 ·cases h1
 ·cases h1
theorem Arg.tup{K:KA}{G H:Hp}{ds:List D}{v:V}(s:Same G H)(h:Arg K G H (.tup ds) v):∃a vs,v=.ref a/\SqT K H a vs/\DenL K G ds vs:=by
 obtain⟨a,vs,h1,h2,h3⟩:=h.tup0 s;exact⟨a,vs,h1,.inl (.inl h2),h3⟩
theorem Arg.int{K:KA}{G H:Hp}{i:Int}{v:V}(h:Arg K G H (.int i) v):v=.int i:=by
 rcases h with h|⟨ds',a,vs,h1,_⟩|⟨t,kvs,a,h1,_⟩
 ·exact h
 ·cases h1
 ·cases h1
theorem Arg.bl{K:KA}{G H:Hp}{i:Bool}{v:V}(h:Arg K G H (.bl i) v):v=.bl i:=by
 rcases h with h|⟨ds',a,vs,h1,_⟩|⟨t,kvs,a,h1,_⟩
 ·exact h
 ·cases h1
 ·cases h1
theorem Arg.str{K:KA}{G H:Hp}{i:Str}{v:V}(h:Arg K G H (.str i) v):v=.str i:=by
 rcases h with h|⟨ds',a,vs,h1,_⟩|⟨t,kvs,a,h1,_⟩
 ·exact h
 ·cases h1
 ·cases h1
theorem Arg.non{K:KA}{G H:Hp}{v:V}(h:Arg K G H .non v):v=.non:=by
 rcases h with h|⟨ds',a,vs,h1,_⟩|⟨t,kvs,a,h1,_⟩
 ·exact h
 ·cases h1
 ·cases h1
theorem Arg.fn{K:KA}(h:Arg K G H (.fn f) v):v=.ref (K.A f):=by
 rcases h with h|⟨ds',a,vs,h1,_⟩|⟨t,kvs,a,h1,_⟩
 ·exact h
 ·cases h1
 ·cases h1
inductive Res where
 |ok (d:D)
 |er (c:Str)
 |st
def Res.bind(r:Res)(f:D->Res):Res:=match r with
 |.ok d=>f d
 |.er c=>.er c
 |.st=>.st
def Res.of(o:Option D):Res:=match o with
 |some d=>.ok d
 |none=>.st
inductive ResL where
 |ok (ds:List D)
 |er (c:Str)
 |st
inductive Sl where
 |no
 |pu (d:D)
 |bo (d:D)
 |ow (ds:List D)
 |od (t:Bool) (kvs:List (D×D))
abbrev En:=List Sl
def SlOk(K:KA)(B G H:Hp):Sl->Option V->Prop
 |.no,_=>True
 |.pu d,o=>∃v,o=some v/\Den K G d v
 |.bo d,o=>∃v,o=some v/\Arg K G B d v
 |.ow ds,o=>∃a vs,o=some (.ref a)/\H a=some (.lst vs)/\DenL K G ds vs
 |.od false kvs,o=>∃a es,o=some (.ref a)/\H a=some (.dK es)/\DenK K G kvs es
 |.od true kvs,o=>∃a es,o=some (.ref a)/\H a=some (.dT es)/\DenT K G kvs es
def Sl.own:Sl->Bool
 |.ow _=>true
 |.od _ _=>true
 |_=>false
def GOk(H:Hp):Prop:=∀p∈Qs,H p.2.1=some (.tbl (p.2.2))
def GOk.same(e:Same H H')(h:GOk H):GOk H':=λp hp=>e _ _ (h p hp)
structure EnvR(K:KA)(B G H:Hp)(U:St)(δ:En):Prop where
 bh:Same B H
 gh:Same G H
 len:U.length=δ.length
 sl:∀(i:Nat) s,δ[i]?=some s->∃o,U[i]?=some o/\SlOk K B G H s o
 own:∀(i:Nat) s a,δ[i]?=some s->s.own=true->U[i]?=some (some (V.ref a))->G a=none/\B a=none
 dis:∀(i j:Nat) s t a,δ[i]?=some s->δ[j]?=some t->s.own=true->t.own=true->U[i]?=some (some (V.ref a))->U[j]?=some (some (V.ref a))->i=j
 gb:GOk B
def RU{K:KA}{G G' H:Hp}{d:D}{v:V}(e:Same G G')(h:Arg K G H d v):Arg K G' H d v:=by
 rcases h with h|⟨ds,a,vs,h1,h2,h3,h4⟩|⟨t,kvs,a,h1,h2,h3⟩
 ·exact .inl (h.mono e)
 ·exact .inr (.inl ⟨ds,a,vs,h1,h2,h3,h4.mono e⟩)
 ·exact .inr (.inr ⟨t,kvs,a,h1,h2,h3.elim (λ⟨z,es,q1,q2⟩=>.inl ⟨z,es,q1,q2.mono e⟩) λ⟨z,es,q1,q2⟩=>.inr ⟨z,es,q1,q2.mono e⟩⟩)
def ZY{K:KA}{G H H':Hp}{d:D}{v:V}(e:Same H H')(h:Arg K G H d v):Arg K G H' d v:=by
 rcases h with h|⟨ds,a,vs,h1,h2,h3,h4⟩|⟨t,kvs,a,h1,h2,h3⟩
 ·exact .inl h
 ·exact .inr (.inl ⟨ds,a,vs,h1,h2,SqL.mono e h3,h4⟩)
 ·exact .inr (.inr ⟨t,kvs,a,h1,h2,h3.elim (λ⟨z,es,q1,q2⟩=>.inl ⟨z,es,e _ _ q1,q2⟩) λ⟨z,es,q1,q2⟩=>.inr ⟨z,es,e _ _ q1,q2⟩⟩)
def SlOk.ext{K:KA}{B G H G' H':Hp}(e:Ext G H G' H'){s:Sl}{o:Option V}(h:SlOk K B G H s o):SlOk K B G' H' s o:=by
 cases s with
 |no=>trivial
 |pu d=>obtain⟨v,h1,h2⟩:=h;exact⟨v,h1,h2.mono e.gg⟩
 |bo d=>obtain⟨v,h1,h2⟩:=h;exact⟨v,h1,RU e.gg h2⟩
 |ow ds=>obtain⟨a,vs,h1,h2,h3⟩:=h;exact⟨a,vs,h1,e.hh _ _ h2,h3.mono e.gg⟩
 |od t kvs=>
  cases t with
  |false=>obtain⟨a,vs,h1,h2,h3⟩:=h;exact⟨a,vs,h1,e.hh _ _ h2,h3.mono e.gg⟩
  |true=>obtain⟨a,vs,h1,h2,h3⟩:=h;exact⟨a,vs,h1,e.hh _ _ h2,h3.mono e.gg⟩
theorem SlOk.ref{K:KA}{B G H:Hp}{s:Sl}{o:Option V}(h:SlOk K B G H s o)(q:s.own=true):∃a,o=some (V.ref a)/\∃u,H a=some u/\aB u=true:=by
 cases s with
 |no=>cases q
 |pu d=>cases q
 |bo d=>cases q
 |ow ds=>obtain⟨a,vs,h1,h2,_⟩:=h;exact⟨a,h1,_,h2,rfl⟩
 |od t kvs=>
  cases t with
  |false=>obtain⟨a,vs,h1,h2,_⟩:=h;exact⟨a,h1,_,h2,rfl⟩
  |true=>obtain⟨a,vs,h1,h2,_⟩:=h;exact⟨a,h1,_,h2,rfl⟩
theorem EnvR.ext{K:KA}{B G H G' H':Hp}{U:St}{δ:En}(e:Ext G H G' H')(r:EnvR K B G H U δ):EnvR K B G' H' U δ where
 bh:=r.bh.trans e.hh
 gb:=r.gb
 gh:=e.gh
 len:=r.len
 sl:=λi s h=>by
  obtain⟨o,q1,q2⟩:=r.sl i s h;exact⟨o,q1,q2.ext e⟩
 own:=λi s a h1 h2 h3=>by
  obtain⟨g,b⟩:=r.own i s a h1 h2 h3;obtain⟨o,q1,q2⟩:=r.sl i s h1;rw[h3]at q1;cases q1;obtain⟨a',z,u,q3,q4⟩:=q2.ref h2;cases z;exact⟨e.fr a u q3 g q4,b⟩
 dis:=r.dis
def ResP(E:EK)(G H:Hp)(r:Res)(P:D->Prop):Prop:=match r with
 |.ok d=>P d
 |.er c=>∀G' H',Ext G H G' H'->E c H'
 |.st=>False
def ResLP(E:EK)(G H:Hp)(r:ResL)(P:List D->Prop):Prop:=match r with
 |.ok ds=>P ds
 |.er c=>∀G' H',Ext G H G' H'->E c H'
 |.st=>False
section
variable{E:EK}{G H G' H':Hp}
def ResP.mono(h:ResP E G H r P)(f:∀d,r=.ok d->P d->P' d):ResP E G H r P':=by
 cases r with
 |ok d=>exact f d rfl h
 |er c=>exact h
 |st=>exact h
def ResP.ext(e:Ext G H G' H')(h:ResP E G H r P):ResP E G' H' r P:=by
 cases r with
 |ok d=>exact h
 |er c=>exact λG2 H2 e2=>h G2 H2 (e.trans e2)
 |st=>exact h
theorem ResP.bind{r:Res}(h:ResP E G H (r.bind f) P):ResP E G H r λd=>ResP E G H (f d) P:=by
 cases r with
 |ok d=>exact h
 |er c=>exact h
 |st=>exact h
theorem ResP.of(h:ResP E G H (Res.of o) P):∃d,o=some d/\P d:=by
 cases o with
 |some d=>exact⟨d,rfl,h⟩
 |none=>exact h.elim
def ResLP.mono(h:ResLP E G H r P)(f:∀d,r=.ok d->P d->P' d):ResLP E G H r P':=by
 cases r with
 |ok d=>exact f d rfl h
 |er c=>exact h
 |st=>exact h
def ResLP.ext(e:Ext G H G' H')(h:ResLP E G H r P):ResLP E G' H' r P:=by
 cases r with
 |ok d=>exact h
 |er c=>exact λG2 H2 e2=>h G2 H2 (e.trans e2)
 |st=>exact h
end
def YN(K:KA)(G H:Hp)(m:Bool)(d:D)(v:V):Prop:=match m with
 |true=>Arg K G H d v
 |false=>Den K G d v
def ArgsM(K:KA)(G H:Hp):List Bool->List D->List V->Prop
 |[],ds,vs=>ds=[]/\vs=[]
 |m::ms,ds,vs=>∃d dr v vr,ds=d::dr/\vs=v::vr/\YN K G H m d v/\ArgsM K G H ms dr vr
theorem ArgsM.length{K:KA}{G H:Hp}:∀{ms:List Bool}{ds:List D}{vs:List V},ArgsM K G H ms ds vs->ds.length=ms.length/\vs.length=ms.length
 |[],_,_,⟨h1,h2⟩=>by rw[h1,h2];exact⟨rfl,rfl⟩
 |_::_,_,_,⟨d,dr,v,vr,h1,h2,h3,h4⟩=>by
  obtain⟨q1,q2⟩:=h4.length;rw[h1,h2,dI,dI,dI,q1,q2];exact⟨rfl,rfl⟩
section
variable(K:KA)(B:Hp)(E:EK)
def Vy(g:En->Res):TE:=λU H Q=>∃G δ,EnvR K B G H U δ/\ResP E G H (g δ) λd=>∀v G' H',Ext G H G' H'->Den K G' d v->Q v H'
def JF(g:En->Res):TE:=λU H Q=>∃G δ,EnvR K B G H U δ/\ResP E G H (g δ) λd=>∀v G' H',Ext G H G' H'->Arg K G' H' d v->Q v H'
def bT(g:En->Res):TE:=λU H Q=>∃G δ,EnvR K B G H U δ/\ResP E G H (g δ) λd=>∃ds,d=.lst ds/\
 ∀a vs G' H',Ext G H G' H'->H a=none->G' a=none->H' a=some (.lst vs)->DenL K G' ds vs->Q (.ref a) H'
def bS(g:En->Res):TT:=λU H Q=>∃G δ,EnvR K B G H U δ/\ResP E G H (g δ) λd=>∃b,d=.bl b/\∀G' H',Ext G H G' H'->Q b H'
def ZC(ms:List Bool)(g:En->ResL):TA:=λU H Q=>∃G δ,EnvR K B G H U δ/\ResLP E G H (g δ) λds=>∀vs G' H',Ext G H G' H'->ArgsM K G' H' ms ds vs->Q vs H'
end
abbrev fq(X:Cx)(B:Hp)(E:EK)(e:Expr)(g:En->Res):Prop:=PE X e (Vy (kx X) B E g)
abbrev jc(X:Cx)(B:Hp)(E:EK)(e:Expr)(g:En->Res):Prop:=PE X e (JF (kx X) B E g)
abbrev CY(X:Cx)(B:Hp)(E:EK)(e:Expr)(g:En->Res):Prop:=PE X e (bT (kx X) B E g)
abbrev Fu(X:Cx)(B:Hp)(E:EK)(e:Expr)(g:En->Res):Prop:=PT X e (bS (kx X) B E g)
abbrev BB(X:Cx)(B:Hp)(E:EK)(e:Expr)(g:En->Res):Prop:=PW X e (bS (kx X) B E g)
abbrev Q6(X:Cx)(B:Hp)(E:EK)(ms:List Bool)(es:List Expr)(g:En->ResL):Prop:=PA X es (ZC (kx X) B E ms g)
def PE.imp(h:PE X e t)(i:∀U H Q,t' U H Q->t U H Q):PE X e t':=λpins s U H Q I q=>h pins s U H Q I (i U H Q q)
def PT.imp(h:PT X e t)(i:∀U H Q,t' U H Q->t U H Q):PT X e t':=λpins s U H Q I q=>h pins s U H Q I (i U H Q q)
def PW.imp(h:PW X e t)(i:∀U H Q,t' U H Q->t U H Q):PW X e t':=λwh pins s U H Q I q=>h wh pins s U H Q I (i U H Q q)
def PA.imp(h:PA X e t)(i:∀U H Q,t' U H Q->t U H Q):PA X e t':=λpos pins s U H Q I q=>h pos pins s U H Q I (i U H Q q)
section
variable{X:Cx}{B:Hp}{E:EK}{e a b c:Expr}{es:List Expr}{g h k:En->Res}{pos:Pos}
noncomputable def bc(i:Nat):En->Res:=λδ=>match δ[i]? with
 |some (.pu d)=>.ok d
 |_=>.st
noncomputable def ah(i:Nat):En->Res:=λδ=>match δ[i]? with
 |some (.pu d)=>.ok d
 |some (.bo d)=>.ok d
 |some (.ow ds)=>.ok (.lst ds)
 |some (.od t kvs)=>.ok (.dct t kvs)
 |_=>.st
noncomputable def gC(d:D):En->Res:=λ_=>.ok d
def EnvR.var{K:KA}{G H:Hp}{U:St}{δ:En}{i:Nat}{d:D}(R:EnvR K B G H U δ)(h:δ[i]?=some (.pu d)):∃v,U[i]?=some (some v)/\Den K G d v:=by
 obtain⟨o,q1,v,q2,q3⟩:=R.sl i _ h;exact⟨v,by rw[q1,q2],q3⟩
def EnvR.arg{K:KA}{G H:Hp}{U:St}{δ:En}{i:Nat}{d:D}(R:EnvR K B G H U δ)(h:ah i δ=.ok d):∃v,U[i]?=some (some v)/\Arg K G H d v:=by
 unfold ah at h;cases e:δ[i]? with
 |none=>rw[e]at h;cases h
 |some s=>
  rw[e]at h;obtain⟨o,q1,q2⟩:=R.sl i _ e;cases s with
  |no=>cases h
  |pu d'=>
   cases h;obtain⟨v,q2,q3⟩:=q2;exact⟨v,by rw[q1,q2],.inl q3⟩
  |bo d'=>
   cases h;obtain⟨v,q2,q3⟩:=q2;exact⟨v,by rw[q1,q2],ZY R.bh q3⟩
  |ow ds=>
   cases h;obtain⟨a,vs,q2,q3,q4⟩:=q2;exact⟨.ref a,by rw[q1,q2],.inr (.inl ⟨ds,a,vs,rfl,rfl,SqL.of q3,q4⟩)⟩
  |od t kvs=>
   cases h;cases t with
   |false=>
    obtain⟨a,vs,q2,q3,q4⟩:=q2;exact⟨.ref a,by rw[q1,q2],.inr (.inr ⟨false,kvs,a,rfl,rfl,.inl ⟨rfl,vs,q3,q4⟩⟩)⟩
   |true=>
    obtain⟨a,vs,q2,q3,q4⟩:=q2;exact⟨.ref a,by rw[q1,q2],.inr (.inr ⟨true,kvs,a,rfl,rfl,.inr ⟨rfl,vs,q3,q4⟩⟩)⟩
def OW(i:Nat){x:Str}(h:PE X (.Name x pos) (Gc i)):fq X B E (.Name x pos) (bc i):=PE.imp h λU H Q ⟨G,δ,R,q⟩=>by
 unfold bc at q;cases e:δ[i]? with
 |none=>rw[e]at q;exact q.elim
 |some s=>
  rw[e]at q;cases s with
  |pu d=>
   obtain⟨v,q1,q2⟩:=R.var e;exact⟨v,q1,q v G H (Ext.refl R.gh) q2⟩
  |no=>exact q.elim
  |bo d=>exact q.elim
  |ow d=>exact q.elim
  |od t d=>exact q.elim
def KN(i:Nat)(h:PE X (.Name x pos) (Gc i)):jc X B E (.Name x pos) (ah i):=PE.imp h λU H Q ⟨G,δ,R,q⟩=>by
 cases e:ah i δ with
 |ok d=>
  rw[e]at q;obtain⟨v,q1,q2⟩:=R.arg e;exact⟨v,q1,q v G H (Ext.refl R.gh) q2⟩
 |er c=>
  unfold ah at e;split at e<;>cases e
 |st=>rw[e]at q;exact q.elim
def TR(h:fq X B E e g):jc X B E e g:=PE.imp h λU H Q ⟨G,δ,R,q⟩=>⟨G,δ,R,q.mono λd _ q v G' H' x y=>q v G' H' x (.inl y)⟩
def qr(h:PE X e (tC v))(r:∀H,Den (kx X) H d v):fq X B E e (gC d):=PE.imp h λU H Q ⟨G,δ,R,q⟩=>q v G H (Ext.refl R.gh) (r G)
def NJ{i j}:fq X B E (.Constant (.int i) j pos) (gC (.int i)):=qr Zc λ_=>rfl
def TQ{b j}:fq X B E (.Constant (.bool b) j pos) (gC (.bl b)):=qr SD λ_=>rfl
def NC{j}:fq X B E (.Constant .none j pos) (gC .non):=qr MG λ_=>rfl
def OZ{x j}:fq X B E (.Constant (.str x) j pos) (gC (.str x)):=qr MD λ_=>rfl
def GP(hg:Gl X x)(hm:X.mg x=some (.str y t))(hd:(x==("__debug__":Str))=false:=by decide):fq X B E (.Name x pos) (gC (.str y)):=qr (v:=.str y) (Sz hg hm ⟨t,rfl⟩ hd) λ_=>rfl
def mq(h:mg x=some (.ref f)):Fs mg x=f:=by unfold Fs;rw[h]
def NL(hg:Gl X x)(hm:X.mg x=some (.ref f))(hd:(x==("__debug__":Str))=false:=by decide):fq X B E (.Name x pos) (gC (.fn x)):=qr (Sz (v:=.ref f) hg hm rfl hd) λ_=>by show V.ref f=V.ref (Fs X.mg x);rw[mq hm]
noncomputable def g1(f:D->Option D)(g:En->Res):En->Res:=λδ=>(g δ).bind λx=>Res.of (f x)
noncomputable def g2(f:D->D->Option D)(g h:En->Res):En->Res:=λδ=>(g δ).bind λx=>(h δ).bind λy=>Res.of (f x y)
def g9(K:KA)(f:D->D->Option D)(r:R2):Prop:=∀G H x y dx dy d,Same G H->Arg K G H dx x->Arg K G H dy y->f dx dy=some d->
 ∀Q:VK,(∀v G' H',Ext G H G' H'->Den K G' d v->Q v H')->r x y H Q
def IM(K:KA)(f:D->Option D)(r:V->Hp->VK->Prop):Prop:=∀G H x dx d,Same G H->Arg K G H dx x->f dx=some d->
 ∀Q:VK,(∀v G' H',Ext G H G' H'->Den K G' d v->Q v H')->r x H Q
def WW{K:KA}{f:D->D->Option D}{r:R2}(hp:g9 K f r){U:St}{H:Hp}{Q:VK}(q:Vy K B E (g2 f g h) U H Q):UB r (JF K B E g) (JF K B E h) U H Q:=by
 obtain⟨G,δ,R,q⟩:=q;refine⟨G,δ,R,(ResP.bind q).mono λdx _ qx x G1 H1 e1 ax=>⟨G1,δ,R.ext e1,((ResP.bind qx).ext e1).mono λdy _ qy y G2 H2 e2 ay=>?_⟩⟩;obtain⟨d,ed,qd⟩:=ResP.of qy;exact hp G2 H2 x y dx dy d e2.gh (ax.ext e2) ay ed Q λv G' H' e3 dn=>qd v G' H' ((e1.trans e2).trans e3) dn
def cT{K:KA}{f:D->Option D}{r:V->Hp->VK->Prop}(hp:IM K f r){U:St}{H:Hp}{Q:VK}(q:Vy K B E (g1 f g) U H Q):bR r (JF K B E g) U H Q:=by
 obtain⟨G,δ,R,q⟩:=q;refine⟨G,δ,R,(ResP.bind q).mono λdx _ qx x G1 H1 e1 ax=>?_⟩;obtain⟨d,ed,qd⟩:=ResP.of qx;exact hp G1 H1 x dx d e1.gh ax ed Q λv G' H' e3 dn=>qd v G' H' (e1.trans e3) dn
def Hz(ho:OpR X (kR op) r)(hp:g9 (kx X) f r)(ha:jc X B E a g)(hb:jc X B E b h):fq X B E (.BinOp a op b pos) (g2 f g h):=
 PE.imp (TZ ho ha hb) λU H Q q=>WW hp q
def TH(ho:WZ X (unaryOp op) r)(hp:IM (kx X) f r)(ha:jc X B E a g):fq X B E (.UnaryOp op a pos) (g1 f g):=
 PE.imp (TX ho ha) λU H Q q=>cT hp q
def NM(ho:OpR X (fH op) r)(hp:g9 (kx X) f r)(ha:jc X B E a g)(hb:jc X B E b h)(hm:nA op b=false):fq X B E (.Compare a [op] [b] pos) (g2 f g h):=
 PE.imp (FP ho ha hb hm) λU H Q q=>WW hp q
def GW{op:CmpOp}{f:D->D->Option D}{r:R2}(ho:OpR X (fH op) r)(hp:g9 (kx X) f r)(hb':∀x y d,f x y=some d->∃b,d=.bl b)(ha:jc X B E a g)(hb:jc X B E b h)(hm:nA op b=false):Fu X B E (.Compare a [op] [b] pos) (g2 f g h):=
 PT.imp (Tb ho ha hb hm) λU H Q ⟨G,δ,R,q⟩=>WW hp ⟨G,δ,R,q.mono λd ed ⟨b,eb,qb⟩ v G' H' e3 dn=>by
  subst eb;exact⟨b,dn,qb G' H' e3⟩⟩
noncomputable def Fq:D->Option Bool
 |.non=>some false
 |.bl b=>some b
 |.int i=>some (i !=0)
 |.str x=>if x.length<=dN then some ((x.length:Int) !=0)else none
 |.tup ds=>some !ds.isEmpty
 |.lst ds=>some !ds.isEmpty
 |_=>none
def bD(o:Option Bool):Option D:=o.map .bl
def Bi{K:KA}{G:Hp}{ds:List D}{vs:List V}(h:DenL K G ds vs):(!ds.isEmpty)= !vs.isEmpty:=by
 have q:=h.length;cases ds<;>cases vs<;>first|rfl|(simp at q)
def HA{K:KA}{G H:Hp}{d:D}{v:V}{b:Bool}(s:Same G H)(h:Arg K G H d v)(e:Fq d=some b):KP K v H b:=by
 cases d with
 |non=>rw[h.non];cases e;rfl
 |bl i=>rw[h.bl];cases e;rfl
 |int i=>rw[h.int];cases e;rfl
 |str x=>
  rw[h.str];have e':(if x.length<=dN then some ((x.length:Int) !=0)else none)=some b:=e
  by_cases hx:x.length<=dN
  ·rw[dJ hx]at e';cases e';exact⟨hx,rfl⟩
  ·rw[dM hx]at e';cases e'
 |tup ds=>
  obtain⟨a,vs,rfl,q1,q2⟩:=h.tup s;cases e;exact .inr (.inl ⟨vs,q1,Bi q2⟩)
 |lst ds=>
  obtain⟨a,vs,rfl,q1,q2⟩:=h.lst s;cases e;exact .inl ⟨vs,q1,Bi q2⟩
 |dct _ _=>cases e
 |obj _ _=>cases e
 |fn _=>cases e
def Zs(ha:jc X B E a g)(he:∀whole,isTrue a X.env whole=(do let v <-whole;standAt a.pos;sG [v] (truthy v)):=by intro _;rfl):Fu X B E a (g1 (λd=>bD (Fq d)) g):=
 PT.imp (Zt ha he) λU H Q ⟨G,δ,R,q⟩=>⟨G,δ,R,(ResP.bind q).mono λdx _ qx x G1 H1 e1 ax=>by
  obtain⟨d,ed,b,eb,qb⟩:=ResP.of qx;dsimp only at ed;cases et:Fq dx with
  |none=>rw[et]at ed;cases ed
  |some b'=>
   rw[et]at ed;cases ed;cases eb;exact⟨b,HA e1.gh ax et,qb G1 H1 e1⟩⟩
def Rz(c a b:En->Res):En->Res:=λδ=>(c δ).bind λd=>match d with
 |.bl true=>a δ
 |.bl false=>b δ
 |_=>.st
noncomputable def gw(c:En->Res):En->Res:=λδ=>(c δ).bind λd=>match d with
 |.bl b=>.ok (.bl !b)
 |_=>.st
noncomputable def jv(a b:En->Res):En->Res:=Rz a b (gC (.bl false))
noncomputable def vi(a b:En->Res):En->Res:=Rz a (gC (.bl true)) b
def RA{K:KA}{P:D->Prop}{c:En->Res}{δ:En}{a b:En->Res}{G H:Hp}(q:ResP E G H (Rz c a b δ) P):
  ResP E G H (c δ) λd=>∃t,d=.bl t/\(t=true->ResP E G H (a δ) P)/\(t=false->ResP E G H (b δ) P):=
 (ResP.bind q).mono λd _ q=>by
  cases d with
  |bl t=>cases t with
   |true=>exact⟨true,rfl,λ_=>q,λz=>by cases z⟩
   |false=>exact⟨false,rfl,λz=>(by cases z),λ_=>q⟩
  |non=>exact q.elim
  |int _=>exact q.elim
  |str _=>exact q.elim
  |tup _=>exact q.elim
  |lst _=>exact q.elim
  |dct _ _=>exact q.elim
  |obj _ _=>exact q.elim
  |fn _=>exact q.elim
def GV(ha:Fu X B E a g):Fu X B E (.UnaryOp .Not a pos) (gw g):=PT.imp (NR ha) λU H Q ⟨G,δ,R,q⟩=>⟨G,δ,R,(ResP.bind q).mono λd _ q=>by
 cases d with
 |bl t=>
  obtain⟨b,eb,qb⟩:=q;cases eb;exact⟨t,rfl,qb⟩
 |non=>exact q.elim
 |int _=>exact q.elim
 |str _=>exact q.elim
 |tup _=>exact q.elim
 |lst _=>exact q.elim
 |dct _ _=>exact q.elim
 |obj _ _=>exact q.elim
 |fn _=>exact q.elim⟩
def Z4(ha:Fu X B E a g):BB X B E (.BoolOp .And [a] pos) g:=GH ha
def GG(ha:Fu X B E a g):BB X B E (.BoolOp .Or [a] pos) g:=OT ha
def GI{rest:List Expr}(ha:Fu X B E a g)(hb:BB X B E (.BoolOp .And (b::rest) pos) h):BB X B E (.BoolOp .And (a::b::rest) pos) (jv g h):=
 PW.imp (OV ha hb) λU H Q ⟨G,δ,R,q⟩=>⟨G,δ,R,(RA (K:=(kx X)) q).mono λd _ ⟨t,ed,qt⟩=>⟨t,ed,λG1 H1 e1=>by
  cases t with
  |true=>exact⟨G1,δ,R.ext e1,((qt.1 rfl).ext e1).mono λd _ ⟨b,eb,qb⟩=>⟨b,eb,λG2 H2 e2=>qb G2 H2 (e1.trans e2)⟩⟩
  |false=>
   obtain⟨b,eb,qb⟩:=(qt.2 rfl);cases eb;exact qb G1 H1 e1⟩⟩
def OU{rest:List Expr}(ha:Fu X B E a g)(hb:BB X B E (.BoolOp .Or (b::rest) pos) h):BB X B E (.BoolOp .Or (a::b::rest) pos) (vi g h):=
 PW.imp (TF ha hb) λU H Q ⟨G,δ,R,q⟩=>⟨G,δ,R,(RA (K:=(kx X)) q).mono λd _ ⟨t,ed,qt⟩=>⟨t,ed,λG1 H1 e1=>by
  cases t with
  |false=>exact⟨G1,δ,R.ext e1,((qt.2 rfl).ext e1).mono λd _ ⟨b,eb,qb⟩=>⟨b,eb,λG2 H2 e2=>qb G2 H2 (e1.trans e2)⟩⟩
  |true=>
   obtain⟨b,eb,qb⟩:=(qt.1 rfl);cases eb;exact qb G1 H1 e1⟩⟩
def TU(h:BB X B E e g):Fu X B E e g:=PW.pt h
def Zy{op}(h:fq X B E a g):fq X B E (.BoolOp op [a] pos) g:=ME h
def NO{rest:List Expr}(ha:fq X B E a g)(hb:fq X B E (.BoolOp .And (b::rest) pos) h):fq X B E (.BoolOp .And (a::b::rest) pos) (jv g h):=
 PE.imp (MI ha hb) λU H Q ⟨G,δ,R,q⟩=>⟨G,δ,R,(RA (K:=(kx X)) q).mono λd _ ⟨t,ed,qt⟩ v G1 H1 e1 dn=>by
  subst ed;refine⟨t,dn,?_⟩;cases t with
  |true=>exact⟨G1,δ,R.ext e1,((qt.1 rfl).ext e1).mono λd _ qb v G2 H2 e2 dn=>qb v G2 H2 (e1.trans e2) dn⟩
  |false=>exact(qt.2 rfl) _ G1 H1 e1 rfl⟩
def TJ{rest:List Expr}(ha:fq X B E a g)(hb:fq X B E (.BoolOp .Or (b::rest) pos) h):fq X B E (.BoolOp .Or (a::b::rest) pos) (vi g h):=
 PE.imp (TY ha hb) λU H Q ⟨G,δ,R,q⟩=>⟨G,δ,R,(RA (K:=(kx X)) q).mono λd _ ⟨t,ed,qt⟩ v G1 H1 e1 dn=>by
  subst ed;refine⟨t,dn,?_⟩;cases t with
  |false=>exact⟨G1,δ,R.ext e1,((qt.2 rfl).ext e1).mono λd _ qb v G2 H2 e2 dn=>qb v G2 H2 (e1.trans e2) dn⟩
  |true=>exact(qt.1 rfl) _ G1 H1 e1 rfl⟩
def NB(ha:fq X B E a g):fq X B E (.UnaryOp .Not a pos) (gw g):=PE.imp (MF ha) λU H Q ⟨G,δ,R,q⟩=>⟨G,δ,R,(ResP.bind q).mono λd _ q v G1 H1 e1 dn=>by
 cases d with
 |bl t=>exact⟨t,dn,q _ G1 H1 e1 rfl⟩
 |non=>exact q.elim
 |int _=>exact q.elim
 |str _=>exact q.elim
 |tup _=>exact q.elim
 |lst _=>exact q.elim
 |dct _ _=>exact q.elim
 |obj _ _=>exact q.elim
 |fn _=>exact q.elim⟩
def TM{c:Expr}(hc:Fu X B E c k)(ha:fq X B E a g)(hb:fq X B E b h):fq X B E (.IfExp c a b pos) (Rz k g h):=
 PE.imp (M3 hc ha hb) λU H Q ⟨G,δ,R,q⟩=>⟨G,δ,R,(RA (K:=(kx X)) q).mono λd _ ⟨t,ed,qt⟩=>⟨t,ed,λG1 H1 e1=>by
  cases t with
  |true=>exact⟨G1,δ,R.ext e1,((qt.1 rfl).ext e1).mono λd _ qb v G2 H2 e2 dn=>qb v G2 H2 (e1.trans e2) dn⟩
  |false=>exact⟨G1,δ,R.ext e1,((qt.2 rfl).ext e1).mono λd _ qb v G2 H2 e2 dn=>qb v G2 H2 (e1.trans e2) dn⟩⟩⟩
noncomputable def ao:En->ResL:=λ_=>.ok []
noncomputable def af(g:En->Res)(r:En->ResL):En->ResL:=λδ=>match g δ with
 | .ok d => (match r δ with
  |.ok ds=>.ok (d::ds)
  |.er c=>.er c
  |.st=>.st)
 |.er c=>.er c
 |.st=>.st
def IC(q:ResLP E G H (af g r δ) P):ResP E G H (g δ) λd=>ResLP E G H (r δ) λds=>P (d::ds):=by
 unfold af at q;cases e:g δ with
 |ok d=>
  rw[e]at q;cases e2:r δ with
  |ok ds=>rw[e2]at q;exact q
  |er c=>rw[e2]at q;exact q
  |st=>rw[e2]at q;exact q
 |er c=>rw[e]at q;exact q
 |st=>rw[e]at q;exact q
def ik:Q6 X B E [] [] ao:=PA.imp J3 λU H Q ⟨G,δ,R,q⟩=>q [] G H (Ext.refl R.gh) ⟨rfl,rfl⟩
def fe(ha:jc X B E e g)(hr:Q6 X B E ms es r)(hs:eE (e::es) X.env=(false,eval e X.env)::eE es X.env:=by rfl):Q6 X B E (true::ms) (e::es) (af g r):=
 PA.imp (vo ha hr hs) λU H Q ⟨G,δ,R,q⟩=>⟨G,δ,R,(IC q).mono λd _ q x G1 H1 e1 ax=>⟨G1,δ,R.ext e1,(q.ext e1).mono λds _ q vs G2 H2 e2 al=>
  q (x::vs) G2 H2 (e1.trans e2) ⟨d,ds,x,vs,rfl,rfl,ax.ext e2,al⟩⟩⟩
def Da(ha:fq X B E e g)(hr:Q6 X B E ms es r)(hs:eE (e::es) X.env=(false,eval e X.env)::eE es X.env:=by rfl):Q6 X B E (false::ms) (e::es) (af g r):=
 PA.imp (vo ha hr hs) λU H Q ⟨G,δ,R,q⟩=>⟨G,δ,R,(IC q).mono λd _ q x G1 H1 e1 ax=>⟨G1,δ,R.ext e1,(q.ext e1).mono λds _ q vs G2 H2 e2 al=>
  q (x::vs) G2 H2 (e1.trans e2) ⟨d,ds,x,vs,rfl,rfl,ax.mono e2.gg,al⟩⟩⟩
def Iu:List Bool->Bool
 |[]=>true
 |b::r=> !b && Iu r
theorem ArgsM.den{K:KA}{G H:Hp}:∀{ms:List Bool}{ds:List D}{vs:List V},Iu ms=true->ArgsM K G H ms ds vs->DenL K G ds vs
 |[],_,_,_,⟨h1,h2⟩=>by subst h1;subst h2;exact rfl
 |true::_,_,_,h,_=>by simp[Iu]at h
 |false::ms,_,_,h,⟨d,dr,v,vr,h1,h2,h3,h4⟩=>by
  subst h1;subst h2;exact⟨v,vr,rfl,h3,ArgsM.den (by simpa[Iu]using h) h4⟩
noncomputable def gz(r:En->ResL):En->Res:=λδ=>match r δ with
 |.ok ds=>if ds.length<=dN then .ok (.tup ds)else .st
 |.er c=>.er c
 |.st=>.st
noncomputable def gj(r:En->ResL):En->Res:=λδ=>match r δ with
 |.ok ds=>if ds.length<=dN then .ok (.lst ds)else .st
 |.er c=>.er c
 |.st=>.st
def aS(q:ResP E G H (gz r δ) P):ResLP E G H (r δ) λds=>ds.length<=dN/\P (.tup ds):=by
 unfold gz at q;cases e:r δ with
 |ok ds=>
  rw[e]at q
  by_cases hl:ds.length<=dN
  ·simp only[dJ hl]at q;exact⟨hl,q⟩
  ·simp only[dM hl]at q;exact q.elim
 |er c=>rw[e]at q;exact q
 |st=>rw[e]at q;exact q
def ZO(q:ResP E G H (gj r δ) P):ResLP E G H (r δ) λds=>ds.length<=dN/\P (.lst ds):=by
 unfold gj at q;cases e:r δ with
 |ok ds=>
  rw[e]at q
  by_cases hl:ds.length<=dN
  ·simp only[dJ hl]at q;exact⟨hl,q⟩
  ·simp only[dM hl]at q;exact q.elim
 |er c=>rw[e]at q;exact q
 |st=>rw[e]at q;exact q
theorem DenL.upd{K:KA}{G:Hp}{p:Addr}{ds:List D}{vs:List V}(h:DenL K G ds vs)(n:G p=none)(o:HO):DenL K (upd G p o) ds vs:=h.mono (di n o)
def de(s:Same G H)(n:H p=none):G p=none:=by
 cases e:G p with
 |none=>rfl
 |some u=>rw[s p u e]at n;cases n
def qi{K:KA}{G H:Hp}{p:Addr}{ds:List D}{vs:List V}(s:Same G H)(n:H p=none)(h:DenL K G ds vs):Den K (upd G p (.tup vs)) (.tup ds) (.ref p):=
 ⟨p,vs,rfl,bj,h.upd (de s n) _⟩
def uf{K:KA}{G H:Hp}{p:Addr}{ds:List D}{vs:List V}(s:Same G H)(n:H p=none)(h:DenL K G ds vs):Den K (upd G p (.lst vs)) (.lst ds) (.ref p):=
 ⟨p,vs,rfl,SqL.of bj,h.upd (de s n) _⟩
def OX{x1}{ms:List Bool}{r:En->ResL}(hm:Iu ms=true)(h:Q6 X B E ms es r):fq X B E (.Tuple es x1 pos) (gz r):=
 PE.imp (MC h) λU H Q ⟨G,δ,R,q⟩=>⟨G,δ,R,(aS q).mono λds _ ⟨hl,q⟩ vs G1 H1 e1 al=>by
  have dl:=al.den hm;refine⟨by rw[<-dl.length];exact hl,λp hp=>q _ (upd G1 p (.tup vs)) _ (e1.trans (Ext.new e1.gh _ hp)) (qi e1.gh hp dl)⟩⟩
def Y5{ms:List Bool}{r:En->ResL}(hm:Iu ms=true)(h:Q6 X B E ms es r):CY X B E (.List es pos) (gj r):=
 PE.imp (MH h) λU H Q ⟨G,δ,R,q⟩=>⟨G,δ,R,(ZO q).mono λds _ ⟨hl,ds',ed,q⟩ vs G1 H1 e1 al=>by
  cases ed;have dl:=al.den hm;refine⟨by rw[<-dl.length];exact hl,λp hp=>q p vs G1 _ (e1.trans (Ext.own e1.gh _ hp)) (de e1.hh hp) (de e1.gh hp) bj dl⟩⟩
def Ext.freeze{G H G' H':Hp}{a:Addr}{vs:List V}(e:Ext G H G' H')(hn:H a=none)(gn:G' a=none)(h:H' a=some (.lst vs)):Ext G H (upd G' a (.lst vs)) H':=by
 refine⟨e.gg.trans (di gn _),e.hh,λb u q=>?_,λb u q g z=>?_⟩
 ·by_cases z:b=a
  ·subst z;rw[bj]at q;rw[h];exact q
  ·rw[a6 z]at q;exact e.gh b u q
 ·rw[a6 (b0 q hn)];exact e.fr b u q g z
def IsL(g:En->Res):Prop:=∀δ d,g δ=.ok d->∃ds,d=.lst ds
def DP:IsL (gj r):=λδ d h=>by
 unfold gj at h;cases e:r δ with
 |ok ds=>
  rw[e]at h
  by_cases hl:ds.length<=dN
  ·simp only[dJ hl]at h;cases h;exact⟨ds,rfl⟩
  ·simp only[dM hl]at h;cases h
 |er c=>rw[e]at h;cases h
 |st=>rw[e]at h;cases h
def Y6(h:CY X B E e g)(hl:IsL g):fq X B E e g:=PE.imp h λU H Q ⟨G,δ,R,q⟩=>⟨G,δ,R,q.mono λd ed q=>by
 obtain⟨ds,rfl⟩:=hl δ d ed;exact⟨ds,rfl,λa vs G' H' e1 hn gn hh dl=>q _ (upd G' a (.lst vs)) H' (e1.freeze hn gn hh) ⟨a,vs,rfl,SqL.of bj,dl.mono (di gn _)⟩⟩⟩
def NH(hm:Iu ms=true)(h:Q6 X B E ms es r):fq X B E (.List es pos) (gj r):=Y6 (Y5 hm h) DP
end
inductive Out where
 |nx (δ:En)
 |bk (δ:En)
 |ct (δ:En)
 |rt (d:D)
 |er (c:Str)
 |st
def OutP(K:KA)(G0 B:Hp)(E:EK)(G:Hp)(o:Out)(D:Ends):Prop:=match o with
 |.nx δ=>∀σ' G' H',Same G G'->EnvR K B G' H' σ' δ->Ext G0 B G' H'->D.nx σ' H'
 |.bk δ=>∀σ' G' H',Same G G'->EnvR K B G' H' σ' δ->Ext G0 B G' H'->D.bk σ' H'
 |.ct δ=>∀σ' G' H',Same G G'->EnvR K B G' H' σ' δ->Ext G0 B G' H'->D.ct σ' H'
 |.rt d=>∀v G' H',Ext G0 B G' H'->Den K G' d v->D.rt v H'
 |.er c=>∀G' H',Ext G0 B G' H'->E c H'
 |.st=>False
def VX(K:KA)(G0 B:Hp)(E:EK)(F:En->Out):TS:=λD U H=>∃G δ,EnvR K B G H U δ/\Ext G0 B G H/\OutP K G0 B E G (F δ) D
abbrev su(X:Cx)(G0 B:Hp)(E:EK)(st:Stmt)(F:En->Out):Prop:=PS X st (VX (kx X) G0 B E F)
abbrev zw(X:Cx)(G0 B:Hp)(E:EK)(st:List Stmt)(F:En->Out):Prop:=PSs X st (VX (kx X) G0 B E F)
def PS.imp{X:Cx}{st:Stmt}{t t':TS}(h:PS X st t)(i:∀D U H,t' D U H->t D U H):PS X st t':=λpins s U H D I q=>h pins s U H D I (i D U H q)
def PSs.imp{X:Cx}{st:List Stmt}{t t':TS}(h:PSs X st t)(i:∀D U H,t' D U H->t D U H):PSs X st t':=λpins s U H D I q=>h pins s U H D I (i D U H q)
def OutP.same{K:KA}{G0 B:Hp}{E:EK}{G G1:Hp}{o:Out}{D:Ends}(s:Same G G1)(h:OutP K G0 B E G o D):OutP K G0 B E G1 o D:=by
 cases o with
 |nx δ=>exact λσ' G' H' q=>h σ' G' H' (s.trans q)
 |bk δ=>exact λσ' G' H' q=>h σ' G' H' (s.trans q)
 |ct δ=>exact λσ' G' H' q=>h σ' G' H' (s.trans q)
 |rt d=>exact h
 |er c=>exact h
 |st=>exact h
def Res.then(r:Res)(f:D->Out):Out:=match r with
 |.ok d=>f d
 |.er c=>.er c
 |.st=>.st
def rg{K:KA}{G0 B:Hp}{E:EK}{G H:Hp}{r:Res}{f:D->Out}{D:Ends}(e:Ext G0 B G H)(h:OutP K G0 B E G (r.then f) D):ResP E G H r λd=>OutP K G0 B E G (f d) D:=by
 cases r with
 |ok d=>exact h
 |er c=>exact λG' H' q=>h G' H' (e.trans q)
 |st=>exact h
section
variable{X:Cx}{G0 B:Hp}{E:EK}{e c:Expr}{st:Stmt}{rest ss tt:List Stmt}{F F1 F2:En->Out}{g:En->Res}{pos:Pos}
noncomputable def cf:En->Out:=λδ=>.nx δ
noncomputable def ar(F1 F2:En->Out):En->Out:=λδ=>match F1 δ with
 |.nx δ'=>F2 δ'
 |o=>o
def OA:zw X G0 B E [] cf:=PSs.imp GY λD U H ⟨G,δ,R,e,q⟩=>q U G H (Same.refl G) R e
def ZD{K:KA}{D:Ends}{U:St}{H:Hp}(q:VX K G0 B E (ar F1 F2) D U H):VY (VX K G0 B E F1) (VX K G0 B E F2) D U H:=by
 obtain⟨G,δ,R,e,q⟩:=q;refine⟨G,δ,R,e,?_⟩;unfold ar at q;cases ef:F1 δ with
 |nx δ'=>
  rw[ef]at q;exact λσ' G' H' s R' e'=>⟨G',δ',R',e',OutP.same s q⟩
 |bk δ'=>rw[ef]at q;exact q
 |ct δ'=>rw[ef]at q;exact q
 |rt d=>rw[ef]at q;exact q
 |er c=>rw[ef]at q;exact q
 |st=>rw[ef]at q;exact q
def HI(h1:su X G0 B E st F1)(h2:zw X G0 B E rest F2):zw X G0 B E (st::rest) (ar F1 F2):=PSs.imp (Zq h1 h2) λD U H q=>ZD q
def PZ(h1:su X G0 B E st F1):zw X G0 B E [st] F1:=GX h1
def Te:En->Out:=λδ=>.nx δ
def UN{x j pos pos'}:su X G0 B E (.Expr (.Constant (.str x) j pos) pos') Te:=PS.imp NV λD U H ⟨G,δ,R,e,q⟩=>q U G H (Same.refl G) R e
noncomputable def br(g:En->Res):En->Out:=λδ=>(g δ).then .rt
def UJ(h:fq X B E e g):su X G0 B E (.Return (some e) pos) (br g):=PS.imp (NT h) λD U H ⟨G,δ,R,e,q⟩=>⟨G,δ,R,(rg e q).mono λd _ q v G' H' e1 dn=>q v G' H' (e.trans e1) dn⟩
noncomputable def ic(c:En->Res)(a b:En->Out):En->Out:=λδ=>(c δ).then λd=>match d with
 |.bl true=>a δ
 |.bl false=>b δ
 |_=>.st
def ZE(hc:Fu X B E c g)(ha:zw X G0 B E ss F1)(hb:zw X G0 B E tt F2):su X G0 B E (.If c ss tt pos) (ic g F1 F2):=
 PS.imp (JO hc ha hb) λD U H ⟨G,δ,R,e,q⟩=>⟨G,δ,R,(rg e q).mono λd _ q=>by
  cases d with
  |bl t=>cases t with
   |true=>exact⟨true,rfl,λG1 H1 e1=>⟨G1,δ,R.ext e1,e.trans e1,OutP.same e1.gg q⟩⟩
   |false=>exact⟨false,rfl,λG1 H1 e1=>⟨G1,δ,R.ext e1,e.trans e1,OutP.same e1.gg q⟩⟩
  |non=>exact q.elim
  |int _=>exact q.elim
  |str _=>exact q.elim
  |tup _=>exact q.elim
  |lst _=>exact q.elim
  |dct _ _=>exact q.elim
  |obj _ _=>exact q.elim
  |fn _=>exact q.elim⟩
theorem EnvR.set{K:KA}{G H:Hp}{U:St}{δ:En}{i:Nat}{d:D}{v:V}(R:EnvR K B G H U δ)(h:Den K G d v):EnvR K B G H (U.set i (some v)) (δ.set i (.pu d)) where
 bh:=R.bh
 gb:=R.gb
 gh:=R.gh
 len:=by rw[fE,fE];exact R.len
 sl:=λj s q=>by
  by_cases z:i=j
  ·subst z;have hl:i<δ.length:=by
    have:=(List.getElem?_eq_some_iff.mp q).1;rwa [fE]at this
   rw[dW hl]at q;cases q;exact⟨some v,dW (by rw[R.len];exact hl),v,rfl,h⟩
  ·rw[dZ z]at q⊢;exact R.sl j s q
 own:=λj s a q1 q2 q3=>by
  by_cases z:i=j
  ·subst z;have hl:i<δ.length:=by
    have:=(List.getElem?_eq_some_iff.mp q1).1;rwa [fE]at this
   rw[dW hl]at q1;cases q1;cases q2
  ·rw[dZ z]at q1 q3;exact R.own j s a q1 q2 q3
 dis:=λj k s t a q1 q2 q3 q4 q5 q6=>by
  have hj:i≠j:=by
   rintro rfl
   have hl:i<δ.length:=by
    have:=(List.getElem?_eq_some_iff.mp q1).1;rwa [fE]at this
   rw[dW hl]at q1;cases q1;cases q3
  have hk:i≠k:=by
   rintro rfl
   have hl:i<δ.length:=by
    have:=(List.getElem?_eq_some_iff.mp q2).1;rwa [fE]at this
   rw[dW hl]at q2;cases q2;cases q4
  rw[dZ hj]at q1 q5;rw[dZ hk]at q2 q6;exact R.dis j k s t a q1 q2 q3 q4 q5 q6
noncomputable def b9(i:Nat)(g:En->Res):En->Out:=λδ=>(g δ).then λd=>.nx (δ.set i (.pu d))
def JJ{i:Nat}{x:Str}{pos':Pos}(h:fq X B E e g)(hs:PS X (.Assign [.Name x pos'] e pos) (Nr (Vy (kx X) B E g) (tf i))):su X G0 B E (.Assign [.Name x pos'] e pos) (b9 i g):=
 PS.imp hs λD U H ⟨G,δ,R,e,q⟩=>⟨G,δ,R,(rg e q).mono λd _ q v G' H' e1 dn=>q _ G' H' e1.gg ((R.ext e1).set dn) (e.trans e1)⟩
def EnvR.setO{K:KA}{G H G' H':Hp}{U:St}{δ:En}{i:Nat}{ds:List D}{a:Addr}{vs:List V}(R:EnvR K B G H U δ)(e:Ext G H G' H')(hn:H a=none)(gn:G' a=none)(hh:H' a=some (.lst vs))(dl:DenL K G' ds vs):
  EnvR K B G' H' (U.set i (some (.ref a))) (δ.set i (.ow ds)):=by
 have R':=R.ext e;have bn:B a=none:=de R.bh hn;have oth:∀(j:Nat) s,δ[j]?=some s->s.own=true->U[j]?=some (some (.ref a))->False:=λj s q1 q2 q3=>by
  obtain⟨o,z1,z2⟩:=R.sl j s q1;rw[q3]at z1;cases z1;obtain⟨a',z,u,z3,_⟩:=z2.ref q2;cases z;rw[hn]at z3;cases z3
 have at_i:∀{s:Sl},(δ.set i (.ow ds))[i]?=some s->s=.ow ds/\i<δ.length:=λq=>by
  have hl:i<δ.length:=by
   have:=(List.getElem?_eq_some_iff.mp q).1;rwa [fE]at this
  rw[dW hl]at q;cases q;exact⟨rfl,hl⟩
 refine⟨R'.bh,R'.gh,by rw[fE,fE];exact R.len,λj s q=>?_,λj s b q1 q2 q3=>?_,λj k s t b q1 q2 q3 q4 q5 q6=>?_,R.gb⟩
 ·by_cases z:i=j
  ·subst z;obtain⟨rfl,hl⟩:=at_i q;exact⟨some (.ref a),dW (by rw[R.len];exact hl),a,vs,rfl,hh,dl⟩
  ·rw[dZ z]at q⊢;exact R'.sl j s q
 ·by_cases z:i=j
  ·subst z;obtain⟨rfl,hl⟩:=at_i q1;rw[dW (by rw[R.len];exact hl)]at q3;cases q3;exact⟨gn,bn⟩
  ·rw[dZ z]at q1 q3;exact R'.own j s b q1 q2 q3
 ·by_cases zj:i=j
  ·subst zj;obtain⟨rfl,hl⟩:=at_i q1;rw[dW (by rw[R.len];exact hl)]at q5;cases q5
   by_cases zk:i=k
   ·exact zk
   ·rw[dZ zk]at q2 q6;exact(oth k t q2 q4 q6).elim
  ·rw[dZ zj]at q1 q5
   by_cases zk:i=k
   ·subst zk;obtain⟨rfl,hl⟩:=at_i q2;rw[dW (by rw[R.len];exact hl)]at q6;cases q6;exact(oth j s q1 q3 q5).elim
   ·rw[dZ zk]at q2 q6;exact R'.dis j k s t b q1 q2 q3 q4 q5 q6
def ie(i:Nat)(g:En->Res):En->Out:=λδ=>(g δ).then λd=>match d with
 |.lst ds=>.nx (δ.set i (.ow ds))
 |_=>.st
def AR{i:Nat}{x:Str}{pos':Pos}(h:CY X B E e g)(hs:PS X (.Assign [.Name x pos'] e pos) (Nr (bT (kx X) B E g) (tf i))):su X G0 B E (.Assign [.Name x pos'] e pos) (ie i g):=
 PS.imp hs λD U H ⟨G,δ,R,e,q⟩=>⟨G,δ,R,(rg e q).mono λd _ q=>by
  cases d with
  |lst ds=>exact⟨ds,rfl,λa vs G' H' e1 hn gn hh dl=>q _ G' H' e1.gg (R.setO e1 hn gn hh dl) (e.trans e1)⟩
  |non=>exact q.elim
  |bl _=>exact q.elim
  |int _=>exact q.elim
  |str _=>exact q.elim
  |tup _=>exact q.elim
  |dct _ _=>exact q.elim
  |obj _ _=>exact q.elim
  |fn _=>exact q.elim⟩
def EnvR.wr{K:KA}{G H:Hp}{U:St}{δ:En}{i:Nat}{ds es:List D}{a:Addr}{vs ws:List V}(R:EnvR K B G H U δ)(hi:δ[i]?=some (.ow ds))(hs:U[i]?=some (some (.ref a)))(ha:H a=some (.lst vs))(dl:DenL K G es ws):
  EnvR K B G (upd H a (.lst ws)) U (δ.set i (.ow es)):=by
 obtain⟨gn,bn⟩:=R.own i _ a hi rfl hs;have hl:i<δ.length:=(List.getElem?_eq_some_iff.mp hi).1;have sb:∀{F:Hp},F a=none->Same F H->Same F (upd H a (.lst ws)):=λfn s b u q=>by
  rw[a6 (b0 q fn)];exact s b u q
 have ownEq:∀{j:Nat}{s:Sl},(δ.set i (.ow es))[j]?=some s->s.own=true->∃s',δ[j]?=some s'/\s'.own=true:=λ{j s} q o=>by
  by_cases z:i=j
  ·subst z;exact⟨_,hi,rfl⟩
  ·rw[dZ z]at q;exact⟨s,q,o⟩
 refine⟨sb bn R.bh,sb gn R.gh,by rw[fE];exact R.len,λj s q=>?_,λj s b q1 q2 q3=>?_,λj k s t b q1 q2 q3 q4 q5 q6=>?_,R.gb⟩
 ·by_cases z:i=j
  ·subst z;rw[dW hl]at q;cases q;exact⟨_,hs,a,ws,rfl,bj,dl⟩
  ·rw[dZ z]at q;obtain⟨o,z1,z2⟩:=R.sl j s q;refine⟨o,z1,?_⟩;cases s with
   |no=>trivial
   |pu d=>exact z2
   |bo d=>exact z2
   |ow fs=>
    obtain⟨b,us,y1,y2,y3⟩:=z2;have nb:b≠a:=by
     rintro rfl
     subst y1;exact z (R.dis i j _ _ b hi q rfl rfl hs z1)
    exact⟨b,us,y1,by rw[a6 nb];exact y2,y3⟩
   |od t fs=>
    cases t with
    |false=>
     obtain⟨b,us,y1,y2,y3⟩:=z2;have nb:b≠a:=by
      rintro rfl
      rw[ha]at y2;cases y2
     exact⟨b,us,y1,by rw[a6 nb];exact y2,y3⟩
    |true=>
     obtain⟨b,us,y1,y2,y3⟩:=z2;have nb:b≠a:=by
      rintro rfl
      rw[ha]at y2;cases y2
     exact⟨b,us,y1,by rw[a6 nb];exact y2,y3⟩
 ·obtain⟨s',z1,z2⟩:=ownEq q1 q2;exact R.own j s' b z1 z2 q3
 ·obtain⟨s',z1,z2⟩:=ownEq q1 q3;obtain⟨t',y1,y2⟩:=ownEq q2 q4;exact R.dis j k s' t' b z1 y1 z2 y2 q5 q6
def Ext.wr(e:Ext G0 B G H)(gn:G a=none)(bn:B a=none):Ext G0 B G (upd H a o):=
 ⟨e.gg,λb u q=>by rw[a6 (b0 q bn)];exact e.hh b u q,λb u q=>by rw[a6 (b0 q gn)];exact e.gh b u q,e.fr⟩
def xo:D->Option (List D)
 |.lst ds=>some ds
 |.tup ds=>some ds
 |_=>none
def turns(tg:D->En->Option En)(F:En->Out):List D->En->Out
 |[],δ=>.nx δ
 |d::r,δ=>match tg d δ with
  |none=>.st
  |some δ1=>match F δ1 with
   |.nx δ'=>turns tg F r δ'
   |.ct δ'=>turns tg F r δ'
   |.bk δ'=>.nx δ'
   |.rt d=>.rt d
   |.er c=>.er c
   |.st=>.st
end
section
variable{X:Cx}{G0 B:Hp}{E:EK}{e c tg iter:Expr}{st:Stmt}{rest ss tt:List Stmt}{F F1 F2:En->Out}{g:En->Res}{pos:Pos}
def vz(i:Nat):En->Res:=λδ=>match δ[i]? with
 |some (.pu d)=>.ok d
 |some (.bo d)=>.ok d
 |_=>.st
def bW(K:KA)(B:Hp)(E:EK)(g:En->Res):TE:=λU H Q=>∃G δ,EnvR K B G H U δ/\ResP E G H (g δ) λd=>∀v G' H',Ext G H G' H'->Arg K G' B d v->Q v H'
abbrev KY(X:Cx)(B:Hp)(E:EK)(e:Expr)(g:En->Res):Prop:=PE X e (bW (kx X) B E g)
def KF(i:Nat)(h:PE X (.Name x pos) (Gc i)):KY X B E (.Name x pos) (vz i):=PE.imp h λU H Q ⟨G,δ,R,q⟩=>by
 unfold vz at q;cases e:δ[i]? with
 |none=>rw[e]at q;exact q.elim
 |some s=>
  rw[e]at q;obtain⟨o,q1,q2⟩:=R.sl i _ e;cases s with
  |pu d=>
   obtain⟨v,q3,q4⟩:=q2;exact⟨v,by rw[q1,q3],q v G H (Ext.refl R.gh) (.inl q4)⟩
  |bo d=>
   obtain⟨v,q3,q4⟩:=q2;exact⟨v,by rw[q1,q3],q v G H (Ext.refl R.gh) q4⟩
  |no=>exact q.elim
  |ow d=>exact q.elim
  |od t d=>exact q.elim
def RO(h:fq X B E e g):KY X B E e g:=PE.imp h λU H Q ⟨G,δ,R,q⟩=>⟨G,δ,R,q.mono λd _ q v G' H' x y=>q v G' H' x (.inl y)⟩
def B8(K:KA)(J:It)(ds:List D)(S:Hp->Hp->Prop):Prop:=∀(i:Nat) G H,S G H->Same G H->
 (∀d,ds[i]?=some d->J.go i H/\∀x H',J.yld i H x H'->∃G',Ext G H G' H'/\Den K G' d x)/\(ds.length<=i->J.stop i H)
def cO(K:KA)(B:Hp)(E:EK)(g:En->ResL):TI:=λU H R=>∃G δ,EnvR K B G H U δ/\ResLP E G H (g δ) λds=>∀J G' H',Ext G H G' H'->B8 K J ds (λG2 H2=>Same G' G2/\Same B H2)->R J H'
def cQ(K:KA)(B:Hp)(E:EK)(g:En->ResL):TI:=λU H R=>∃G δ,EnvR K B G H U δ/\ResLP E G H (g δ) λds=>∀J G' H',Ext G H G' H'->B8 K J ds (λG2 H2=>Ext G' H' G2 H2)->R J H'
abbrev IL(X:Cx)(B:Hp)(E:EK)(tg iter:Expr)(g:En->ResL):Prop:=PI X tg iter (cO (kx X) B E g)
abbrev Tw(X:Cx)(B:Hp)(E:EK)(tg iter:Expr)(g:En->ResL):Prop:=PI X tg iter (cQ (kx X) B E g)
def PI.imp(h:PI X tg iter wi)(i:∀U H R,wi' U H R->wi U H R):PI X tg iter wi':=λpins s U H R I q=>h pins s U H R I (i U H R q)
def Pa{K:KA}{a:Addr}{G1:Hp}{ds:List D}{vs:List V}{S:Hp->Hp->Prop}(h:∀G H,S G H->Same G H->SqL K H a vs/\Same G1 G)(dl:DenL K G1 ds vs):B8 K (YG K a) ds S:=λi G H hS sg=>by
 obtain⟨q,g⟩:=h G H hS sg;refine⟨λd ed=>?_,λhl=>⟨vs,q,by rw[<-dl.length];exact hl⟩⟩;obtain⟨v,ev,dv⟩:=dl.get ed;refine⟨⟨vs,v,q,ev⟩,λx H' ⟨e,y⟩=>?_⟩;subst e;have z:=y vs q;rw[ev]at z;cases z;exact⟨G,Ext.refl sg,dv.mono g⟩
def X5{K:KA}{a:Addr}{G1:Hp}{ds:List D}{vs:List V}{S:Hp->Hp->Prop}(h:∀G H,S G H->Same G H->SqT K H a vs/\Same G1 G)(dl:DenL K G1 ds vs):B8 K (YF K a) ds S:=λi G H hS sg=>by
 obtain⟨q,g⟩:=h G H hS sg;refine⟨λd ed=>?_,λhl=>⟨vs,q,by rw[<-dl.length];exact hl⟩⟩;obtain⟨v,ev,dv⟩:=dl.get ed;refine⟨⟨vs,v,q,ev⟩,λx H' ⟨e,y⟩=>?_⟩;subst e;have z:=y vs q;rw[ev]at z;cases z;exact⟨G,Ext.refl sg,dv.mono g⟩
def ir(lo:Int)(n:Nat):List D:=(eY n).map λ(i:Nat)=>.int (lo+i)
noncomputable def je(r:En->ResL):En->ResL:=λδ=>match r δ with
 |.ok [.int j]=>if -(2 ^ 62)<=j/\j<2 ^ 62 then .ok (ir 0 j.toNat)else .st
 |.ok [.int i,.int j]=>if(-(2 ^ 62)<=i/\i<2 ^ 62)/\(-(2 ^ 62)<=j/\j<2 ^ 62)then .ok (ir i (j - i).toNat)else .st
 |.ok _=>.st
 |.er c=>.er c
 |.st=>.st
def LN{K:KA}{lo:Int}{n:Nat}{S:Hp->Hp->Prop}:B8 K (VD lo n) (ir lo n) S:=λi G H hS sg=>by
 refine⟨λd ed=>?_,λhl=>?_⟩
 ·unfold ir at ed;rw[eP]at ed;cases e:(eY n)[i]? with
  |none=>rw[e]at ed;cases ed
  |some j=>
   rw[e]at ed;have hi:i<n:=by
    have:=(List.getElem?_eq_some_iff.mp e).1;rwa [lV]at this
   rw[mT hi]at e;cases e;cases ed;exact⟨hi,λx H' ⟨z,y⟩=>by subst z;exact⟨G,Ext.refl sg,y⟩⟩
 ·unfold ir at hl;rw[dD,lV]at hl;exact hl
def ArgsM.one{K:KA}{G H:Hp}{m:Bool}{d:D}{vs:List V}(h:ArgsM K G H [m] [d] vs):∃v,vs=[v]/\Arg K G H d v:=by
 obtain⟨d',dr,v,vr,h1,h2,h3,h4,h5⟩:=h;cases h1;subst h5;refine⟨v,h2,?_⟩;cases m
 ·exact .inl h3
 ·exact h3
def ArgsM.two{K:KA}{G H:Hp}{m m':Bool}{d d':D}{vs:List V}(h:ArgsM K G H [m,m'] [d,d'] vs):∃v u,vs=[v,u]/\Arg K G H d v/\Arg K G H d' u:=by
 obtain⟨d1,dr,v,vr,h1,h2,h3,h4⟩:=h;cases h1;obtain⟨u,z,au⟩:=ArgsM.one h4;subst z;refine⟨v,u,h2,?_,au⟩;cases m
 ·exact .inl h3
 ·exact h3
def OO(q:ResLP E G H (je r δ) P):ResLP E G H (r δ) λds=>
  (∃j,ds=[.int j]/\-(2 ^ 62)<=j/\j<2 ^ 62/\P (ir 0 j.toNat))\/∃i j,ds=[.int i,.int j]/\(-(2 ^ 62)<=i/\i<2 ^ 62/\-(2 ^ 62)<=j/\j<2 ^ 62)/\P (ir i (j - i).toNat):=by
 unfold je at q;cases e:r δ with
 |ok ds=>
  rw[e]at q;show _\/_;split at q
  ·rename_i z;cases z;split at q
   ·rename_i hc;exact .inl ⟨_,rfl,hc.1,hc.2,q⟩
   ·exact q.elim
  ·rename_i z;cases z;split at q
   ·rename_i hc;exact .inr ⟨_,_,rfl,⟨hc.1.1,hc.1.2,hc.2.1,hc.2.2⟩,q⟩
   ·exact q.elim
  ·exact q.elim
  ·rename_i z;cases z
  ·rename_i z;cases z
 |er c=>rw[e]at q;exact q
 |st=>rw[e]at q;exact q
def S4{a:Expr}{m:Bool}{r:En->ResL}{p:Pos}(hg:Gl X "range")(hm:X.mg "range"=none)(ha:Q6 X B E [m] [a] r)(hs:eE [a] X.env=[(false,eval a X.env)]:=by rfl):IL X B E tg (.Call (.Name "range" p) [a] [] pos) (je r):=
 PI.imp (Vc hg hm ha hs) λU H R ⟨G,δ,Rr,q⟩=>⟨G,δ,Rr,(OO q).mono λds _ q vs G1 H1 e1 al=>by
  rcases q with ⟨j,rfl,h1,h2,q⟩|⟨i,j,rfl,_⟩
  ·obtain⟨v,rfl,av⟩:=ArgsM.one al;exact⟨j,by rw[av.int],h1,h2,q _ G1 H1 e1 LN⟩
  ·have:=al.length.1;simp at this⟩
def Zg(h:IL X B E tg iter r):Tw X B E tg iter r:=PI.imp h λU H R ⟨G,δ,Rr,q⟩=>⟨G,δ,Rr,q.mono λds _ q J G' H' e ok=>q J G' H' e λi G2 H2 x sg=>ok i G2 H2 ⟨x.gg,(Rr.bh.trans e.hh).trans x.hh⟩ sg⟩
structure TgOk(X:Cx)(B:Hp)(tge:Expr)(gl:TG)(tgD:D->En->Option En):Prop where
 pg:PG X tge gl
 ok:∀{G H:Hp}{U:St}{δ δ':En}{d:D}{v:V}{Q:St->Hp->Prop},EnvR (kx X) B G H U δ->Den (kx X) G d v->tgD d δ=some δ'->(∀σ',EnvR (kx X) B G H σ' δ'->Q σ' H)->gl v U H Q
def a0(i:Nat):D->En->Option En:=λd δ=>some (δ.set i (.pu d))
def HD(h:PG X (.Name x p) (tf i)):TgOk X B (.Name x p) (tf i) (a0 i):=⟨h,λR dn e q=>by
 cases e;exact q _ (R.set dn)⟩
noncomputable def c8(tgD:D->En->Option En)(r:En->ResL)(F:En->Out):En->Out:=λδ=>match r δ with
 |.ok ds=>turns tgD F ds δ
 |.er c=>.er c
 |.st=>.st
def ZR{K:KA}{tgD:D->En->Option En}{r:En->ResL}{G H:Hp}{δ:En}{D:Ends}(e:Ext G0 B G H)(q:OutP K G0 B E G (c8 tgD r F δ) D):ResLP E G H (r δ) λds=>OutP K G0 B E G (turns tgD F ds δ) D:=by
 unfold c8 at q;cases er:r δ with
 |ok ds=>rw[er]at q;exact q
 |er c=>rw[er]at q;exact λG' H' x=>q G' H' (e.trans x)
 |st=>rw[er]at q;exact q
def UM{gl:TG}{tgD:D->En->Option En}{r:En->ResL}(hp:PassesOwn (eJ X.prog X.w) X.A X.env X.xe)(hc:X.calm=true)(hi:IL X B E tg iter r)(hg:TgOk X B tg gl tgD)(hb:zw X G0 B E ss F)
  (hs:∀x,kQ iter X.env x=pure x:=by intro _;rfl):su X G0 B E (.For tg iter ss [] pos) (c8 tgD r F):=
 PS.imp (NU hp hc hi hg.pg hb hs) λD U H ⟨G,δ,R,e,q⟩=>⟨G,δ,R,(ZR e q).mono λds _ q J G1 H1 e1 ok=>by
  refine⟨λi m U H=>m=ds.length - i/\i<=ds.length/\∃G2 δ2,Same G1 G2/\EnvR (kx X) B G2 H U δ2/\Ext G0 B G2 H/\OutP (kx X) G0 B E G2 (turns tgD F (ds.drop i) δ2) D,
   ⟨ds.length,by simp,fZ _,G1,δ,Same.refl G1,R.ext e1,e.trans e1,OutP.same e1.gg q⟩,?_⟩
  rintro i m σ2 H2 ⟨rfl,hi2,G2,δ2,s2,R2,x2,q2⟩
  obtain⟨okg,oks⟩:=ok i G2 H2 ⟨s2,R2.bh⟩ R2.gh
  by_cases hl:i<ds.length
  ·obtain⟨go,yl⟩:=okg ds[i] (by simp[hl]);rw[fN hl]at q2;refine .inr ⟨go,λσ' H'=>i+1<=ds.length/\∃G3 δ3,Same G1 G3/\EnvR (kx X) B G3 H' σ' δ3/\Ext G0 B G3 H'/\OutP (kx X) G0 B E G3 (turns tgD F (ds.drop (i+1)) δ3) D,
    λσ' H' ⟨n1,n2⟩=>⟨ds.length - (i+1),by lia,rfl,n1,n2⟩,λx H3 y=>?_⟩
   obtain⟨G3,e3,dn⟩:=yl x H3 y;unfold turns at q2;cases et:tgD ds[i] δ2 with
   |none=>rw[et]at q2;exact q2.elim
   |some δ3=>
    rw[et]at q2;dsimp only at q2;refine hg.ok (R2.ext e3) dn et λσ3 R3=>⟨G3,δ3,R3,x2.trans e3,?_⟩;have s3:Same G1 G3:=s2.trans e3.gg;cases ef:F δ3 with
    |nx δ4=>
     rw[ef]at q2;exact λσ' G' H' s R' x'=>⟨hl,G',δ4,s3.trans s,R',x',OutP.same (e3.gg.trans s) q2⟩
    |ct δ4=>
     rw[ef]at q2;exact λσ' G' H' s R' x'=>⟨hl,G',δ4,s3.trans s,R',x',OutP.same (e3.gg.trans s) q2⟩
    |bk δ4=>
     rw[ef]at q2;exact λσ' G' H' s R' x'=>q2 σ' G' H' (e3.gg.trans s) R' x'
    |rt d=>rw[ef]at q2;exact q2
    |er c=>rw[ef]at q2;exact q2
    |st=>rw[ef]at q2;exact q2
  ·have z:i=ds.length:=by lia
   subst z;rw[List.drop_length]at q2;exact .inl ⟨oks (dR _),q2 σ2 G2 H2 (Same.refl G2) R2 x2⟩⟩
def bp:List Bool->List D->En
 |_,[]=>[]
 |true::ms,d::ds=>.bo d::bp ms ds
 |false::ms,d::ds=>.pu d::bp ms ds
 |[],_::_=>[]
def df:Out->Res
 |.rt d=>.ok d
 |.nx _=>.ok .non
 |.er c=>.er c
 |_=>.st
def ZS(ms:List Bool)(n:Nat)(F:En->Out)(ds:List D):Res:=df (F (bp ms ds++eA (n - ds.length) .no))
def Qm(K:KA)(ms:List Bool)(f:List D->Res):Sp:=λvs H Q E=>vs.length=ms.length/\GOk H/\∃G ds,Same G H/\ArgsM K G H ms ds vs/\ResP (ek K E) G H (f ds) λd=>∀v G' H',Ext G H G' H'->Den K G' d v->Q v H'
theorem G8{K:KA}{G H:Hp}:∀{ms:List Bool}{ds:List D}{vs:List V},ArgsM K G H ms ds vs->(bp ms ds).length=vs.length
 |[],_,_,⟨h1,h2⟩=>by subst h1;subst h2;rfl
 |m::ms,_,_,⟨d,dr,v,vr,h1,h2,h3,h4⟩=>by
  subst h1;subst h2;have ih:=G8 h4;cases m<;>simp only[bp,dI,ih]
theorem qm{K:KA}{G H:Hp}:∀{ms:List Bool}{ds:List D}{vs:List V},ArgsM K G H ms ds vs->∀(i:Nat) s,(bp ms ds)[i]?=some s->s.own=false/\∃v,vs[i]?=some v/\SlOk K H G H s (some v)
 |[],_,_,⟨h1,h2⟩,i,s,q=>by subst h1;simp[bp]at q
 |m::ms,_,_,⟨d,dr,v,vr,h1,h2,h3,h4⟩,i,s,q=>by
  subst h1;subst h2;cases i with
  |zero=>
   cases m with
   |true=>
    simp only[bp,lG,oC]at q;subst q;exact⟨rfl,v,rfl,v,rfl,h3⟩
   |false=>
    simp only[bp,lG,oC]at q;subst q;exact⟨rfl,v,rfl,v,rfl,h3⟩
  |succ i=>
   cases m with
   |true=>
    simp only[bp,iF]at q;obtain⟨q1,u,q2,q3⟩:=qm h4 i s q;exact⟨q1,u,by simpa using q2,q3⟩
   |false=>
    simp only[bp,iF]at q;obtain⟨q1,u,q2,q3⟩:=qm h4 i s q;exact⟨q1,u,by simpa using q2,q3⟩
def Ox{K:KA}{G H:Hp}{ms:List Bool}{ds:List D}{vs:List V}{N:List Str}(gb:GOk H)(s:Same G H)(al:ArgsM K G H ms ds vs):EnvR K H G H (L2.rf N vs) (bp ms ds++eA (N.length - ds.length) .no):=by
 have l1:=G8 al;obtain⟨l2,l3⟩:=al.length;have key:∀(i:Nat) t,(bp ms ds++eA (N.length - ds.length) Sl.no)[i]?=some t->t=.no\/(i<vs.length/\(bp ms ds)[i]?=some t):=λi t q=>by
  by_cases z:i<(bp ms ds).length
  ·rw[fY z]at q;exact .inr ⟨by rw[<-l1];exact z,q⟩
  ·rw[gE (by lia)]at q;have:=fB q;exact .inl (List.eq_of_mem_replicate this)
 refine⟨Same.refl H,s,?_,λi t q=>?_,λi t a q1 q2 q3=>?_,λi j t u a q1 q2 q3 q4 q5 q6=>?_,gb⟩
 ·unfold L2.rf;rw[dU,dU,dD,gR,gR,l1,l2,l3]
 ·rcases key i t q with rfl|⟨hi,qe⟩
  ·have hl:i<(L2.rf N vs).length:=by
    have:=(List.getElem?_eq_some_iff.mp q).1;rw[dU,gR,l1]at this;unfold L2.rf;rw[dU,dD,gR]
    lia
   exact⟨_,eR hl,trivial⟩
  ·obtain⟨_,v,ev,ok⟩:=qm al i t qe;refine⟨some v,?_,ok⟩;unfold L2.rf;rw[fY (by rw[dD];exact hi),eP,ev];rfl
 ·rcases key i t q1 with rfl|⟨hi,qe⟩
  ·cases q2
  ·obtain⟨z,_⟩:=qm al i t qe;rw[z]at q2;cases q2
 ·rcases key i t q1 with rfl|⟨hi,qe⟩
  ·cases q3
  ·obtain⟨z,_⟩:=qm al i t qe;rw[z]at q3;cases q3
def FW{K:KA}{G H:Hp}{E:EK}{Q:VK}{o:Out}(s:Same G H)(h:ResP E G H (df o) λd=>∀v G' H',Ext G H G' H'->Den K G' d v->Q v H'):
  OutP K G H E G o {nx:=λ_ H'=>Q .non H',rt:=Q}:=by
 cases o with
 |nx δ=>exact λσ' G' H' _ _ e=>h .non G' H' e rfl
 |bk δ=>exact h.elim
 |ct δ=>exact h.elim
 |rt d=>exact λv G' H' e dn=>h v G' H' e dn
 |er c=>exact h
 |st=>exact h
end
section
variable{X:Cx}{B:Hp}{E:EK}{e:Expr}{es:List Expr}{pos p:Pos}{x:Str}
noncomputable def aq(f:List D->Res)(r:En->ResL):En->Res:=λδ=>match r δ with
 |.ok ds=>f ds
 |.er c=>.er c
 |.st=>.st
def IG(q:ResP E G H (aq f r δ) P):ResLP E G H (r δ) λds=>ResP E G H (f ds) P:=by
 unfold aq at q;cases e:r δ with
 |ok ds=>rw[e]at q;exact q
 |er c=>rw[e]at q;exact q
 |st=>rw[e]at q;exact q
def GU{E:XK}(F:FnOk X.prog X.w X.K X.mg X.base CX k f fd ps (Qm (kx X) ms fD))(hr:Room k X.A)(hg:Gl X x)(hm:X.mg x=some (.ref f))(hk:gO X.K (.ref f)=true)
  (hb:Binds X.K fd ps [])(hx:pj CX X E)(ha:Q6 X B (ek (kx X) E) ms (e::es) r)(hdb:(x==("__debug__":Str))=false:=by decide)(he:eE (e::es) X.env=(false,eval e X.env)::eE es X.env:=by rfl)(hpl:(iY pos (eE es X.env)).any (·.1)=false:=by rfl):
  fq X B (ek (kx X) E) (.Call (.Name x p) (e::es) [] pos) (aq fD r):=
 PE.imp (FQ F hr hg hm hk hb .nil hx ha hdb he hpl) λU H Q ⟨G,δ,R,q⟩=>⟨G,δ,R,(IG q).mono λds _ q vs G1 H1 e1 al=>
  ⟨by rw[gZ];exact al.length.2,R.gb.same (R.bh.trans e1.hh),G1,ds,e1.gh,by rw[gZ];exact al,(q.ext e1).mono λd _ q v G' H' e2 dn=>q v G' H' (e1.trans e2) dn⟩⟩
def Zu{E:XK}(F:FnOk X.prog X.w X.K X.mg X.base CX k f fd ps (Qm (kx X) [] fD))(hr:Room k X.A)(hg:Gl X x)(hm:X.mg x=some (.ref f))(hk:gO X.K (.ref f)=true)
  (hb:Binds X.K fd ps [])(hx:pj CX X E)(hdb:(x==("__debug__":Str))=false:=by decide):fq X B (ek (kx X) E) (.Call (.Name x p) [] [] pos) (λ_=>fD []):=
 PE.imp (Y8 F hr hg hm hk hb .nil hx hdb) λU H Q ⟨G,δ,R,q⟩=>⟨rfl,R.gb.same R.bh,G,[],R.gh,⟨rfl,rfl⟩,q⟩
end
mutual
def cg:D->Option iW
 |.non=>some .none
 |.bl b=>some (.bool b)
 |.int i=>some (.int i)
 |.str x=>some (.str x)
 |.tup ds=>match cn ds with
  |some ps=>some (.tuple ps)
  |none=>none
 |.lst ds=>match cn ds with
  |some ps=>some (.list ps)
  |none=>none
 |.dct _ _=>none
 |.obj _ _=>none
 |.fn _=>none
def cn:List D->Option (List iW)
 |[]=>some []
 |d::ds=>match cg d with
  | some p => (match cn ds with
   |some ps=>some (p::ps)
   |none=>none)
  |none=>none
end
section
variable{X:Cx}{pins:List (Addr×Obj)}{U:St}{G H:Hp}{s:dP}
mutual
theorem y9(I:Inv X pins U H s)(sg:Same G H):∀{d:D}{v:V}{u:dG}{p:iW},Den (kx X) G d v->RelV v u->cg d=some p->∃as,Reads s.heap u p as
 |.non,v,u,p,h,r,e=>by
  cases (show v=.non from h);cases (show u=fC from r);cases e;exact⟨_,Reads.none⟩
 |.bl b,v,u,p,h,r,e=>by
  cases (show v=.bl b from h);cases (show u=nL b from r);cases e;exact⟨_,Reads.bool b⟩
 |.int i,v,u,p,h,r,e=>by
  cases (show v=.int i from h);obtain⟨t,q⟩:=(show∃t,u=mO i t from r);cases q;cases e;exact⟨_,Reads.int i t⟩
 |.str x,v,u,p,h,r,e=>by
  cases (show v=.str x from h);obtain⟨t,q⟩:=(show∃t,u=sA x t from r);cases q;cases e;exact⟨_,Reads.str x t⟩
 |.tup ds,v,u,p,h,r,e=>by
  obtain⟨a,vs,rfl,sq,dl⟩:=h;cases (show u=eZ a from r);unfold cg at e;cases e2:cn ds with
  |none=>rw[e2]at e;cases e
  |some ps=>
   rw[e2]at e;cases e;obtain⟨its,rv,⟨o,ho,hc,n,hd⟩,_⟩:=I.tuple (SqT.of (sg _ _ sq));obtain⟨as,ra⟩:=vq I sg dl rv e2;exact⟨as,Reads.tuple ho hc hd (by simpa using ra)⟩
 |.lst ds,v,u,p,h,r,e=>by
  obtain⟨a,vs,rfl,sq,dl⟩:=h;cases (show u=eZ a from r);unfold cg at e;cases e2:cn ds with
  |none=>rw[e2]at e;cases e
  |some ps=>
   rw[e2]at e;cases e;obtain⟨its,rv,pl,_⟩:=I.list (SqL.mono sg sq);obtain⟨o,ho,hc,n,hd⟩:=pl.isList;obtain⟨as,ra⟩:=vq I sg dl rv e2;exact⟨_,Reads.list ho hc hd (by simpa using ra)⟩
 |.dct _ _,_,_,_,_,_,e=>by cases e
 |.obj _ _,_,_,_,_,_,e=>by cases e
 |.fn _,_,_,_,_,_,e=>by cases e
theorem vq(I:Inv X pins U H s)(sg:Same G H):∀{ds:List D}{vs:List V}{us:List dG}{ps:List iW},DenL (kx X) G ds vs->Vals vs us->cn ds=some ps->∃as,rB s.heap us ps as
 |[],vs,us,ps,h,r,e=>by
  cases (show vs=[]from h);cases r;cases e;exact⟨_,ReadsAll.nil⟩
 |d::ds,vs,us,ps,h,r,e=>by
  obtain⟨v,vr,rfl,dv,dl⟩:=h;cases r with
  |cons rv rr=>
   unfold cn at e;cases e1:cg d with
   |none=>rw[e1]at e;cases e
   |some p=>
    rw[e1]at e;dsimp only at e;cases e2:cn ds with
    |none=>rw[e2]at e;cases e
    |some ps'=>
     rw[e2]at e;cases e;obtain⟨as,ra⟩:=y9 I sg dv rv e1;obtain⟨bs,rb⟩:=vq I sg dl rr e2;exact⟨_,ReadsAll.cons ra rb⟩
end
def cq(I:Inv X pins U H s)(sg:Same G H)(h:Arg (kx X) G H d v)(r:RelV v u)(e:cg d=some p):∃as,Reads s.heap u p as:=by
 rcases h with h|⟨ds,a,vs,rfl,rfl,sq,dl⟩|⟨t,kvs,a,rfl,_⟩
 ·exact y9 I sg h r e
 ·cases (show u=eZ a from r);unfold cg at e;cases e2:cn ds with
  |none=>rw[e2]at e;cases e
  |some ps=>
   rw[e2]at e;cases e;obtain⟨its,rv,pl,_⟩:=I.list sq;obtain⟨o,ho,hc,n,hd⟩:=pl.isList;obtain⟨as,ra⟩:=vq I sg dl rv e2;exact⟨_,Reads.list ho hc hd (by simpa using ra)⟩
 ·cases e
end
def Rp(d e:D):Option Bool:=match cg d,cg e with
 |some p,some q=>if eX p && eX q then some (eL p q)else none
 |_,_=>none
def dh(d e:D):Option D:=(Rp d e).map .bl
def ib(d e:D):Option D:=(Rp d e).map λb=>.bl !b
def Lm(h:Rp d e=some b):∃p q,cg d=some p/\cg e=some q/\eX p=true/\eX q=true/\b=eL p q:=by
 unfold Rp at h;cases e1:cg d with
 |none=>rw[e1]at h;cases h
 |some p=>
  cases e2:cg e with
  |none=>rw[e1,e2]at h;cases h
  |some q=>
   rw[e1,e2]at h;dsimp only at h
   by_cases hs:(eX p && eX q)=true
   ·rw[dJ hs]at h;cases h;rw[dQ]at hs;exact⟨p,q,rfl,rfl,hs.1,hs.2,rfl⟩
   ·rw[dM hs]at h;cases h
section
variable{X:Cx}{B:Hp}{E:EK}{e a b:Expr}{es:List Expr}{g h:En->Res}{pos:Pos}
def GE(K:KA)(neg:Bool):R2:=λx y H Q=>∃G dx dy b,Same G H/\Arg K G H dx x/\Arg K G H dy y/\Rp dx dy=some b/\Q (.bl (if neg then !b else b)) H
def MV(hu:X.A.units+64<gQ):OpR X (fH .Eq) (GE (kx X) false):=by
 intro pins s U H x y v u Q I rx ry q;obtain⟨G,dx,dy,b,sg,ax,ay,eb,q⟩:=q;obtain⟨p,p',e1,e2,s1,s2,rfl⟩:=Lm eb;obtain⟨as,ra⟩:=cq I sg ax rx e1;obtain⟨bs,rb⟩:=cq I sg ay ry e2;exact eq_dataH ra rb s1 s2 hu ⟨.bl (eL p p'),H,I,rfl,q⟩
def MN(hu:X.A.units+64<gQ):OpR X (fH .NotEq) (GE (kx X) true):=by
 intro pins s U H x y v u Q I rx ry q;obtain⟨G,dx,dy,b,sg,ax,ay,eb,q⟩:=q;obtain⟨p,p',e1,e2,s1,s2,rfl⟩:=Lm eb;obtain⟨as,ra⟩:=cq I sg ax rx e1;obtain⟨bs,rb⟩:=cq I sg ay ry e2;exact ne_dataH ra rb s1 s2 hu ⟨.bl (!PyData.eqv p p'),H,I,rfl,q⟩
def FE{K:KA}:g9 K dh (GE K false):=λG H x y dx dy d sg ax ay ed Q q=>by
 unfold dh at ed;cases e:Rp dx dy with
 |none=>rw[e]at ed;cases ed
 |some b=>rw[e]at ed;cases ed;exact⟨G,dx,dy,b,sg,ax,ay,e,q _ G H (Ext.refl sg) rfl⟩
def FA{K:KA}:g9 K ib (GE K true):=λG H x y dx dy d sg ax ay ed Q q=>by
 unfold ib at ed;cases e:Rp dx dy with
 |none=>rw[e]at ed;cases ed
 |some b=>rw[e]at ed;cases ed;exact⟨G,dx,dy,b,sg,ax,ay,e,q _ G H (Ext.refl sg) rfl⟩
def Em{o:Option Bool}{f:Bool->Bool}(h:(o.map λb=>D.bl (f b))=some d):∃b,d=.bl b:=by
 cases o with
 |none=>cases h
 |some b=>cases h;exact⟨_,rfl⟩
def M8(f:Int->Int->Option D):D->D->Option D
 |.int i,.int j=>f i j
 |_,_=>none
def w8:D->D->Option D:=M8 λi j=>some (.int (i - j))
def Bz:D->D->Option D:=M8 λi j=>if 0<j then some (.int (i % j))else none
def P5:D->D->Option D:=M8 λi j=>if 0<j/\j<1073741824 then some (.int (i / j))else none
def Na:D->D->Option D:=M8 λi j=>if 0<=j/\j<=1000000/\i.natAbs<2 ^ 64 then some (.int (i ^ j.toNat))else none
def P3{K:KA}{f:Int->Int->Option D}{C:Int->Int->Prop}{r:Int->Int->V}(hf:∀i j d,f i j=some d->C i j/\∀G,Den K G d (r i j)):g9 K (M8 f) (rI C r):=λG H x y dx dy d sg ax ay ed Q q=>by
 cases dx with
 |int i=>
  cases dy with
  |int j=>
   obtain⟨c,dn⟩:=hf i j d ed;exact⟨i,j,ax.int,ay.int,c,q _ G H (Ext.refl sg) (dn G)⟩
  |_=>cases ed
 |_=>cases ed
def S9{K:KA}{f:Int->Int->Option D}{r:Int->Int->V}(hf:∀i j d,f i j=some d->∀G,Den K G d (r i j)):g9 K (M8 f) (Z6 r):=λG H x y dx dy d sg ax ay ed Q q=>by
 cases dx with
 |int i=>
  cases dy with
  |int j=>exact⟨i,j,ax.int,ay.int,q _ G H (Ext.refl sg) (hf i j d ed G)⟩
  |_=>cases ed
 |_=>cases ed
def OY(ha:jc X B E a g)(hb:jc X B E b h):fq X B E (.BinOp a .Sub b pos) (g2 w8 g h):=Hz ML (S9 λi j d e G=>by cases e;rfl) ha hb
def NG(ha:jc X B E a g)(hb:jc X B E b h):fq X B E (.BinOp a .Mod b pos) (g2 Bz g h):=Hz MP (P3 λi j d e=>by
 by_cases hj:0<j
 ·rw[dJ hj]at e;cases e;exact⟨hj,λ_=>rfl⟩
 ·rw[dM hj]at e;cases e) ha hb
def GR(ha:jc X B E a g)(hb:jc X B E b h):fq X B E (.BinOp a .FloorDiv b pos) (g2 P5 g h):=Hz EB (P3 λi j d e=>by
 by_cases hj:0<j/\j<1073741824
 ·rw[dJ hj]at e;cases e;exact⟨hj,λ_=>rfl⟩
 ·rw[dM hj]at e;cases e) ha hb
def NA(ha:jc X B E a g)(hb:jc X B E b h):fq X B E (.BinOp a .Pow b pos) (g2 Na g h):=Hz MM (P3 λi j d e=>by
 by_cases hj:0<=j/\j<=1000000/\i.natAbs<2 ^ 64
 ·rw[dJ hj]at e;cases e;exact⟨hj,λ_=>rfl⟩
 ·rw[dM hj]at e;cases e) ha hb
def wz(f:Int->Int->Bool):D->D->Option D:=M8 λi j=>some (.bl (f i j))
def UZ:D->D->Option D:=wz λi j=>decide (i<=j)
def Ax:D->D->Option D:=wz λi j=>decide (j<i)
def TC:D->D->Option D:=wz λi j=>decide (j<=i)
def UY:D->D->Option D:=wz λi j=>decide (i<j)
def Ey{K:KA}{f:Int->Int->Bool}:g9 K (wz f) (Z6 λi j=>.bl (f i j)):=S9 λi j d e G=>by cases e;rfl
def Oj:∀x y d,wz f x y=some d->∃b,d=.bl b:=λx y d h=>by
 cases x<;>cases y<;>first|(cases h;exact⟨_,rfl⟩)|cases h
noncomputable def xn(f f':D->D->Option D)(g h k:En->Res):En->Res:=λδ=>(g δ).bind λx=>(h δ).bind λy=>(Res.of (f x y)).bind λz=>match z with
 |.bl true=>(k δ).bind λw=>Res.of (f' y w)
 |.bl false=>.ok (.bl false)
 |_=>.st
def W1{K:KA}{k:En->Res}{f f':D->D->Option D}{r r':R2}(hp:g9 K f r)(hp':g9 K f' r'){U:St}{H:Hp}{Q:VK}(q:Vy K B E (xn f f' g h k) U H Q):Qr r r' (JF K B E g) (JF K B E h) (JF K B E k) U H Q:=by
 obtain⟨G,δ,R,q⟩:=q;refine⟨G,δ,R,(ResP.bind q).mono λdx _ qx x G1 H1 e1 ax=>⟨G1,δ,R.ext e1,((ResP.bind qx).ext e1).mono λdy _ qy y G2 H2 e2 ay=>?_⟩⟩;have e12:=e1.trans e2;obtain⟨d,ed,qd⟩:=ResP.of (ResP.bind qy);refine hp G2 H2 x y dx dy d e2.gh (ax.ext e2) ay ed _ λv G3 H3 e3 dn=>?_;cases d with
 |bl t=>
  refine⟨t,dn,?_⟩;cases t with
  |true=>
   show JF K B E k U H3 _;refine⟨G3,δ,R.ext (e12.trans e3),((ResP.bind qd).ext (e12.trans e3)).mono λdw _ qw w G4 H4 e4 aw=>?_⟩;obtain⟨d',ed',qd'⟩:=ResP.of qw;exact hp' G4 H4 y w dy dw d' e4.gh ((ay.ext e3).ext e4) aw ed' Q λv G5 H5 e5 dn=>qd' v G5 H5 (((e12.trans e3).trans e4).trans e5) dn
  |false=>exact qd _ G3 H3 (e12.trans e3) rfl
 |non=>exact qd.elim
 |int _=>exact qd.elim
 |str _=>exact qd.elim
 |tup _=>exact qd.elim
 |lst _=>exact qd.elim
 |dct _ _=>exact qd.elim
 |obj _ _=>exact qd.elim
 |fn _=>exact qd.elim
def Zv(ho:OpR X (fH op) r)(hp:g9 (kx X) f r)(ho':OpR X (fH op') r')(hp':g9 (kx X) f' r')(ha:jc X B E a g)(hb:jc X B E b h)(hc:jc X B E c k)
  (hm:sF [op,op'] [b,c]=false:=by with_unfolding_all rfl):fq X B E (.Compare a [op,op'] [b,c] pos) (xn f f' g h k):=PE.imp (Y9 ho ho' ha hb hc hm) λU H Q q=>W1 hp hp' q
def Vi{c:Expr}{k:En->Res}{op op':CmpOp}{f f':D->D->Option D}{r r':R2}(ho:OpR X (fH op) r)(hp:g9 (kx X) f r)(ho':OpR X (fH op') r')(hp':g9 (kx X) f' r')(hb1:∀x y d,f' x y=some d->∃b,d=.bl b)(ha:jc X B E a g)(hb:jc X B E b h)(hc:jc X B E c k)
  (hm:sF [op,op'] [b,c]=false:=by with_unfolding_all rfl):Fu X B E (.Compare a [op,op'] [b,c] pos) (xn f f' g h k):=
 PT.imp (Zr ho ho' ha hb hc hm) λU H Q ⟨G,δ,R,q⟩=>W1 hp hp' ⟨G,δ,R,q.mono λd ed ⟨b,eb,qb⟩ v G' H' e3 dn=>by
  subst eb;exact⟨b,dn,qb G' H' e3⟩⟩
noncomputable def bf:D->D->Option D
 |.int i,.int j=>some (.int (i+j))
 |.str x,.str y=>if x.length+y.length<=dN then some (.str (x++y))else none
 |.lst xs,.lst ys=>if xs.length+ys.length<=dN then some (.lst (xs++ys))else none
 |.tup xs,.tup ys=>if xs.length+ys.length<=dN then some (.tup (xs++ys))else none
 |_,_=>none
def JM(K:KA):R2:=λx y H Q=>∃G dx dy d,Same G H/\Arg K G H dx x/\Arg K G H dy y/\bf dx dy=some d/\∀v G' H',Ext G H G' H'->Den K G' d v->Q v H'
def Wk{prog:eS}{w:fI}{A:fV}{E:dG->dP->Prop}{s:dP}{l b:Addr}{its its2:List dG}{Q:dG->dP->Prop}(hl:PlainL s.heap l its.toArray)(hb:PlainL s.heap b its2.toArray)(hz:its.length+its2.length<=dN)
  (h:Q (.ref s.heap.objs.size) {s with heap:=s.heap.push {cls:=.type "list",data:=.seq (its++its2).toArray}}):dX (eJ prog w) A (kR .Add (.ref l) (.ref b)) Q E s:=by
 obtain⟨⟨cls,dd,data,sl⟩,n,ho,c,d,q⟩:=hl;obtain⟨⟨cls2,dd2,data2,sl2⟩,n2,ho2,c2,d2,q2⟩:=hb;simp only at c d q c2 d2 q2;subst c d q c2 d2 q2;have ea:its.toArray++its2.toArray=(its++its2).toArray:=by simp
 refine rL ⟨_,ho,rfl⟩ ⟨_,ho2,rfl⟩ noFill_list_add seq_list_add PySem.F.slot_list_add PySem.F.entry_list_add (PySem.F.args_list_add_2 _ _) (list_addW l b its.toArray its2.toArray n n2 _ _ sl sl2 (by simpa using hz)) ⟨ho,ho2,?_⟩;rw[ea];exact h
def Wz{prog:eS}{w:fI}{A:fV}{E:dG->dP->Prop}{s:dP}{t b:Addr}{vs ws:List dG}{Q:dG->dP->Prop}(ht:nW s.heap t vs.toArray)(hb:nW s.heap b ws.toArray)(hv:vs=[])(h1:Q (.ref b) s):
  dX (eJ prog w) A (kR .Add (.ref t) (.ref b)) Q E s:=by
 obtain⟨⟨cls,dd,data,sl⟩,ho,hc,n,hd⟩:=id ht;obtain⟨⟨cls2,dd2,data2,sl2⟩,ho2,hc2,n2,hd2⟩:=id hb;simp only at hc hd hc2 hd2;subst hc hd hc2 hd2;exact rL ⟨_,ho,rfl⟩ ⟨_,ho2,rfl⟩ qZ seq_tuple_add nY nP (nB _ _)
  (tuple_addW0 t b vs.toArray ws.toArray n n2 dd dd2 sl sl2 (by simp[hv])) ⟨ho,ho2,h1⟩
def ED:OpR X (kR .Add) (JM (kx X)):=by
 intro pins s U H x y v u Q I rx ry q;obtain⟨G,dx,dy,d,sg,ax,ay,ed,q⟩:=q;unfold bf at ed;split at ed
 ·cases ed;rw[ax.int]at rx;rw[ay.int]at ry;exact MW pins s U H _ _ _ _ Q I rx ry ⟨_,_,rfl,rfl,q _ G H (Ext.refl sg) rfl⟩
 ·split at ed
  ·rename_i hz;cases ed;rw[ax.str]at rx;rw[ay.str]at ry;exact Px pins s U H _ _ _ _ Q I rx ry ⟨_,_,rfl,rfl,hz,q _ G H (Ext.refl sg) rfl⟩
  ·cases ed
 ·split at ed
  ·rename_i xs ys hz;cases ed;obtain⟨l,vs,rfl,sq,dl⟩:=ax.lst sg;obtain⟨b,ws,rfl,sq2,dl2⟩:=ay.lst sg;cases rx;cases ry;obtain⟨its,rv,pl,_⟩:=I.list sq;obtain⟨its2,rv2,pl2,_⟩:=I.list sq2;have l1:=dl.length;have l2:=dl2.length;have l3:=rv.length;have l4:=rv2.length;refine Wk pl pl2 (by lia) ⟨.ref _,_,I.lnew (t':=s.toks) (rv.append rv2) (by rw[dU];lia),rfl,?_⟩;exact q _ (upd G s.heap.objs.size (.lst (vs++ws))) _ (Ext.new sg _ I.fresh) (uf sg I.fresh (dl.append dl2))
  ·cases ed
 ·split at ed
  ·rename_i xs ys hz;cases ed;obtain⟨l,vs,rfl,sq,dl⟩:=ax.tup sg;obtain⟨b,ws,rfl,sq2,dl2⟩:=ay.tup sg;have l1:=dl.length;have l2:=dl2.length
   by_cases hx:vs=[]
   ·cases rx;cases ry;obtain⟨its,rv,p1,_⟩:=I.tuple sq;obtain⟨its2,rv2,p2,_⟩:=I.tuple sq2;refine Wz p1 p2 (rv.nil_iff.mpr hx) ⟨.ref b,H,I,rfl,?_⟩;subst hx;have:xs=[]:=by cases xs with
     |nil=>rfl
     |cons _ _=>simp at l1
    subst this;rcases ay with ad|⟨_,_,_,z,_⟩|⟨_,_,_,z,_⟩
    ·exact q _ G H (Ext.refl sg) ad
    ·cases z
    ·cases z
   ·refine EC pins s U H _ _ _ _ Q I rx ry ⟨l,b,vs,ws,rfl,rfl,sq,sq2,hx,by lia,λz=>?_,λz p hp=>?_⟩
    ·subst z;have:ys=[]:=by cases ys with
      |nil=>rfl
      |cons _ _=>simp at l2
     subst this;rw[gZ]at q;rcases ax with ad|⟨_,_,_,z,_⟩|⟨_,_,_,z,_⟩
     ·exact q _ G H (Ext.refl sg) ad
     ·cases z
     ·cases z
    ·exact q _ (upd G p (.tup (vs++ws))) _ (Ext.new sg _ hp) (qi sg hp (dl.append dl2))
  ·cases ed
 ·cases ed
def Zl{K:KA}:g9 K bf (JM K):=λG H x y dx dy d sg ax ay ed Q q=>⟨G,dx,dy,d,sg,ax,ay,ed,q⟩
def NQ(ha:jc X B E a g)(hb:jc X B E b h):fq X B E (.BinOp a .Add b pos) (g2 bf g h):=Hz ED Zl ha hb
theorem DenL.atI{K:KA}{G:Hp}{ds:List D}{vs:List V}{i:Int}{d:D}(dl:DenL K G ds vs)(h:atI ds i=some d):∃v,atI vs i=some v/\Den K G d v:=by
 unfold L2.atI at h⊢;rw[dl.length]at h;cases e:LL vs.length i with
 |none=>rw[e]at h;cases h
 |some j=>
  rw[e]at h;exact dl.get h
def KD{K:KA}{f:D->Option D}{rr:List V->Hp->VK->Prop}(hp:∀G H x dx d,Same G H->Arg K G H dx x->f dx=some d->∀Q:VK,(∀v G' H',Ext G H G' H'->Den K G' d v->Q v H')->rr [x] H Q){U:St}{H:Hp}{Q:VK}(q:Vy K B E (g1 f g) U H Q):
  WU rr (ZC K B E [true] (af g ao)) U H Q:=by
 obtain⟨G,δ,R,q⟩:=q;refine⟨G,δ,R,?_⟩;unfold af;unfold g1 at q;cases e:g δ with
 |ok dx=>
  rw[e]at q;obtain⟨d,ed,qd⟩:=ResP.of (show ResP E G H (Res.of (f dx)) _ from q);intro vs G1 H1 e1 al;obtain⟨v,rfl,av⟩:=ArgsM.one al;exact hp G1 H1 v dx d e1.gh av ed Q λv G' H' e2 dn=>qd v G' H' (e1.trans e2) dn
 |er c=>rw[e]at q;exact q
 |st=>rw[e]at q;exact q
noncomputable def bu:D->Option D
 |.str x=>if x.length<=dN then some (.int x.length)else none
 |.tup ds=>some (.int ds.length)
 |.lst ds=>some (.int ds.length)
 |_=>none
def NI{p:Pos}(hg:Gl X "len")(hm:X.mg "len"=none)(ha:jc X B E e g)(he:eE [e] X.env=(false,eval e X.env)::eE [] X.env:=by rfl)(hpl:(iY pos (eE [] X.env)).any (·.1)=false:=by rfl):fq X B E (.Call (.Name "len" p) [e] [] pos) (g1 bu g):=
 PE.imp (nj Wy hg hm PySem.boot_len (fe ha ik he) (by decide) (by decide) he hpl) λU H Q q=>KD (λG H x dx d sg ax ed Q q=>by
  unfold bu at ed;split at ed
  ·split at ed
   ·rename_i hz;cases ed;rw[ax.str];exact⟨_,_,rfl,⟨hz,rfl⟩,q _ G H (Ext.refl sg) rfl⟩
   ·cases ed
  ·cases ed;obtain⟨l,vs,rfl,sq,dl⟩:=ax.tup sg;exact⟨_,_,rfl,.inr ⟨vs,sq,dl.length⟩,q _ G H (Ext.refl sg) rfl⟩
  ·cases ed;obtain⟨l,vs,rfl,sq,dl⟩:=ax.lst sg;exact⟨_,_,rfl,.inl ⟨vs,sq,dl.length⟩,q _ G H (Ext.refl sg) rfl⟩
  ·cases ed) q
noncomputable def IX:D->Option String
 |.non=>some "NoneType"
 |.bl _=>some "bool"
 |.int _=>some "int"
 |.str _=>some "str"
 |.tup _=>some "tuple"
 |.lst _=>some "list"
 |.dct _ _=>some "dict"
 |_=>none
def BA(t c:String):Bool:=t==c||(t=="bool" && c=="int")
def bb(c:String)(d:D):Option D:=match IX d with
 |some t=>some (.bl (BA t c))
 |none=>none
end
def vn(h:a<b):a≠b+1:=by lia
def Yn:b+1≠b:=by lia
instance:Inhabited D:=⟨.non⟩
def Ja(I:Nat->dP->Prop)
   (turn:∀n s,I n s->dX (eJ prog w) A (kZ it) (λr s₁=>match r with
   |none=>R (.ok .next) s₁
   |some v=>dX (eJ prog w) A (pF target it v) (λ_ s₁=>dX (eJ prog w) A (assign target env v) (λ_ s₂=>
     dX (eJ prog w) A (forIn ifs true λc r=>if r=true then do let ok <-isTrue c env (eval c env);pure (pG ok)else pure (pG r)) (λok s₃=>
      if ok=true then dX (eJ prog w) A (eval elt env) (λx s₄=>
       dX (eJ prog w) A (call (.builtin "list.append") [acc,x]) (λ_ s₅=>∃m,m<n/\I m s₅) (notedBy (eJ prog w) A env λe s'=>R (.error e) s') s₄) (notedBy (eJ prog w) A env λe s'=>R (.error e) s') s₃
      else∃m,m<n/\I m s₃) (notedBy (eJ prog w) A env λe s'=>R (.error e) s') s₂) (notedBy (eJ prog w) A env λe s'=>R (.error e) s') s₁) (notedBy (eJ prog w) A env λe s'=>R (.error e) s') s₁) (notedBy (eJ prog w) A env λe s'=>R (.error e) s') s)
  (n:Nat) (h:I n s):
  lM (eJ prog w) A (.compLoop (.ListComp elt [⟨target,iter,ifs,0⟩] scope pos) 0 it acc env) R s:=by
 refine codeAny_loop rfl I (λn s hI=>?_) n h;show dX _ A ((compTurn (.ListComp elt [⟨target,iter,ifs,0⟩] scope pos) 0 it acc env).onRaise (λx=>do noteFrame x env;theTreesLotGoes x)) _ _ s;refine wpAny_noted ?_;rw[compTurn_list];refine dA (wpAny_standAt (dA (fL (turn n s hI) (λr s₁ h₁=>?_) λ_ _ h'=>h')));cases r with
 |none=>exact dB h₁
 |some v=>
  refine dA (fL h₁ (λ_ s₁' h₁=>?_) λ_ _ h'=>h');refine dA (fL h₁ (λ_ s₂ h₂=>dA (fL h₂ (λok s₃ h₃=>?_) λ_ _ h'=>h')) λ_ _ h'=>h');cases ok with
  |false=>exact dB ⟨rfl,h₃⟩
  |true=>
   exact dA (dA (fL h₃ (λx s₄ h₄=>dA (fL h₄ (λ_ s₅ h₅=>dB (dB ⟨rfl,h₅⟩)) λ_ _ h'=>h')) λ_ _ h'=>h'))
noncomputable def j5(env:Env):List (Str×lE)->List (Str×Addr)->Option (List (Str×Addr))
 |[],cs=>some cs
 | (n, k) :: r, cs => if k = .free then (match env.cells.lookup n with
  |some c=>j5 env r ((n,c)::cs)
  |none=>none)else j5 env r cs
theorem Ac(env:Env):∀(names:List (Str×lE))(cs cl:List (Str×Addr)),j5 env names cs=some cl->
  (forIn names cs λx (c:List (Str×Addr))=>(if(x.2==jX)=true then do let a <-cellOf env x.1;pure (pG ((x.1,a)::c))else pure (pG c):Sem _))=pure cl
 |[],cs,cl,h=>by cases h;rfl
 |(n,k)::r,cs,cl,h=>by
  unfold j5 at h;rw[rR]
  by_cases hk:k=.free
  ·subst hk;simp only[if_true]at h;cases hc:env.cells.lookup n with
   |none=>rw[hc]at h;cases h
   |some c=>
    rw[hc]at h;have:cellOf env n=pure c:=by unfold cellOf;rw[hc]
    simp only[beq_self_eq_true,if_true,this,pure_bind];exact Ac env r _ cl h
  ·rw[dM hk]at h;have hb:(k==jX)=false:=by simpa using hk
   simp only[hb,Bool.false_eq_true,if_false,pure_bind];exact Ac env r _ cl h
def wj{scope:jW}(h:j5 env scope.names []=some cl):closureFor scope env=pure cl:=by
 have q:=Ac env scope.names [] cl h;unfold closureFor;exact(congrArg (λt=>t>>=λcs=>pure cs) q).trans (pure_bind _ _)
theorem xh(env:Env):∀(names:List (Str×lE))(cs cl:List (Str×Addr)),j5 env names cs=some cl->(∀p∈cs,env.cells.lookup p.1=some p.2)->∀p∈cl,env.cells.lookup p.1=some p.2
 |[],cs,cl,h,q=>by cases h;exact q
 |(n,k)::r,cs,cl,h,q=>by
  unfold j5 at h
  by_cases hk:k=.free
  ·subst hk;simp only[if_true]at h;cases hc:env.cells.lookup n with
   |none=>rw[hc]at h;cases h
   |some c=>
    rw[hc]at h;refine xh env r _ cl h λp hp=>?_;rcases List.mem_cons.mp hp with rfl|hp
    ·exact hc
    ·exact q p hp
  ·rw[dM hk]at h;exact xh env r _ cl h q
theorem rn:∀{l:List (Str×β)}{x:Str}{c:β},l.lookup x=some c->(x,c)∈l
 |[],_,_,h=>by simp at h
 |(n,b)::r,x,c,h=>by
  rw[rC]at h
  by_cases e:x=n
  ·subst e;simp only[beq_self_eq_true]at h;cases h;exact dH
  ·have hb:(x==n)=false:=by simpa using e
   rw[hb]at h;exact dF _ (rn h)
noncomputable def jt(X:Cx)(scope:jW)(cl:List (Str×Addr))(N:List Str)(xs:List Str)(C:Addr)(s₀:dP)(H₀:Hp)(ex:List Addr)(pn:List (Addr×Obj)):Cx where
 prog:=X.prog
 w:=X.w
 K:=(kx X)
 mg:=X.mg
 base:=X.base
 A:=X.A
 N:=N
 s₀:=s₀
 H₀:=H₀
 env:=compEnvC scope cl C X.env
 outer:=X.stack
 stack:=X.stack
 ex:=ex
 fn:=λy=>decide (y∈xs)
 calm:=X.calm
 pn:=pn
 xe:=λ_ _=>False
structure CapOk(X:Cx)(scope:jW)(cl:List (Str×Addr))(y:Str)(i:Nat):Prop where
 at_:X.N[i]?=some y
 vis:RV X.env.scope y
 nloc:X.env.kindOf y≠some .local
 cell:∃c,cl.lookup y=some c
 kind:(pP scope X.env).names.lookup y=some .cell\/(pP scope X.env).names.lookup y=some .free
def Caps(X:Cx)(scope:jW)(cl:List (Str×Addr)):List Str->List Nat->Prop
 |[],ix=>ix=[]
 |y::M,ix=>∃i r,ix=i::r/\CapOk X scope cl y i/\Caps X scope cl M r
theorem Caps.get:∀{M:List Str}{ix:List Nat},Caps X scope cl M ix->∀(j:Nat) y,M[j]?=some y->∃i,ix[j]?=some i/\CapOk X scope cl y i
 |[],_,_,j,y,h=>by simp at h
 |_::_,_,⟨i,r,h1,h2,h3⟩,0,y,h=>by
  simp at h;subst h;subst h1;exact⟨i,rfl,h2⟩
 |_::_,_,⟨i,r,h1,h2,h3⟩,j+1,y,h=>by
  subst h1;obtain⟨k,q1,q2⟩:=Caps.get h3 j y (by simpa using h);exact⟨k,by simpa using q1,q2⟩
theorem Caps.length:∀{M:List Str}{ix:List Nat},Caps X scope cl M ix->M.length=ix.length
 |[],_,h=>by rw[show _=[]from h];rfl
 |_::_,_,⟨i,r,h1,h2,h3⟩=>by rw[h1,dI,dI,Caps.length h3]
structure CompOk(X:Cx)(scope:jW)(cl:List (Str×Addr))(xs:List Str)(M:List Str)(ix:List Nat):Prop where
 clos:j5 X.env scope.names []=some cl
 kind:scope.kind=.function
 ncell:∀y∈scope.names,y.2≠.cell
 names:∀y∈scope.names,y.2=.local->scope.names.lookup y.1=some .local
 loc:∀x∈xs,scope.names.lookup x=some .local
 xcl:∀x∈xs,cl.lookup x=none
 nd:(xs++M).Nodup
 ixd:ix.Nodup
 cap:Caps X scope cl M ix
section
variable{X:Cx}{scope:jW}{cl:List (Str×Addr)}{xs:List Str}{M:List Str}{ix:List Nat}{pins:List (Addr×Obj)}{U:St}{H:Hp}{s:dP}{fp:List Addr}
theorem oo(env:Env):∀(names:List (Str×lE))(cs cl:List (Str×Addr)),j5 env names cs=some cl->∀y,((∃c,cs.lookup y=some c)\/(y,jX)∈names)->∃c,cl.lookup y=some c
 |[],cs,cl,h,y,q=>by
  cases h;rcases q with q|q
  ·exact q
  ·simp at q
 |(n,k)::r,cs,cl,h,y,q=>by
  unfold j5 at h
  by_cases hk:k=.free
  ·subst hk;simp only[if_true]at h;cases hc:env.cells.lookup n with
   |none=>rw[hc]at h;cases h
   |some c=>
    rw[hc]at h;refine oo env r _ cl h y ?_
    by_cases e:y=n
    ·subst e;exact .inl ⟨c,by simp⟩
    ·rcases q with ⟨c',q⟩|q
     ·refine .inl ⟨c',?_⟩;have hb:(y==n)=false:=by simpa using e
      rw[rC,hb];exact q
     ·rcases List.mem_cons.mp q with z|z
      ·cases z;exact absurd rfl e
      ·exact .inr z
  ·rw[dM hk]at h;refine oo env r _ cl h y ?_;rcases q with q|q
   ·exact .inl q
   ·rcases List.mem_cons.mp q with z|z
    ·cases z;exact absurd rfl hk
    ·exact .inr z
def CompOk.free(O:CompOk X scope cl xs M ix):∀y,(y,jX)∈scope.names->∃c,cl.lookup y=some c:=λy h=>oo X.env _ _ cl O.clos y (.inr h)
theorem CompOk.cells(O:CompOk X scope cl xs M ix)(h:cl.lookup y=some c):X.env.cells.lookup y=some c:=
 xh X.env _ _ cl O.clos (λp hp=>by simp at hp) (y,c) (rn h)
def Jv{scope:jW}(h:(pP scope env).names.lookup y=some .cell\/(pP scope env).names.lookup y=some .free)(hn:∀z∈scope.names,z.2≠.cell):(y,jX)∈scope.names:=by
 have key:∃k,(y,k)∈(pP scope env).names/\(k=.cell\/k=.free):=by
  rcases h with h|h
  ·exact⟨_,rn h,.inl rfl⟩
  ·exact⟨_,rn h,.inr rfl⟩
 obtain⟨k,hm,hk⟩:=key;obtain⟨⟨n,k'⟩,hm',e⟩:=List.mem_map.mp hm
 by_cases hc:(k'==jX && env.scope.kind==.function && env.kindOf n==some .cell)=true
 ·simp only[hc,if_true]at e;cases e;have:k'=.free:=by
   simp only[dQ]at hc;simpa using hc.1.1
  subst this;exact hm'
 ·simp only[hc,if_false]at e;cases e;rcases hk with hk|hk
  ·exact absurd hk (hn _ hm')
  ·subst hk;exact hm'
def CN(O:CompOk X scope cl xs M ix)(I:Inv X pins U H s)(hf:∀b∈fp,B7 X pins H b)(hfs:∀b∈fp,b<s.heap.objs.size){h1:Heap}(hk:∀b o,s.heap.get? b=some o->h1.get? b=some o)(hz:h1.objs.size=s.heap.objs.size+1):
  (jt X scope cl (xs++M) xs (s.heap.objs.size+1) {s with heap:=h1,toks:=tk} (upd H s.heap.objs.size (.lst [])) fp (X.pn++pins)).Ok:=by
 have qM:H s.heap.objs.size=none:=I.hok.fresh (dR _);have old:∀{b:Addr}{o:Obj},s.heap.get? b=some o->b≠s.heap.objs.size:=λe z=>by
  have:=dY e;rw[z]at this;exact fR _ this
 have cne:∀y c,cl.lookup y=some c->c<s.heap.objs.size:=λy c e=>by
  obtain⟨v,q⟩:=I.cell y c (O.cells e);exact q.lt
 have kO:=I.ok;refine⟨kO.mod,O.kind,kO.glob,kO.blt,?_,?_,?_,?_,kO.hd,kO.frames,.inl rfl,?_,?_,?_,?_,?_,?_,?_⟩
 ·show h1.objs.size<=s.heap.objs.size+1
  lia
 ·intro a b c h1 h2;exact kO.inj a b c (O.cells h1) (O.cells h2)
 ·intro y hy;have:=Jv (env:=X.env) (scope:=scope) (y:=y) hy O.ncell;exact O.free _ this
 ·intro y c hy hc;have hm:y∈xs:=of_decide_eq_true hy;rw[show(jt X scope cl (xs++M) xs (s.heap.objs.size+1) {s with heap:=h1,toks:=tk} (upd H s.heap.objs.size (.lst [])) fp (X.pn++pins)).env.cells=cl from rfl,O.xcl y hm]at hc;cases hc
 ·intro b hb;have:=hfs b hb;refine⟨?_,λy c e=>?_⟩
  ·exact vn this
  ·exact(hf b hb).2.2.2.2.1 y c (O.cells e)
 ·intro b o e;obtain⟨q1,q2⟩:=I.bs b o e;refine⟨hk b o q1,?_⟩;show upd H s.heap.objs.size (.lst []) b=none;rw[a6 (old q1)];exact q2
 ·show X.base.objs.size<=h1.objs.size;have:=kO.bsz;have:=I.sz
  lia
 ·intro b o e hb;rcases(hf b hb).2.2.2.1 with q|q
  ·exact kO.noex b o e q
  ·exact absurd (eW (dY e) (fF kO.bsz q)) (fR _)
 ·intro b hb hfb;rcases List.mem_cons.mp (I.stkSub b hfb)with e|e
  ·exact(hf b hb).2.1 e
  ·exact(hf b hb).2.2.1 e
 ·exact I.stack.of_keeps λb o e _=>⟨o,hk b o e,rfl⟩
 ·intro b hb;show upd H s.heap.objs.size (.lst []) b=none;have q:=I.stkFree b hb;obtain⟨_,o,ho,_⟩:=I.stack.mem hb;rw[a6 (old ho)];exact q
def ju(U:St)(ix:List Nat)(os:List (Option V)):St:=os++ix.map λi=>(U[i]?).join
def Om{os:List (Option V)}(hn:os.length=xs.length)(O:CompOk X scope cl xs M ix):(ju U ix os).length=(xs++M).length:=by
 unfold ju;rw[dU,dU,dD,hn,O.cap.length]
def W4(O:CompOk X scope cl xs M ix)(I:Inv X pins U H s)(hf:∀b∈fp,B7 X pins H b)(hfs:∀b∈fp,b<s.heap.objs.size){h1 h2:Heap}(hk:∀b o,s.heap.get? b=some o->h1.get? b=some o)(hz:h1.objs.size=s.heap.objs.size+1)
  (ha:h1.get? s.heap.objs.size=some {cls:=.type "list",data:=.seq #[] 0})(hk2:∀b o,h1.get? b=some o->h2.get? b=some o)(hn:h2.Ns (s.heap.objs.size+1) m):
  Inv (jt X scope cl (xs++M) xs (s.heap.objs.size+1) {s with heap:=h1,toks:=tk} (upd H s.heap.objs.size (.lst [])) fp (X.pn++pins)) [] (ju U ix (eA xs.length none)) (upd H s.heap.objs.size (.lst [])) {s with heap:=h2,toks:=tk2}:=by
 have qM:H s.heap.objs.size=none:=I.hok.fresh (dR _);have old:∀{b:Addr}{o:Obj},s.heap.get? b=some o->b≠s.heap.objs.size:=λe z=>by
  have:=dY e;rw[z]at this;exact fR _ this
 have hn1:h1.get? (s.heap.objs.size+1)=none:=oW (by lia);have frC:H (s.heap.objs.size+1)=none:=I.hok.fresh (oX _);refine⟨CN O I hf hfs hk hz,rfl,I.bare,Un.kept hk2,⟨m,hn,?_⟩,?_,?_,?_,?_,?_,Om gR O⟩
 ·intro i y v hi hv _
  by_cases hx:i<xs.length
  ·unfold ju at hv;rw[fY (by rw[gR];exact hx),List.getElem?_replicate_of_lt hx]at hv;cases hv
  ·obtain⟨j,rfl⟩:∃j,i=xs.length+j:=⟨i - xs.length,by lia⟩;have hy:M[j]?=some y:=by
    have q:(xs++M)[xs.length+j]?=some y:=hi;rw[gE (lH _ _)]at q;simpa using q
   obtain⟨k,hk',C⟩:=O.cap.get j y hy;have hv':((ix.map λi=>(U[i]?).join)[j]?)=some (some v):=by
    unfold ju at hv;rw[gE (by rw[gR];exact lH _ _)]at hv;simpa using hv
   rw[eP,hk']at hv';have hs:(U[k]?).join=some v:=by simpa using hv'
   have hs':U[k]?=some (some v):=by
    cases e:U[k]? with
    |none=>rw[e]at hs;simp at hs
    |some o=>rw[e]at hs;simp at hs;rw[hs]
   obtain⟨mX,_,hl⟩:=I.loc;obtain⟨u,r,lk⟩:=hl k y v C.at_ hs' C.vis;refine⟨u,r,.inr ⟨C.kind,?_⟩⟩;rcases lk with ⟨q,_⟩|⟨_,c,hc,hcell⟩
   ·exact absurd q C.nloc
   ·obtain⟨c',hc'⟩:=C.cell;have:=O.cells hc';rw[hc]at this;cases this;exact⟨c,hc',hcell.keeps λb o e=>hk2 b o (hk b o e)⟩
 ·intro y c hc;obtain⟨v,q⟩:=I.cell y c (O.cells hc);exact⟨v,q.keeps λb o e=>hk2 b o (hk b o e)⟩
 ·show upd H s.heap.objs.size (.lst []) (s.heap.objs.size+1)=none;rw[a6 Yn];exact frC
 ·intro y c hc;obtain⟨v,q⟩:=I.cell y c (O.cells hc);have hne:(jt X scope cl (xs++M) xs (s.heap.objs.size+1) {s with heap:=h1,toks:=tk} (upd H s.heap.objs.size (.lst [])) fp (X.pn++pins)).fn y=false:=decide_eq_false λz=>by
   have hc':cl.lookup y=some c:=hc;rw[O.xcl y z]at hc';cases hc'
  rcases I.freeC y c (O.cells hc)with fr|⟨_,o,fr⟩
  ·refine .inl ?_;show upd H s.heap.objs.size (.lst []) c=none;rw[a6 (eM q.lt)];exact fr
  ·refine .inr ⟨hne,o,?_⟩;show upd H s.heap.objs.size (.lst []) c=_;rw[a6 (eM q.lt)];exact fr
 ·intro p hp;have hp':p∈X.pn++pins:=by simpa[jt]using hp
  obtain⟨q1,q2,q3,q4,q5⟩:=I.pin p hp';refine⟨hk2 _ _ (hk _ _ q1),?_,?_,?_,q5⟩
  ·show upd H s.heap.objs.size (.lst []) p.1=none;rw[a6 (old q1)];exact q2
  ·exact vn (dY q1)
  ·intro hfb;rcases List.mem_cons.mp (I.stkSub p.1 hfb)with e|e
   ·exact q3 e
   ·exact q4 e
 ·refine I.hok.laid (λb o e=>hk2 b o (hk b o e)) (dR _) ⟨fZ _,[],0,.nil,hk2 _ _ ha⟩
end
noncomputable def k9(f:D->Option (Option D)):List D->Option (List D)
 |[]=>some []
 |d::r=>match f d with
  |none=>none
  |some o=>match k9 f r with
   |none=>none
   |some ys=>some (o.toList++ys)
def b8(ix:List Nat)(δ:En)(s:Sl):En:=s::ix.map λi=>(δ[i]?).getD .no
noncomputable def B6(ix:List Nat)(t:En->Res)(g:En->Res)(δ:En)(d:D):Option (Option D):=match t (b8 ix δ (.pu d))with
 |.ok (.bl true)=>(match g (b8 ix δ (.pu d))with
  |.ok y=>some (some y)
  |_=>none)
 |.ok (.bl false)=>some none
 |_=>none
noncomputable def cb(r:En->ResL)(ix:List Nat)(t:En->Res)(g:En->Res):En->Res:=λδ=>match r δ with
 | .ok ds => if ds.length <= dN then (match k9 (B6 ix t g δ) ds with
  |some ys=>.ok (.lst ys)
  |none=>.st)else .st
 |.er c=>.er c
 |.st=>.st
noncomputable def m5(r:En->ResL)(f:En->D->Option (Option D)):En->Res:=λδ=>match r δ with
 | .ok ds => if ds.length <= dN then (match k9 (f δ) ds with
  |some ys=>.ok (.lst ys)
  |none=>.st)else .st
 |.er c=>.er c
 |.st=>.st
def Us:IsL (m5 r f):=λδ d h=>by
 unfold m5 at h;split at h
 ·split at h
  ·split at h
   ·cases h;exact⟨_,rfl⟩
   ·cases h
  ·cases h
 ·cases h
 ·cases h
def IE(q:ResP E G H (m5 r f δ) P):
  ResLP E G H (r δ) λds=>ds.length<=dN/\∃ys,k9 (f δ) ds=some ys/\P (.lst ys):=by
 unfold m5 at q;cases e:r δ with
 |ok ds=>
  rw[e]at q;dsimp only at q
  by_cases hl:ds.length<=dN
  ·rw[dJ hl]at q;cases e2:k9 (f δ) ds with
   |none=>rw[e2]at q;exact q.elim
   |some ys=>rw[e2]at q;exact⟨hl,ys,e2,q⟩
  ·rw[dM hl]at q;exact q.elim
 |er c=>rw[e]at q;exact q
 |st=>rw[e]at q;exact q
def mr(ix:List Nat)(δ:En):En:=ix.map λi=>(δ[i]?).getD .no
def CK{K:KA}{G:Hp}:∀{ds:List D}{vs:List V},DenL K G ds vs->∀{j:Nat}{t:Sl},(ds.map Sl.pu)[j]?=some t->∃d v,t=.pu d/\(vs.map some)[j]?=some (some v)/\Den K G d v:=λ{ds vs} dl j t h=>by
 rw[eP]at h;cases e:ds[j]? with
 |none=>rw[e]at h;cases h
 |some d=>
  rw[e]at h;cases h;obtain⟨v,ev,dv⟩:=dl.get e;exact⟨d,v,rfl,by rw[eP,ev];rfl,dv⟩
def Ol{K:KA}{B G H:Hp}{U:St}{δ:En}{ix:List Nat}{ds:List D}{vs:List V}(R:EnvR K B G H U δ)(nd:ix.Nodup)(dl:DenL K G ds vs):EnvR K B G H (ju U ix (vs.map some)) (ds.map Sl.pu++mr ix δ):=by
 have key:∀(j:Nat) t,(mr ix δ)[j]?=some t->∃i,ix[j]?=some i/\((t=.no)\/δ[i]?=some t)/\(ix.map λi=>(U[i]?).join)[j]?=some ((U[i]?).join):=λj t h=>by
  unfold mr at h;rw[eP]at h;cases e:ix[j]? with
  |none=>rw[e]at h;cases h
  |some i=>
   rw[e]at h;refine⟨i,rfl,?_,by rw[eP,e];rfl⟩;cases e2:δ[i]? with
   |none=>rw[kM,e2]at h;cases h;exact .inl rfl
   |some u=>rw[kM,e2]at h;cases h;exact .inr rfl
 have jo:∀(i:Nat) a,(U[i]?).join=some (V.ref a)->U[i]?=some (some (.ref a)):=λi a h=>by
  cases e:U[i]? with
  |none=>rw[e]at h;simp at h
  |some o=>rw[e]at h;simp at h;rw[h]
 have hl:(vs.map some).length=(ds.map Sl.pu).length:=by rw[dD,dD,dl.length]
 have at_:∀{j:Nat}{t:Sl},(ds.map Sl.pu++mr ix δ)[j]?=some t->(∃d v,t=.pu d/\(ju U ix (vs.map some))[j]?=some (some v)/\Den K G d v)\/∃k,j=ds.length+k/\(mr ix δ)[k]?=some t/\(ju U ix (vs.map some))[j]?=(ix.map λi=>(U[i]?).join)[k]?:=λ{j t} h=>by
  unfold ju
  by_cases hj:j<(ds.map Sl.pu).length
  ·rw[fY hj]at h;rw[fY (by rw[hl];exact hj)];exact .inl (CK dl h)
  ·obtain⟨k,rfl⟩:∃k,j=ds.length+k:=⟨j - ds.length,by rw[dD]at hj;lia⟩;rw[gE (by rw[dD];exact lH _ _),dD,Nat.add_sub_cancel_left]at h;exact .inr ⟨k,rfl,h,by rw[gE (by rw[hl,dD];exact lH _ _),hl,dD,Nat.add_sub_cancel_left]⟩
 refine⟨R.bh,R.gh,?_,λj t h=>?_,λj t a h1 h2 h3=>?_,λj k t u a h1 h2 h3 h4 h5 h6=>?_,R.gb⟩
 ·unfold ju mr;rw[dU,dU,hl,dD (as:=ix),dD (as:=ix)]
 ·rcases at_ h with ⟨d,v,rfl,e,dv⟩|⟨k,rfl,h,e⟩
  ·exact⟨some v,e,v,rfl,dv⟩
  ·obtain⟨i,q1,q2,q3⟩:=key k t h;refine⟨_,e.trans q3,?_⟩;rcases q2 with rfl|q2
   ·trivial
   ·obtain⟨o',z1,z2⟩:=R.sl i t q2;rw[z1];exact z2
 ·rcases at_ h1 with ⟨d,v,rfl,e,dv⟩|⟨k,rfl,h,e⟩
  ·cases h2
  ·obtain⟨i,q1,q2,q3⟩:=key k t h;rw[e,q3]at h3;rcases q2 with rfl|q2
   ·cases h2
   ·exact R.own i t a q2 h2 (jo i a (eI h3))
 ·rcases at_ h1 with ⟨d,v,rfl,e,dv⟩|⟨j',rfl,h,e⟩
  ·cases h3
  ·rcases at_ h2 with ⟨d,v,rfl,e',dv⟩|⟨k',rfl,h',e'⟩
   ·cases h4
   ·obtain⟨i,q1,q2,q3⟩:=key j' t h;obtain⟨i',y1,y2,y3⟩:=key k' u h';rw[e,q3]at h5;rw[e',y3]at h6;rcases q2 with rfl|q2
    ·cases h3
    ·rcases y2 with rfl|y2
     ·cases h4
     ·have z:=R.dis i i' t u a q2 y2 h3 h4 (jo i a (eI h5)) (jo i' a (eI h6));subst z;have lj:j'<ix.length:=(List.getElem?_eq_some_iff.mp q1).1;rw[(List.getElem?_inj lj nd).mp (q1.trans y1.symm)]
structure TgB(X:Cx)(n:Nat)(tg:Expr)(td:D->Option (List D)):Prop where
 ex:∃gl,PG X tg gl/\∀{G H:Hp}{os:List (Option V)}{cs:St}{d:D}{v:V}{ds:List D}{Q:St->Hp->Prop},os.length=n->Same G H->Den (kx X) G d v->td d=some ds->(∀vs,DenL (kx X) G ds vs->vs.length=n->Q (vs.map some++cs) H)->gl v (os++cs) H Q
section
variable{X:Cx}{B:Hp}{E:EK}{scope:jW}{cl:List (Str×Addr)}{xs:List Str}{M:List Str}{ix:List Nat}{elt iter:Expr}{ifs:List Expr}{pos:Pos}{r:En->ResL}{t g:En->Res}{tg:Expr}{td:D->Option (List D)}
abbrev EF:EK:=λ_ _=>False
structure BlockOk(X:Cx)(B:Hp)(E:EK)(scope:jW)(cl:List (Str×Addr))(xs:List Str)(M:List Str)(tg:Expr)(td:D->Option (List D))(elt:Expr)(ifs:List Expr)(t g:En->Res):Prop where
 tgt:∀C s₀ H₀ ex pn,TgB (jt X scope cl (xs++M) xs C s₀ H₀ ex pn) xs.length tg td
 test:(ifs=[]/\t=gC (.bl true))\/∃c,ifs=[c]/\∀C s₀ H₀ ex pn,Fu (jt X scope cl (xs++M) xs C s₀ H₀ ex pn) B EF c t
 elt:∀C s₀ H₀ ex pn,fq (jt X scope cl (xs++M) xs C s₀ H₀ ex pn) B EF elt g
def WT(d:D):Option (List D):=some [d]
def Tq(O:CompOk X scope cl [x] M ix)(C s₀ H₀ ex pn):TgB (jt X scope cl ([x]++M) [x] C s₀ H₀ ex pn) 1 (.Name x px) WT:=
 ⟨_,Ct (i:=0) O.nd rfl (.inl (oY (O.loc x dH))) (.inl (decide_eq_true dH)),λ{G H os cs d v ds Q} h0 sg dn e q=>by
  cases e
  match os,h0 with
  |[o],_=>exact q [v] (DenL.one dn) rfl⟩
def QM:D->Option (List D)
 |.tup [a,b]=>some [a,b]
 |_=>none
def BV(O:CompOk X scope cl [x,y] M ix)(hc:X.calm=true)(C s₀ H₀ ex pn):TgB (jt X scope cl ([x,y]++M) [x,y] C s₀ H₀ ex pn) 2 (.Tuple [.Name x px,.Name y py] k tp) QM:=
 ⟨_,Ze (X:=jt X scope cl ([x,y]++M) [x,y] C s₀ H₀ ex pn) hc (Et (Ct (i:=0) O.nd rfl (.inl (oY (O.loc x dH))) (.inl (decide_eq_true dH)))
  (Et (Ct (i:=1) O.nd rfl (.inl (oY (O.loc y (dF _ dH)))) (.inl (decide_eq_true (dF _ dH)))) S3)),λ{G H os cs d v ds Q} h0 sg dn e q=>by
  unfold QM at e;split at e
  ·rename_i a b;cases e;obtain⟨l,vs,rfl,sq,dl⟩:=dn;obtain⟨v1,r1,rfl,d1,v2,r2,rfl,d2,e3⟩:=dl;cases e3
   match os,h0 with
   |[o1,o2],_=>exact⟨l,[v1,v2],rfl,SqT.of (sg _ _ sq),rfl,v1,_,rfl,v2,_,rfl,rfl,q [v1,v2] ⟨v1,_,rfl,d1,v2,_,rfl,d2,rfl⟩ rfl⟩
  ·cases e⟩
def C6(td:D->Option (List D))(cap:En)(t g:En->Res)(f:D->Option (Option D)):Prop:=∀d o,f d=some o->∃ds,td d=some ds/\
 ((t (ds.map Sl.pu++cap)=.ok (.bl true)/\∃y,g (ds.map Sl.pu++cap)=.ok y/\o=some y)\/(t (ds.map Sl.pu++cap)=.ok (.bl false)/\o=none))
def B5(ix:List Nat)(g:En->Res)(δ:En)(d:D):Option (Option D):=match QM d with
 |some ds=>(match g (ds.map Sl.pu++ix.map λi=>(δ[i]?).getD .no)with
  |.ok y=>some (some y)
  |_=>none)
 |none=>none
def PN:C6 QM (mr ix δ) (gC (.bl true)) g (B5 ix g δ):=λd o h=>by
 unfold B5 at h;split at h
 ·rename_i ds e;split at h
  ·rename_i y hg;cases h;exact⟨ds,e,.inl ⟨rfl,y,hg,rfl⟩⟩
  ·cases h
 ·cases h
def BP:C6 WT (mr ix δ) t g (B6 ix t g δ):=λd o h=>by
 refine⟨[d],rfl,?_⟩
 ·unfold B6 at h;have e:[d].map Sl.pu++mr ix δ=b8 ix δ (.pu d):=rfl;rw[e];split at h
  ·rename_i ht;split at h
   ·rename_i y hg;cases h;exact .inl ⟨ht,y,hg,rfl⟩
   ·cases h
  ·rename_i ht;cases h;exact .inr ⟨ht,rfl⟩
  ·cases h
def ResP.ok0{G H:Hp}{r:Res}{P:D->Prop}(d:D)(e:r=.ok d)(h:P d):ResP EF G H r P:=by rw[e];exact h
def CJ(Y:Cx)(a:Addr)(k:Nat)(U:St)(ix:List Nat)(fp:List Addr)(tn:Nat->Heap->Prop)(G H:Hp)(f:D->Option (Option D))(ds ys:List D)(n:Nat)(s1:dP):Prop:=
 ∃i os H1 G1 vs zs rest,os.length=k/\n=ds.length - i/\i<=ds.length/\Inv Y [] (ju U ix os) H1 s1/\tn i s1.heap/\(∀b∈fp,H1 b=none)/\
   H1 a=some (.lst vs)/\G1 a=none/\Ext G H G1 H1/\DenL (kx Y) G1 zs vs/\zs.length<=i/\k9 f (ds.drop i)=some rest/\ys=zs++rest
def T9{Y:Cx}{a:Addr}{k:Nat}{U:St}{δ:En}{G H:Hp}{s:dP}{it:Addr}{fp:List Addr}{tn:Nat->Heap->Prop}{J:It}{ds ys:List D}{f:D->Option (Option D)}{RR:Result->dP->Prop}{n:Nat}
  (TB:TgB Y k tg td)(TE:fq Y B EF elt g)(TT:(ifs=[]/\t=gC (.bl true))\/∃c,ifs=[c]/\Fu Y B EF c t)(hc:Y.calm=true)(hx:∀v s,Y.xe v s->False)(T:Turn Y.prog Y.w (kx Y) tg J fp it tn)(hfC:∀{H1:Hp},(∀b∈fp,H1 b=none)->∀b∈fp,B7 Y [] H1 b)
  (R:EnvR (kx Y) B G H U δ) (ixd:ix.Nodup) (qM:H a=none) (ok:B8 (kx Y) J ds (λG2 H2=>Ext G H G2 H2)) (hl:ds.length<=dN) (hF:C6 td (mr ix δ) t g f)
  (fin:∀s1 H1 G1 vs os,Inv Y [] (ju U ix os) H1 s1->H1 a=some (.lst vs)->G1 a=none->Ext G H G1 H1->DenL (kx Y) G1 ys vs->RR (.ok .next) s1)
  (j:CJ Y a k U ix fp tn G H f ds ys n s):lM (eJ Y.prog Y.w) Y.A (.compLoop (.ListComp elt [⟨tg,iter,ifs,0⟩] scope pos) 0 (.ref it) (.ref a) Y.env) RR s:=by
 have noE:∀{F:dG->dP->Prop}(v:dG)(s':dP),Y.xe v s'->F v s':=λv s' q=>(hx v s' q).elim;refine Ja (CJ Y a k U ix fp tn G H f ds ys) ?_ n j
 rintro n s1 ⟨i,os,H1,G1,vs,zs,rest,hos,rfl,hi,I1,st1,fr1,ha1,ga1,x1,dl1,zl,er,eys⟩
 obtain⟨okg,oks⟩:=ok i G1 H1 x1 x1.gh
 by_cases hlt:i<ds.length
 ·obtain⟨go,yl⟩:=okg ds[i] (eR hlt);rw[fN hlt]at er;unfold k9 at er;cases ef:f ds[i]with
  |none=>rw[ef]at er;cases er
  |some oy=>
  rw[ef]at er;dsimp only at er;cases er2:k9 f (ds.drop (i+1))with
  |none=>rw[er2]at er;cases er
  |some rest2=>
  rw[er2]at er;obtain rfl:oy.toList++rest2=rest:=eI er;refine fL (T.item Y rfl rfl rfl hc i [] s1 _ H1 _ I1 (hfC fr1) st1 go) (λrr s2 ⟨u,hr,h2⟩=>?_) noE;subst hr;refine fL h2 (λ_ s3 ⟨xv,H3,I3,r3,y3,st3,fr3⟩=>?_) noE;obtain⟨G3,e3,dn⟩:=yl xv H3 y3;have I3':=I3.pinned (hfC fr3) (T.obj _ _ st3);have x3:=x1.trans e3;have ha3:=e3.hh _ _ ha1;have ga3:=e3.fr _ _ ha1 ga1 rfl;obtain⟨dx,htd,hor⟩:=hF _ _ ef;obtain⟨gl,TO1,TO2⟩:=TB.ex;refine fL (TO1 _ s3 _ H3 xv u (λσ' H'=>H'=H3/\∃vx,DenL (kx Y) G3 dx vx/\vx.length=k/\σ'=ju U ix (vx.map some)) I3' r3 (TO2 hos e3.gh dn htd λvx dl hv=>⟨rfl,vx,dl,hv,rfl⟩)) (λ_ s4 ⟨σ4,H4,I4,e4,vx,dlx,hvx,e5⟩=>?_) noE;subst e4 e5;have R4:=Ol (R.ext x3) ixd dlx;have next:∀{s5:dP}{H5:Hp}{G5:Hp}{us:List V}{ws:List D},Inv Y ([]++Aw fp s3.heap) (ju U ix (vx.map some)) H5 s5->
    H5 a=some (.lst us)->G5 a=none->Ext G H G5 H5->DenL (kx Y) G5 ws us->ws=zs++oy.toList->∃m,m<ds.length - i/\CJ Y a k U ix fp tn G H f ds ys m s5:=λ{s5 H5 G5 us ws} I5 ha5 ga5 x5 dl5 ew=>by
   have pn:=λb hb ob e=>I5.pin (b,ob) (iE _ (iE _ (xy hb e)));refine⟨_,Nat.sub_succ_lt_self _ _ hlt,i+1,vx.map some,H5,G5,us,ws,rest2,(dD _).trans hvx,rfl,hlt,I5.unpinned,T.keep _ _ _ st3 λb hb ob e=>(pn b hb ob e).1,λb hb=>?_,ha5,ga5,x5,dl5,?_,er2,?_⟩
   ·obtain⟨ob,e,d⟩:=T.obj _ _ st3 b hb;exact(pn b hb ob e).2.1
   ·rw[ew,dU];exact Nat.add_le_add zl (by cases oy<;>simp)
   ·rw[ew,oD];exact eys
  have val:∀{s5:dP}{H5 G5:Hp},Inv Y ([]++Aw fp s3.heap) (ju U ix (vx.map some)) H5 s5->Ext G3 H4 G5 H5->∀y,g (dx.map Sl.pu++mr ix δ)=.ok y->oy=some y->∀{F:dG->dP->Prop},
    dX (eJ Y.prog Y.w) Y.A (eval elt Y.env) (λxx s₄=>dX (eJ Y.prog Y.w) Y.A (call (.builtin "list.append") [.ref a,xx]) (λ_ s₅=>∃m,m<ds.length - i/\CJ Y a k U ix fp tn G H f ds ys m s₅) F s₄) F s5:=λ{s5 H5 G5} I5 e5 y eg eo F=>by
    refine fL (TE _ s5 _ H5 (λv H6=>∃G6,Ext G5 H5 G6 H6/\Den (kx Y) G6 y v) I5 ⟨G5,_,R4.ext e5,ResP.ok0 y eg λv G6 H6 e6 d6=>⟨G6,e6,d6⟩⟩) (λxx s6 ⟨v6,H6,I6,r6,G6,e6,d6⟩=>?_) noE;have e56:=e5.trans e6;have ga6:=e56.fr _ _ ha3 ga3 rfl;refine fL (Hr _ s6 _ H6 (.ref a) [v6] (.ref a) [xx] (λ_ H7=>H7=upd H6 a (.lst (vs++[v6]))) I6 rfl (.cons r6 .nil) ⟨_,vs,v6,rfl,rfl,e56.hh _ _ ha3,?_,rfl⟩) (λ_ s7 ⟨_,H7,I7,_,e7⟩=>?_) noE
    ·rw[<-dl1.length];exact Nat.lt_of_le_of_lt zl (eW hlt hl)
    ·subst e7;exact next I7 bj ga6 ((x3.trans e56).wr ga6 qM) ((dl1.mono (e3.gg.trans e56.gg)).append (DenL.one d6)) (by rw[eo];rfl)
  rcases TT with ⟨rfl,rfl⟩|⟨c,rfl,ht⟩
  ·refine wpAny_tests_nil ?_;rcases hor with ⟨_,y,eg,eo⟩|⟨hb,_⟩
   ·exact val I4 (Ext.refl R4.gh) y eg eo
   ·cases hb
  ·refine wpAny_tests_one ?_;rcases hor with ⟨et,y,eg,eo⟩|⟨et,eo⟩
   ·refine fL (ht _ s4 _ H4 (λb H6=>b=true/\∃G6,Ext G3 H4 G6 H6) I4 ⟨G3,_,R4,ResP.ok0 (.bl true) et ⟨true,rfl,λG6 H6 e6=>⟨rfl,G6,e6⟩⟩⟩) (λb s6 ⟨H6,I6,eb,G6,e6⟩=>?_) noE;subst eb;exact val I6 e6 y eg eo
   ·refine fL (ht _ s4 _ H4 (λb H6=>b=false/\∃G6,Ext G3 H4 G6 H6) I4 ⟨G3,_,R4,ResP.ok0 (.bl false) et ⟨false,rfl,λG6 H6 e6=>⟨rfl,G6,e6⟩⟩⟩) (λb s6 ⟨H6,I6,eb,G6,e6⟩=>?_) noE;subst eb;exact next I6 (e6.hh _ _ ha3) (e6.fr _ _ ha3 ga3 rfl) (x3.trans e6) (dl1.mono (e3.gg.trans e6.gg)) (by rw[eo];exact(gZ _).symm)
 ·obtain rfl:i=ds.length:=Nat.le_antisymm hi (oR hlt);rw[List.drop_length]at er;obtain rfl:[]=rest:=eI er;rw[gZ]at eys;subst eys;refine fL (T.done Y rfl rfl rfl hc _ [] s1 _ H1 _ I1 (hfC fr1) st1 (oks (dR _))) (λrr s2 ⟨hr,I2⟩=>?_) noE;subst hr;exact fin s2 H1 G1 vs os I2 ha1 ga1 x1 dl1
def K4(O:CompOk X scope cl xs M ix)(hc:X.calm=true)(Bk:BlockOk X B E scope cl xs M tg td elt ifs t g){pins:List (Addr×Obj)}{U:St}{δ:En}{G H:Hp}{s:dP}{it:Addr}{fp:List Addr}{tn:Nat->Heap->Prop}{J:It}{ds ys:List D}{f:D->Option (Option D)}
  (I:Inv X pins U H s)(T:Turn X.prog X.w (kx X) tg J fp it tn)(st:tn 0 s.heap)(hf:∀b∈fp,B7 X pins H b)(R:EnvR (kx X) B G H U δ)(ok:B8 (kx X) J ds (λG2 H2=>Ext G H G2 H2))(hl:ds.length<=dN)(hF:C6 td (mr ix δ) t g f)(ey:k9 f ds=some ys)
  {RR:dG->Addr->Result->dP->Prop}
  (fin:∀s1 H1 G1 vs m,Inv X pins U H1 s1->s1.heap.Ns (s.heap.objs.size+1) m->H1 (s.heap.objs.size+1)=none->Ext G H G1 H1->G1 s.heap.objs.size=none->H1 s.heap.objs.size=some (.lst vs)->DenL (kx X) G1 ys vs->RR (.ref s.heap.objs.size) (s.heap.objs.size+1) (.ok .next) s1):
  dX (eJ X.prog X.w) X.A (newList []) (λacc s₃=>dX (eJ X.prog X.w) X.A (newFunctionEnv scope X.env.globals cl [] X.env.qual none .none (some X.env)) (λcenv s₄=>
   lM (eJ X.prog X.w) X.A (.compStart (.ListComp elt [⟨tg,iter,ifs,0⟩] scope pos) 0 (.ref it) acc {cenv with scope:=pP scope X.env}) (RR acc cenv.locals) s₄) X.xe s₃) X.xe s:=by
 have hfs:∀b∈fp,b<s.heap.objs.size:=λb hb=>by
  obtain⟨o,e,_⟩:=T.obj 0 _ st b hb;exact dY e
 refine fO (wpAny_newFunctionEnv O.ncell (by intro y hy;simp at hy) (λh₂ hns₂ hsb₂=>?_) O.kind);dsimp only at hns₂ hsb₂⊢;generalize hH2:s.heap.push {cls:=.type "list",dict:=none,data:=.seq ([]:List dG).toArray}=h₁ at hns₂ hsb₂⊢;have hz:h₁.objs.size=s.heap.objs.size+1:=by rw[<-hH2,iR]
 rw[hz]at hns₂ hsb₂⊢;have hk:∀b o,s.heap.get? b=some o->h₁.get? b=some o:=λb o e=>by rw[<-hH2];exact dE _ e
 have hk2:∀b o,h₁.get? b=some o->h₂.get? b=some o:=λb o e=>by
  have:b<s.heap.objs.size+1:=by rw[<-hz];exact dY e
  exact hsb₂.extBut b o (eM this) (dE _ e)
 have ha:h₁.get? s.heap.objs.size=some {cls:=.type "list",data:=.seq #[] 0}:=by rw[<-hH2];exact eD _ rfl
 have I0:=W4 (tk:=s.toks) (tk2:=s.toks+([]:List (Str×dG)).length) O I hf hfs hk hz ha hk2 hns₂;have qM:H s.heap.objs.size=none:=I.hok.fresh (dR _);have e0:Ext G H G (upd H s.heap.objs.size (.lst [])):=Ext.own R.gh _ qM;have g0:G s.heap.objs.size=none:=de R.gh qM;have hfC:∀{H1:Hp},(∀b∈fp,H1 b=none)->∀b∈fp,B7 (jt X scope cl (xs++M) xs (s.heap.objs.size+1) {s with heap:=h₁,toks:=s.toks} (upd H s.heap.objs.size (.lst [])) fp (X.pn++pins)) [] H1 b:=λ{H1} hn b hb=>by
  obtain⟨f0,f1,f2,f3,f4,f5⟩:=hf b hb;refine⟨hn b hb,?_,?_,.inl hb,λy c e=>f4 y c (O.cells e),λp hp=>f5 p (by simpa[jt]using hp)⟩
  ·exact vn (hfs b hb)
  ·intro hfb;rcases List.mem_cons.mp (I.stkSub b hfb)with e|e
   ·exact f1 e
   ·exact f2 e
 have loop:lM (eJ X.prog X.w) X.A (.compLoop (.ListComp elt [⟨tg,iter,ifs,0⟩] scope pos) 0 (.ref it) (.ref s.heap.objs.size) (compEnvC scope cl (s.heap.objs.size+1) X.env)) (RR (.ref s.heap.objs.size) (s.heap.objs.size+1))
   {s with heap:=h₂,toks:=s.toks+([]:List (Str×dG)).length}:=
  T9 (Y:=jt X scope cl (xs++M) xs (s.heap.objs.size+1) {s with heap:=h₁,toks:=s.toks} (upd H s.heap.objs.size (.lst [])) fp (X.pn++pins)) (Bk.tgt _ _ _ _ _) (Bk.elt _ _ _ _ _) (Bk.test.imp_right λ⟨c,e,h⟩=>⟨c,e,h _ _ _ _ _⟩) hc (λ_ _ q=>q) T hfC R O.ixd qM ok hl hF
   (λs2 H1 G1 vs os I2 ha1 ga1 x1 dl1=>by
    obtain⟨m2,hm2,_⟩:=I2.loc;have u1:Un (F7 X.stack) fp H (upd H s.heap.objs.size (.lst [])) s.heap h₁:=Un.laid hk (dR _) qM;have u2:Un (F7 X.stack) fp (upd H s.heap.objs.size (.lst [])) H1 h₁ s2.heap:=I2.base;exact fin s2 H1 G1 vs m2 (I.call' I2.os (u1.trans u2) I2.hok I2.bare λb hb=>by
     obtain⟨f0,f1,f2,f3,f4,f5⟩:=hf b hb;exact⟨f3,f1,f4,f5⟩) hm2 I2.free x1 ga1 ha1 dl1)
   ⟨0,eA xs.length none,_,G,[],[],ys,gR,rfl,fZ _,I0,T.keep 0 _ _ st (λb _ o e=>hk2 b o (hk b o e)),λb hb=>by rw[a6 (eM (hfs b hb))];exact(hf b hb).1,bj,g0,e0,rfl,dR _,ey,rfl⟩
 exact codeAny_compStart_list loop (T.self _ 0 _ _ _ (T.keep 0 _ _ st (λb _ o e=>hk2 b o (hk b o e))) loop)
def FU(O:CompOk X scope cl xs M ix)(hc:X.calm=true)(Bk:BlockOk X B E scope cl xs M tg td elt ifs t g)(hF:∀δ,C6 td (mr ix δ) t g (f δ))(hi:Tw X B E tg iter r)
  (hs:∀x,kQ iter X.env x=pure x:=by intro _;rfl):CY X B E (.ListComp elt [⟨tg,iter,ifs,0⟩] scope pos) (m5 r f):=by
 intro pins s U H Q I q;rw[eval_ListComp];obtain⟨G,δ,R,q⟩:=q;refine wpAny_comprehension_free (use:=none) rfl hs (wj O.clos) O.kind O.names ?_;refine fL (hi pins s U H (λJ H1=>∃G1 ds ys,Ext G H G1 H1/\B8 (kx X) J ds (λG2 H2=>Ext G1 H1 G2 H2)/\ds.length<=dN/\k9 (f δ) ds=some ys/\
  ∀a vs G' H',Ext G H G' H'->H a=none->G' a=none->H' a=some (.lst vs)->DenL (kx X) G' ys vs->Q (.ref a) H') I
  ⟨G,δ,R,(IE q).mono λds _ ⟨hl,ys,ey,ds',ed,q⟩ J G1 H1 e1 ok=>⟨G1,ds,ys,e1,ok,hl,ey,by cases ed;exact q⟩⟩) (λv s1 h1=>fL h1 (λitv s2 h2=>?_) λ_ _ e=>e) λ_ _ e=>e
 obtain⟨it,fp,tn,J,H1,rfl,I1,T,st,hf,G1,ds,ys,e1,ok,hl,ey,q⟩:=h2;refine K4 (RR:=λacc C=>compPost (eJ X.prog X.w) X.A X.xe none (EP X pins U Q) acc C) O hc Bk I1 T st hf (R.ext e1) ok hl (hF δ) ey ?_;intro s3 H3 G3 vs m I3 hm hC e3 g3 h3 dl;refine⟨m,hm,λh' hs'=>⟨.ref s2.heap.objs.size,H3,?_,rfl,q _ vs G3 H3 (e1.trans e3) (de e1.hh (I1.hok.fresh (dR _))) g3 h3 dl⟩⟩;have hsz:s2.heap.objs.size<=s2.heap.objs.size+1:=oX _;refine I3.turned (t':=s3.toks) (it:=s2.heap.objs.size+1) (λb o hb e=>hs'.extBut b o hb e) hC ?_ (.inr (fF I1.sz hsz)) ?_ ?_
 ·exact λz=>absurd (eW I1.lt (fF hsz (lQ z))) (fR _)
 ·intro y c hc' z;obtain⟨v',q'⟩:=I1.cell y c hc';exact absurd (eW q'.lt (fF hsz (lQ z.symm))) (fR _)
 ·intro p hp z;exact absurd (eW (dY (I1.pin p hp).1) (fF hsz (lQ z.symm))) (fR _)
end
section
variable{K:KA}
def DG(h:IX d=some t):mH K (.type t) (.type "int")=some (BA t "int"):=by cases d<;>cases h<;>rfl
def Yc(h:IX d=some t):mH K (.type t) (.type "bool")=some (BA t "bool"):=by cases d<;>cases h<;>rfl
def DF(h:IX d=some t):mH K (.type t) (.type "str")=some (BA t "str"):=by cases d<;>cases h<;>rfl
def Yd(h:IX d=some t):mH K (.type t) (.type "list")=some (BA t "list"):=by cases d<;>cases h<;>rfl
def Uz(h:IX d=some t):mH K (.type t) (.type "tuple")=some (BA t "tuple"):=by cases d<;>cases h<;>rfl
end
section
variable{X:Cx}{B:Hp}{E:EK}{e a b:Expr}{es:List Expr}{g h:En->Res}{pos:Pos}
def RZ(K:KA)(c:String):Prop:=∀{d:D}{t:String},IX d=some t->mH K (.type t) (.type c)=some (BA t c)
def ZI(K:KA)(c:String):List V->Hp->VK->Prop:=λxs H Q=>∃G d x t,xs=[x,.ty c]/\Same G H/\Arg K G H d x/\IX d=some t/\Q (.bl (BA t c)) H
def Wx(hk:RZ (kx X) c):CallR X (.builtin "isinstance") (ZI (kx X) c):=by
 intro pins s U H xs us Q I r q;obtain⟨G,d,x,t,rfl,sg,ax,et,q⟩:=q;obtain⟨u,u2,rfl,ru,ru2⟩:=BI r;cases ru2;have e:=hk et;have fin:∀tk,EP X pins U Q (.bool (BA t c)) {s with toks:=tk}:=λtk=>⟨.bl (BA t c),H,I.tok tk,rfl,q⟩;cases d with
 |non=>
  cases et;rw[ax.non]at ru;cases ru;exact jN PySem.W.kitx_none I.kIn jM e (λz=>nomatch z) fin
 |bl y=>
  cases et;rw[ax.bl]at ru;cases ru;exact jN PySem.W.kitx_bool I.kIn jM e (λz=>nomatch z) fin
 |int i=>
  cases et;rw[ax.int]at ru;obtain⟨t,rfl⟩:=ru;exact jN PySem.W.kitx_int I.kIn jM e (λz=>nomatch z) fin
 |str y=>
  cases et;rw[ax.str]at ru;obtain⟨t,rfl⟩:=ru;exact jN PySem.W.kitx_str I.kIn jM e (λz=>nomatch z) fin
 |tup ds=>
  cases et;obtain⟨l,vs,rfl,sq,dl⟩:=ax.tup sg;cases ru;obtain⟨its,rv,⟨o,ho,hc,n,hd⟩,_⟩:=I.tuple sq;exact jN PySem.W.kitx_tuple I.kIn ⟨o,ho,hc⟩ e (λz=>nomatch z) fin
 |lst ds=>
  cases et;obtain⟨l,vs,rfl,sq,dl⟩:=ax.lst sg;cases ru;obtain⟨its,rv,pl,_⟩:=I.list sq;obtain⟨o,ho,hc,_⟩:=pl.isList;exact jN PySem.W.kitx_list I.kIn ⟨o,ho,hc⟩ e (λz=>nomatch z) fin
 |dct tt kvs=>
  cases et;have key:∃a,x=.ref a/\((∃es,H a=some (.dK es))\/∃es,H a=some (.dT es)):=by
   rcases ax with ⟨a,h1,h2⟩|⟨_,_,_,z,_⟩|⟨t',kvs',a,z,h1,h2⟩
   ·exact⟨a,h1,h2.elim (λ⟨_,es,q,_⟩=>.inl ⟨es,sg _ _ q⟩) λ⟨_,es,q,_⟩=>.inr ⟨es,sg _ _ q⟩⟩
   ·cases z
   ·exact⟨a,h1,h2.elim (λ⟨_,es,q,_⟩=>.inl ⟨es,q⟩) λ⟨_,es,q,_⟩=>.inr ⟨es,q⟩⟩
  obtain⟨a,rfl,h2⟩:=key;cases ru;rcases h2 with ⟨es,ea⟩|⟨es,ea⟩
  ·obtain⟨_,_,vs,_,p⟩:=(show ObjOk X.prog X.w H s.heap a (.dK es)from I.hok a _ ea);obtain⟨o,es',ep,h1,h2,_⟩:=p;exact jN PySem.W.kitx_dict I.kIn ⟨o,h1,h2.1⟩ e (λz=>nomatch z) fin
  ·obtain⟨_,_,xs,_,o,es',ep,h1,h2,_⟩:=(show ObjOk X.prog X.w H s.heap a (.dT es)from I.hok a _ ea);exact jN PySem.W.kitx_dict I.kIn ⟨o,h1,h2.1⟩ e (λz=>nomatch z) fin
 |obj _ _=>cases et
 |fn _=>cases et
def Ez(hk:RZ (kx X) c)(hg:Gl X "isinstance")(hm:X.mg "isinstance"=none)(hg2:Gl X x)(hm2:X.mg x=none)(hv2:jR x=some (.type c))(ha:jc X B E e g)
  (hn2:x≠"__name__":=by decide)(hd2:(x==("__debug__":Str))=false:=by decide)
  (he:eE [e,.Name x p2] X.env=(false,eval e X.env)::eE [.Name x p2] X.env:=by rfl) (he2:eE [.Name x p2] X.env=(false,eval (.Name x p2) X.env)::eE [] X.env:=by rfl) (hpl:(iY pos (eE [.Name x p2] X.env)).any (·.1)=false:=by rfl):
  fq X B E (.Call (.Name "isinstance" p) [e,.Name x p2] [] pos) (g1 (bb c) g):=
 PE.imp (nj (Wx hk) hg hm boot_isinstance (vo ha (vo (FR (v:=.ty c) hg2 hm2 hv2 rfl hn2 hd2) J3 he2) he) (by decide) (by decide) he hpl) λU H Q ⟨G,δ,R,q⟩=>⟨G,δ,R,(ResP.bind q).mono λdx _ qx x G1 H1 e1 ax=>by
  obtain⟨d,ed,qd⟩:=ResP.of qx;unfold bb at ed;cases et:IX dx with
  |none=>rw[et]at ed;cases ed
  |some t=>
   rw[et]at ed;cases ed;exact⟨G1,dx,x,t,rfl,e1.gh,ax,et,qd _ G1 H1 e1 rfl⟩⟩
noncomputable def Bx(d:D):D->Option Bool
 |.lst xs=>match cn xs,cg d with
  |some ps,some q=>if dO ps && eX q then some (ps.any λy=>eL y q)else none
  |_,_=>none
 |.tup xs=>match cn xs,cg d with
  |some ps,some q=>if dO ps && eX q then some (ps.any λy=>eL y q)else none
  |_,_=>none
 |.str z=>match d with
  |.str x=>some (!(nO z x 0 z.length 1).isEmpty)
  |_=>none
 |_=>none
def Ga(d e:D):Option D:=(Bx d e).map .bl
def ja(d e:D):Option D:=(Bx d e).map λb=>.bl !b
def Cn{b:Bool}(h:(match cn xs,cg d with
  |some ps,some q=>if dO ps && eX q then some (ps.any λy=>eL y q)else none
  |_,_=>none)=some b):∃ps q,cn xs=some ps/\cg d=some q/\dO ps=true/\eX q=true/\b=ps.any λy=>eL y q:=by
 cases e1:cn xs with
 |none=>rw[e1]at h;cases h
 |some ps=>
  cases e2:cg d with
  |none=>rw[e1,e2]at h;cases h
  |some q=>
   rw[e1,e2]at h;dsimp only at h
   by_cases hs:(dO ps && eX q)=true
   ·rw[dJ hs]at h;cases h;rw[dQ]at hs;exact⟨ps,q,rfl,rfl,hs.1,hs.2,rfl⟩
   ·rw[dM hs]at h;cases h
def Vp(K:KA)(neg:Bool):R2:=λx y H Q=>∃G dx dy b,Same G H/\Arg K G H dx x/\Arg K G H dy y/\Bx dx dy=some b/\Q (.bl (if neg then !b else b)) H
def MU(hu:X.A.units+65<gQ):OpR X (fH .In) (Vp (kx X) false):=by
 intro pins s U H x y v u Q I rx ry q;obtain⟨G,dx,dy,b,sg,ax,ay,eb,q⟩:=q;cases dy with
 |lst xs=>
  obtain⟨ps,p,e1,e2,s1,s2,rfl⟩:=Cn eb;obtain⟨as,ra⟩:=cq I sg ax rx e2;obtain⟨bs,rb⟩:=cq (p:=.list ps) I sg ay ry (by unfold cg;rw[e1]);exact SeqAt.in_list_reads rb ra s1 (jU s2) (oE s2 hu) ⟨.bl _,H,I,rfl,q⟩
 |tup xs=>
  obtain⟨ps,p,e1,e2,s1,s2,rfl⟩:=Cn eb;obtain⟨as,ra⟩:=cq I sg ax rx e2;obtain⟨bs,rb⟩:=cq (p:=.tuple ps) I sg ay ry (by unfold cg;rw[e1]);exact SeqAt.in_tuple_reads rb ra s1 (jU s2) (oE s2 hu) ⟨.bl _,H,I,rfl,q⟩
 |str z=>
  cases dx with
  |str w=>
   cases eb;rw[ax.str]at rx;rw[ay.str]at ry;exact Va pins s U H _ _ _ _ Q I rx ry ⟨_,_,rfl,rfl,q⟩
  |_=>cases eb
 |_=>cases eb
def Vb(hu:X.A.units+65<gQ):OpR X (fH .NotIn) (Vp (kx X) true):=by
 intro pins s U H x y v u Q I rx ry q;obtain⟨G,dx,dy,b,sg,ax,ay,eb,q⟩:=q;cases dy with
 |lst xs=>
  obtain⟨ps,p,e1,e2,s1,s2,rfl⟩:=Cn eb;obtain⟨as,ra⟩:=cq I sg ax rx e2;obtain⟨bs,rb⟩:=cq (p:=.list ps) I sg ay ry (by unfold cg;rw[e1]);exact SeqAt.notIn_list_reads rb ra s1 (jU s2) (oE s2 hu) ⟨.bl _,H,I,rfl,q⟩
 |tup xs=>
  obtain⟨ps,p,e1,e2,s1,s2,rfl⟩:=Cn eb;obtain⟨as,ra⟩:=cq I sg ax rx e2;obtain⟨bs,rb⟩:=cq (p:=.tuple ps) I sg ay ry (by unfold cg;rw[e1]);exact SeqAt.notIn_tuple_reads rb ra s1 (jU s2) (oE s2 hu) ⟨.bl _,H,I,rfl,q⟩
 |str z=>
  cases dx with
  |str w=>
   cases eb;rw[ax.str]at rx;rw[ay.str]at ry;exact J1 pins s U H _ _ _ _ Q I rx ry ⟨_,_,rfl,rfl,q⟩
  |_=>cases eb
 |_=>cases eb
def FD:g9 (kx X) Ga (Vp (kx X) false):=λG H x y dx dy d sg ax ay ed Q q=>by
 unfold Ga at ed;cases e:Bx dx dy with
 |none=>rw[e]at ed;cases ed
 |some b=>rw[e]at ed;cases ed;exact⟨G,dx,dy,b,sg,ax,ay,e,q _ G H (Ext.refl sg) rfl⟩
def P4:g9 (kx X) ja (Vp (kx X) true):=λG H x y dx dy d sg ax ay ed Q q=>by
 unfold ja at ed;cases e:Bx dx dy with
 |none=>rw[e]at ed;cases ed
 |some b=>rw[e]at ed;cases ed;exact⟨G,dx,dy,b,sg,ax,ay,e,q _ G H (Ext.refl sg) rfl⟩
def c9:D->Option D
 |.lst ds=>some (.tup ds)
 |.tup ds=>some (.tup ds)
 |_=>none
def M9:D->Option D
 |.int i=>some (.int i)
 |.bl b=>some (.int (if b then 1 else 0))
 |_=>none
def Zz(hg:Gl X "tuple")(hm:X.mg "tuple"=none)(ha:jc X B E e g)(he:eE [e] X.env=(false,eval e X.env)::eE [] X.env:=by rfl)(hpl:(iY pos (eE [] X.env)).any (·.1)=false:=by rfl):fq X B E (.Call (.Name "tuple" p) [e] [] pos) (g1 c9 g):=
 PE.imp (ml Fx hg hm PyProof.Rows.boot_tuple (fe ha ik he) (by decide) (by decide) he hpl) λU H Q q=>KD (λG H x dx d sg ax ed Q q=>by
  unfold c9 at ed;split at ed
  ·cases ed;obtain⟨l,vs,rfl,sq,dl⟩:=ax.lst sg;exact⟨l,vs,rfl,.inl ⟨sq,λp hp=>q _ (upd G p (.tup vs)) _ (Ext.new sg _ hp) (qi sg hp dl)⟩⟩
  ·cases ed;have ax':=ax;obtain⟨l,vs,rfl,sq,dl⟩:=ax.tup sg;rcases ax' with ad|⟨_,_,_,z,_⟩|⟨_,_,_,z,_⟩
   ·exact⟨l,vs,rfl,.inr ⟨sq,q _ G H (Ext.refl sg) ad⟩⟩
   ·cases z
   ·cases z
  ·cases ed) q
def GO(hg:Gl X "int")(hm:X.mg "int"=none)(ha:jc X B E e g)(he:eE [e] X.env=(false,eval e X.env)::eE [] X.env:=by rfl)(hpl:(iY pos (eE [] X.env)).any (·.1)=false:=by rfl):fq X B E (.Call (.Name "int" p) [e] [] pos) (g1 M9 g):=
 PE.imp (ml T3 hg hm PyProof.Rows.boot_int (fe ha ik he) (by decide) (by decide) he hpl) λU H Q q=>KD (λG H x dx d sg ax ed Q q=>by
  unfold M9 at ed;split at ed
  ·cases ed;rw[ax.int];exact .inl ⟨_,rfl,q _ G H (Ext.refl sg) rfl⟩
  ·cases ed;rw[ax.bl];exact .inr ⟨_,rfl,q _ G H (Ext.refl sg) rfl⟩
  ·cases ed) q
end
section
variable{X:Cx}{G0 B:Hp}{E:EK}{e a b:Expr}{es:List Expr}{g h:En->Res}{pos:Pos}
noncomputable def qu(i:Nat)(g:En->Res):En->Out:=λδ=>match δ[i]? with
 |some (.ow ds)=>(g δ).then λd=>if ds.length<dN then .nx (δ.set i (.ow (ds++[d])))else .st
 |_=>.st
def EnvR.owAt{K:KA}{G H:Hp}{U:St}{δ:En}{i:Nat}{ds:List D}(R:EnvR K B G H U δ)(h:δ[i]?=some (.ow ds)):∃a vs,U[i]?=some (some (V.ref a))/\H a=some (.lst vs)/\DenL K G ds vs/\G a=none/\B a=none:=by
 obtain⟨o,q1,a,vs,q2,q3,q4⟩:=R.sl i _ h;subst q2;obtain⟨g,b⟩:=R.own i _ a h rfl q1;exact⟨a,vs,q1,q3,q4,g,b⟩
def AU{i:Nat}{x:Str}{p apos cpos:Pos}(hv:PE X (.Name x p) (Gc i))(ha:fq X B E e g)
  (hbase:lT (.Name x p) "append" X.env (eval (.Name x p) X.env)=eval (.Name x p) X.env:=by rfl)
  (hfew:((iY cpos (eE [e] X.env)).all (λx=> !x.1) && (rA cpos (nR [] X.env)).all (λx=>x.1.isSome)
   && decide (([e]:List Expr).length+([]:List lP).length+(if([]:List lP).isEmpty then 0 else 1)<30))=true:=by rfl)
  (hline:(apos.endLine==cpos.line)=true:=by rfl) (hs:eE [e] X.env=(false,eval e X.env)::eE [] X.env:=by rfl) (hplain:(iY cpos (eE [] X.env)).any (·.1)=false:=by rfl)
  (hsw:kB (.Call (.Attribute (.Name x p) "append" apos) [e] [] cpos) none pos.line X.env=pure false:=by rfl):
  su X G0 B E (.Expr (.Call (.Attribute (.Name x p) "append" apos) [e] [] cpos) pos) (qu i g):=
 PS.imp (Cu (Y7 nT PySem.F.slot_list_append PySem.F.type_list_append Hr hv (Da ha ik hs) hbase hfew hline hs hplain) hsw) λD U H ⟨G,δ,R,ex,q⟩=>by
  unfold qu at q;cases ed:δ[i]? with
  |none=>rw[ed]at q;exact q.elim
  |some sl=>
   rw[ed]at q;cases sl with
   |ow ds=>
    dsimp only at q;obtain⟨l,vs,q1,q2,q3,q4,q5⟩:=R.owAt ed;refine⟨.ref l,q1,.inl ⟨rfl,vs,SqL.of q2⟩,G,δ,R,?_⟩;have q':=rg ex q;unfold af;cases eg:g δ with
    |er c=>rw[eg]at q';exact q'
    |st=>rw[eg]at q';exact q'
    |ok d=>
     rw[eg]at q';have q':OutP (kx X) G0 B E G (if ds.length<dN then .nx (δ.set i (.ow (ds++[d])))else .st) D:=q'
     by_cases hl:ds.length<dN
     ·rw[dJ hl]at q';intro ws G1 H1 e1 al;obtain⟨d',dr,v,vr,z1,z2,dv,z3,z4⟩:=al;cases z1;subst z2 z4;have h1:=e1.hh _ _ q2;have g1:=e1.fr _ _ q2 q4 rfl;refine⟨l,vs,v,rfl,rfl,h1,by rw[<-q3.length];exact hl,?_⟩;exact q' U G1 _ e1.gg (EnvR.wr (R.ext e1) ed q1 h1 ((q3.mono e1.gg).append (DenL.one dv))) (Ext.wr (ex.trans e1) g1 q5)
     ·rw[dM hl]at q';exact q'.elim
   |no=>exact q.elim
   |pu _=>exact q.elim
   |bo _=>exact q.elim
   |od _ _=>exact q.elim
def Ln(T:String)(hT:T="list"\/T="tuple")(l:Addr)(items:Array dG)(n:Nat)(b:Addr)(items2:Array dG)(n2:Nat)(dd2:Option Addr)(sl2:Array (Option dG))(hs0:¬(!items.isEmpty && lB (items.size+items2.size))=true)(hs1:items.size<=dN)(hs2:items.size+items2.size<=dN+1):
  Meets (Builtin.«list.extend» ⟨[.ref l,.ref b],[]⟩) (λ_ R s=>s.heap.get? l=some {cls:=.type "list",dict:=none,data:=.seq items n,slots:=#[]}/\s.heap.get? b=some {cls:=.type T,dict:=dd2,data:=.seq items2 n2,slots:=sl2}/\R (.ok (.ret fC)) {s with heap:=s.heap.update l (rO λx=>x++items2),toks:=s.toks}):=
 .of_wp λprog w A R s h=>by
  obtain⟨hp,g,d,tk,os⟩:=s;obtain⟨hl,hb,h⟩:=h;have f1:=AutoSeq1.idx_int;have f2:=nC;have f3:=AutoSeq1.sub_list_list;have f4:=AutoSeq1.sub_tuple_list;have f5:=AutoSeq1.sub_list_tuple;have hz':(items++items2).size<=dN+1:=by rw[Array.size_append];exact hs2
  rcases hT with rfl|rfl
  ·wp_walk using(nI hl rfl (hz:=hs1) (_hz':=hz')),lC hl,lC hb;exact⟨_,rfl,h⟩
  ·wp_walk using(nI hl rfl (hz:=hs1) (_hz':=hz')),lC hl,lC hb;exact⟨_,rfl,h⟩
def UV(K:KA):V->List V->Hp->VK->Prop:=λx vs H Q=>∃l b xs zs,x=.ref l/\vs=[.ref b]/\H l=some (.lst xs)/\(SqL K H b zs\/SqT K H b zs)/\xs.length+zs.length<=dN/\Q .non (upd H l (.lst (xs++zs)))
def ET:aH X "list.extend" (UV (kx X)):=by
 intro pins s U H x vs v us Q I rx rv h;obtain⟨l,b,xs,zs,rfl,rfl,hH,hB,hz,q⟩:=h;cases rx;obtain⟨u,rfl,ru⟩:=rv.one;cases ru;obtain⟨z,its,n,r,hl,e⟩:=I.lstM hH;have key:∃T its2 n2 dd2 sl2,(T="list"\/T="tuple")/\Vals zs its2/\s.heap.get? b=some {cls:=.type T,dict:=dd2,data:=.seq its2.toArray n2,slots:=sl2}:=by
  rcases hB with hB|hB
  ·obtain⟨its2,r2,pl,_⟩:=I.list hB;obtain⟨⟨cls,dd,data,sl⟩,n2,ho,c,d,q⟩:=pl;simp only at c d q;subst c d q;exact⟨_,its2,n2,_,sl,.inl rfl,r2,ho⟩
  ·obtain⟨its2,r2,pl,_⟩:=I.tuple hB;obtain⟨⟨cls,dd,data,sl⟩,ho,c,n2,q⟩:=pl;simp only at c q;subst c q;exact⟨_,its2,n2,_,sl,.inr rfl,r2,ho⟩
 obtain⟨T,its2,n2,dd2,sl2,hT,r2,e2⟩:=key;have hl2:=r2.length;have hsz:its.toArray.size+its2.toArray.size<=dN:=by rw[eF,eF];lia
 have hlong:¬(!its.toArray.isEmpty && lB (its.toArray.size+its2.toArray.size))=true:=by
  rw[Ys hsz,mI];exact Bool.false_ne_true
 refine call_meets F.slot_list_extend ⟨_,e,rfl⟩ F.entry_list_extend (F.args_list_extend_2 _ _)
  (Ln T hT l its.toArray n b its2.toArray n2 dd2 sl2 hlong (by rw[eF];lia) (by lia)) ⟨e,e2,?_⟩
 refine⟨.non,_,I.lset (its':=its++its2) hH e (by simp) (r.append r2) ?_,rfl,q⟩;rw[dU]
 lia
noncomputable def zb(i:Nat)(g:En->Res):En->Out:=λδ=>match δ[i]? with
 |some (.ow ds)=>(g δ).then λd=>match xo d with
  |some es=>if ds.length+es.length<=dN then .nx (δ.set i (.ow (ds++es)))else .st
  |none=>.st
 |_=>.st
def AS{i:Nat}{x:Str}{p apos cpos:Pos}(hv:PE X (.Name x p) (Gc i))(ha:jc X B E e g)
  (hbase:lT (.Name x p) "extend" X.env (eval (.Name x p) X.env)=eval (.Name x p) X.env:=by rfl)
  (hfew:((iY cpos (eE [e] X.env)).all (λx=> !x.1) && (rA cpos (nR [] X.env)).all (λx=>x.1.isSome)
   && decide (([e]:List Expr).length+([]:List lP).length+(if([]:List lP).isEmpty then 0 else 1)<30))=true:=by rfl)
  (hline:(apos.endLine==cpos.line)=true:=by rfl) (hs:eE [e] X.env=(false,eval e X.env)::eE [] X.env:=by rfl) (hplain:(iY cpos (eE [] X.env)).any (·.1)=false:=by rfl)
  (hsw:kB (.Call (.Attribute (.Name x p) "extend" apos) [e] [] cpos) none pos.line X.env=pure false:=by rfl):
  su X G0 B E (.Expr (.Call (.Attribute (.Name x p) "extend" apos) [e] [] cpos) pos) (zb i g):=
 PS.imp (Cu (Y7 nT PySem.F.slot_list_extend PySem.F.type_list_extend ET hv (fe ha ik hs) hbase hfew hline hs hplain) hsw) λD U H ⟨G,δ,R,ex,q⟩=>by
  unfold zb at q;cases ed:δ[i]? with
  |none=>rw[ed]at q;exact q.elim
  |some sl=>
   rw[ed]at q;cases sl with
   |ow ds=>
    dsimp only at q;obtain⟨l,vs,q1,q2,q3,q4,q5⟩:=R.owAt ed;refine⟨.ref l,q1,.inl ⟨rfl,vs,SqL.of q2⟩,G,δ,R,?_⟩;have q':=rg ex q;unfold af;cases eg:g δ with
    |er c=>rw[eg]at q';exact q'
    |st=>rw[eg]at q';exact q'
    |ok d=>
     rw[eg]at q';cases ei:xo d with
     |none=>
      have q':OutP (kx X) G0 B E G (match xo d with
       |some es=>if ds.length+es.length<=dN then .nx (δ.set i (.ow (ds++es)))else .st
       |none=>.st) D:=q'
      rw[ei]at q';exact q'.elim
     |some es=>
      have q':OutP (kx X) G0 B E G (match xo d with
       |some es=>if ds.length+es.length<=dN then .nx (δ.set i (.ow (ds++es)))else .st
       |none=>.st) D:=q'
      rw[ei]at q';dsimp only at q'
      by_cases hl:ds.length+es.length<=dN
      ·rw[dJ hl]at q';intro ws G1 H1 e1 al;obtain⟨v,rfl,av⟩:=ArgsM.one al;have h1:=e1.hh _ _ q2;have g1:=e1.fr _ _ q2 q4 rfl;have key:∃b zs,v=.ref b/\(SqL (kx X) H1 b zs\/SqT (kx X) H1 b zs)/\DenL (kx X) G1 es zs:=by
        cases d with
        |lst ds'=>cases ei;obtain⟨b,zs,z1,z2,z3⟩:=av.lst e1.gh;exact⟨b,zs,z1,.inl z2,z3⟩
        |tup ds'=>cases ei;obtain⟨b,zs,z1,z2,z3⟩:=av.tup e1.gh;exact⟨b,zs,z1,.inr z2,z3⟩
        |_=>cases ei
       obtain⟨b,zs,rfl,sq,dl⟩:=key;have l1:=q3.length;have l2:=dl.length;refine⟨l,b,vs,zs,rfl,rfl,h1,sq,by lia,?_⟩;exact q' U G1 _ e1.gg (EnvR.wr (R.ext e1) ed q1 h1 ((q3.mono e1.gg).append dl)) (Ext.wr (ex.trans e1) g1 q5)
      ·rw[dM hl]at q';exact q'.elim
   |no=>exact q.elim
   |pu _=>exact q.elim
   |bo _=>exact q.elim
   |od _ _=>exact q.elim
end
def bw:D->Option fo
 |.int i=>some (.inl i)
 |.str x=>some (.inr x)
 |_=>none
def uj(k:fo):bw (kD k)=some k:=by cases k<;>rfl
def X9(h:bw d=some k):d=kD k:=by
 cases d<;>first|(cases h;rfl)|cases h
noncomputable def bq:List (D×D)->fo->Option D
 |[],_=>none
 |(k,d)::r,j=>if bw k=some j then some d else bq r j
def Um(kvs:List (D×D))(j:fo):Bool:=kvs.any λp=>decide (bw p.1=some j)
def pz(kvs:List (D×D))(j:fo)(v:D):List (D×D):=if Um kvs j=true then kvs.map (λp=>if bw p.1=some j then(p.1,v)else p)else kvs++[(kD j,v)]
section
variable{K:KA}{G:Hp}
theorem DenK.length:∀{kvs:List (D×D)}{es:List (fo×V)},DenK K G kvs es->kvs.length=es.length
 |[],_,h=>by rw[show _=[]from h];rfl
 |(_,_)::_,_,⟨k,v,r,h1,_,_,h3⟩=>by rw[h1,dI,dI,DenK.length h3]
theorem DenK.look:∀{kvs:List (D×D)}{es:List (fo×V)},DenK K G kvs es->∀j,(∀d,bq kvs j=some d->∃v,ly es j=some v/\Den K G d v)/\(bq kvs j=none->ly es j=none)
 |[],es,h,j=>by
  rw[show es=[]from h];exact⟨λd e=>(by cases e),λ_=>Nw⟩
 |(k,d)::r,es,h,j=>by
  obtain⟨k',v,t,rfl,rfl,dv,dt⟩:=h;obtain⟨i1,i2⟩:=DenK.look dt j;unfold bq;rw[uj]
  by_cases e:k'=j
  ·subst e;rw[dJ rfl];exact⟨λd' z=>⟨v,va rfl,by cases z;exact dv⟩,λz=>by cases z⟩
  ·rw[dM (λz=>e (eI z))];refine⟨λd' z=>?_,λz=>?_⟩
   ·obtain⟨u,q1,q2⟩:=i1 d' z;exact⟨u,(n9 e).trans q1,q2⟩
   ·exact(n9 e).trans (i2 z)
theorem DenK.has:∀{kvs:List (D×D)}{es:List (fo×V)},DenK K G kvs es->∀j,Um kvs j=es.any λkv=>decide (kv.1=j)
 |[],es,h,j=>by rw[show es=[]from h];rfl
 |(k,d')::r,es,h,j=>by
  obtain⟨k',u,t,rfl,rfl,du,dt⟩:=h;have ih:=DenK.has dt j;unfold Um at ih⊢;rw[iX,iX,ih]
  congr 1
  rw[uj]
  by_cases e:k'=j
  ·simp[e]
  ·rw[decide_eq_false e,decide_eq_false λz=>e (eI z)]
theorem DenK.repl(dv:Den K G d v):∀{kvs:List (D×D)}{es:List (fo×V)},DenK K G kvs es->∀j,DenK K G (kvs.map λp=>if bw p.1=some j then(p.1,d)else p) (es.map λkv=>if kv.1=j then(kv.1,v)else kv)
 |[],es,h,j=>by rw[show es=[]from h];rfl
 |(k,d')::r,es,h,j=>by
  obtain⟨k',u,t,rfl,rfl,du,dt⟩:=h;have ih:=DenK.repl dv dt j;rw[dC,dC];dsimp only;rw[uj]
  by_cases e:k'=j
  ·rw[dJ e,dJ (by rw[e])];exact⟨k',v,_,rfl,rfl,dv,ih⟩
  ·rw[dM e,dM λz=>e (eI z)];exact⟨k',u,_,rfl,rfl,du,ih⟩
theorem DenK.snoc(dv:Den K G d v):∀{kvs:List (D×D)}{es:List (fo×V)},DenK K G kvs es->∀j,DenK K G (kvs++[(kD j,d)]) (es++[(j,v)])
 |[],es,h,j=>by rw[show es=[]from h];exact⟨j,v,[],rfl,rfl,dv,rfl⟩
 |(k,d')::r,es,h,j=>by
  obtain⟨k',u,t,rfl,rfl,du,dt⟩:=h;exact⟨k',u,_,rfl,rfl,du,DenK.snoc dv dt j⟩
def DenK.put(dv:Den K G d v)(h:DenK K G kvs es)(j:fo):DenK K G (pz kvs j d) (oi es j v):=by
 unfold pz oi;rw[h.has j]
 by_cases e:(es.any λkv=>decide (kv.1=j))=true
 ·rw[dJ e,dJ e];exact h.repl dv j
 ·rw[dM e,dM e];exact h.snoc dv j
end
section
variable{X:Cx}{G0 B:Hp}{E:EK}{e a b:Expr}{es:List Expr}{g h k:En->Res}{pos:Pos}
def Arg.dctK{K:KA}{G H:Hp}{kvs:List (D×D)}{v:V}(s:Same G H)(h:Arg K G H (.dct false kvs) v):∃a es,v=.ref a/\H a=some (.dK es)/\DenK K G kvs es:=by
 rcases h with ⟨a,h1,h2⟩|⟨_,_,_,z,_⟩|⟨t',kvs',a,z,h1,h2⟩
 ·rcases h2 with ⟨_,es,q,r⟩|⟨z,_⟩
  ·exact⟨a,es,h1,s _ _ q,r⟩
  ·cases z
 ·cases z
 ·cases z;rcases h2 with ⟨_,es,q,r⟩|⟨z,_⟩
  ·exact⟨a,es,h1,q,r⟩
  ·cases z
def xa(i:Nat):En->Out:=λδ=>.nx (δ.set i (.od false []))
def EnvR.setD{K:KA}{G H:Hp}{U:St}{δ:En}{i:Nat}{a:Addr}(R:EnvR K B G H U δ)(hn:H a=none):EnvR K B G (upd H a (.dK [])) (U.set i (some (.ref a))) (δ.set i (.od false [])):=by
 have e:Ext G H G (upd H a (.dK [])):=Ext.own R.gh _ hn;have R':=R.ext e;have gn:G a=none:=de R.gh hn;have bn:B a=none:=de R.bh hn;have oth:∀(j:Nat) s,δ[j]?=some s->s.own=true->U[j]?=some (some (V.ref a))->False:=λj s q1 q2 q3=>by
  obtain⟨o,z1,z2⟩:=R.sl j s q1;rw[q3]at z1;cases z1;obtain⟨a',z,u,z3,_⟩:=z2.ref q2;cases z;rw[hn]at z3;cases z3
 have at_i:∀{s:Sl},(δ.set i (.od false []))[i]?=some s->s=.od false []/\i<δ.length:=λq=>by
  have hl:i<δ.length:=by
   have:=(List.getElem?_eq_some_iff.mp q).1;rwa [fE]at this
  rw[dW hl]at q;cases q;exact⟨rfl,hl⟩
 refine⟨R'.bh,R'.gh,by rw[fE,fE];exact R.len,λj s q=>?_,λj s b q1 q2 q3=>?_,λj k s t b q1 q2 q3 q4 q5 q6=>?_,R.gb⟩
 ·by_cases z:i=j
  ·subst z;obtain⟨rfl,hl⟩:=at_i q;exact⟨some (.ref a),dW (by rw[R.len];exact hl),a,[],rfl,bj,rfl⟩
  ·rw[dZ z]at q⊢;exact R'.sl j s q
 ·by_cases z:i=j
  ·subst z;obtain⟨rfl,hl⟩:=at_i q1;rw[dW (by rw[R.len];exact hl)]at q3;cases q3;exact⟨gn,bn⟩
  ·rw[dZ z]at q1 q3;exact R'.own j s b q1 q2 q3
 ·by_cases zj:i=j
  ·subst zj;obtain⟨rfl,hl⟩:=at_i q1;rw[dW (by rw[R.len];exact hl)]at q5;cases q5
   by_cases zk:i=k
   ·exact zk
   ·rw[dZ zk]at q2 q6;exact(oth k t q2 q4 q6).elim
  ·rw[dZ zj]at q1 q5
   by_cases zk:i=k
   ·subst zk;obtain⟨rfl,hl⟩:=at_i q2;rw[dW (by rw[R.len];exact hl)]at q6;cases q6;exact(oth j s q1 q3 q5).elim
   ·rw[dZ zk]at q2 q6;exact R'.dis j k s t b q1 q2 q3 q4 q5 q6
def OH(hs:PS X (.Assign [.Name x pos'] (.Dict [] [] p) pos) (Nr AC (tf i))):su X G0 B E (.Assign [.Name x pos'] (.Dict [] [] p) pos) (xa i):=
 PS.imp hs λD U H ⟨G,δ,R,e,q⟩=>λa ha=>q _ G _ (Same.refl G) (R.setD ha) (e.trans (Ext.own R.gh _ ha))
def EnvR.odAt{K:KA}{G H:Hp}{U:St}{δ:En}{i:Nat}{kvs:List (D×D)}(R:EnvR K B G H U δ)(h:δ[i]?=some (.od false kvs)):∃a es,U[i]?=some (some (V.ref a))/\H a=some (.dK es)/\DenK K G kvs es/\G a=none/\B a=none:=by
 obtain⟨o,q1,a,vs,q2,q3,q4⟩:=R.sl i _ h;subst q2;obtain⟨g,b⟩:=R.own i _ a h rfl q1;exact⟨a,vs,q1,q3,q4,g,b⟩
def EnvR.wrD{K:KA}{G H:Hp}{U:St}{δ:En}{i:Nat}{kvs kvs':List (D×D)}{a:Addr}{es es':List (fo×V)}(R:EnvR K B G H U δ)(hi:δ[i]?=some (.od false kvs))(hs:U[i]?=some (some (V.ref a)))(ha:H a=some (.dK es))(dl:DenK K G kvs' es'):
  EnvR K B G (upd H a (.dK es')) U (δ.set i (.od false kvs')):=by
 obtain⟨gn,bn⟩:=R.own i _ a hi rfl hs;have hl:i<δ.length:=(List.getElem?_eq_some_iff.mp hi).1;have sb:∀{F:Hp},F a=none->Same F H->Same F (upd H a (.dK es')):=λfn s b u q=>by
  rw[a6 (b0 q fn)];exact s b u q
 have ownEq:∀{j:Nat}{s:Sl},(δ.set i (.od false kvs'))[j]?=some s->s.own=true->∃s',δ[j]?=some s'/\s'.own=true:=λ{j s} q o=>by
  by_cases z:i=j
  ·subst z;exact⟨_,hi,rfl⟩
  ·rw[dZ z]at q;exact⟨s,q,o⟩
 refine⟨sb bn R.bh,sb gn R.gh,by rw[fE];exact R.len,λj s q=>?_,λj s b q1 q2 q3=>?_,λj k s t b q1 q2 q3 q4 q5 q6=>?_,R.gb⟩
 ·by_cases z:i=j
  ·subst z;rw[dW hl]at q;cases q;exact⟨_,hs,a,es',rfl,bj,dl⟩
  ·rw[dZ z]at q;obtain⟨o,z1,z2⟩:=R.sl j s q;refine⟨o,z1,?_⟩;cases s with
   |no=>trivial
   |pu d=>exact z2
   |bo d=>exact z2
   |ow fs=>
    obtain⟨b,us,y1,y2,y3⟩:=z2;have nb:b≠a:=by
     rintro rfl
     rw[ha]at y2;cases y2
    exact⟨b,us,y1,by rw[a6 nb];exact y2,y3⟩
   |od t fs=>
    cases t with
    |false=>
     obtain⟨b,us,y1,y2,y3⟩:=z2;have nb:b≠a:=by
      rintro rfl
      subst y1;exact z (R.dis i j _ _ b hi q rfl rfl hs z1)
     exact⟨b,us,y1,by rw[a6 nb];exact y2,y3⟩
    |true=>
     obtain⟨b,us,y1,y2,y3⟩:=z2;have nb:b≠a:=by
      rintro rfl
      rw[ha]at y2;cases y2
     exact⟨b,us,y1,by rw[a6 nb];exact y2,y3⟩
 ·obtain⟨s',z1,z2⟩:=ownEq q1 q2;exact R.own j s' b z1 z2 q3
 ·obtain⟨s',z1,z2⟩:=ownEq q1 q3;obtain⟨t',y1,y2⟩:=ownEq q2 q4;exact R.dis j k s' t' b z1 y1 z2 y2 q5 q6
def ou{K:KA}{G H:Hp}{d:D}{v:V}{k:fo}(h:Arg K G H d v)(e:bw d=some k):v=kV k:=by
 cases d with
 |int i=>cases e;exact h.int
 |str x=>cases e;exact h.str
 |_=>cases e
noncomputable def w9(i:Nat)(gk gv:En->Res):En->Out:=λδ=>match δ[i]? with
 |some (.od false kvs)=>(gv δ).then λv=>(gk δ).then λk=>match bw k with
  |some j=>if kvs.length<dN then .nx (δ.set i (.od false (pz kvs j v)))else .st
  |none=>.st
 |_=>.st
def OL{i:Nat}{x:Str}{p pos':Pos}{kxx vx:Expr}(hu:X.A.units+5<gQ)(hv:PE X (.Name x p) (Gc i))(hk:jc X B E kxx g)(hval:fq X B E vx h)
  (hs:kB vx (some (.Subscript (.Name x p) kxx pos')) pos.line X.env=pure false:=by rfl):su X G0 B E (.Assign [.Subscript (.Name x p) kxx pos'] vx pos) (w9 i g h):=
 PS.imp (Ta hu hv hk hval hs) λD U H ⟨G,δ,R,ex,q⟩=>by
  unfold w9 at q;cases ed:δ[i]? with
  |none=>rw[ed]at q;exact q.elim
  |some sl=>
   rw[ed]at q;cases sl with
   |od t kvs=>
    cases t with
    |true=>exact q.elim
    |false=>
     dsimp only at q;obtain⟨l,es,q1,q2,q3,q4,q5⟩:=R.odAt ed;refine⟨G,δ,R,(rg ex q).mono λdv _ q v G1 H1 e1 dn=>⟨.ref l,q1,G1,δ,R.ext e1,(rg (K:=(kx X)) (ex.trans e1) (OutP.same e1.gg q)).mono λdk _ q y G2 H2 e2 ay=>?_⟩⟩;have e12:=e1.trans e2;cases ej:bw dk with
     |none=>rw[ej]at q;exact q.elim
     |some j=>
      rw[ej]at q;dsimp only at q
      by_cases hl:kvs.length<dN
      ·rw[dJ hl]at q;have h2:=e12.hh _ _ q2;have g2:=e12.fr _ _ q2 q4 rfl;rw[ou ay ej];refine⟨l,_,rfl,DPut.k h2 (by rw[<-q3.length];exact hl),?_⟩;exact q U G2 _ e2.gg (EnvR.wrD (R.ext e12) ed q1 h2 ((q3.mono e12.gg).put (dn.mono e2.gg) j)) (Ext.wr (ex.trans e12) g2 q5)
      ·rw[dM hl]at q;exact q.elim
   |no=>exact q.elim
   |pu _=>exact q.elim
   |bo _=>exact q.elim
   |ow _=>exact q.elim
noncomputable def iu(d k x:En->Res):En->Res:=λδ=>(d δ).bind λdd=>match dd with
 |.dct false kvs=>(k δ).bind λdk=>(x δ).bind λdx=>match bw dk with
  |some j=>.ok ((bq kvs j).getD dx)
  |none=>.st
 |_=>.st
def GQ{o ke xe:Expr}{apos cpos:Pos}(hu:X.A.units+5<gQ)(ho:jc X B E o g)(hk:jc X B E ke h)(hx:fq X B E xe k)(m:M2 X o "get" apos ke xe cpos):
  fq X B E (.Call (.Attribute o "get" apos) [ke,xe] [] cpos) (iu g h k):=
 PE.imp (Za hu ho hk hx m) λU H Q ⟨G,δ,R,q⟩=>⟨G,δ,R,(ResP.bind q).mono λdd _ q v G1 H1 e1 av=>by
  cases dd with
  |dct t kvs=>
   cases t with
   |true=>exact q.elim
   |false=>
    obtain⟨l,es,rfl,h1,dl⟩:=Arg.dctK e1.gh av;refine⟨l,rfl,.inl ⟨es,.inl h1⟩,G1,δ,R.ext e1,((ResP.bind q).ext e1).mono λdk _ q y G2 H2 e2 ay=>⟨G2,δ,R.ext (e1.trans e2),((ResP.bind q).ext (e1.trans e2)).mono λdx _ q z G3 H3 e3 dz=>?_⟩⟩;have e13:=(e1.trans e2).trans e3;cases ej:bw dk with
    |none=>rw[ej]at q;exact q.elim
    |some j=>
     rw[ej]at q;have q:∀v G' H',Ext G H G' H'->Den (kx X) G' ((bq kvs j).getD dx) v->Q v H':=q;rw[ou ay ej];have h3:=(e2.trans e3).hh _ _ h1;refine⟨_,DGet.k h3,?_⟩;obtain⟨k1,k2⟩:=(dl.mono (e2.trans e3).gg).look j;cases el:bq kvs j with
     |none=>
      rw[k2 el];rw[el]at q;exact q _ G3 H3 e13 dz
     |some d'=>
      obtain⟨v',z1,z2⟩:=k1 d' el;rw[z1];rw[el]at q;exact q _ G3 H3 e13 z2
  |non=>exact q.elim
  |bl _=>exact q.elim
  |int _=>exact q.elim
  |str _=>exact q.elim
  |tup _=>exact q.elim
  |lst _=>exact q.elim
  |obj _ _=>exact q.elim
  |fn _=>exact q.elim⟩
end
def iy:Expr->Bool
 |.Starred _ _=>false
 |_=>true
def a8(h:iy e=true):eE (e::es) env=(false,eval e env)::eE es env:=by
 cases e<;>first|rfl|cases h
theorem uz:∀{es:List Expr}{env:Env}{pos:Pos},es.all iy=true->(iY pos (eE es env)).any (·.1)=false
 |[],_,_,_=>rfl
 |e::es,env,pos,h=>by
  rw[fT,dQ]at h;rw[a8 h.1];show((false||(iY pos (eE es env)).any (·.1)))=false;rw[uz h.2];rfl
theorem uy:∀{es:List Expr}{env:Env}{pos:Pos},es.all iy=true->(iY pos (eE es env)).all (λx=> !x.1)=true
 |[],_,_,_=>rfl
 |e::es,env,pos,h=>by
  rw[fT,dQ]at h;rw[a8 h.1];show((true && (iY pos (eE es env)).all (λx=> !x.1)))=true;rw[uy h.2];rfl
def Nl(h:iy e=true)(h2:iy f=true):iY pos (eE [e,f] env)=[(false,eval e env),(false,eval f env)]:=by
 rw[a8 h,a8 h2];rfl
def J4:Expr->Bool
 |.UnaryOp .Not _ _=>false
 |.BoolOp _ _ _=>false
 |.IfExp _ _ _ _=>false
 |.Compare _ _ _ _=>false
 |_=>true
def Hy{a:Expr}(h:J4 a=true):∀whole,isTrue a env whole=(do let v <-whole;standAt a.pos;sG [v] (truthy v)):=by
 intro whole;cases a<;>first|rfl|(cases h;done)|skip
 rename_i op x p;cases op<;>first|rfl|cases h
def x9:Expr->Bool
 |.Slice _ _ _ _=>false
 |_=>true
def Vg(h:x9 b=true):Iq b:=by
 intro o i;cases b<;>first|rfl|cases h
def l7:Expr->Bool
 |.Set _ _ _=>false
 |_=>true
def o7(h:l7 b=true):nA op b=false:=by
 cases b<;>first|rfl|cases h
def ro(h:l7 e=true):∀x,kQ e env x=pure x:=by
 intro x;cases e<;>first|rfl|cases h
def Eo(h:l7 c=true):sF [op,op'] [b,c]=false:=o7 h
def km:Expr->Bool
 |.ListComp _ _ _ _=>false
 |.SetComp _ _ _ _=>false
 |.DictComp _ _ _ _ _=>false
 |_=>true
def f9(h:km e=true):kB e t n env=pure false:=by
 cases e<;>first|rfl|cases h
def Au:Expr->Bool
 |.Call _ _ _ _=>false
 |_=>true
def Br(h:Au o=true):lT o a env w=w:=by
 cases o<;>first|rfl|cases h
end Pu
end
section
namespace L2
open PySem PySem.Spec PyProof.Rows
structure Noted(fr:List Addr)(e:Addr)(h h':Heap):Prop where
 keep:∀b o,b≠e->b∉fr->h.get? b=some o->h'.get? b=some o
 slot:∀b o,b≠e->h.get? b=some o->∃sl,h'.get? b=some {o with slots:=sl}
structure Rec(h:Heap)(e T:Addr)(cls:dG):Prop where
 exc:∃oe vs,h.get? e=some oe/\oe.cls=cls/\oe.data=.fields vs/\vs[1]?=some (.ref T)
 tb:∃oT ts,h.get? T=some oT/\oT.data=.fields ts/\ts[3]?=some .none
 ne:T≠e
section
variable{M:Model}{A:fV}{E:dG->dP->Prop}{s:dP}
def Mr
  (hfr:A.frames=some (env::outer))(hl:s.heap.FunFrames base (env::outer))(hf:env.frame=some L)(he:s.heap.get? e=some oe)(hd:oe.data=.fields vs)(hsz:1<vs.size)
  (h:∀h' T,s.heap.objs.size<=T->Noted (F7 (env::outer)) e s.heap h'->Rec h' e T oe.cls->Q () {s with heap:=h'}):
  dX M A (do let a <-frameOf env;let pl <-entryPlaceOf L nx;let b <-EntryCells.newEntry head a .none (iD L) .none pl;setField (.ref e) 1 b) (λ_ s'=>dX M A (setFlight (.ref e) none) Q E s') E s:=by
 have nfr:e∉F7 (env::outer):=λz=>by
  obtain⟨_,u,hu,nf⟩:=hl.mem z;rw[he]at hu;cases hu;exact nf vs hd
 refine dA (wpAny_frameOf_fun hfr hl hf λh1 k1=>dA (wpAny_entryPlaceOf λpl ipl=>?_));unfold EntryCells.newEntry newFields;refine dA (fO ?_ (ipl.sizeOk5 _ _ _ _ _));have g1:h1.get? e=some oe:=(k1.2.1 e nfr).trans he;generalize hto:({cls:=rJ "traceback",dict:=none,data:=.fields ([head,eZ L,fC,iD L,fC]++(if pl.isEmpty then eA 6 fC else pl)).toArray}:Obj)=tO;have g2:=dE (h:=h1) tO g1;refine jA g2 hd hsz ?_;have ne:h1.objs.size≠e:=jS (dY g1);have d3:=jI hd (·.setIfInBounds 1 (eZ h1.objs.size));have g3:=gF (jK (·.setIfInBounds 1 (eZ h1.objs.size))) g2 (lU d3);have hfreed:tO.isFreed=false:=by rw[<-hto];rfl
 have t3:=(fS (h1.push tO) (jK (·.setIfInBounds 1 (eZ h1.objs.size))) (jJ ne)).trans (eD h1 hfreed);have dT:∃ts,tO.data=.fields ts/\3<ts.size:=by
  rw[<-hto];exact⟨_,rfl,by simp only[eF,dU,dI,jD]<;>lia⟩
 obtain⟨ts,dT,s3⟩:=dT;unfold setFlight;refine dA (gS g3 d3 (x:=.ref h1.objs.size) (by simp[hsz]) ?_);rw[dJ (show(eZ h1.objs.size !=fC)=true by simp)];have all:∀b o,b≠e->h1.get? b=some o->(((h1.push tO).update e (jK (·.setIfInBounds 1 (eZ h1.objs.size)))).update h1.objs.size (jK (·.setIfInBounds 3 ((none:Option Addr).elim fC λf=>iD f)))).get? b=some o:=λb o hb q=>by
  rw[fS _ _ (jS (dY q)),fS _ _ (jJ hb)];exact dE _ q
 refine jA t3 dT s3 (h _ h1.objs.size (by rw[k1.1];exact dR _) ⟨λb o hb hn q=>all b o hb ((k1.2.1 b hn).trans q),λb o hb q=>?_⟩ ⟨⟨_,_,?_,?_,d3,by simp[hsz]⟩,⟨_,_,gF _ t3 (lU (jI dT _)),jI dT _,by simp[s3]⟩,ne⟩)
 ·obtain⟨sl,q'⟩:=k1.2.2 b o q;exact⟨sl,all b _ hb q'⟩
 ·rw[fS _ _ ne];exact g3
 ·exact qN _ _
def ZM
  (hfr:A.frames=some (env::outer))(hl:s.heap.FunFrames base (env::outer))(hf:env.frame=some L)(he:s.heap.get? e=some oe)(hd:oe.data=.fields vs)(hsz:1<vs.size)
  (htb:vs[1]?=some .none\/∃T oT ts,vs[1]?=some (.ref T)/\T≠e/\s.heap.get? T=some oT/\oT.data=.fields ts/\ts[3]?=some .none)
  (h:∀h' T,s.heap.objs.size<=T->(∀b o,b≠e->vs[1]?≠some (.ref b)->b∉F7 (env::outer)->s.heap.get? b=some o->h'.get? b=some o)->(∀b o,b≠e->vs[1]?≠some (.ref b)->s.heap.get? b=some o->∃sl,h'.get? b=some {o with slots:=sl})->Rec h' e T oe.cls->Q () {s with heap:=h'}):
  dX M A (noteFrame (.ref e) env) (λ_ s'=>dX M A (setFlight (.ref e) none) Q E s') E s:=by
 unfold noteFrame;simp only[hf];rcases htb with h1|⟨T,oT,ts,h1,hne,hT,hdT,h3⟩
 ·refine dA (gS he hd h1 ?_);rw[dM (by decide)];exact Mr hfr hl hf he hd hsz λh' T a b c=>h h' T a (λb' o q _ r z=>b.keep b' o q r z) (λb' o q _ z=>b.slot b' o q z) c
 ·refine dA (gS he hd h1 ?_);rw[dJ (show(eZ T !=fC)=true by simp)];refine dA (gS hT hdT h3 ?_);rw[dM (show¬((fC==iD L)=true) by simp[iD])];refine dA (jA hT hdT (Array.getElem?_eq_some_iff.mp h3).1 ?_);have oth:∀b,b≠T->(s.heap.update T (jK (·.setIfInBounds 3 fC))).get? b=s.heap.get? b:=λb hb=>fS _ _ (jJ hb);have hrec:∀b o,s.heap.get? b=some o->(∀vs,o.data≠.fields vs)->b≠T:=λb o q nf z=>by rw[z,hT]at q;cases q;exact nf ts hdT
  refine Mr hfr (hl.of_keeps λb o q nf=>⟨o,(oth b (hrec b o q nf)).trans q,rfl⟩) hf ((oth e (jJ hne)).trans he) hd hsz λh' T' a b c=>h h' T' ?_ (λb' o q r z w=>b.keep b' o q z ((oth b' λy=>r (y▸h1)).trans w)) (λb' o q r w=>b.slot b' o q ((oth b' λy=>r (y▸h1)).trans w)) c;exact fF (lQ (Heap.size_update ..).symm) a
def SU
  (hfr:A.frames=some (env::outer))(hl:s.heap.FunFrames base (env::outer))(hf:env.frame=some L)(he:s.heap.get? e=some oe)(hd:oe.data=.fields vs)(hsz:1<vs.size)
  (htb:vs[1]?=some .none\/∃T oT ts,vs[1]?=some (.ref T)/\T≠e/\s.heap.get? T=some oT/\oT.data=.fields ts/\ts[3]?=some .none)
  (h:∀h' T,s.heap.objs.size<=T->(∀b o,b≠e->vs[1]?≠some (.ref b)->b∉F7 (env::outer)->s.heap.get? b=some o->h'.get? b=some o)->(∀b o,b≠e->vs[1]?≠some (.ref b)->s.heap.get? b=some o->∃sl,h'.get? b=some {o with slots:=sl})->Rec h' e T oe.cls->Q () {s with heap:=h'}):
  dX M A (leaving env (.ref e)) Q E s:=by
 unfold leaving;exact dA (ZM hfr hl hf he hd hsz htb h)
end
def Mu{h:Heap}(x:ObjOk P w H h a o):∃u,h.get? a=some u:=by
 cases o with
 |lst xs=>obtain⟨_,_,_,_,e⟩:=x;exact⟨_,e⟩
 |tup xs=>obtain⟨_,_,_,u,e,_⟩:=x;exact⟨_,e⟩
 |dK kvs=>obtain⟨_,_,_,_,o,_,_,e,_⟩:=x;exact⟨_,e⟩
 |dT kvs=>obtain⟨_,_,_,_,o,_,_,e,_⟩:=x;exact⟨_,e⟩
 |set S n=>obtain⟨o,_,_,_,e,_⟩:=x;exact⟨_,e⟩
 |ins C dx fs=>obtain⟨_,_,_,e,_⟩:=x;exact⟨_,e⟩
 |own y=>exact x
 |xd fs=>obtain⟨_,⟨_,_,_,e,_⟩,_⟩:=x;exact⟨_,e⟩
 |rng lo hi=>obtain⟨_,_,_,e⟩:=x;exact⟨_,e⟩
 |frz ob u=>obtain⟨e,_⟩:=x;exact⟨_,e⟩
 |tbl q=>obtain⟨ps,e,_⟩:=x;exact⟨_,e⟩
 |met f y=>exact⟨_,x⟩
 |ext φ=>obtain⟨_,e,_⟩:=x;exact e
def Xu{h:Heap}(x:HOk P w H h)(e:h.get? a=none):H a=none:=by
 cases q:H a with
 |none=>rfl
 |some o=>
  obtain⟨u,z⟩:=Mu (x a o q);rw[e]at z;cases z
structure ExAt(h0 h:Heap)(H:Hp)(a:Addr)(cls:dG):Prop where
 new:h0.get? a=none
 free:H a=none
 obj:∃oe vs,h.get? a=some oe/\oe.cls=cls/\oe.data=.fields vs/\1<vs.size/\(vs[1]?=some .none\/∃T oT ts,vs[1]?=some (.ref T)/\h0.get? T=none/\T≠a/\H T=none/\h.get? T=some oT/\oT.data=.fields ts/\ts[3]?=some .none)
def Ge(P:eS)(w:fI):BD:=λouter H s E e s'=>∃a cls H',e=.ref a/\s'.os=s.os/\pO s'.gens/\Un (F7 outer) [] H H' s.heap s'.heap/\HOk P w H' s'.heap/\ExAt s.heap s'.heap H' a cls/\E cls none H'
def Hx:pj (Ge P w) X E0:=λ_ _ _ _ _ _ _ h=>by
 obtain⟨_,_,_,_,_,_,_,_,_,q⟩:=h;exact q.elim
def Hw{P:eS}{w:fI}{K:eB}{mg:Str->Option dG}{base:Heap}{N:List Str}{qual:Str}{scope:jW}{f:Addr}{cd:dG}{A:fV}{outer:List Env}{s₀:dP}{H₀:Hp}{E:XK}:
  pj (Ge P w) (Ca (Ge P w) P w K mg base N qual scope f cd A outer s₀ H₀ E) E:=λpins U H s e s' I c=>by
 obtain⟨a,cls,H',rfl,os,bare,un,hok,ex,q⟩:=c;have J:=I.call' os un hok bare (λb z=>absurd z (by simp));obtain⟨oe,vs,he,rfl,hd,hsz,htb⟩:=ex.obj;show dX _ _ (leaving _ (.ref a)) _ _ _;have tb:vs[1]?=some .none\/∃T oT ts,vs[1]?=some (.ref T)/\T≠a/\s'.heap.get? T=some oT/\oT.data=.fields ts/\ts[3]?=some .none:=by
  rcases htb with z|⟨T,oT,ts,z1,_,z2,_,z3,z4,z5⟩
  ·exact .inl z
  ·exact .inr ⟨T,oT,ts,z1,z2,z3,z4,z5⟩
 have tbn:∀b,vs[1]?=some (.ref b)->s.heap.get? b=none/\H' b=none:=λb z=>by
  rcases htb with z'|⟨T,oT,ts,z1,z0,z2,zf,z3,z4,z5⟩
  ·rw[z']at z;cases z
  ·rw[z1]at z;cases z;exact⟨z0,zf⟩
 have nox:∀b:Addr,b∉(Ca (Ge P w) P w K mg base N qual scope f cd A outer s₀ H₀ E).ex:=λb z=>absurd (show b∈([]:List Addr)from z) (by simp);have nw:∀b,s.heap.get? b=none->s₀.heap.get? b=none:=λb z=>by
  cases r:s₀.heap.get? b with
  |none=>rfl
  |some o=>
   obtain⟨o',r'⟩:=I.base.there b o r (nox b);rw[z]at r';cases r'
 refine SU J.ok.frames J.stack rfl he hd hsz tb λh' T hT k1 k2 hR=>?_;have old:∀b o,s₀.heap.get? b=some o->b≠a/\vs[1]?≠some (.ref b):=λb o q=>by
  refine⟨λz=>?_,λz=>?_⟩
  ·rw[z,nw a ex.new]at q;cases q
  ·rw[nw b (tbn b z).1]at q;cases q
 have nofr:∀b o,s₀.heap.get? b=some o->b∉F7 outer->b∉F7 (qT qual scope s₀.heap.objs.size f cd::outer):=λb o q n z=>by
  rcases List.mem_cons.mp (J.stkSub b z)with z|z
  ·have z':b=s₀.heap.objs.size:=z;exact absurd (z'▸dY q) (fR _)
  ·exact n z
 have jb:Un (F7 outer) [] H₀ H' s₀.heap s'.heap:=J.base;refine⟨a,oe.cls,H',rfl,J.os,bare,⟨λb o q n hb hx=>?_,λb o q n hb hx=>?_,jb.free,λb o q hx=>?_,jb.tups,jb.frzs,jb.tbls⟩,λb o q=>?_,⟨nw a ex.new,ex.free,?_⟩,q⟩
 ·exact k1 b o (old b o q).1 (old b o q).2 (nofr b o q hb) (jb.keep b o q n hb hx)
 ·obtain⟨sl,e1⟩:=jb.slot b o q n hb hx;obtain⟨sl',e2⟩:=k2 b _ (old b o q).1 (old b o q).2 e1;exact⟨sl',e2⟩
 ·obtain⟨o',e1⟩:=jb.there b o q hx;obtain⟨sl,e2⟩:=k2 b o' (old b o q).1 (old b o q).2 e1;exact⟨_,e2⟩
 ·refine(hok b o q).stay (λc u hc r=>?_) (λ_ z=>z) λ_ _ z=>z;have tr:∃v,H' c=some v:=by
   rcases hc with rfl|hc
   ·exact⟨o,q⟩
   ·exact⟨_,hc⟩
  obtain⟨v,tr⟩:=tr;refine k1 c u (λz=>?_) (λz=>?_) (λz=>?_) r
  ·rw[z,ex.free]at tr;cases tr
  ·rw[(tbn c z).2]at tr;cases tr
  ·rw[J.stkFree c z]at tr;cases tr
 ·obtain⟨⟨oe',vs',x1,x2,x3,x4⟩,⟨oT,ts,y1,y2,y3⟩,hne⟩:=hR;exact⟨oe',vs',x1,x2,x3,(Array.getElem?_eq_some_iff.mp x4).1,.inr ⟨T,oT,ts,x4,oW (fF J.sz hT),hne,hok.fresh hT,y1,y2,y3⟩⟩
def MJ{K:eB}(X:K.In h)(hm:mg x=some (.ref C))(q:jY K C bmB newId=true):OwnCls x C bmB newId mg h:=by
 refine⟨hm,?_⟩;unfold jY at q;split at q
 ·rename_i dd cd sl ho;split at q
  ·rename_i C' bm k0 k1 k2 k3 n k5 hro hs;simp only[dQ,beq_iff_eq,qO]at q;obtain⟨⟨⟨⟨⟨rfl,rfl⟩,hdel⟩,ht⟩,hk⟩,hni⟩:=q;obtain⟨nm,bs,mro,ns,qn,hd,sn,sub,ab,col,del⟩:=cd;dsimp only at hro hdel hk hni;subst hro hdel;obtain⟨l⟩:=sl;obtain rfl:l=[k0,k1,k2,k3,some (.builtin n),k5]:=hs;exact⟨bm,ns,nm,qn,bs,hd,sn,sub,ab,col,dd,k0,k1,k2,k3,k5,_,X _ _ ho,.of_isNs (PySem.W.isNs_of_in X hk),PySem.W.nsMap_none_of_in X hk hni,PySem.W.tail_of_in X ht⟩
  ·cases q
 ·cases q
structure ExBase(bmB:List dG)(newId:String):Prop where
 facts:∃Bn inN bmN B nid initId,ExcBaseFacts Bn newId inN bmN/\bmB.contains (.type Bn)=true/\ExcBaseFacts B nid initId bmB
def PV(C:Addr)(E:XK)(t:TA):TS:=λ_ U H=>t U H λvs H1=>vs.length<=dN/\E (.ref C) none H1
def Zp{X:Cx}{x:Str}{C:Addr}{bmB:List dG}{newId:String}{E:XK}{e₀:Expr}{rest:List Expr}{t:TA}{np cpos pos:Pos}(hc:X.calm=true)(hg:Gl X x)(hm:X.mg x=some (.ref C))(hx:jY X.K C bmB newId=true)(B:ExBase bmB newId)
  (hp:pj (Ge X.prog X.w) X E)(ha:PA X (e₀::rest) t)(hdb:(x==("__debug__":Str))=false:=by decide)(he:eE (e₀::rest) X.env=(false,eval e₀ X.env)::eE rest X.env:=by rfl)(hpl:(iY cpos (eE rest X.env)).any (·.1)=false:=by rfl):
  PS X (.Raise (some (.Call (.Name x np) (e₀::rest) [] cpos)) none pos) (PV C E t):=by
 intro pins s U H D I h;obtain⟨Bn,inN,bmN,B',nid,initId,Fn,hBn,FB⟩:=B.facts;obtain⟨tl,N,nm,q,bs,hdct,sn,sub,ab,col,dd,k0,k1,k2,k3,k5,mN,hC,hN,hni,T⟩:=(MJ I.ok.mod.kin hm hx).obj;refine wpAny_Raise_call_subU (C:=C) (nm:=nm) (q:=q) (N:=N) (bs:=bs) (bm:=tl) (hdct:=hdct) (sn:=sn) (sub:=sub) (ab:=ab) (col:=col) (dd:=dd) (k0:=k0) (k1:=k1) (k2:=k2) (k3:=k3) (k5:=k5) Fn hBn FB (mN:=mN) (T.hasType FB.hasBase) (I.ok.hd hc)
  (by rw[he];show(false||(iY cpos (eE rest X.env)).any (·.1))=false;rw[hpl];rfl) hni (Cp I hg hm ⟨rfl,?_⟩ hdb)
 have h2:=ha cpos pins s U H _ I h;rw[he]at h2⊢;refine mG (fL h2 (λus s2 ⟨vs,H1,I1,r,hl,qE⟩=>⟨rfl,?_,I1.bk _ _ hC,hN.keeps I1.bk,T.keeps I1.bk,λh' e made=>?_⟩) λ_ _ y=>y)
 ·show us.length<=dN;rw[<-r.length];exact hl
 ·obtain⟨tt,ge,_,_⟩:=made.there;refine hp pins U H1 s2 (.ref e) _ I1 ⟨e,.ref C,H1,rfl,rfl,I1.bare,Un.kept made.keeps,I1.hok.kept made.keeps,⟨made.new,Xu I1.hok made.new,⟨_,_,ge,rfl,rfl,by simp,.inl (by simp)⟩⟩,qE⟩
section
variable{P:eS}{w:fI}{K:eB}{mg:Str->Option dG}{base:Heap}
def Fun.okE{x qual:Str}{st:Stmt}{f:Addr}{fd:lS}{N ps:List Str}{k:Nat}{sp:Sp}(F:Fun K x qual st f fd)(S:FnScope N ps (bz st))(len:∀vs H Q E,sp vs H Q E->vs.length=ps.length)
   (hbody:∀(cdv:dG)(A:fV)(outer:List Env)(s:dP)(H:Hp)(vs:List V)(Q:VK)(E:XK),fd.code=cdv->Room k (A.deeper (qT qual (bz st) s.heap.objs.size f cdv))->sp vs H Q E->
   ∃t,PSs (Ca (Ge P w) P w K mg base N qual (bz st) f cdv A outer s H E) (f6 st) t/\t {nx:=λ_ H'=>Q .non H',rt:=Q} (rf N vs) H):FnOk P w K mg base (Ge P w) (k+1) f fd ps sp:=by
 obtain⟨oc,od,kV,doc,pm,an,cdv,ct,osl,rfl,lk,hcd⟩:=F.ex;exact RE lk hcd S len λA outer s H vs Q E hr hsp=>hbody cdv A outer s H vs Q E rfl hr hsp
def FnOk.calm(F:FnOk P w K mg base (Ge P w) k f fd ps sp):FnOk P w K mg base QC k f fd ps (λvs H Q _=>sp vs H Q E0):=by
 refine⟨λvs H Q E h=>F.len vs H Q E0 h,λA outer s H args us vs Q E hr e0 hb r h=>nX (F.run A outer s H args us vs Q E0 hr e0 hb r h) λrs s' z=>?_⟩;cases rs with
 |ok fl=>cases fl<;>exact z
 |error e=>
  obtain⟨_,_,_,_,_,_,_,_,_,q⟩:=z;exact q.elim
end
end L2
namespace Pu
open PySem PySem.Spec PyProof.Rows L2
def Xl{P:eS}{w:fI}{Kf:eB}{mg:Str->Option dG}{base:Heap}{x qual:Str}{st:Stmt}{f:Addr}{fd:lS}{N ps:List Str}{k:Nat}{ms:List Bool}{Fb:En->Out}(F:Fun Kf x qual st f fd)(S:FnScope N ps (bz st))(hm:ms.length=ps.length)
   (hbody:∀(cdv:dG)(A:fV)(outer:List Env)(s:dP)(H G0:Hp)(E:XK),fd.code=cdv->Room k (A.deeper (qT qual (bz st) s.heap.objs.size f cdv))->
   zw (Ca (Ge P w) P w Kf mg base N qual (bz st) f cdv A outer s H E) G0 H (ek ⟨Kf,Fs mg⟩ E) (f6 st) Fb):
  FnOk P w Kf mg base (Ge P w) (k+1) f fd ps (Qm ⟨Kf,Fs mg⟩ ms (ZS ms N.length Fb)):=by
 refine F.okE S (λvs H Q E h=>h.1.trans hm) λcdv A outer s H vs Q E hc hr h=>?_;obtain⟨hl,gb,G,ds,sg,al,q⟩:=h;exact⟨_,hbody cdv A outer s H G E hc hr,G,_,Ox gb sg al,Ext.refl sg,FW sg q⟩
end Pu
end
section
namespace Pu
open PySem PySem.Spec PyProof.Rows L2
def UH(K:KA)(ms:List Bool)(f:List D->Res):Sp:=λvs H Q E=>vs.length=ms.length/\GOk H/\∃G ds,Same G H/\ArgsM K G H ms ds vs/\ResP (ek K E) G H (f ds) λd=>∃es,d=.lst es/\
 ∀a ws G' H',Ext G H G' H'->H a=none->G' a=none->H' a=some (.lst ws)->DenL K G' es ws->Q (.ref a) H'
structure SC where
 N:List Str
 sc:jW
 td:List Str
 lam:Bool
structure FS where
 ms:List Bool
 f:List D->Res
structure XT where
 exc:Str->Bool
 sub:Str->Str->Bool
 ve:Str->Bool
 nsub:Str->Str->Bool
structure GT where
 fns:Str->Option FS
 gstr:Str->Option Str
 xs:XT
 lam:Expr->List (Str×D)->List D->Res
 own:Str->Bool
noncomputable def xf:List Str:=["len","list","tuple","int","isinstance","range","all","any","sorted","set","min","max","abs","str","bool","dict","enumerate","zip","reversed","ValueError"]
def Wh(X:Cx):Prop:=∃c P,(c,P,X.env.qual++"<lambda>")∈Qs/\X.env.code=.ref c/\PySem.W.CodeHd X.base c P/\
 (∃bm o,X.mg "__builtins__"=some (.ref bm)/\bm≠oQ/\bm≠gA/\X.base.get? bm=some o/\o.cls=.type "module"/\o.dict=some oQ/\o.data=.plain)/\
 (∀y c,X.env.cells.lookup y=some c->X.s₀.heap.objs.size<=c)/\∀y∈vm,X.fn y=false
structure RoomL(k:Nat)(A:fV):Prop where
 hd:A.handled=none
 dp:A.depth+3 * k+5<recursionLimit
 un:A.units+16 * k+190<gQ
def Wi(P:eS)(w:fI)(K:eB)(mg:Str->Option dG)(base:Heap)(k:Nat)(e:Expr)(fs:List (Str×D))(ds:List D)(d:D):Prop:=
 ∀(A:fV)(outer:List Env)(s:dP)(H G:Hp)(a:Addr)(us:List dG)(vs:List V)(Q:VK),RoomL k A->Env0 P w K mg base A outer s H->GOk H->Same G H->Den ⟨K,Fs mg⟩ G (.obj e fs) (.ref a)->DenL ⟨K,Fs mg⟩ G ds vs->Vals vs us->
  (∀v G' H',Ext G H G' H'->Den ⟨K,Fs mg⟩ G' d v->Q v H')->lM (eJ P w) A (.call (.ref a) ⟨us,[]⟩) (CR (Ge P w) outer P w H s Q E0) s
structure XOk(X:Cx)(C:SC)(T:GT)(E:XK):Prop where
 n:X.N=C.N
 s:X.env.scope=C.sc
 nd:C.N.Nodup
 calm:X.calm=true
 units:X.A.units+65<gQ
 fns:∀x s,T.fns x=some s->∃k f fd ps,Room k X.A/\X.mg x=some (.ref f)/\gO X.K (.ref f)=true/\Binds X.K fd ps []/\FnOk X.prog X.w X.K X.mg X.base (Ge X.prog X.w) k f fd ps (Qm (kx X) s.ms s.f)
 gstr:∀x y,T.gstr x=some y->∃t,X.mg x=some (.str y t)
 bl:∀x∈xf,X.mg x=none
 exc:∀x,T.xs.exc x=true->∃C bm newId,X.mg x=some (.ref C)/\jY X.K C bm newId=true/\ExBase bm newId
 sub:∀c y,T.xs.sub c y=true->∃Cy,X.mg y=some (.ref Cy)/\iS X.K (.ref (Fs X.mg c)) (.ref Cy)=some true
 ve:∀c,T.xs.ve c=true->PySem.W.kitCls X.K (.ref (Fs X.mg c)) (.type "ValueError")=some true
 nsub:∀c y,T.xs.nsub c y=true->∃Cy,X.mg y=some (.ref Cy)/\iS X.K (.ref (Fs X.mg c)) (.ref Cy)=some false
 goes:pj (Ge X.prog X.w) X E
 lamc:C.lam=true->Wh X
 lams:∀e fs ds d,T.lam e fs ds=.ok d->∃k,Room k X.A/\Wi X.prog X.w X.K X.mg X.base k e fs ds d
 own:∀x s,T.own x=true->T.fns x=some s->∃k f fd ps,Room k X.A/\X.mg x=some (.ref f)/\gO X.K (.ref f)=true/\Binds X.K fd ps []/\FnOk X.prog X.w X.K X.mg X.base (Ge X.prog X.w) k f fd ps (UH (kx X) s.ms s.f)
def vis(sc:jW)(x:Str):Bool:=match sc.names.lookup x with
 |some .local=>true
 |some .cell=>true
 |some .free=>true
 |_=>false
def BH(h:vis sc x=true):RV sc x:=by
 unfold vis at h;unfold RV;cases e:sc.names.lookup x with
 |none=>rw[e]at h;cases h
 |some k=>rw[e]at h;cases k<;>first|exact .inl rfl|exact .inr (.inl rfl)|exact .inr (.inr rfl)|cases h
def Lu(sc:jW)(x:Str):Bool:=match sc.names.lookup x with
 |some .local=>true
 |some .cell=>true
 |_=>false
def D8(h:Lu sc x=true):L2.IP sc x:=by
 unfold Lu at h;unfold L2.IP;cases e:sc.names.lookup x with
 |none=>rw[e]at h;cases h
 |some k=>rw[e]at h;cases k<;>first|exact .inl rfl|exact .inr rfl|cases h
def pv(x:Str):Bool:= !(x==("__debug__":Str)) && !(x==("__classdict__":Str))
def Mv(h:pv x=true):(x==("__debug__":Str))=false:=by
 unfold pv at h;simp only[dQ,qO]at h;exact h.1
def Yw(h:pv x=true):(x==("__classdict__":Str))=false:=by
 unfold pv at h;simp only[dQ,qO]at h;exact h.2
def X6(x:Str):List Str->Nat->Option Nat
 |[],_=>none
 |y::r,i=>if x=y then some i else X6 x r (i+1)
theorem Jt:∀{l:List Str}{i j:Nat},X6 x l i=some j->i<=j/\l[j - i]?=some x
 |[],_,_,h=>by cases h
 |y::r,i,j,h=>by
  unfold X6 at h
  by_cases e:x=y
  ·rw[dJ e]at h;cases h;subst e;exact⟨dR _,by simp⟩
  ·rw[dM e]at h;obtain⟨h1,h2⟩:=Jt h;refine⟨by lia,?_⟩;rw[show j - i=(j - (i+1))+1 by lia];simpa using h2
def slot(C:SC)(x:Str):Option Nat:=if vis C.sc x && pv x then X6 x C.N 0 else none
def Kb{C:SC}(h:slot C x=some i):C.N[i]?=some x/\vis C.sc x=true/\pv x=true:=by
 unfold slot at h
 by_cases e:(vis C.sc x && pv x)=true
 ·rw[dJ e]at h;rw[dQ]at e;obtain⟨_,q⟩:=Jt h;exact⟨by simpa using q,e.1,e.2⟩
 ·rw[dM e]at h;cases h
def Kp(C:SC)(x:Str):Bool:=decide (C.sc.names.lookup x=some .globalImplicit) && pv x
section
variable{X:Cx}{C:SC}{T:GT}{B:Hp}{E:EK}{x:Str}{i:Nat}{pos:Pos}
def XOk.var(O:XOk X C T E')(h:slot C x=some i):PE X (.Name x pos) (Gc i):=by
 obtain⟨h1,h2,h3⟩:=Kb h;exact MB (by rw[O.n];exact h1) (by rw[O.s];exact BH h2) (Mv h3) (Yw h3)
def XOk.gl(O:XOk X C T E')(h:Kp C x=true):Gl X x/\(x==("__debug__":Str))=false:=by
 unfold Kp at h;rw[dQ]at h;refine⟨?_,Mv h.2⟩;show X.env.scope.names.lookup x=_;rw[O.s];exact of_decide_eq_true h.1
end
def jq:En->Res:=λ_=>.st
def LR:En->ResL:=λ_=>.st
def vt:En->Out:=λ_=>.st
section
variable{X:Cx}{B G0:Hp}{E:EK}{e tg:Expr}{es:List Expr}
def ck:fq X B E e jq:=λpins s U H Q I ⟨G,δ,R,q⟩=>q.elim
def SE:CY X B E e jq:=λpins s U H Q I ⟨G,δ,R,q⟩=>q.elim
def Bu:Fu X B E e jq:=λpins s U H Q I ⟨G,δ,R,q⟩=>q.elim
def IJ:Q6 X B E ms es LR:=λpos pins s U H Q I ⟨G,δ,R,q⟩=>q.elim
def qz{st:Stmt}:su X G0 B E st vt:=λpins s U H D I ⟨G,δ,R,x,q⟩=>q.elim
end
theorem Ak:∀{l:List (Str×lE)},(y,jX)∈l↔y∈gi l
 |[]=>by simp[gi]
 |(n,k)::r=>by
  unfold gi
  by_cases h:k=.free
  ·subst h;rw[dJ rfl,gD,gD,Ak];constructor
   ·rintro (z|z)
    ·cases z;exact .inl rfl
    ·exact .inr z
   ·rintro (z|z)
    ·subst z;exact .inl rfl
    ·exact .inr z
  ·rw[dM h,gD,Ak];constructor
   ·rintro (z|z)
    ·cases z;exact absurd rfl h
    ·exact z
   ·exact .inr
def nr(scope sc:jW):jW:=
 {scope with names:=scope.names.map λ(n,k)=>if(k==.free && sc.kind==.function && sc.names.lookup n==some .cell)then(n,.cell)else(n,k)}
def slots(C:SC):List Str->Option (List Nat)
 |[]=>some []
 |y::r=>match slot C y,slots C r with
  |some i,some is=>some (i::is)
  |_,_=>none
noncomputable def Rh(C:SC)(scope:jW)(y:Str):Bool:=
 (decide (C.sc.names.lookup y=some .cell)||decide (C.sc.names.lookup y=some .free)) &&
 (decide ((nr scope C.sc).names.lookup y=some .cell)||decide ((nr scope C.sc).names.lookup y=some .free))
noncomputable def uc(C:SC)(scope:jW)(xs:List Str):Bool:=
 decide (scope.kind=.function) && (scope.names.all λy=>decide (y.2≠.cell)) && (scope.names.all λy=> !decide (y.2=.local)||decide (scope.names.lookup y.1=some .local)) &&
 (xs.all λx=>decide (scope.names.lookup x=some .local)) && decide ((xs++gi scope.names).Nodup) && (gi scope.names).all (Rh C scope)
theorem Nj{C:SC}:∀{M:List Str}{ix:List Nat},slots C M=some ix->∀{X:Cx}{scope:jW}{cl:List (Str×Addr)},X.N=C.N->X.env.scope=C.sc->(∀y∈M,∃c,cl.lookup y=some c)->M.all (Rh C scope)=true->Caps X scope cl M ix
 |[],ix,h,X,scope,cl,_,_,_,_=>by cases h;exact rfl
 |y::r,ix,h,X,scope,cl,hn,hs,hc,ha=>by
  unfold slots at h;cases e1:slot C y with
  |none=>rw[e1]at h;cases h
  |some i=>
   cases e2:slots C r with
   |none=>rw[e1,e2]at h;cases h
   |some is=>
    rw[e1,e2]at h;cases h;rw[fT,dQ]at ha;obtain⟨q1,q2,q3⟩:=Kb e1;have q4:=ha.1;unfold Rh at q4;rw[dQ,jO,jO,decide_eq_true_eq,decide_eq_true_eq,decide_eq_true_eq,decide_eq_true_eq]at q4;refine⟨i,is,rfl,⟨by rw[hn];exact q1,by rw[hs];exact BH q2,?_,hc y (dH),?_⟩,Nj e2 hn hs (λz hz=>hc z (dF _ hz)) ha.2⟩
    ·show X.env.scope.names.lookup y≠_;rw[hs];rcases q4.1 with z|z<;>rw[z]<;>decide
    ·have:pP scope X.env=nr scope C.sc:=by
      unfold pP nr;rw[<-hs];rfl
     rw[this];exact q4.2
theorem Ni{C:SC}(nd:C.N.Nodup):∀{M:List Str}{ix:List Nat},slots C M=some ix->M.Nodup->ix.Nodup/\∀i∈ix,∃y∈M,C.N[i]?=some y
 |[],ix,h,_=>by cases h;exact⟨iZ,λi hi=>by simp at hi⟩
 |y::r,ix,h,hM=>by
  unfold slots at h;cases e1:slot C y with
  |none=>rw[e1]at h;cases h
  |some i=>
   cases e2:slots C r with
   |none=>rw[e1,e2]at h;cases h
   |some is=>
    rw[e1,e2]at h;cases h;obtain⟨m1,m2⟩:=List.nodup_cons.mp hM;obtain⟨n1,n2⟩:=Ni nd e2 m2;obtain⟨q1,_,_⟩:=Kb e1;refine⟨List.nodup_cons.mpr ⟨λhi=>?_,n1⟩,λj hj=>?_⟩
    ·obtain⟨z,hz,ez⟩:=n2 i hi;rw[q1]at ez;cases ez;exact m1 hz
    ·rcases List.mem_cons.mp hj with rfl|hj
     ·exact⟨y,dH,q1⟩
     ·obtain⟨z,hz,ez⟩:=n2 j hj;exact⟨z,dF _ hz,ez⟩
theorem ub(env:Env):∀(names:List (Str×lE))(cs:List (Str×Addr)),(∀y∈gi names,∃c,env.cells.lookup y=some c)->∃cl,j5 env names cs=some cl
 |[],cs,_=>⟨cs,rfl⟩
 |(n,k)::r,cs,h=>by
  unfold j5
  by_cases hk:k=.free
  ·subst hk;rw[dJ rfl];obtain⟨c,e⟩:=h n (by unfold gi;rw[dJ rfl];exact dH);rw[e];exact ub env r _ λy hy=>h y (by unfold gi;rw[dJ rfl];exact dF _ hy)
  ·rw[dM hk];exact ub env r cs λy hy=>h y (by unfold gi;rw[dM hk];exact hy)
theorem ua(env:Env):∀(names:List (Str×lE))(cs cl:List (Str×Addr)),j5 env names cs=some cl->∀y,(cs.lookup y=none)->y∉gi names->cl.lookup y=none
 |[],cs,cl,h,y,q,_=>by cases h;exact q
 |(n,k)::r,cs,cl,h,y,q,m=>by
  unfold j5 at h
  by_cases hk:k=.free
  ·subst hk;rw[dJ rfl]at h;unfold gi at m;rw[dJ rfl,gD,not_or]at m;cases hc:env.cells.lookup n with
   |none=>rw[hc]at h;cases h
   |some c=>
    rw[hc]at h;refine ua env r _ cl h y ?_ m.2;have hb:(y==n)=false:=by simpa using m.1
    rw[rC,hb];exact q
  ·rw[dM hk]at h;unfold gi at m;rw[dM hk]at m;exact ua env r cs cl h y q m
def ud{X:Cx}{scope:jW}(O:XOk X C T E')(ok:X.Ok)(h:uc C scope xs=true)(hx:slots C (gi scope.names)=some ix):∃cl,CompOk X scope cl xs (gi scope.names) ix:=by
 unfold uc at h;simp only[dQ,decide_eq_true_eq]at h;obtain⟨⟨⟨⟨⟨h1,h2⟩,h3⟩,h4⟩,h5⟩,h6⟩:=h;have hcells:∀y∈gi scope.names,∃c,X.env.cells.lookup y=some c:=λy hy=>by
  have q:=List.all_eq_true.mp h6 y hy;unfold Rh at q;rw[dQ,jO,decide_eq_true_eq,decide_eq_true_eq,<-O.s]at q;exact ok.has y q.1
 obtain⟨cl,hcl⟩:=ub X.env scope.names [] hcells;obtain⟨n0,n2,n1⟩:=List.nodup_append.mp h5;have hfree:∀y∈gi scope.names,∃c,cl.lookup y=some c:=λy hy=>oo X.env _ _ cl hcl y (.inr (Ak.mpr hy));refine⟨cl,hcl,h1,λy hy=>?_,λy hy e=>?_,λx hx=>of_decide_eq_true (List.all_eq_true.mp h4 x hx),λx hx=>ua X.env _ _ cl hcl x rfl (λhm=>n1 x hx x hm rfl),h5,(Ni O.nd hx n2).1,Nj hx O.n O.s hfree h6⟩
 ·exact of_decide_eq_true (List.all_eq_true.mp h2 y hy)
 ·have q:=List.all_eq_true.mp h3 y hy;rw[decide_eq_true e]at q;exact of_decide_eq_true (by simpa using q)
def rm(C:SC)(scope:jW)(xs:List Str):SC:=⟨xs++gi scope.names,nr scope C.sc,[],false⟩
def yk{scope:jW}(O:XOk X C T E')(h:uc C scope xs=true)(Cc s₀ H₀ ex pn):XOk (jt X scope cl (xs++gi scope.names) xs Cc s₀ H₀ ex pn) (rm C scope xs) T E0 where
 n:=rfl
 s:=by
  show pP scope X.env=_;unfold pP;show _=nr scope C.sc;unfold nr;rw[<-O.s];rfl
 nd:=by
  unfold uc at h;simp only[dQ,decide_eq_true_eq]at h;exact h.1.2
 calm:=O.calm
 units:=O.units
 fns:=O.fns
 gstr:=O.gstr
 bl:=O.bl
 exc:=O.exc
 sub:=O.sub
 ve:=O.ve
 nsub:=O.nsub
 goes:=Hx
 lamc:=λh=>by cases h
 lams:=O.lams
 own:=O.own
def XOk.none(O:XOk X C T E):XOk X C T E0:=⟨O.n,O.s,O.nd,O.calm,O.units,O.fns,O.gstr,O.bl,O.exc,O.sub,O.ve,O.nsub,Hx,O.lamc,O.lams,O.own⟩
end Pu
end
section
namespace Pu
open PySem PySem.Spec PyProof.Rows L2 PySem.SeqAt
def KR(A:fV)(s:dP)(y x:dG)(b:Bool):Prop:=
 ∀(prog:eS)(w:fI)(E:dG->dP->Prop)(Q:dG->dP->Prop),Q (.bool b) s->dX (eJ prog w) A (richCompare .Lt y x) Q E s
def oh(e c:Nat->Bool)(fin:Bool):List Nat->Bool
 |[]=>fin
 |i::r=>if e i then oh e c fin r else c i
def PP(l m:Addr)(xs ys:Array dG)(n k:Nat)(dd dm:Option Addr)(sl sm:Array (Option dG))(e c:Nat->Bool):
  Meets (Builtin.«tuple.__lt__» ⟨[.ref l,.ref m],[]⟩) (λA R s=>
   s.heap.get? l=some {cls:=.type "tuple",dict:=dd,data:=.seq xs n,slots:=sl}/\
   s.heap.get? m=some {cls:=.type "tuple",dict:=dm,data:=.seq ys k,slots:=sm}/\
   (∀j (p:j<xs.size) (q:j<ys.size),EqAt A.in1 s xs[j] ys[j] (e j)/\(e j=false->KR A.in1 s xs[j] ys[j] (c j)))/\
   R (.ok (.ret (.bool (oh e c (decide (xs.size<ys.size)) (eY (min xs.size ys.size)))))) s):=
 .of_wp λprog w A R s h=>by
  obtain⟨hp,g,d,tk,os⟩:=s;obtain⟨hl,hm,he,h⟩:=h;have f2:=nC;have hZ:(xs.toList.zip ys.toList).length=min xs.size ys.size:=by simp
  wp_walk using pH hl,pH hm,hJ _ (λrest b s'=>b.1=none/\s'=⟨hp,g,d,tk,os⟩/\∃i,
   rest=(xs.toList.zip ys.toList).drop i/\R (.ok (.ret (.bool (oh e c (decide (xs.size<ys.size)) ((eY (min xs.size ys.size)).drop i))))) ⟨hp,g,d,tk,os⟩) _
  case turn=>
   rintro ⟨y,x⟩ rest b s' ⟨hb',rfl,i,hz,hR⟩
   have lt0:i<(xs.toList.zip ys.toList).length:=by
    by_cases z:i<(xs.toList.zip ys.toList).length
    ·exact z
    ·rw[jB (oR z)]at hz;cases hz
   have lt1:i<min xs.size ys.size:=by rw[<-hZ];exact lt0
   have p:i<xs.size:=by lia
   have q:i<ys.size:=by lia
   rw[fN lt0]at hz;injection hz with hyx hrest
   obtain rfl:y=xs[i]:=by simpa using congrArg Prod.fst hyx
   obtain rfl:x=ys[i]:=by simpa using congrArg Prod.snd hyx
   have hd:(eY (min xs.size ys.size)).drop i=i::(eY (min xs.size ys.size)).drop (i+1):=by simp[fN,lt1]
   rw[hd]at hR;refine dA ((he i p q).1 prog w _ _ ?_);cases hy:e i with
   |true=>
    simp only[oh,hy,if_true]at hR
    wp_walk
    exact⟨rfl,rfl,i+1,hrest,hR⟩
   |false=>
    simp only[oh,hy,Bool.false_eq_true,if_false]at hR;rw[dJ (show(!false)=true from rfl)];refine dA (lJ (dA ((he i p q).2 hy prog w _ _ ?_)))
    wp_walk
    exact⟨_,rfl,hR⟩
  case fin=>
   rintro ⟨b1,b2⟩ s' ⟨hb',rfl,i,hz,hR⟩
   simp only at hb';subst hb';have ge0:min xs.size ys.size<=i:=by
    by_cases z:i<(xs.toList.zip ys.toList).length
    ·rw[fN z]at hz;cases hz
    ·lia
   rw[jB (by simpa using ge0)]at hR
   wp_walk
   exact⟨_,rfl,by simpa[oK,oh]using hR⟩
  case h=>exact⟨rfl,rfl,0,rfl,by simpa using h⟩
mutual
def CZ:iW->iW->Option Bool
 |.int i,.int j=>some (decide (i<j))
 |.str x,.str y=>some (decide (x.cps.toList<y.cps.toList))
 |.tuple xs,.tuple ys=>gx xs ys
 |_,_=>none
def gx:List iW->List iW->Option Bool
 |[],[]=>some false
 |[],_::_=>some true
 |_::_,[]=>some false
 |x::xs,y::ys=>match CZ x y,gx xs ys with
  |some a,some b=>some (if eL x y then b else a)
  |_,_=>none
end
def r8(xs ys:List iW)(j:Nat):Bool:=match xs[j]?,ys[j]? with
 |some x,some y=>(CZ x y).getD false
 |_,_=>false
def um(h:gx (x::xs) (y::ys)=some c):∃a b,CZ x y=some a/\gx xs ys=some b/\c=if eL x y then b else a:=by
 rw[gx]at h;cases h1:CZ x y with
 |none=>rw[h1]at h;cases h
 |some a=>
  cases h2:gx xs ys with
  |none=>rw[h1,h2]at h;cases h
  |some b=>rw[h1,h2]at h;cases h;exact⟨a,b,rfl,rfl,rfl⟩
theorem xu:∀l:List Nat,oh e c fin (l.map (· +1))=oh (λj=>e (j+1)) (λj=>c (j+1)) fin l
 |[]=>rfl
 |i::r=>by
  rw[dC];unfold oh;rw[xu r]
theorem Si:∀{xs ys:List iW}{c:Bool},gx xs ys=some c->oh (pairEq xs ys) (r8 xs ys) (decide (xs.length<ys.length)) (eY (min xs.length ys.length))=c
 |[],[],c,h=>by cases h;rfl
 |[],_::_,c,h=>by cases h;simp[oh]
 |_::_,[],c,h=>by cases h;simp[oh]
 |x::xs,y::ys,c,h=>by
  obtain⟨a,b,h1,h2,rfl⟩:=um h;have e:min (x::xs).length (y::ys).length=min xs.length ys.length+1:=by simp
  have ih:=Si h2;rw[e,List.range_succ_eq_map];unfold oh;have e0:pairEq (x::xs) (y::ys) 0=eL x y:=rfl;have c0:r8 (x::xs) (y::ys) 0=a:=by simp[r8,h1]
  rw[e0,c0,show(Nat.succ:Nat->Nat)=(· +1)from rfl,xu];have d:(decide ((x::xs).length<(y::ys).length))=decide (xs.length<ys.length):=by simp
  rw[d];have e1:(λj=>pairEq (x::xs) (y::ys) (j+1))=pairEq xs ys:=rfl;have c1:(λj=>r8 (x::xs) (y::ys) (j+1))=r8 xs ys:=rfl;rw[e1,c1,ih]
mutual
theorem xw:∀(da db:iW)(A:fV)(s:dP)(a b:dG)(as bs:List Addr)(c:Bool),Reads s.heap a da as->Reads s.heap b db bs->da.canLay0=true->db.canLay0=true->A.units+min da.depth db.depth<gQ->
  CZ da db=some c->KR A s a b c
 |.int i,.int j,A,s,_,_,_,_,c,ra,rb,ha,hb,hu,h=>by
  cases ra;cases rb;cases h;exact λprog w E Q q=>(show dX _ _ (fH .Lt _ _) _ _ _ from PyProof.Rows.lt_int q)
 |.str i,.str j,A,s,_,_,_,_,c,ra,rb,ha,hb,hu,h=>by
  cases ra;cases rb;cases h;exact λprog w E Q q=>(show dX _ _ (fH .Lt _ _) _ _ _ from PyProof.Rows.lt_str q)
 |.tuple xs,.tuple ys,A,s,_,_,_,_,c,ra,rb,ha,hb,hu,h=>by
  cases ra with
  |@tuple l o vs n _ as₁ h1 h2 h3 h4=>
   cases rb with
   |@tuple l' o' vs' n' _ bs₁ k1 k2 k3 k4=>
    have h':gx xs ys=some c:=h;have n1:vs.size=xs.length:=by simpa using ReadsAll.length _ _ _ h4
    have n2:vs'.size=ys.length:=by simpa using ReadsAll.length _ _ _ k4
    obtain⟨cl,dd,dt,sl⟩:=o;obtain⟨cl',dd',dt',sl'⟩:=o';simp only at h2 h3 k2 k3;subst h2 h3 k2 k3;intro prog w E Q q;refine richCompare_meets_room (op:=.Lt) ⟨_,h1,rfl⟩ ⟨_,k1,rfl⟩ F.slot_tuple_lt F.entry_tuple_lt (F.args_tuple_lt_2 _ _) (PP l l' vs vs' n n' dd dd' sl sl' (pairEq xs ys) (r8 xs ys)) ⟨h1,k1,λj p r=>⟨?_,λ_=>?_⟩,?_⟩ (room_here hu)
    ·have z:=eqAt_readsAll xs ys A.in1 s vs.toList vs'.toList _ _ h4 k4 ha hb (room_in hu) j (by simpa using p) (by simpa using r);simpa using z
    ·have z:=wy xs ys A.in1 s vs.toList vs'.toList _ _ c h4 k4 ha hb (room_in hu) h' j (by simpa using p) (by simpa using r);simpa using z
    ·have e:=Si h';rw[<-n1,<-n2]at e;rw[e];exact show nL c≠Value.notImplemented/\Q (.bool c) s from⟨(λx=>nomatch x),q⟩
 |.none,_,_,_,_,_,_,_,_,_,_,_,_,_,h=>by cases h
 |.bool _,_,_,_,_,_,_,_,_,_,_,_,_,_,h=>by cases h
 |.list _,_,_,_,_,_,_,_,_,_,_,_,_,_,h=>by cases h
 |.dict _,_,_,_,_,_,_,_,_,_,_,_,_,_,h=>by cases h
 |.int _,.none,_,_,_,_,_,_,_,_,_,_,_,_,h=>by cases h
 |.int _,.bool _,_,_,_,_,_,_,_,_,_,_,_,_,h=>by cases h
 |.int _,.str _,_,_,_,_,_,_,_,_,_,_,_,_,h=>by cases h
 |.int _,.list _,_,_,_,_,_,_,_,_,_,_,_,_,h=>by cases h
 |.int _,.tuple _,_,_,_,_,_,_,_,_,_,_,_,_,h=>by cases h
 |.int _,.dict _,_,_,_,_,_,_,_,_,_,_,_,_,h=>by cases h
 |.str _,.none,_,_,_,_,_,_,_,_,_,_,_,_,h=>by cases h
 |.str _,.bool _,_,_,_,_,_,_,_,_,_,_,_,_,h=>by cases h
 |.str _,.int _,_,_,_,_,_,_,_,_,_,_,_,_,h=>by cases h
 |.str _,.list _,_,_,_,_,_,_,_,_,_,_,_,_,h=>by cases h
 |.str _,.tuple _,_,_,_,_,_,_,_,_,_,_,_,_,h=>by cases h
 |.str _,.dict _,_,_,_,_,_,_,_,_,_,_,_,_,h=>by cases h
 |.tuple _,.none,_,_,_,_,_,_,_,_,_,_,_,_,h=>by cases h
 |.tuple _,.bool _,_,_,_,_,_,_,_,_,_,_,_,_,h=>by cases h
 |.tuple _,.int _,_,_,_,_,_,_,_,_,_,_,_,_,h=>by cases h
 |.tuple _,.str _,_,_,_,_,_,_,_,_,_,_,_,_,h=>by cases h
 |.tuple _,.list _,_,_,_,_,_,_,_,_,_,_,_,_,h=>by cases h
 |.tuple _,.dict _,_,_,_,_,_,_,_,_,_,_,_,_,h=>by cases h
theorem wy:∀(xs ys:List iW)(A:fV)(s:dP)(vs ws:List dG)(as bs:List Addr)(c:Bool),rB s.heap vs xs as->rB s.heap ws ys bs->dO xs=true->dO ys=true->
  A.units+min (eU xs) (eU ys)<gQ->gx xs ys=some c->∀j (p:j<vs.length) (q:j<ws.length),KR A s vs[j] ws[j] (r8 xs ys j)
 |[],_,_,_,_,_,_,_,_,ra,_,_,_,_,_,j,p,_=>by cases ra;exact absurd p (pI _)
 |_::_,[],_,_,_,_,_,_,_,_,rb,_,_,_,_,j,_,q=>by cases rb;exact absurd q (pI _)
 |x::xs,y::ys,A,s,_,_,_,_,c,ra,rb,ha,hb,hu,h,j,p,q=>by
  have ha':x.canLay0=true/\dO xs=true:=by simpa[dO]using ha
  have hb':y.canLay0=true/\dO ys=true:=by simpa[dO]using hb
  obtain⟨a,b,h1,h2,_⟩:=um h;cases ra with
  |cons r rs=>
   cases rb with
   |cons r' rs'=>
    cases j with
    |zero=>
     have e:r8 (x::xs) (y::ys) 0=a:=by simp[r8,h1]
     rw[e];exact xw x y A s _ _ _ _ a r r' ha'.1 hb'.1 (room_head hu) h1
    |succ j=>exact wy xs ys A s _ _ _ _ b rs rs' ha'.2 hb'.2 (room_tail hu) h2 j (lR p) (lR q)
end
def KS(A:fV)(s:dP)(y x:dG)(b:Bool):Prop:=
 ∀(prog:eS)(w:fI)(E:dG->dP->Prop)(Q:dG->dP->Prop),Q (.bool b) s->dX (eJ prog w) A (richCompare .LtE y x) Q E s
def PQ(l m:Addr)(xs ys:Array dG)(n k:Nat)(dd dm:Option Addr)(sl sm:Array (Option dG))(e c:Nat->Bool):
  Meets (Builtin.«tuple.__le__» ⟨[.ref l,.ref m],[]⟩) (λA R s=>
   s.heap.get? l=some {cls:=.type "tuple",dict:=dd,data:=.seq xs n,slots:=sl}/\
   s.heap.get? m=some {cls:=.type "tuple",dict:=dm,data:=.seq ys k,slots:=sm}/\
   (∀j (p:j<xs.size) (q:j<ys.size),EqAt A.in1 s xs[j] ys[j] (e j)/\(e j=false->KS A.in1 s xs[j] ys[j] (c j)))/\
   R (.ok (.ret (.bool (oh e c (decide (xs.size<=ys.size)) (eY (min xs.size ys.size)))))) s):=
 .of_wp λprog w A R s h=>by
  obtain⟨hp,g,d,tk,os⟩:=s;obtain⟨hl,hm,he,h⟩:=h;have f2:=nC;have hZ:(xs.toList.zip ys.toList).length=min xs.size ys.size:=by simp
  wp_walk using pH hl,pH hm,hJ _ (λrest b s'=>b.1=none/\s'=⟨hp,g,d,tk,os⟩/\∃i,
   rest=(xs.toList.zip ys.toList).drop i/\R (.ok (.ret (.bool (oh e c (decide (xs.size<=ys.size)) ((eY (min xs.size ys.size)).drop i))))) ⟨hp,g,d,tk,os⟩) _
  case turn=>
   rintro ⟨y,x⟩ rest b s' ⟨hb',rfl,i,hz,hR⟩
   have lt0:i<(xs.toList.zip ys.toList).length:=by
    by_cases z:i<(xs.toList.zip ys.toList).length
    ·exact z
    ·rw[jB (oR z)]at hz;cases hz
   have lt1:i<min xs.size ys.size:=by rw[<-hZ];exact lt0
   have p:i<xs.size:=by lia
   have q:i<ys.size:=by lia
   rw[fN lt0]at hz;injection hz with hyx hrest
   obtain rfl:y=xs[i]:=by simpa using congrArg Prod.fst hyx
   obtain rfl:x=ys[i]:=by simpa using congrArg Prod.snd hyx
   have hd:(eY (min xs.size ys.size)).drop i=i::(eY (min xs.size ys.size)).drop (i+1):=by simp[fN,lt1]
   rw[hd]at hR;refine dA ((he i p q).1 prog w _ _ ?_);cases hy:e i with
   |true=>
    simp only[oh,hy,if_true]at hR
    wp_walk
    exact⟨rfl,rfl,i+1,hrest,hR⟩
   |false=>
    simp only[oh,hy,Bool.false_eq_true,if_false]at hR;rw[dJ (show(!false)=true from rfl)];refine dA (lJ (dA ((he i p q).2 hy prog w _ _ ?_)))
    wp_walk
    exact⟨_,rfl,hR⟩
  case fin=>
   rintro ⟨b1,b2⟩ s' ⟨hb',rfl,i,hz,hR⟩
   simp only at hb';subst hb';have ge0:min xs.size ys.size<=i:=by
    by_cases z:i<(xs.toList.zip ys.toList).length
    ·rw[fN z]at hz;cases hz
    ·lia
   rw[jB (by simpa using ge0)]at hR
   wp_walk
   exact⟨_,rfl,by simpa[oK,oh]using hR⟩
  case h=>exact⟨rfl,rfl,0,rfl,by simpa using h⟩
mutual
def Yh:iW->iW->Option Bool
 |.int i,.int j=>some (decide (i<=j))
 |.str x,.str y=>some (!decide (y.cps.toList<x.cps.toList))
 |.tuple xs,.tuple ys=>ip xs ys
 |_,_=>none
def ip:List iW->List iW->Option Bool
 |[],[]=>some true
 |[],_::_=>some true
 |_::_,[]=>some false
 |x::xs,y::ys=>match Yh x y,ip xs ys with
  |some a,some b=>some (if eL x y then b else a)
  |_,_=>none
end
def rq(xs ys:List iW)(j:Nat):Bool:=match xs[j]?,ys[j]? with
 |some x,some y=>(Yh x y).getD false
 |_,_=>false
def Bp(h:ip (x::xs) (y::ys)=some c):∃a b,Yh x y=some a/\ip xs ys=some b/\c=if eL x y then b else a:=by
 rw[ip]at h;cases h1:Yh x y with
 |none=>rw[h1]at h;cases h
 |some a=>
  cases h2:ip xs ys with
  |none=>rw[h1,h2]at h;cases h
  |some b=>rw[h1,h2]at h;cases h;exact⟨a,b,rfl,rfl,rfl⟩
theorem L8:∀{xs ys:List iW}{c:Bool},ip xs ys=some c->oh (pairEq xs ys) (rq xs ys) (decide (xs.length<=ys.length)) (eY (min xs.length ys.length))=c
 |[],[],c,h=>by cases h;rfl
 |[],_::_,c,h=>by cases h;simp[oh]
 |_::_,[],c,h=>by cases h;simp[oh]
 |x::xs,y::ys,c,h=>by
  obtain⟨a,b,h1,h2,rfl⟩:=Bp h;have e:min (x::xs).length (y::ys).length=min xs.length ys.length+1:=by simp
  have ih:=L8 h2;rw[e,List.range_succ_eq_map];unfold oh;have e0:pairEq (x::xs) (y::ys) 0=eL x y:=rfl;have c0:rq (x::xs) (y::ys) 0=a:=by simp[rq,h1]
  rw[e0,c0,show(Nat.succ:Nat->Nat)=(· +1)from rfl,xu];have d:(decide ((x::xs).length<=(y::ys).length))=decide (xs.length<=ys.length):=by simp
  rw[d];have e1:(λj=>pairEq (x::xs) (y::ys) (j+1))=pairEq xs ys:=rfl;have c1:(λj=>rq (x::xs) (y::ys) (j+1))=rq xs ys:=rfl;rw[e1,c1,ih]
mutual
theorem Ef:∀(da db:iW)(A:fV)(s:dP)(a b:dG)(as bs:List Addr)(c:Bool),Reads s.heap a da as->Reads s.heap b db bs->da.canLay0=true->db.canLay0=true->A.units+min da.depth db.depth<gQ->
  Yh da db=some c->KS A s a b c
 |.int i,.int j,A,s,_,_,_,_,c,ra,rb,ha,hb,hu,h=>by
  cases ra;cases rb;cases h;exact λprog w E Q q=>(show dX _ _ (fH .LtE _ _) _ _ _ from PyProof.Rows.le_int q)
 |.str i,.str j,A,s,_,_,_,_,c,ra,rb,ha,hb,hu,h=>by
  cases ra;cases rb;cases h;exact λprog w E Q q=>(show dX _ _ (fH .LtE _ _) _ _ _ from PySem.P.le_str q)
 |.tuple xs,.tuple ys,A,s,_,_,_,_,c,ra,rb,ha,hb,hu,h=>by
  cases ra with
  |@tuple l o vs n _ as₁ h1 h2 h3 h4=>
   cases rb with
   |@tuple l' o' vs' n' _ bs₁ k1 k2 k3 k4=>
    have h':ip xs ys=some c:=h;have n1:vs.size=xs.length:=by simpa using ReadsAll.length _ _ _ h4
    have n2:vs'.size=ys.length:=by simpa using ReadsAll.length _ _ _ k4
    obtain⟨cl,dd,dt,sl⟩:=o;obtain⟨cl',dd',dt',sl'⟩:=o';simp only at h2 h3 k2 k3;subst h2 h3 k2 k3;intro prog w E Q q;refine richCompare_meets_room (op:=.LtE) ⟨_,h1,rfl⟩ ⟨_,k1,rfl⟩ F.slot_tuple_le F.entry_tuple_le (F.args_tuple_le_2 _ _) (PQ l l' vs vs' n n' dd dd' sl sl' (pairEq xs ys) (rq xs ys)) ⟨h1,k1,λj p r=>⟨?_,λ_=>?_⟩,?_⟩ (room_here hu)
    ·have z:=eqAt_readsAll xs ys A.in1 s vs.toList vs'.toList _ _ h4 k4 ha hb (room_in hu) j (by simpa using p) (by simpa using r);simpa using z
    ·have z:=wu xs ys A.in1 s vs.toList vs'.toList _ _ c h4 k4 ha hb (room_in hu) h' j (by simpa using p) (by simpa using r);simpa using z
    ·have e:=L8 h';rw[<-n1,<-n2]at e;rw[e];exact show nL c≠Value.notImplemented/\Q (.bool c) s from⟨(λx=>nomatch x),q⟩
 |.none,_,_,_,_,_,_,_,_,_,_,_,_,_,h=>by cases h
 |.bool _,_,_,_,_,_,_,_,_,_,_,_,_,_,h=>by cases h
 |.list _,_,_,_,_,_,_,_,_,_,_,_,_,_,h=>by cases h
 |.dict _,_,_,_,_,_,_,_,_,_,_,_,_,_,h=>by cases h
 |.int _,.none,_,_,_,_,_,_,_,_,_,_,_,_,h=>by cases h
 |.int _,.bool _,_,_,_,_,_,_,_,_,_,_,_,_,h=>by cases h
 |.int _,.str _,_,_,_,_,_,_,_,_,_,_,_,_,h=>by cases h
 |.int _,.list _,_,_,_,_,_,_,_,_,_,_,_,_,h=>by cases h
 |.int _,.tuple _,_,_,_,_,_,_,_,_,_,_,_,_,h=>by cases h
 |.int _,.dict _,_,_,_,_,_,_,_,_,_,_,_,_,h=>by cases h
 |.str _,.none,_,_,_,_,_,_,_,_,_,_,_,_,h=>by cases h
 |.str _,.bool _,_,_,_,_,_,_,_,_,_,_,_,_,h=>by cases h
 |.str _,.int _,_,_,_,_,_,_,_,_,_,_,_,_,h=>by cases h
 |.str _,.list _,_,_,_,_,_,_,_,_,_,_,_,_,h=>by cases h
 |.str _,.tuple _,_,_,_,_,_,_,_,_,_,_,_,_,h=>by cases h
 |.str _,.dict _,_,_,_,_,_,_,_,_,_,_,_,_,h=>by cases h
 |.tuple _,.none,_,_,_,_,_,_,_,_,_,_,_,_,h=>by cases h
 |.tuple _,.bool _,_,_,_,_,_,_,_,_,_,_,_,_,h=>by cases h
 |.tuple _,.int _,_,_,_,_,_,_,_,_,_,_,_,_,h=>by cases h
 |.tuple _,.str _,_,_,_,_,_,_,_,_,_,_,_,_,h=>by cases h
 |.tuple _,.list _,_,_,_,_,_,_,_,_,_,_,_,_,h=>by cases h
 |.tuple _,.dict _,_,_,_,_,_,_,_,_,_,_,_,_,h=>by cases h
theorem wu:∀(xs ys:List iW)(A:fV)(s:dP)(vs ws:List dG)(as bs:List Addr)(c:Bool),rB s.heap vs xs as->rB s.heap ws ys bs->dO xs=true->dO ys=true->
  A.units+min (eU xs) (eU ys)<gQ->ip xs ys=some c->∀j (p:j<vs.length) (q:j<ws.length),KS A s vs[j] ws[j] (rq xs ys j)
 |[],_,_,_,_,_,_,_,_,ra,_,_,_,_,_,j,p,_=>by cases ra;exact absurd p (pI _)
 |_::_,[],_,_,_,_,_,_,_,_,rb,_,_,_,_,j,_,q=>by cases rb;exact absurd q (pI _)
 |x::xs,y::ys,A,s,_,_,_,_,c,ra,rb,ha,hb,hu,h,j,p,q=>by
  have ha':x.canLay0=true/\dO xs=true:=by simpa[dO]using ha
  have hb':y.canLay0=true/\dO ys=true:=by simpa[dO]using hb
  obtain⟨a,b,h1,h2,_⟩:=Bp h;cases ra with
  |cons r rs=>
   cases rb with
   |cons r' rs'=>
    cases j with
    |zero=>
     have e:rq (x::xs) (y::ys) 0=a:=by simp[rq,h1]
     rw[e];exact Ef x y A s _ _ _ _ a r r' ha'.1 hb'.1 (room_head hu) h1
    |succ j=>exact wu xs ys A s _ _ _ _ b rs rs' ha'.2 hb'.2 (room_tail hu) h2 j (lR p) (lR q)
end
def aC(d e:D):Option Bool:=match cg d,cg e with
 |some p,some q=>if eX p && eX q then CZ p q else none
 |_,_=>none
def WX(d e:D):Option Bool:=match cg d,cg e with
 |some p,some q=>if eX p && eX q then Yh p q else none
 |_,_=>none
def By(d e:D):Option D:=match UY d e with
 |some r=>some r
 |none=>(aC d e).map .bl
def uu(d e:D):Option D:=match UZ d e with
 |some r=>some r
 |none=>(WX d e).map .bl
def Ht{f:iW->iW->Option Bool}{d e:D}{b:Bool}(h:(match cg d,cg e with
 |some p,some q=>if(eX p && eX q)=true then f p q else none
 |_,_=>none)=some b):∃p q,cg d=some p/\cg e=some q/\eX p=true/\eX q=true/\f p q=some b:=by
 cases e1:cg d with
 |none=>rw[e1]at h;cases h
 |some p=>
  cases e2:cg e with
  |none=>rw[e1,e2]at h;cases h
  |some q=>
   rw[e1,e2]at h;dsimp only at h
   by_cases hs:(eX p && eX q)=true
   ·rw[dJ hs]at h;rw[dQ]at hs;exact⟨p,q,rfl,rfl,hs.1,hs.2,h⟩
   ·rw[dM hs]at h;cases h
section
variable{X:Cx}
def OR(K:KA)(f:D->D->Option Bool):R2:=λx y H Q=>∃G dx dy b,Same G H/\Arg K G H dx x/\Arg K G H dy y/\f dx dy=some b/\Q (.bl b) H
def MQ(hu:X.A.units+64<gQ):OpR X (fH .Lt) (OR (kx X) aC):=by
 intro pins s U H x y v u Q I rx ry q;obtain⟨G,dx,dy,b,sg,ax,ay,eb,q⟩:=q;obtain⟨p,p',e1,e2,s1,s2,eb⟩:=Ht eb;obtain⟨as,ra⟩:=cq I sg ax rx e1;obtain⟨bs,rb⟩:=cq I sg ay ry e2;exact xw p p' X.A s v u as bs b ra rb (canLay_of_shaped s1) (canLay_of_shaped s2) (room_of_shaped s1 hu) eb X.prog X.w _ _ ⟨.bl b,H,I,rfl,q⟩
def MR(hu:X.A.units+64<gQ):OpR X (fH .LtE) (OR (kx X) WX):=by
 intro pins s U H x y v u Q I rx ry q;obtain⟨G,dx,dy,b,sg,ax,ay,eb,q⟩:=q;obtain⟨p,p',e1,e2,s1,s2,eb⟩:=Ht eb;obtain⟨as,ra⟩:=cq I sg ax rx e1;obtain⟨bs,rb⟩:=cq I sg ay ry e2;exact Ef p p' X.A s v u as bs b ra rb (canLay_of_shaped s1) (canLay_of_shaped s2) (room_of_shaped s1 hu) eb X.prog X.w _ _ ⟨.bl b,H,I,rfl,q⟩
def M6{K:KA}{c:Int->Int->Bool}{f:D->D->Option Bool}{g:D->D->Option D}(hg:∀d e,g d e=match wz c d e with
 |some r=>some r
 |none=>(f d e).map .bl):g9 K g (λx y H Q=>Z6 (λi j=>.bl (c i j)) x y H Q\/OR K f x y H Q):=λG H x y dx dy d sg ax ay ed Q q=>by
 rw[hg]at ed;cases h:wz c dx dy with
 |some r=>rw[h]at ed;cases ed;exact .inl (Ey G H x y dx dy d sg ax ay h Q q)
 |none=>
  rw[h]at ed;cases e:f dx dy with
  |none=>rw[e]at ed;cases ed
  |some b=>rw[e]at ed;cases ed;exact .inr ⟨G,dx,dy,b,sg,ax,ay,e,q _ G H (Ext.refl sg) rfl⟩
def Y1{c:Int->Int->Bool}{f:D->D->Option Bool}{g:D->D->Option D}(hg:∀d e,g d e=match wz c d e with
 |some r=>some r
 |none=>(f d e).map .bl) (x y d:D) (ed:g x y=some d):∃b,d=.bl b:=by
 rw[hg]at ed;cases h:wz c x y with
 |some r=>rw[h]at ed;cases ed;exact Oj _ _ _ h
 |none=>rw[h]at ed;exact Em (f:=id) ed
end
end Pu
end
section
namespace Pu
open PySem PySem.Spec PyProof.Rows L2
def tj(d e:D):Option D:=match e with
 |.dct false kvs=>(bw d).map λj=>.bl (bq kvs j).isSome
 |e=>Ga d e
def c7(d e:D):Option D:=match e with
 |.dct false kvs=>(bw d).map λj=>.bl !(bq kvs j).isSome
 |e=>ja d e
section
variable{X:Cx}
def E5(neg:Bool):R2:=λx y H Q=>∃a o,y=.ref a/\DGet H a x o/\Q (.bl (if neg then !o.isSome else o.isSome)) H
def Yx(hu:X.A.units+5<gQ):OpR X (fH .In) (E5 false):=by
 intro pins s U H x y v u Q I rx ry q;obtain⟨a,o,rfl,dg,q⟩:=q;cases ry;exact ZU hu I dg rx λs' I'=>⟨.bl o.isSome,H,I',rfl,q⟩
def Mw(hu:X.A.units+5<gQ):OpR X (fH .NotIn) (E5 true):=by
 intro pins s U H x y v u Q I rx ry q;obtain⟨a,o,rfl,dg,q⟩:=q;cases ry;exact CL hu I dg rx λs' I'=>⟨.bl !o.isSome,H,I',rfl,q⟩
def Xv{K:KA}{neg:Bool}{G H:Hp}{x y:V}{dx d:D}{kvs:List (D×D)}(sg:Same G H)(ax:Arg K G H dx x)(ay:Arg K G H (.dct false kvs) y)(ed:((bw dx).map λj=>D.bl (if neg then !(bq kvs j).isSome else(bq kvs j).isSome))=some d)(Q:VK)(q:∀v G' H',Ext G H G' H'->Den K G' d v->Q v H'):E5 neg x y H Q:=by
 cases ek:bw dx with
 |none=>rw[ek]at ed;cases ed
 |some j=>
  rw[ek]at ed;cases ed;obtain⟨l,es,rfl,h1,dl⟩:=Arg.dctK sg ay;rw[ou ax ek];have e:(bq kvs j).isSome=(ly es j).isSome:=by
   cases el:bq kvs j with
   |none=>rw[(dl.look j).2 el];rfl
   |some d=>obtain⟨v,ev,_⟩:=(dl.look j).1 d el;rw[ev];rfl
  refine⟨l,ly es j,rfl,DGet.k h1,q _ G H (Ext.refl sg) ?_⟩;show Den K G (.bl (if neg=true then !(bq kvs j).isSome else(bq kvs j).isSome)) _;rw[e];rfl
def Zm:g9 (kx X) tj (λx y H Q=>Vp (kx X) false x y H Q\/E5 false x y H Q):=λG H x y dx dy d sg ax ay ed Q q=>by
 unfold tj at ed;split at ed
 ·exact .inr (Xv (neg:=false) sg ax ay ed Q q)
 ·exact .inl (FD G H x y dx _ d sg ax ay ed Q q)
def M5:g9 (kx X) c7 (λx y H Q=>Vp (kx X) true x y H Q\/E5 true x y H Q):=λG H x y dx dy d sg ax ay ed Q q=>by
 unfold c7 at ed;split at ed
 ·exact .inr (Xv (neg:=true) sg ax ay ed Q q)
 ·exact .inl (P4 G H x y dx _ d sg ax ay ed Q q)
def LO(x y d:D)(h:tj x y=some d):∃b,d=.bl b:=by
 unfold tj at h;split at h
 ·obtain⟨j,_,rfl⟩:=Option.map_eq_some_iff.mp h;exact⟨_,rfl⟩
 ·exact Em (f:=id) h
def U7(x y d:D)(h:c7 x y=some d):∃b,d=.bl b:=by
 unfold c7 at h;split at h
 ·obtain⟨j,_,rfl⟩:=Option.map_eq_some_iff.mp h;exact⟨_,rfl⟩
 ·exact Em (f:=λb=> !b) h
end
abbrev Ev:=SC->Expr->En->Res
def jd(T:GT)(ev:Ev):Prop:=∀X C B (E:XK) e,XOk X C T E->fq X B (ek (kx X) E) e (ev C e)
def Fv(T:GT)(tv:Ev):Prop:=∀X C B (E:XK) e,XOk X C T E->Fu X B (ek (kx X) E) e (tv C e)
section
variable{X:Cx}{B:Hp}{E:EK}{e a b:Expr}{es:List Expr}{g h:En->Res}{pos:Pos}
def H8:D->Option D
 |.int i=>some (.int (-i))
 |_=>none
def ND(ha:jc X B E a g):fq X B E (.UnaryOp .USub a pos) (g1 H8 g):=TH PL (λG H x dx d sg ax ed Q q=>by
 cases dx with
 |int i=>cases ed;exact⟨i,ax.int,q _ G H (Ext.refl sg) rfl⟩
 |_=>cases ed) ha
def j7:D->Bool
 |.non=>true
 |_=>false
def l8:D->D->Option D
 |d,.non=>some (.bl (j7 d))
 |.bl b,.bl c=>some (.bl (b==c))
 |.non,.bl _=>some (.bl false)
 |_,_=>none
noncomputable def i8:D->D->Option D
 |d,.non=>some (.bl (!j7 d))
 |.bl b,.bl c=>some (.bl (!(b==c)))
 |.non,.bl _=>some (.bl true)
 |_,_=>none
def A7{K:KA}{G H:Hp}{d:D}{v:V}(h:Arg K G H d v):decide (v=.non)=j7 d:=by
 rcases h with h|⟨ds,a,vs,rfl,rfl,_⟩|⟨t,kvs,a,rfl,rfl,_⟩
 ·cases d with
  |non=>cases (show v=.non from h);rfl
  |bl b=>cases (show v=.bl b from h);rfl
  |int b=>cases (show v=.int b from h);rfl
  |str b=>cases (show v=.str b from h);rfl
  |tup ds=>obtain⟨a,vs,rfl,_⟩:=h;rfl
  |lst ds=>obtain⟨a,vs,rfl,_⟩:=h;rfl
  |dct t kvs=>obtain⟨a,rfl,_⟩:=h;rfl
  |obj C fs=>obtain⟨a,vs,rfl,_⟩:=h;rfl
  |fn f=>cases (show v=.ref _ from h);rfl
 ·rfl
 ·rfl
def GD(f:Bool->Bool):R2:=λx y H Q=>(∃b c,x=.bl b/\y=.bl c/\Q (.bl (f (b==c))) H)\/∃c,x=.non/\y=.bl c/\Q (.bl (f false)) H
def MT:OpR X (fH .Is) (GD id):=by
 intro pins s U H x y v u Q I rx ry h;rcases h with ⟨b,c,rfl,rfl,q⟩|⟨c,rfl,rfl,q⟩
 ·cases rx;cases ry;exact wpAny_is_plain rfl ⟨.bl (b==c),H,I,(by cases b<;>cases c<;>rfl),q⟩
 ·cases rx;cases ry;exact wpAny_is_plain rfl ⟨.bl false,H,I,rfl,q⟩
def FZ:OpR X (fH .IsNot) (GD λb=> !b):=by
 intro pins s U H x y v u Q I rx ry h;rcases h with ⟨b,c,rfl,rfl,q⟩|⟨c,rfl,rfl,q⟩
 ·cases rx;cases ry;exact wpAny_isNot_plain rfl ⟨.bl (!(b==c)),H,I,(by cases b<;>cases c<;>rfl),q⟩
 ·cases rx;cases ry;exact wpAny_isNot_plain rfl ⟨.bl true,H,I,rfl,q⟩
def Zn{K:KA}:g9 K l8 (λx y H Q=>(y=.non/\Q (.bl (decide (x=.non))) H)\/GD id x y H Q):=λG H x y dx dy d sg ax ay ed Q q=>by
 unfold l8 at ed;split at ed
 ·cases ed;refine .inl ⟨ay.non,?_⟩;rw[A7 ax];exact q _ G H (Ext.refl sg) rfl
 ·cases ed;exact .inr (.inl ⟨_,_,ax.bl,ay.bl,q _ G H (Ext.refl sg) rfl⟩)
 ·cases ed;exact .inr (.inr ⟨_,ax.non,ay.bl,q _ G H (Ext.refl sg) rfl⟩)
 ·cases ed
def M4{K:KA}:g9 K i8 (λx y H Q=>(y=.non/\Q (.bl (!decide (x=.non))) H)\/GD (λb=> !b) x y H Q):=λG H x y dx dy d sg ax ay ed Q q=>by
 unfold i8 at ed;split at ed
 ·cases ed;refine .inl ⟨ay.non,?_⟩;rw[A7 ax];exact q _ G H (Ext.refl sg) rfl
 ·cases ed;exact .inr (.inl ⟨_,_,ax.bl,ay.bl,q _ G H (Ext.refl sg) rfl⟩)
 ·cases ed;exact .inr (.inr ⟨_,ax.non,ay.bl,q _ G H (Ext.refl sg) rfl⟩)
 ·cases ed
def Xz(hf:f=l8\/f=i8)(x y d:D)(h:f x y=some d):∃b,d=.bl b:=by
 rcases hf with rfl|rfl
 ·unfold l8 at h;split at h<;>first|(cases h;exact⟨_,rfl⟩)|cases h
 ·unfold i8 at h;split at h<;>first|(cases h;exact⟨_,rfl⟩)|cases h
noncomputable def I9:CmpOp->Option (D->D->Option D)
 |.Eq=>some dh
 |.NotEq=>some ib
 |.Lt=>some By
 |.LtE=>some uu
 |.Gt=>some Ax
 |.GtE=>some TC
 |.In=>some tj
 |.NotIn=>some c7
 |.Is=>some l8
 |.IsNot=>some i8
def Cj(hf:I9 op=some f)(hu:X.A.units+65<gQ):∃r,OpR X (fH op) r/\g9 (kx X) f r/\∀x y d,f x y=some d->∃b,d=.bl b:=by
 cases op<;>cases hf
 ·exact⟨_,MV (by lia),FE,λ_ _ _ h=>Em (f:=id) h⟩
 ·exact⟨_,MN (by lia),FA,λ_ _ _ h=>Em (f:=λb=> !b) h⟩
 ·exact⟨_,SG.or (MQ (by lia)),M6 λ_ _=>rfl,Y1 λ_ _=>rfl⟩
 ·exact⟨_,SH.or (MR (by lia)),M6 λ_ _=>rfl,Y1 λ_ _=>rfl⟩
 ·exact⟨_,SI,Ey,Oj⟩
 ·exact⟨_,SJ,Ey,Oj⟩
 ·exact⟨_,MS.or MT,Zn,Xz (.inl rfl)⟩
 ·exact⟨_,FY.or FZ,M4,Xz (.inr rfl)⟩
 ·exact⟨_,(MU hu).or (Yx (by lia)),Zm,LO⟩
 ·exact⟨_,(Vb hu).or (Mw (by lia)),M5,U7⟩
end
def lr(ev:Ev)(C:SC)(e:Expr):En->Res:=match e with
 | .Name x _ => (match slot C x with
  |some i=>ah i
  |none=>ev C e)
 |_=>ev C e
noncomputable def LS(ev:Ev)(C:SC):List Bool->List Expr->En->ResL
 |[],[]=>ao
 |m::ms,e::es=>af (if m then lr ev C e else ev C e) (LS ev C ms es)
 |_,_=>LR
def wm(ev:Ev)(C:SC):List Expr->En->ResL
 |[]=>ao
 |e::es=>af (ev C e) (wm ev C es)
noncomputable def Fl(T:GT)(C:SC)(x:Str):En->Res:=match slot C x with
 |some i=>bc i
 | none => if Kp C x then (match T.gstr x with
  |some y=>gC (.str y)
  | none => (match T.fns x with
   |some _=>gC (.fn x)
   |none=>jq))else jq
def Lq(f:Expr->En->Res):List Expr->En->Res
 |[]=>jq
 |[a]=>f a
 |a::r=>jv (f a) (Lq f r)
def Xo(f:Expr->En->Res):List Expr->En->Res
 |[]=>jq
 |[a]=>f a
 |a::r=>vi (f a) (Xo f r)
noncomputable def zg(ev:Ev)(C:SC)(l:Expr)(ops:List CmpOp)(rs:List Expr):En->Res:=match ops,rs with
 | [op], [r] => (match I9 op with
  |some f=>if l7 r then g2 f (lr ev C l) (lr ev C r)else jq
  |none=>jq)
 | [op, op'], [m, r] => (match I9 op, I9 op' with
  |some f,some f'=>if l7 r then xn f f' (lr ev C l) (lr ev C m) (lr ev C r)else jq
  |_,_=>jq)
 |_,_=>jq
section
variable{T:GT}{ev tv:Ev}{X:Cx}{C:SC}{B:Hp}{E:XK}{pos:Pos}
def cy(h:jd T ev)(O:XOk X C T E)(e:Expr):jc X B (ek (kx X) E) e (lr ev C e):=by
 have d:jc X B (ek (kx X) E) e (ev C e):=TR (h X C B E e O);cases e with
 |Name x p=>
  show jc X B _ _ (match slot C x with
   |some i=>ah i
   |none=>ev C (.Name x p))
  cases es:slot C x with
  |none=>exact d
  |some i=>exact KN i (O.var es)
 |_=>exact d
theorem Gf(h:jd T ev)(O:XOk X C T E):∀{ms:List Bool}{es:List Expr},es.all iy=true->Q6 X B (ek (kx X) E) ms es (LS ev C ms es)
 |[],[],_=>ik
 |[],_::_,_=>IJ
 |_::_,[],_=>IJ
 |m::ms,e::es,hs=>by
  rw[fT,dQ]at hs;cases m with
  |true=>exact fe (cy h O e) (Gf h O hs.2) (a8 hs.1)
  |false=>exact Da (h X C B E e O) (Gf h O hs.2) (a8 hs.1)
theorem ym(h:jd T ev)(O:XOk X C T E):∀{es:List Expr},es.all iy=true->Q6 X B (ek (kx X) E) (es.map λ_=>false) es (wm ev C es)
 |[],_=>ik
 |e::es,hs=>by
  rw[fT,dQ]at hs;exact Da (h X C B E e O) (ym h O hs.2) (a8 hs.1)
theorem yg:∀{es:List Expr},Iu (es.map λ_=>false)=true
 |[]=>rfl
 |_::es=>by
  show(!false && Iu (es.map λ_=>false))=true;rw[yg (es:=es)];rfl
def ER(O:XOk X C T E):fq X B (ek (kx X) E) (.Name x pos) (Fl T C x):=by
 unfold Fl;cases es:slot C x with
 |some i=>exact OW i (O.var es)
 |none=>
  dsimp only
  by_cases hg:Kp C x=true
  ·rw[dJ hg];obtain⟨g1,g2⟩:=O.gl hg;cases e1:T.gstr x with
   |some y=>
    obtain⟨t,q⟩:=O.gstr x y e1;exact GP g1 q g2
   |none=>
    cases e2:T.fns x with
    |some s=>
     obtain⟨k,f,fd,ps,_,q,_⟩:=O.fns x s e2;exact NL g1 q g2
    |none=>exact ck
  ·rw[dM hg];exact ck
theorem Q8{E:EK}(h:∀e,fq X B E e (f e)):∀{vs:List Expr},fq X B E (.BoolOp .And vs pos) (Lq f vs)
 |[]=>ck
 |[a]=>Zy (h a)
 |a::b::r=>NO (h a) (Q8 h (vs:=b::r))
theorem Yy{E:EK}(h:∀e,fq X B E e (f e)):∀{vs:List Expr},fq X B E (.BoolOp .Or vs pos) (Xo f vs)
 |[]=>ck
 |[a]=>Zy (h a)
 |a::b::r=>TJ (h a) (Yy h (vs:=b::r))
def JN{E:EK}{e:Expr}:BB X B E e jq:=λwh pins s U H Q I ⟨G,δ,R,q⟩=>q.elim
theorem Q9{E:EK}(h:∀e,Fu X B E e (f e)):∀{vs:List Expr},BB X B E (.BoolOp .And vs pos) (Lq f vs)
 |[]=>JN
 |[a]=>Z4 (h a)
 |a::b::r=>GI (h a) (Q9 h (vs:=b::r))
theorem Yz{E:EK}(h:∀e,Fu X B E e (f e)):∀{vs:List Expr},BB X B E (.BoolOp .Or vs pos) (Xo f vs)
 |[]=>JN
 |[a]=>GG (h a)
 |a::b::r=>OU (h a) (Yz h (vs:=b::r))
def W3(h:jd T ev)(O:XOk X C T E):fq X B (ek (kx X) E) (.Compare l ops rs pos) (zg ev C l ops rs)/\Fu X B (ek (kx X) E) (.Compare l ops rs pos) (zg ev C l ops rs):=by
 unfold zg;split
 ·rename_i op r;cases hf:I9 op with
  |none=>exact⟨ck,Bu⟩
  |some f=>
   dsimp only
   by_cases hs:l7 r=true
   ·rw[dJ hs];obtain⟨rr,h1,h2,h3⟩:=Cj (X:=X) hf O.units;exact⟨NM h1 h2 (cy h O l) (cy h O r) (o7 hs),GW h1 h2 h3 (cy h O l) (cy h O r) (o7 hs)⟩
   ·rw[dM hs];exact⟨ck,Bu⟩
 ·rename_i op op' m r;cases hf:I9 op with
  |none=>exact⟨ck,Bu⟩
  |some f=>
   cases hf':I9 op' with
   |none=>exact⟨ck,Bu⟩
   |some f'=>
    dsimp only
    by_cases hs:l7 r=true
    ·rw[dJ hs];obtain⟨rr,h1,h2,h3⟩:=Cj (X:=X) hf O.units;obtain⟨rr',h1',h2',h3'⟩:=Cj (X:=X) hf' O.units;exact⟨Zv h1 h2 h1' h2' (cy h O l) (cy h O m) (cy h O r) (Eo hs),Vi h1 h2 h1' h2' h3' (cy h O l) (cy h O m) (cy h O r) (Eo hs)⟩
    ·rw[dM hs];exact⟨ck,Bu⟩
 ·exact⟨ck,Bu⟩
end
section
variable{X:Cx}{pins:List (Addr×Obj)}{U:St}{G H:Hp}{s:dP}{B:Hp}{E:EK}{e a b:Expr}{g h:En->Res}{pos p:Pos}
def ma:List D->Option (List Bool)
 |[]=>some []
 |.bl b::r=>(ma r).map (b::·)
 |_::_=>none
theorem Bc{K:KA}:∀{ds:List D}{bs:List Bool}{vs:List V}{us:List dG},ma ds=some bs->DenL K G ds vs->Vals vs us->us=bs.map nL
 |[],bs,vs,us,h,d,r=>by cases h;cases (show vs=[]from d);cases r;rfl
 |d::ds,bs,vs,us,h,dl,r=>by
  obtain⟨v,vr,rfl,dv,dr⟩:=dl;cases d with
  |bl b=>
   unfold ma at h;cases e:ma ds with
   |none=>rw[e]at h;cases h
   |some bs'=>
    rw[e]at h;cases h;cases r with
    |cons r1 rr=>
     cases (show v=.bl b from dv);cases (show _=nL b from r1);rw[dC,Bc e dr rr]
  |_=>cases h
def Fw(bs:List Bool)(f:List Bool->(Nat->Bool))(hf:f=λbs i=>bs.getD i false):(eY bs.length).all (f bs)=bs.all id/\(eY bs.length).any (f bs)=bs.any id:=by
 subst hf;have e:(eY bs.length).map (λi=>bs.getD i false)=bs:=by
  apply List.ext_getElem
  ·simp
  ·intro i h1 h2;simp[fJ,h2]
 constructor
 ·have:=congrArg (λl=>l.all id) e;simp only[List.all_map]at this;simpa[Function.comp_def]using this
 ·have:=congrArg (λl=>l.any id) e;simp only[List.any_map]at this;simpa[Function.comp_def]using this
def UX(K:KA)(an:Bool):List V->Hp->VK->Prop:=λxs H Q=>∃G l vs ds bs,xs=[.ref l]/\SqL K H l vs/\DenL K G ds vs/\ma ds=some bs/\Q (.bl (if an then bs.any id else bs.all id)) H
def Ky{bs:List Bool}{items:Array dG}(e:items.toList=bs.map nL):TruthOf prog w A (λi v=>items[i]?=some v) (λi=>bs.getD i false):=by
 intro i v s Q E hv hQ;have hv':items.toList[i]?=some v:=by simpa using hv
 rw[e,eP]at hv';cases eb:bs[i]? with
 |none=>rw[eb]at hv';cases hv'
 |some b=>
  rw[eb]at hv';cases hv';have hQ':Q (bs.getD i false) s:=hQ;rw[fJ,eb]at hQ';exact gX hQ'
def T2(hc:X.calm=true):CallR X (.builtin "all") (UX (kx X) false):=by
 intro pins s U H xs us Q I r q;obtain⟨G,l,vs,ds,bs,rfl,sq,dl,eb,q⟩:=q;obtain⟨u,rfl,ru⟩:=l9 r;cases ru;obtain⟨its,rv,pl,_⟩:=I.list sq;have e:=Bc eb dl rv;have hl:l<s.heap.objs.size:=by obtain⟨o,ho,_⟩:=pl.isList;exact dY ho
 have W:=Walks.list (prog:=X.prog) (w:=X.w) (A:=X.A.in1) (show X.A.in1.handled=none from I.ok.hd hc) s.heap.objs.size l (eM hl) its.toArray;refine call_all_walk (lW pl.isList ⟨s.heap.objs.size,_,_,_,_,_,λi=>bs.getD i false,rfl,W,⟨⟨_,eD _ rfl,rfl,rfl⟩,pl.isList.at λo ho=>dE _ ho⟩,Ky (by simpa using e),λh' tk hk=>?_⟩);refine⟨.bl _,H,I.kept λb o e=>hk b o (by simpa using eM (dY e)) (dE _ e),?_,q⟩;have hsz:its.toArray.size=bs.length:=by rw[eF,e,dD]
 rw[hsz,(Fw bs _ rfl).1];rfl
def Bw:D->Option D
 |.lst ds=>(ma ds).map λbs=>.bl (bs.all id)
 |_=>none
def NP(hc:X.calm=true)(hg:Gl X "all")(hm:X.mg "all"=none)(ha:jc X B E e g)(he:eE [e] X.env=(false,eval e X.env)::eE [] X.env):fq X B E (.Call (.Name "all" p) [e] [] pos) (g1 Bw g):=
 PE.imp (nj (T2 hc) hg hm PyProof.Rows.boot_all (fe ha ik he) (by decide) (by decide) he rfl) λU H Q q=>KD (λG H x dx d sg ax ed Q q=>by
  cases dx with
  |lst ds=>
   unfold Bw at ed;dsimp only at ed;cases eb:ma ds with
   |none=>rw[eb]at ed;cases ed
   |some bs=>
    rw[eb]at ed;cases ed;obtain⟨l,vs,rfl,sq,dl⟩:=ax.lst sg;exact⟨G,l,vs,ds,bs,rfl,sq,dl,eb,q _ G H (Ext.refl sg) rfl⟩
  |_=>cases ed) q
end
def AL(x:Str):List D:=x.cps.toList.map λc=>.str ⟨#[c]⟩
def VC(x:Str):It:=⟨λi _=>i<x.cps.size,λi H v H'=>H'=H/\∃c,x.cps[i]?=some c/\v=.str ⟨#[c]⟩,λi _=>x.cps.size<=i⟩
def Qx{P:eS}{w:fI}{K:eB}{tg:Expr}(it:Addr)(x:Str)(t:Tok):Turn P w K tg (VC x) [it] it (λi h=>h.IsStrIter it "str_ascii_iterator" x t i) where
 mem:=by simp
 obj:=λi h st b hb=>by
  have e:b=it:=by simpa using hb
  subst e;obtain⟨o,e,c,d⟩:=st;exact⟨o,e,λv z=>by rw[d]at z;cases z⟩
 keep:=λi h h' st k=>let ⟨o,ho,r⟩:=st;⟨o,k it (by simp) o ho,r⟩
 item:=by
  intro X hP hw hK hc i pins s U H E I hf st hg;subst hP hw hK;obtain⟨f0,f1,f2,f3,f4,f5⟩:=hf it (by simp);have hg':i<x.cps.size:=hg;refine wpAny_pyNext_ascii_item st (c:=x.cps[i]) (by simp[hg']) λh' st' sb=>?_;have I1:Inv X pins U H {s with heap:=h',toks:=s.toks+1}:=I.turned (t':=s.toks+1) (λb o hb e=>(sb.2 b hb).trans e) f0 f1 f3 f4 f5;obtain⟨o,e,c,d⟩:=id st';exact⟨_,rfl,Ls (s:={s with heap:=h',toks:=s.toks+1}) e c d (by decide) ⟨.str ⟨#[x.cps[i]]⟩,H,I1,⟨_,rfl⟩,⟨rfl,_,by simp[hg'],rfl⟩,st',λb hb=>(hf b hb).1⟩⟩
 done:=by
  intro X hP hw hK hc i pins s U H E I hf st hg;subst hP hw hK;obtain⟨f0,f1,f2,f3,f4,f5⟩:=hf it (by simp);have hg':x.cps.size<=i:=hg;exact wpAny_pyNext_ascii_end (I.ok.hd hc) st (by simp[hg']) λh' eb=>⟨rfl,I.turned (t':=s.toks) (λb o hb e=>eb b o hb e) f0 f1 f3 f4 f5⟩
 self:=λ_ _ _ _ _ st h=>wpAny_pyIter_striter_ascii st h
def V4{P:eS}{w:fI}{K:eB}{tg:Expr}(it:Addr)(x:Str)(t:Tok):Turn P w K tg (VC x) [it] it (λi h=>h.IsStrIter it "str_iterator" x t i) where
 mem:=by simp
 obj:=λi h st b hb=>by
  have e:b=it:=by simpa using hb
  subst e;obtain⟨o,e,c,d⟩:=st;exact⟨o,e,λv z=>by rw[d]at z;cases z⟩
 keep:=λi h h' st k=>let ⟨o,ho,r⟩:=st;⟨o,k it (by simp) o ho,r⟩
 item:=by
  intro X hP hw hK hc i pins s U H E I hf st hg;subst hP hw hK;obtain⟨f0,f1,f2,f3,f4,f5⟩:=hf it (by simp);have hg':i<x.cps.size:=hg;refine wpAny_pyNext_wide_item st (c:=x.cps[i]) (by simp[hg']) λh' st' sb=>?_;have I1:Inv X pins U H {s with heap:=h',toks:=s.toks+1}:=I.turned (t':=s.toks+1) (λb o hb e=>(sb.2 b hb).trans e) f0 f1 f3 f4 f5;obtain⟨o,e,c,d⟩:=id st';exact⟨_,rfl,Ls (s:={s with heap:=h',toks:=s.toks+1}) e c d (by decide) ⟨.str ⟨#[x.cps[i]]⟩,H,I1,⟨_,rfl⟩,⟨rfl,_,by simp[hg'],rfl⟩,st',λb hb=>(hf b hb).1⟩⟩
 done:=by
  intro X hP hw hK hc i pins s U H E I hf st hg;subst hP hw hK;obtain⟨f0,f1,f2,f3,f4,f5⟩:=hf it (by simp);have hg':x.cps.size<=i:=hg;exact wpAny_pyNext_wide_end (I.ok.hd hc) st (by simp[hg']) λh' eb=>⟨rfl,I.turned (t':=s.toks) (λb o hb e=>eb b o hb e) f0 f1 f3 f4 f5⟩
 self:=λ_ _ _ _ _ st h=>wpAny_pyIter_striter_wide st h
def X4{K:KA}{x:Str}{S:Hp->Hp->Prop}:B8 K (VC x) (AL x) S:=λi G H hS sg=>by
 unfold AL;refine⟨λd ed=>?_,λhl=>?_⟩
 ·rw[eP]at ed;cases e:x.cps.toList[i]? with
  |none=>rw[e]at ed;cases ed
  |some c=>
   rw[e]at ed;cases ed;have hi:i<x.cps.size:=by simpa using(List.getElem?_eq_some_iff.mp e).1
   refine⟨hi,λv H' ⟨z,c',ec,ev⟩=>?_⟩;subst z;have:x.cps.toList[i]?=some c':=by simpa using ec
   rw[e]at this;cases this;exact⟨G,Ext.refl sg,ev⟩
 ·rw[dD]at hl;show x.cps.size<=i;simpa using hl
section
variable{X:Cx}{G0 B:Hp}{E:EK}{e a b c tg iter:Expr}{g h:En->Res}{pos p:Pos}
def RB(K:eB)(tl:TE):TI:=λU H R=>tl U H λx H1=>(∃a,x=.ref a/\(((∃xs,SqL K H1 a xs)/\R (YG K a) H1)\/((∃xs,SqT K H1 a xs)/\R (YF K a) H1)))\/∃z,x=.str z/\R (VC z) H1
def S5{l:Expr}{tl:TE}(hl:PE X l tl):PI X tg l (RB X.K tl):=by
 intro pins s U H R I h;refine iz (hl pins s U H _ I h) λv s1 ⟨x,H1,I1,r1,q1⟩=>?_;rcases q1 with ⟨a,e,⟨⟨xs,hq⟩,q⟩|⟨⟨xs,hq⟩,q⟩⟩|⟨z,e,q⟩
 ·subst e;cases r1;obtain⟨its,rv,p,hz⟩:=I1.list hq;refine lW p.isList ?_;refine⟨s1.heap.objs.size,[s1.heap.objs.size],_,_,H1,rfl,I1.kept (t':=s1.toks) λb o e=>dE _ e,V3 a _,⟨_,eD _ rfl,rfl,rfl⟩,λb hb=>?_,q⟩;have e:b=s1.heap.objs.size:=by simpa using hb
  subst e;exact I1.fpOk (dR _) (I1.hok.fresh (dR _))
 ·subst e;cases r1;obtain⟨its,rv,p,hz⟩:=I1.tuple hq;refine wpAny_pyIter_tuple (show s1.heap.IsTuple a its.toArray from p) ?_;refine⟨s1.heap.objs.size,[s1.heap.objs.size],_,_,H1,rfl,I1.kept (t':=s1.toks) λb o e=>dE _ e,Qz a _,⟨_,eD _ rfl,rfl,rfl⟩,λb hb=>?_,q⟩;have e:b=s1.heap.objs.size:=by simpa using hb
  subst e;exact I1.fpOk (dR _) (I1.hok.fresh (dR _))
 ·subst e;obtain⟨t,rfl⟩:=r1;cases ha:z.cps.all (· <128)
  ·refine wpAny_pyIter_wide ha ⟨s1.heap.objs.size,[s1.heap.objs.size],_,_,H1,rfl,I1.kept (t':=s1.toks) λb o e=>dE _ e,V4 _ z t,⟨_,eD _ rfl,rfl,rfl⟩,λb hb=>?_,q⟩;have e:b=s1.heap.objs.size:=by simpa using hb
   subst e;exact I1.fpOk (dR _) (I1.hok.fresh (dR _))
  ·refine wpAny_pyIter_ascii ha ⟨s1.heap.objs.size,[s1.heap.objs.size],_,_,H1,rfl,I1.kept (t':=s1.toks) λb o e=>dE _ e,Qx _ z t,⟨_,eD _ rfl,rfl,rfl⟩,λb hb=>?_,q⟩;have e:b=s1.heap.objs.size:=by simpa using hb
   subst e;exact I1.fpOk (dR _) (I1.hok.fresh (dR _))
def Ij:D->Option (List D)
 |.lst ds=>some ds
 |.tup ds=>some ds
 |.str x=>some (AL x)
 |_=>none
noncomputable def a5(g:En->Res):En->ResL:=λδ=>match g δ with
 | .ok d => (match Ij d with
  |some ds=>.ok ds
  |none=>.st)
 |.er c=>.er c
 |.st=>.st
def KZ(q:ResLP E G H (a5 g δ) P):ResP E G H (g δ) λd=>∃ds,Ij d=some ds/\P ds:=by
 unfold a5 at q;cases e:g δ with
 |ok d=>
  rw[e]at q;dsimp only at q;cases e2:Ij d with
  |some ds=>rw[e2]at q;exact⟨ds,e2,q⟩
  |none=>rw[e2]at q;exact q.elim
 |er c=>rw[e]at q;exact q
 |st=>rw[e]at q;exact q
def Zf(h:KY X B E e g):IL X B E tg e (a5 g):=PI.imp (S5 h) λU H R ⟨G,δ,Rr,q⟩=>⟨G,δ,Rr,(KZ q).mono λd _ ⟨ds,ed,q⟩ v G1 H1 e1 ax=>by
 have bh:Same B H1:=Rr.bh.trans e1.hh;cases d with
 |lst ds'=>
  cases ed;rcases ax with ⟨a,vs,rfl,s,dl⟩|⟨ds2,a,vs,z,rfl,s,dl⟩|⟨t,kvs,a,z,_⟩
  ·exact .inl ⟨a,rfl,.inl ⟨⟨vs,SqL.mono e1.gh s⟩,q _ G1 H1 e1 (Pa (λG2 H2 ⟨x1,x2⟩ sg=>⟨SqL.mono (x1.trans sg) s,x1⟩) dl)⟩⟩
  ·cases z;exact .inl ⟨a,rfl,.inl ⟨⟨vs,SqL.mono bh s⟩,q _ G1 H1 e1 (Pa (λG2 H2 ⟨x1,x2⟩ sg=>⟨SqL.mono x2 s,x1⟩) dl)⟩⟩
  ·cases z
 |tup ds'=>
  cases ed;rcases ax with ⟨a,vs,rfl,s,dl⟩|⟨ds2,a,vs,z,rfl,s,dl⟩|⟨t,kvs,a,z,_⟩
  ·exact .inl ⟨a,rfl,.inr ⟨⟨vs,SqT.of (e1.gh _ _ s)⟩,q _ G1 H1 e1 (X5 (λG2 H2 ⟨x1,x2⟩ sg=>⟨SqT.of ((x1.trans sg) _ _ s),x1⟩) dl)⟩⟩
  ·cases z
  ·cases z
 |str z=>cases ed;exact .inr ⟨z,ax.str,q _ G1 H1 e1 X4⟩
 |non=>cases ed
 |bl _=>cases ed
 |int _=>cases ed
 |dct _ _=>cases ed
 |obj _ _=>cases ed
 |fn _=>cases ed⟩
def S6(h:jc X B E e g):Tw X B E tg e (a5 g):=PI.imp (S5 h) λU H R ⟨G,δ,Rr,q⟩=>⟨G,δ,Rr,(KZ q).mono λd _ ⟨ds,ed,q⟩ v G1 H1 e1 ax=>by
 cases d with
 |lst ds'=>
  cases ed;obtain⟨a,vs,rfl,s,dl⟩:=ax.lst e1.gh;exact .inl ⟨a,rfl,.inl ⟨⟨vs,s⟩,q _ G1 H1 e1 (Pa (λG2 H2 x sg=>⟨SqL.mono x.hh s,x.gg⟩) dl)⟩⟩
 |tup ds'=>
  cases ed;obtain⟨a,vs,rfl,s,dl⟩:=ax.tup e1.gh;exact .inl ⟨a,rfl,.inr ⟨⟨vs,s⟩,q _ G1 H1 e1 (X5 (λG2 H2 x sg=>⟨SqT.mono x.hh s,x.gg⟩) dl)⟩⟩
 |str z=>cases ed;exact .inr ⟨z,ax.str,q _ G1 H1 e1 X4⟩
 |non=>cases ed
 |bl _=>cases ed
 |int _=>cases ed
 |dct _ _=>cases ed
 |obj _ _=>cases ed
 |fn _=>cases ed⟩
def Xj(ps:List iW)(q:iW):Option Nat:=ps.findIdx? λy=>eL y q
noncomputable def o8:D->D->Option D
 | .lst xs, d => (match cn xs, cg d with
  |some ps,some q=>if dO ps && eX q && decide (xs.length<=dN)then(Xj ps q).map λj=>.int (j:Nat)else none
  |_,_=>none)
 |_,_=>none
def bX(K:KA)(f:D->D->Option D):V->List V->Hp->VK->Prop:=λx vs H Q=>∃G dx dy y d,Same G H/\Arg K G H dx x/\vs=[y]/\Arg K G H dy y/\f dx dy=some d/\∀v,Den K G d v->Q v H
def U6(hu:X.A.units+65<gQ):YB X "list.index" (bX (kx X) o8):=by
 intro pins s U H x vs v us Q I rx rv q;obtain⟨G,dx,dy,y,d,sg,ax,rfl,ay,ed,q⟩:=q;obtain⟨u,rfl,ru⟩:=rv.one;cases dx with
 |lst xs=>
  unfold o8 at ed;dsimp only at ed;cases e1:cn xs with
  |none=>rw[e1]at ed;cases ed
  |some ps=>
   cases e2:cg dy with
   |none=>rw[e1,e2]at ed;cases ed
   |some q'=>
    rw[e1,e2]at ed;dsimp only at ed
    by_cases hs:(dO ps && eX q' && decide (xs.length<=dN))=true
    ·rw[dJ hs]at ed;simp only[dQ,decide_eq_true_eq]at hs;obtain⟨⟨h1,h2⟩,h3⟩:=hs;cases ej:Xj ps q' with
     |none=>rw[ej]at ed;cases ed
     |some j=>
      rw[ej]at ed;cases ed;obtain⟨as,ra⟩:=cq (p:=.list ps) I sg ax rx (by unfold cg;rw[e1]);obtain⟨bs,rb⟩:=cq I sg ay ru e2;cases ra with
      |@list l o items n _ _ g1 g2 g3 g4=>
       obtain⟨cls,dd,data,sl⟩:=o;simp only at g2 g3;subst g2 g3;have hm:=SeqAt.readsAll_map ps _ _ h1 g4;have hlen:items.size=ps.length:=by rw[<-hm,dD];simp
       unfold Xj at ej;obtain⟨w1,w2,w3⟩:=List.findIdx?_eq_some_iff_getElem.mp ej;have at_:∀(k:Nat)(hk:k<items.size),eL (pQ s.heap items[k]) q'=eL (ps[k]'(by lia)) q':=λk hk=>by
        congr 1
        have:(items.toList.map (pQ s.heap))[k]?=ps[k]?:=by rw[hm]
        rw[eP,eR (by simpa using hk),eR (by lia)]at this;simpa using this
       have hz:ps.length<=dN:=by
        have:xs.length=ps.length:=by
         obtain⟨l',vs',rfl,sq,dl⟩:=ax.lst sg;cases rx;obtain⟨its,rv',pl,_⟩:=I.list sq;obtain⟨o',ho',hc',n',hd'⟩:=pl.isList;rw[g1]at ho';cases ho';cases hd';rw[dl.length,rv'.length,<-hlen];simp
        lia
       have hbig:(dN:Int)<2 ^ 63 - 1:=by decide
       refine call_meets PySem.F.slot_list_index ⟨_,g1,rfl⟩ PySem.F.entry_list_index (PySem.F.args_list_index_2 _ _)
        (PySem.SeqAt.list_indexAt l items n dd sl u (λy=>eL (pQ s.heap y) q') j (by lia) (by lia) ?_ ?_) ⟨g1,λy hy=>SeqAt.items_eqAt g4 rb h1 (jU h2) (oE h2 hu) y hy,?_⟩
       ·show eL (pQ s.heap items[j]) q'=true;rw[at_ j (by lia)];exact w2
       ·intro k hk hlt;show eL (pQ s.heap items[k]) q'=false;rw[at_ k hk];have:=w3 k hlt;simpa using this
       ·exact⟨.int j,H,I.tok _,⟨_,rfl⟩,q _ rfl⟩
    ·rw[dM hs]at ed;cases ed
 |_=>cases ed
end
section
variable{X:Cx}{G0 B:Hp}{E:EK}{e a b c tg iter:Expr}{g h:En->Res}{pos p:Pos}
def gM(f:D->D->Option D)(g h:En->Res):En->Res:=λδ=>(g δ).bind λx=>match x with
 |.lst xs=>(h δ).bind λy=>Res.of (f (.lst xs) y)
 |_=>.st
def TK{f:D->D->Option D}{m:Str}{id:String}{ap cp:Pos}(slot:Slot "list" m id)(hty:typeOf (.builtin id)=pure (.type "method_descriptor"))(hm:YB X id (bX (kx X) f))(ho:jc X B E a g)(he:jc X B E e h)
  (hb:lT a m X.env (eval a X.env)=eval a X.env)(hn:iy e=true)(hl:(ap.endLine==cp.line)=true):fq X B E (.Call (.Attribute a m ap) [e] [] cp) (gM f g h):=
 PE.imp (Y7 nT slot hty hm ho (fe he ik (a8 hn)) hb (by rw[uy (by rw[fT,hn];rfl)];rfl) hl (a8 hn) rfl) λU H Q ⟨G,δ,R,q⟩=>⟨G,δ,R,(ResP.bind q).mono λdx _ qx x G1 H1 e1 ax=>by
  cases dx with
  |lst xs=>
   have ax':=ax;obtain⟨l,vs,rfl,sq,dl⟩:=ax.lst e1.gh;refine⟨.inl ⟨rfl,vs,sq⟩,G1,δ,R.ext e1,?_⟩;have qx:ResP E G1 H1 ((h δ).bind λy=>Res.of (f (.lst xs) y)) _:=ResP.ext e1 qx;unfold af;cases eh:h δ with
   |ok dy=>
    rw[eh]at qx;obtain⟨d,ed,qd⟩:=ResP.of (show ResP E G1 H1 (Res.of (f (.lst xs) dy)) _ from qx);intro ws G2 H2 e2 al;obtain⟨y,rfl,ay⟩:=ArgsM.one al;exact⟨G2,.lst xs,dy,y,d,e2.gh,ax'.ext e2,rfl,ay,ed,λv dn=>qd v G2 H2 (e1.trans e2) dn⟩
   |er c=>rw[eh]at qx;exact qx
   |st=>rw[eh]at qx;exact qx
  |_=>exact qx.elim⟩
def Zx{ap cp:Pos}(hu:X.A.units+65<gQ)(ho:jc X B E a g)(he:jc X B E e h)(hb:Au a=true)(hn:iy e=true)(hl:(ap.endLine==cp.line)=true):fq X B E (.Call (.Attribute a "index" ap) [e] [] cp) (gM o8 g h):=
 TK PySem.F.slot_list_index PySem.F.type_list_index (U6 hu) ho he (Br hb) hn hl
noncomputable def lg:D->D->Option D
 |.int i,.int j=>if(-(2 ^ 64)<i/\i<2 ^ 64)\/(-(2 ^ 64)<j/\j<2 ^ 64)then some (.int (i * j))else none
 |.str x,.int n=>if x.length * n.toNat<=dN/\-(2 ^ 20)<=n/\n<2 ^ 20 then some (.str (Txt.mul x n))else none
 |_,_=>none
def SQ{x:Str}{n:Int}(h:x.length * n.toNat<=dN/\-(2 ^ 20)<=n/\n<2 ^ 20):MulOk x n:=by
 obtain⟨h1,h2,h3⟩:=h;refine⟨?_,λa b=>?_,λa b=>?_⟩
 ·simp only[Bool.or_eq_false_iff,decide_eq_false_iff_not]
  lia
 ·intro hc;have hx:x.length<=dN:=by
   have:1<=n.toNat:=by lia
   exact fF (Nat.le_mul_of_pos_right _ this) h1
  have hs:(dN:Int)=2 ^ 24:=rfl;have h4:(2 ^ 63 - 1:Int) / n>=2 ^ 43 - 1:=by
   rw[ge_iff_le,Int.le_ediv_iff_mul_le (by lia)];have:(2 ^ 43 - 1:Int) * n<=(2 ^ 43 - 1) * 2 ^ 20:=Int.mul_le_mul_of_nonneg_left (by lia) (by decide)
   lia
  lia
 ·unfold Builtin.Str.tooLong;simp only[gt_iff_lt,decide_eq_false_iff_not,Nat.not_lt];exact h1
def UQ(K:KA):R2:=λx y H Q=>∃G dx dy d,Same G H/\Arg K G H dx x/\Arg K G H dy y/\lg dx dy=some d/\∀v G' H',Ext G H G' H'->Den K G' d v->Q v H'
def EA:OpR X (kR .Mult) (UQ (kx X)):=by
 intro pins s U H x y v u Q I rx ry q;obtain⟨G,dx,dy,d,sg,ax,ay,ed,q⟩:=q;unfold lg at ed;split at ed
 ·split at ed
  ·rename_i hc;cases ed;rw[ax.int]at rx;rw[ay.int]at ry;exact MO pins s U H _ _ _ _ Q I rx ry ⟨_,_,rfl,rfl,hc,q _ G H (Ext.refl sg) rfl⟩
  ·cases ed
 ·split at ed
  ·rename_i hc;cases ed;rw[ax.str]at rx;rw[ay.int]at ry;obtain⟨t,rfl⟩:=rx;obtain⟨t',rfl⟩:=ry;exact SB.mul (SQ hc) λt'' k=>⟨.str _,H,I.tok _,⟨_,rfl⟩,q _ G H (Ext.refl sg) rfl⟩
  ·cases ed
 ·cases ed
def NF(ha:jc X B E a g)(hb:jc X B E b h):fq X B E (.BinOp a .Mult b pos) (g2 lg g h):=Hz EA (λG H x y dx dy d sg ax ay ed Q q=>⟨G,dx,dy,d,sg,ax,ay,ed,q⟩) ha hb
theorem Nx:∀{xs:List V}{us:List dG},xs.length=us.length->(∀(i:Nat) x u,xs[i]?=some x->us[i]?=some u->RelV x u)->Vals xs us
 |[],[],_,_=>.nil
 |[],_::_,h,_=>by simp at h
 |_::_,[],h,_=>by simp at h
 |x::xs,u::us,h,f=>.cons (f 0 x u rfl rfl) (Nx (by simpa using h) λi y v e1 e2=>f (i+1) y v (by simpa using e1) (by simpa using e2))
end
inductive ResE where
 |ok (d:D) (δ:En)
 |er (c:Str)
 |st
def C5(K:KA)(G0 B:Hp)(E:EK)(G:Hp)(U:St)(r:ResE)(P:D->Hp->Hp->En->Prop):Prop:=match r with
 |.ok d δ'=>∀G' H',Same G G'->EnvR K B G' H' U δ'->Ext G0 B G' H'->P d G' H' δ'
 |.er c=>∀G' H',Ext G0 B G' H'->E c H'
 |.st=>False
def bV(K:KA)(G0 B:Hp)(E:EK)(g:En->ResE):TE:=λU H Q=>∃G δ,EnvR K B G H U δ/\Ext G0 B G H/\C5 K G0 B E G U (g δ) λd G' H' _=>∀v,Den K G' d v->Q v H'
def cR(K:KA)(G0 B:Hp)(E:EK)(g:En->ResE):TT:=λU H Q=>∃G δ,EnvR K B G H U δ/\Ext G0 B G H/\C5 K G0 B E G U (g δ) λd G' H' _=>∃b,d=.bl b/\Q b H'
abbrev BC(X:Cx)(G0 B:Hp)(E:EK)(e:Expr)(g:En->ResE):Prop:=PE X e (bV (kx X) G0 B E g)
abbrev YI(X:Cx)(G0 B:Hp)(E:EK)(e:Expr)(g:En->ResE):Prop:=PT X e (cR (kx X) G0 B E g)
def Res.ef(r:Res)(δ:En):ResE:=match r with
 |.ok d=>.ok d δ
 |.er c=>.er c
 |.st=>.st
def D3(g:En->Res):En->ResE:=λδ=>(g δ).ef δ
section
variable{X:Cx}{G0 B:Hp}{E:EK}{e a b c tg iter:Expr}{g h k:En->Res}{f:En->ResE}{pos p:Pos}{ss tt:List Stmt}{F1 F2:En->Out}
def aF{K:KA}{G H:Hp}{U:St}{δ:En}{r:Res}{P:D->Hp->Hp->En->Prop}(R:EnvR K B G H U δ)(x:Ext G0 B G H)(q:C5 K G0 B E G U (r.ef δ) P):ResP E G H r λd=>∀G' H',Ext G H G' H'->P d G' H' δ:=by
 cases r with
 |ok d=>exact λG' H' e=>q G' H' e.gg (R.ext e) (x.trans e)
 |er c=>exact λG' H' e=>q G' H' (x.trans e)
 |st=>exact q
def Ro(h:fq X B E e g):BC X G0 B E e (D3 g):=PE.imp h λU H Q ⟨G,δ,R,x,q⟩=>⟨G,δ,R,(aF R x q).mono λd _ q v G' H' e dn=>q G' H' e v dn⟩
def Ce(c:En->Res)(f1 f2:En->ResE):En->ResE:=λδ=>match c δ with
 |.ok (.bl true)=>f1 δ
 |.ok (.bl false)=>f2 δ
 |.ok _=>.st
 |.er c=>.er c
 |.st=>.st
def Xd(hc:Fu X B E c g)(h1:BC X G0 B E a f1)(h2:BC X G0 B E b f2):BC X G0 B E (.IfExp c a b pos) (Ce g f1 f2):=
 PE.imp (M3 hc h1 h2) λU H Q ⟨G,δ,R,x,q⟩=>⟨G,δ,R,by
  unfold Ce at q;cases eg:g δ with
  |er c=>rw[eg]at q;exact λG' H' e=>q G' H' (x.trans e)
  |st=>rw[eg]at q;exact q
  |ok d=>
   rw[eg]at q;cases d with
   |bl t=>
    cases t with
    |true=>
     refine⟨true,rfl,λG1 H1 e1=>⟨G1,δ,R.ext e1,x.trans e1,?_⟩⟩;dsimp only at q;cases ef:f1 δ with
     |ok d δ'=>rw[ef]at q;exact λG' H' s=>q G' H' (e1.gg.trans s)
     |er c=>rw[ef]at q;exact q
     |st=>rw[ef]at q;exact q
    |false=>
     refine⟨false,rfl,λG1 H1 e1=>⟨G1,δ,R.ext e1,x.trans e1,?_⟩⟩;dsimp only at q;cases ef:f2 δ with
     |ok d δ'=>rw[ef]at q;exact λG' H' s=>q G' H' (e1.gg.trans s)
     |er c=>rw[ef]at q;exact q
     |st=>rw[ef]at q;exact q
   |_=>exact q.elim⟩
def Dz(p:D->D->Option D)(f:En->ResE)(h:En->Res):En->ResE:=λδ=>match f δ with
 |.ok x δ'=>((h δ').bind λy=>Res.of (p x y)).ef δ'
 |.er c=>.er c
 |.st=>.st
def LV{op:CmpOp}{f2:D->D->Option D}{r:R2}(ho:OpR X (fH op) r)(hp:g9 (kx X) f2 r)(hb':∀x y d,f2 x y=some d->∃b,d=.bl b)(ha:BC X G0 B E a f)(hb:jc X B E b h)(hm:nA op b=false):YI X G0 B E (.Compare a [op] [b] pos) (Dz f2 f h):=
 PT.imp (Tb ho ha hb hm) λU H Q ⟨G,δ,R,x,q⟩=>⟨G,δ,R,x,by
  unfold Dz at q;cases ef:f δ with
  |er c=>rw[ef]at q;exact q
  |st=>rw[ef]at q;exact q
  |ok dx δ'=>
   rw[ef]at q;intro G1 H1 s1 R1 x1 v dn;have q1:C5 (kx X) G0 B E G1 U (((h δ').bind λy=>Res.of (f2 dx y)).ef δ') λd G' H' _=>∃b,d=.bl b/\Q b H':=by
    dsimp only at q;cases eh:(h δ').bind λy=>Res.of (f2 dx y)with
    |ok d=>rw[eh]at q;exact λG' H' s=>q G' H' (s1.trans s)
    |er c=>rw[eh]at q;exact q
    |st=>rw[eh]at q;exact q
   have q2:=aF R1 x1 q1;refine⟨G1,δ',R1,(ResP.bind q2).mono λdy _ qy y G2 H2 e2 ay=>?_⟩;obtain⟨d,ed,qd⟩:=ResP.of qy;obtain⟨b,rfl⟩:=hb' _ _ _ ed;refine hp G2 H2 v y dx dy (.bl b) e2.gh (Arg.ext e2 (.inl dn)) ay ed _ λw G3 H3 e3 dw=>?_;obtain⟨b',eb,qb⟩:=qd G3 H3 (e2.trans e3);cases eb;exact⟨b,dw,qb⟩⟩
def Nc(f:En->ResE)(F1 F2:En->Out):En->Out:=λδ=>match f δ with
 |.ok (.bl true) δ'=>F1 δ'
 |.ok (.bl false) δ'=>F2 δ'
 |.ok _ _=>.st
 |.er c=>.er c
 |.st=>.st
def UK(hc:YI X G0 B E c f)(ha:zw X G0 B E ss F1)(hb:zw X G0 B E tt F2):su X G0 B E (.If c ss tt pos) (Nc f F1 F2):=
 PS.imp (JO hc ha hb) λD U H ⟨G,δ,R,x,q⟩=>⟨G,δ,R,x,by
  unfold Nc at q;cases ef:f δ with
  |er c=>rw[ef]at q;exact q
  |st=>rw[ef]at q;exact q
  |ok d δ'=>
   rw[ef]at q;intro G1 H1 s1 R1 x1;cases d with
   |bl t=>
    refine⟨t,rfl,?_⟩;cases t with
    |true=>exact⟨G1,δ',R1,x1,OutP.same s1 q⟩
    |false=>exact⟨G1,δ',R1,x1,OutP.same s1 q⟩
   |_=>exact q.elim⟩
def uw(i:Nat)(f:En->ResE):En->Out:=λδ=>match f δ with
 |.ok d δ'=>.nx (δ'.set i (.pu d))
 |.er c=>.er c
 |.st=>.st
def OG(hs:PS X (.Assign [.Name x pos'] e pos) (Nr (bV (kx X) G0 B E f) (tf i))):su X G0 B E (.Assign [.Name x pos'] e pos) (uw i f):=
 PS.imp hs λD U H ⟨G,δ,R,x,q⟩=>⟨G,δ,R,x,by
  unfold uw at q;cases ef:f δ with
  |er c=>rw[ef]at q;exact q
  |st=>rw[ef]at q;exact q
  |ok d δ'=>
   rw[ef]at q;intro G1 H1 s1 R1 x1 v dn;exact q _ G1 H1 s1 (R1.set dn) x1⟩
def J8(f:En->ResE):En->Out:=λδ=>match f δ with
 |.ok _ δ'=>.nx δ'
 |.er c=>.er c
 |.st=>.st
def HY(h:BC X G0 B E e f)(hs:kB e none pos.line X.env=pure false):su X G0 B E (.Expr e pos) (J8 f):=
 PS.imp (Cu h hs) λD U H ⟨G,δ,R,x,q⟩=>⟨G,δ,R,x,by
  unfold J8 at q;cases ef:f δ with
  |er c=>rw[ef]at q;exact q
  |st=>rw[ef]at q;exact q
  |ok d δ'=>
   rw[ef]at q;intro G1 H1 s1 R1 x1 v dn;exact q U G1 H1 s1 R1 x1⟩
def W6{pins:List (Addr×Obj)}{U:St}{H:Hp}{s:dP}{a:Addr}{kvs:List (fo×V)}{k:fo}{v:V}{u r:dG}{A:fV}{E:dG->dP->Prop}{Q:dG->dP->Prop}(I:Inv X pins U H s)(e:H a=some (.dK kvs))(hl:kvs.length<dN)(ry:RelV (kV k) u)(rv:RelV v r)
  (h1:∀v' w s',ly kvs k=some v'->RelV v' w->Inv X pins U H s'->Q w s')(h2:∀s',ly kvs k=none->Inv X pins U (upd H a (.dK (oi kvs k v))) s'->Q r s'):
  dX (eJ X.prog X.w) A (call (.builtin "dict.setdefault") [.ref a,u,r]) Q E s:=by
 obtain⟨z,hd,vs,rel,dd⟩:=K9 I.hok e;refine call_meetsIn pJ dd.typeIs PySem.F.entry_dict_setdefault (PySem.F.args_dict_setdefault_3 _ _ _) (kt_meets_setdefault (ba X.prog X.w) a (wq ry) hd r)
  ⟨vs,dd,by rw[<-rel.length];exact z,λw hw=>?_,λhn h' dd' hs=>?_⟩
 ·have:=rel.val k;rw[hw]at this;cases ev:ly kvs k with
  |none=>rw[ev]at this;cases this
  |some v'=>rw[ev]at this;exact h1 v' w _ ev this (I.tok _)
 ·have hv:=rel.val k;rw[hn]at hv;have ev:ly kvs k=none:=by
   cases ev:ly kvs k with
   |none=>rfl
   |some v'=>rw[ev]at hv;cases hv
  refine h2 _ ev ?_;have he:∃q,h'.get? a=some q:=let ⟨q,_,_,hq,_⟩:=dd';⟨q,hq⟩;have hz:(oi kvs k v).length<=dN:=by have:=o4 kvs k v;lia
  exact Ck I (by rw[e];exact jM) hs he (On hz hd (rel.put k rv) dd')
end
section
variable{X:Cx}{G0 B:Hp}{E:EK}{e a b c tg iter:Expr}{g h k:En->Res}{f:En->ResE}{pos p:Pos}
noncomputable def jn(i:Nat)(gk gv:En->Res):En->ResE:=λδ=>match δ[i]? with
 | some (.od false kvs) => (match gk δ with
  | .ok dk => (match gv δ with
   | .ok dv => (match bw dk with
    | some j => if kvs.length < dN then (match bq kvs j with
     |some d=>.ok d δ
     |none=>.ok dv (δ.set i (.od false (pz kvs j dv))))else .st
    |none=>.st)
   |.er c=>.er c
   |.st=>.st)
  |.er c=>.er c
  |.st=>.st)
 |_=>.st
def Vl{K:KA}{G:Hp}{kvs:List (D×D)}{es:List (fo×V)}(dl:DenK K G kvs es){j:fo}(h:ly es j=none):bq kvs j=none:=by
 cases e:bq kvs j with
 |none=>rfl
 |some d=>
  obtain⟨v,q,_⟩:=(dl.look j).1 d e;rw[h]at q;cases q
def Uj{i:Nat}{x:Str}{ke ve:Expr}{ap cp:Pos}(hv:PE X (.Name x p) (Gc i))(hk:jc X B E ke g)(hval:fq X B E ve h)(hn:iy ke=true)(hn2:iy ve=true)(hl:(ap.endLine==cp.line)=true):
  BC X G0 B E (.Call (.Attribute (.Name x p) "setdefault" ap) [ke,ve] [] cp) (jn i g h):=by
 intro pins s U H Q I ⟨G,δ,R,ex,q⟩;unfold jn at q;cases ed:δ[i]? with
 |none=>rw[ed]at q;exact q.elim
 |some sl=>
  rw[ed]at q;cases sl with
  |od t kvs=>
   cases t with
   |true=>exact q.elim
   |false=>
    dsimp only at q;obtain⟨l,es,q1,q2,q3,q4,q5⟩:=R.odAt ed;have few:((iY cp (eE [ke,ve] X.env)).all (λx=> !x.1) && (rA cp (nR [] X.env)).all (λx=>x.1.isSome)
     && decide (([ke,ve]:List Expr).length+([]:List lP).length+(if([]:List lP).isEmpty then 0 else 1)<30))=true:=by
     rw[uy (by rw[fT,fT,hn,hn2];rfl)];rfl
    refine wpAny_Call_method rfl few hl PySem.F.plainAttrs_dict pJ PySem.F.type_dict_setdefault (iz (hv pins s U H (λv H1=>v=.ref l/\H1=H) I ⟨_,q1,rfl,rfl⟩) λu s1 ⟨v,H1,I1,r1,e1,e2⟩=>?_);subst e1 e2;cases r1;obtain⟨t1,t2,_⟩:=Xy I1 (.inl ⟨es,.inl q2⟩);refine⟨t1,t2,?_⟩;rw[Nl hn hn2];have qk:ResP (E) G H1 (g δ) λdk=>ResP E G H1 (h δ) λdv=>∃j,bw dk=some j/\kvs.length<dN/\C5 (kx X) G0 B E G U (match bq kvs j with
     |some d=>.ok d δ
     |none=>.ok dv (δ.set i (.od false (pz kvs j dv)))) λd G' H' _=>∀v,Den (kx X) G' d v->Q v H':=by
     cases eg:g δ with
     |er c=>rw[eg]at q;exact λG' H' e=>q G' H' (ex.trans e)
     |st=>rw[eg]at q;exact q
     |ok dk=>
      rw[eg]at q;dsimp only at q;show ResP E G H1 (h δ) _;cases eh:h δ with
      |er c=>rw[eh]at q;exact λG' H' e=>q G' H' (ex.trans e)
      |st=>rw[eh]at q;exact q
      |ok dv=>
       rw[eh]at q;dsimp only at q;cases ej:bw dk with
       |none=>rw[ej]at q;exact q.elim
       |some j=>
        rw[ej]at q;dsimp only at q
        by_cases hl:kvs.length<dN
        ·rw[dJ hl]at q;exact⟨j,rfl,hl,q⟩
        ·rw[dM hl]at q;exact q.elim
    refine nZ rfl (mG (lK (iz (hk pins s1 U H1 (λy H2=>∃G2 dk,Ext G H1 G2 H2/\Arg (kx X) G2 H2 dk y/\ResP E G H1 (h δ) λdv=>∃j,bw dk=some j/\kvs.length<dN/\C5 (kx X) G0 B E G U (match bq kvs j with
     |some d=>.ok d δ
     |none=>.ok dv (δ.set i (.od false (pz kvs j dv)))) λd G' H' _=>∀v,Den (kx X) G' d v->Q v H') I1 ⟨G,δ,R,qk.mono λdk _ qk y G2 H2 e2 ay=>⟨G2,dk,e2,ay,qk⟩⟩) λyv s2 ⟨y,H2,I2,ry,G2,dk,e2,ay,qv⟩=>?_)))
    refine lK (iz (hval pins s2 U H2 (λz H3=>∃G3 dv j,Ext G2 H2 G3 H3/\Den (kx X) G3 dv z/\bw dk=some j/\kvs.length<dN/\C5 (kx X) G0 B E G U (match bq kvs j with
     |some d=>.ok d δ
     |none=>.ok dv (δ.set i (.od false (pz kvs j dv)))) λd G' H' _=>∀v,Den (kx X) G' d v->Q v H') I2 ⟨G2,δ,R.ext e2,(qv.ext e2).mono λdv _ ⟨j,ej,hl,q⟩ z G3 H3 e3 dz=>⟨G3,dv,j,e3,dz,ej,hl,q⟩⟩) λzv s3 ⟨z,H3,I3,rz,G3,dv,j,e3,dz,ej,hsz,q⟩=>qJ ?_)
    have e23:=e2.trans e3;have h3:=e23.hh _ _ q2;have g3:=e23.fr _ _ q2 q4 rfl;have dl3:=q3.mono e23.gg;have R3:=R.ext e23;rw[ou ay ej]at ry;refine W6 I3 h3 (by rw[<-dl3.length];exact hsz) ry rz (λv' w s' ev rw' I'=>?_) λs' ev I'=>?_
    ·cases el:bq kvs j with
     |none=>rw[(dl3.look j).2 el]at ev;cases ev
     |some d=>
      rw[el]at q;obtain⟨v2,z1,z2⟩:=(dl3.look j).1 d el;rw[z1]at ev;cases ev;exact⟨v',H3,I',rw',q G3 H3 e23.gg R3 (ex.trans e23) v' z2⟩
    ·have el:=Vl dl3 ev;rw[el]at q;exact⟨z,_,I',rz,q G3 _ e23.gg (EnvR.wrD R3 ed q1 h3 (dl3.put dz j)) (Ext.wr (ex.trans e23) g3 q5) z dz⟩
  |no=>exact q.elim
  |pu _=>exact q.elim
  |bo _=>exact q.elim
  |ow _=>exact q.elim
def Sd(kvs:List (D×D)):List D:=kvs.map (·.1)
theorem Gw{K:KA}{G:Hp}:∀{kvs:List (D×D)}{es:List (fo×V)},DenK K G kvs es->DenL K G (Sd kvs) (es.map λp=>kV p.1)
 |[],es,h=>by rw[show es=[]from h];rfl
 |(_,_)::_,es,⟨k,v,r,h1,h0,h2,h3⟩=>by
  subst h1 h0;refine⟨kV k,_,rfl,?_,Gw h3⟩;cases k<;>rfl
def iw:D->Option D
 |.lst ds=>some (.lst ds)
 |.tup ds=>some (.lst ds)
 |.dct false kvs=>some (.lst (Sd kvs))
 |_=>none
def SY{P:eS}{w:fI}{k:fo}{v:dG}(h:(ba P w).is k v=true):RelV (kV k) v:=by
 rcases cj (show Bj k v=true from h)with ⟨i,t,rfl,rfl⟩|⟨x,t,rfl,rfl⟩
 ·exact⟨t,rfl⟩
 ·exact⟨t,rfl⟩
def Og(hc:X.calm=true):CallR X (.type "list") (λxs H Q=>∃p es,xs=[.ref p]/\H p=some (.dK es)/\∀l,H l=none->Q (.ref l) (upd H l (.lst (es.map λp=>kV p.1)))):=by
 intro pins s U H xs us Q I r h;obtain⟨p,es,rfl,hp,q⟩:=h;obtain⟨u,rfl,rx⟩:=l9 r;cases rx;obtain⟨z,hd,vs,rel,dd⟩:=K9 I.hok hp;obtain⟨ep,da⟩:=dd.dictAt;refine PySem.W.kdl_call (PySem.W.kdl_dict (knd:=ba X.prog X.w) (kvs:=vs) (ep:=ep) hd) (I.ok.hd hc) da (by rw[<-rel.length];exact z) λh' tk acc c' hk hS ⟨hn,hacc⟩=>?_;have hv:Vals (es.map λp=>kV p.1) acc.toList:=by
  refine Nx (by rw[dD,rel.length];simp[hn]) λi x u e1 e2=>?_;obtain⟨k,y,ek,hk'⟩:=hacc i u (by simpa using e2);rw[eP]at e1;have key:∀{l:List (fo×V)}{m:List (fo×dG)},KV l m->∀(i:Nat)(p:fo×V)(q:fo×dG),l[i]?=some p->m[i]?=some q->p.1=q.1:=by
   intro l m r;induction r with
   |nil=>intro i p q e;simp at e
   |@cons a b as bs hh t ih=>
    intro i p q e1 e2;cases i with
    |zero=>simp at e1 e2;subst e1 e2;exact hh.1
    |succ i=>exact ih i p q (by simpa using e1) (by simpa using e2)
  cases eo:es[i]? with
  |none=>rw[eo]at e1;cases e1
  |some pr=>
   rw[eo]at e1;cases e1;have:=key rel i pr (k,y) eo ek;show RelV (kV pr.1) u;rw[this];exact SY hk'
 refine⟨.ref _,_,I.laid (t':=tk) (o:=.lst (es.map λp=>kV p.1)) hk (dR _) ⟨by rw[dD];exact z,acc.toList,c',hv,by simpa using hS⟩,rfl,q _ I.fresh⟩
def Mx(hc:X.calm=true)(hg:Gl X "list")(hm:X.mg "list"=none)(ha:jc X B E e g)(hn:iy e=true):CY X B E (.Call (.Name "list" p) [e] [] pos) (g1 iw g):=
 PE.imp (ml (CallR.or Iz (Og hc)) hg hm PyProof.Rows.boot_list (fe ha ik (a8 hn)) (by decide) (by decide) (a8 hn) rfl) λU H Q ⟨G,δ,R,q⟩=>⟨G,δ,R,by
  unfold af;unfold g1 at q;cases e:g δ with
  |er c=>rw[e]at q;exact q
  |st=>rw[e]at q;exact q
  |ok dx=>
   rw[e]at q;obtain⟨d,ed,ds,e2,qd⟩:=ResP.of (show ResP E G H (Res.of (iw dx)) _ from q);subst e2;intro vs G1 H1 e1 al;obtain⟨v,rfl,ax⟩:=ArgsM.one al;unfold iw at ed;split at ed
   ·cases ed;obtain⟨l,vs,rfl,sq,dl⟩:=ax.lst e1.gh;exact .inl ⟨l,vs,rfl,.inl sq,λp hp=>qd p vs G1 _ (e1.trans (Ext.own e1.gh _ hp)) (de e1.hh hp) (de e1.gh hp) bj dl⟩
   ·cases ed;obtain⟨l,vs,rfl,sq,dl⟩:=ax.tup e1.gh;exact .inl ⟨l,vs,rfl,.inr sq,λp hp=>qd p vs G1 _ (e1.trans (Ext.own e1.gh _ hp)) (de e1.hh hp) (de e1.gh hp) bj dl⟩
   ·cases ed;obtain⟨l,es,rfl,h1,dl⟩:=Arg.dctK e1.gh ax;exact .inr ⟨l,es,rfl,h1,λp hp=>qd p _ G1 _ (e1.trans (Ext.own e1.gh _ hp)) (de e1.hh hp) (de e1.gh hp) bj (Gw dl)⟩
   ·cases ed⟩
def Ut:IsL (g1 iw g):=λδ d h=>by
 unfold g1 at h;cases e:g δ with
 |er c=>rw[e]at h;cases h
 |st=>rw[e]at h;cases h
 |ok dx=>
  rw[e]at h;have h':Res.of (iw dx)=.ok d:=h;unfold iw at h';split at h'
  ·cases h';exact⟨_,rfl⟩
  ·cases h';exact⟨_,rfl⟩
  ·cases h';exact⟨_,rfl⟩
  ·cases h'
end
section
variable{X:Cx}{G0 B:Hp}{E:EK}{e a b:Expr}{es:List Expr}{g h k:En->Res}{pos p:Pos}
def TN:fq X B E (.Dict [] [] pos) (gC (.dct false [])):=
 PE.imp M0 λU H Q ⟨G,δ,R,q⟩ p hp=>q (.ref p) (upd G p (.dK [])) _ (Ext.new R.gh _ hp) ⟨p,rfl,.inl ⟨rfl,[],bj,rfl⟩⟩
def Od:CallR X (.type "dict") (λxs H Q=>∃p es,xs=[.ref p]/\H p=some (.dK es)/\∀l,H l=none->Q (.ref l) (upd H l (.dK es))):=by
 intro pins s U H xs us Q I r h;obtain⟨p,es,rfl,hp,q⟩:=h;obtain⟨u,rfl,rx⟩:=l9 r;cases rx;obtain⟨z,hd,vs,rel,dd⟩:=K9 I.hok hp;refine kt_call_dict hd dd (by rw[<-rel.length];exact z) λh' hm hs=>?_;refine⟨.ref _,_,I.laid (t':=s.toks) (o:=.dK es) (λb u e=>?_) (dR _) ⟨z,beq_eq_false_iff_ne.mpr (jJ (eM I.big)),vs,rel,hm⟩,rfl,q _ (I.hok.fresh (dR _))⟩;have hb:b≠s.heap.objs.size:=λz=>by
  subst z;exact fR _ (dY e)
 rw[hs.2 b hb];exact dE _ e
def EnvR.setDc{K:KA}{G G' H H':Hp}{U:St}{δ:En}{i:Nat}{a:Addr}{kvs:List (D×D)}{es:List (fo×V)}(R:EnvR K B G H U δ)(e:Ext G H G' H')(hn:H a=none)(gn:G' a=none)(ha:H' a=some (.dK es))(dk:DenK K G' kvs es):EnvR K B G' H' (U.set i (some (.ref a))) (δ.set i (.od false kvs)):=by
 have R':=R.ext e;have bn:B a=none:=de R.bh hn;have oth:∀(j:Nat) s,δ[j]?=some s->s.own=true->U[j]?=some (some (V.ref a))->False:=λj s q1 q2 q3=>by
  obtain⟨o,z1,z2⟩:=R.sl j s q1;rw[q3]at z1;cases z1;obtain⟨a',z,u,z3,_⟩:=z2.ref q2;cases z;rw[hn]at z3;cases z3
 have at_i:∀{s:Sl},(δ.set i (.od false kvs))[i]?=some s->s=.od false kvs/\i<δ.length:=λq=>by
  have hl:i<δ.length:=by
   have:=(List.getElem?_eq_some_iff.mp q).1;rwa [fE]at this
  rw[dW hl]at q;cases q;exact⟨rfl,hl⟩
 refine⟨R'.bh,R'.gh,by rw[fE,fE];exact R.len,λj s q=>?_,λj s b q1 q2 q3=>?_,λj k s t b q1 q2 q3 q4 q5 q6=>?_,R'.gb⟩
 ·by_cases z:i=j
  ·subst z;obtain⟨rfl,hl⟩:=at_i q;exact⟨some (.ref a),dW (by rw[R.len];exact hl),a,es,rfl,ha,dk⟩
  ·rw[dZ z]at q⊢;exact R'.sl j s q
 ·by_cases z:i=j
  ·subst z;obtain⟨rfl,hl⟩:=at_i q1;rw[dW (by rw[R.len];exact hl)]at q3;cases q3;exact⟨gn,bn⟩
  ·rw[dZ z]at q1 q3;exact R'.own j s b q1 q2 q3
 ·by_cases zj:i=j
  ·subst zj;obtain⟨rfl,hl⟩:=at_i q1;rw[dW (by rw[R.len];exact hl)]at q5;cases q5
   by_cases zk:i=k
   ·exact zk
   ·rw[dZ zk]at q2 q6;exact(oth k t q2 q4 q6).elim
  ·rw[dZ zj]at q1 q5
   by_cases zk:i=k
   ·subst zk;obtain⟨rfl,hl⟩:=at_i q2;rw[dW (by rw[R.len];exact hl)]at q6;cases q6;exact(oth j s q1 q3 q5).elim
   ·rw[dZ zk]at q2 q6;exact R'.dis j k s t b q1 q2 q3 q4 q5 q6
def bU(K:KA)(B:Hp)(E:EK)(g:En->Res):TE:=λU H Q=>∃G δ,EnvR K B G H U δ/\ResP E G H (g δ) λd=>∃kvs,d=.dct false kvs/\∀a es G' H',Ext G H G' H'->H a=none->G' a=none->H' a=some (.dK es)->DenK K G' kvs es->Q (.ref a) H'
def EH(hg:Gl X "dict")(hm:X.mg "dict"=none)(ha:jc X B E e g)(hn:iy e=true):PE X (.Call (.Name "dict" p) [e] [] pos) (bU (kx X) B E g):=
 PE.imp (ml Od hg hm PyProof.Rows.boot_dict (fe ha ik (a8 hn)) (by decide) (by decide) (a8 hn) rfl) λU H Q ⟨G,δ,R,q⟩=>⟨G,δ,R,by
  unfold af;cases e:g δ with
  |er c=>rw[e]at q;exact q
  |st=>rw[e]at q;exact q
  |ok dx=>
   rw[e]at q;obtain⟨kvs,rfl,qd⟩:=q;intro vs G1 H1 e1 al;obtain⟨v,rfl,ax⟩:=ArgsM.one al;obtain⟨l,es,rfl,h1,dl⟩:=Arg.dctK e1.gh ax;exact⟨l,es,rfl,h1,λp hp=>qd p es G1 _ (e1.trans (Ext.own e1.gh _ hp)) (de e1.hh hp) (de e1.gh hp) bj dl⟩⟩
def Az(i:Nat)(g:En->Res):En->Out:=λδ=>(g δ).then λd=>match d with
 |.dct false kvs=>.nx (δ.set i (.od false kvs))
 |_=>.st
def HV(hs:PS X (.Assign [.Name x pos'] e pos) (Nr (bU (kx X) B E g) (tf i))):su X G0 B E (.Assign [.Name x pos'] e pos) (Az i g):=
 PS.imp hs λD U H ⟨G,δ,R,e,q⟩=>⟨G,δ,R,(rg e q).mono λd _ q=>by
  cases d with
  |dct t kvs=>
   cases t with
   |false=>exact⟨kvs,rfl,λa es G' H' e1 hn gn hh dl=>q _ G' H' e1.gg (R.setDc e1 hn gn hh dl) (e.trans e1)⟩
   |true=>exact q.elim
  |non=>exact q.elim
  |bl _=>exact q.elim
  |int _=>exact q.elim
  |str _=>exact q.elim
  |tup _=>exact q.elim
  |lst _=>exact q.elim
  |obj _ _=>exact q.elim
  |fn _=>exact q.elim⟩
end
def m6:List ((En->Res)×(En->Res))->En->Option (List (fo×D))
 |[],_=>some []
 |(k,v)::r,δ=>match k δ,v δ with
  | .ok dk, .ok dv => (match bw dk, m6 r δ with
   |some j,some l=>some ((j,dv)::l)
   |_,_=>none)
  |_,_=>none
def gc(kvs:List (D×D))(more:List (fo×D)):List (D×D):=more.foldl (λacc p=>pz acc p.1 p.2) kvs
def uh(ps:List ((En->Res)×(En->Res))):En->Res:=λδ=>match m6 ps δ with
 |some l=>.ok (.dct false (gc [] l))
 |none=>.st
def PD(K:KA)(G:Hp):List (fo×D)->List (fo×V)->Prop
 |[],[]=>True
 |(j,d)::r,(k,v)::q=>j=k/\Den K G d v/\PD K G r q
 |_,_=>False
theorem PD.length{K:KA}{G:Hp}:∀{l:List (fo×D)}{q:List (fo×V)},PD K G l q->l.length=q.length
 |[],[],_=>rfl
 |_::_,_::_,⟨_,_,h⟩=>by rw[dI,dI,PD.length h]
theorem PD.merge{K:KA}{G:Hp}:∀{l:List (fo×D)}{q:List (fo×V)}{kvs:List (D×D)}{es:List (fo×V)},PD K G l q->DenK K G kvs es->DenK K G (gc kvs l) (ni es q)
 |[],[],_,_,_,h=>h
 |(j,d)::r,(k,v)::q,kvs,es,⟨e,dv,t⟩,h=>by
  subst e;exact PD.merge (l:=r) (q:=q) t (h.put dv j)
def LY{K:KA}{G:Hp}{k:fo}{v:V}(h:Den K G (kD k) v):v=kV k:=by
 cases k<;>exact h
section
variable{X:Cx}{B:Hp}{E:EK}{pos:Pos}
theorem Mz{K:KA}{U:St}{δ:En}{Q:List (V×V)->Hp->Prop}:∀(ps:List ((En->Res)×(En->Res)))(l:List (fo×D))(G H:Hp),EnvR K B G H U δ->m6 ps δ=some l->
  (∀kvs G' H',Ext G H G' H'->PD K G' l kvs->Q (kvs.map λkv=>(kV kv.1,kv.2)) H')->Kk (ps.map λp=>(Vy K B E p.1,Vy K B E p.2)) U H Q
 |[],l,G,H,R,e,q=>by cases e;exact q [] G H (Ext.refl R.gh) jM
 |(gk,gv)::r,l,G,H,R,e,q=>by
  unfold m6 at e;cases ek:gk δ with
  |ok dk=>
   cases ev:gv δ with
   |ok dv=>
    rw[ek,ev]at e;dsimp only at e;cases ej:bw dk with
    |none=>rw[ej]at e;cases e
    |some j=>
     cases el:m6 r δ with
     |none=>rw[ej,el]at e;cases e
     |some t=>
      rw[ej,el]at e;cases e;have ed:=X9 ej;subst ed;refine⟨G,δ,R,?_⟩;show ResP E G H (gk δ) _;rw[ek];intro v G1 H1 e1 dn;have hv:=LY dn;subst hv;refine⟨G1,δ,R.ext e1,?_⟩;show ResP E G1 H1 (gv δ) _;rw[ev];intro u G2 H2 e2 du;exact Mz r t G2 H2 ((R.ext e1).ext e2) el λkvs G3 H3 e3 pd=>q ((j,u)::kvs) G3 H3 ((e1.trans e2).trans e3) ⟨rfl,du.mono e3.gg,pd⟩
   |er c=>rw[ek,ev]at e;cases e
   |st=>rw[ek,ev]at e;cases e
  |er c=>rw[ek]at e;cases e
  |st=>rw[ek]at e;cases e
theorem D1:∀{ps:List ((En->Res)×(En->Res))}{δ:En}{l:List (fo×D)},m6 ps δ=some l->l.length=ps.length
 |[],δ,l,e=>by cases e;rfl
 |(gk,gv)::r,δ,l,e=>by
  unfold m6 at e;split at e
  ·split at e
   ·rename_i h;cases e;rw[dI,dI,D1 h]
   ·cases e
  ·cases e
def GS{keys:List (Option Expr)}{values:List Expr}{ps:List ((En->Res)×(En->Res))}(h:QX X pos keys values (ps.map λp=>(Vy (kx X) B E p.1,Vy (kx X) B E p.2)))(hall:keys.all (·.isSome)=true)(hl:keys.length=values.length)(h0:keys≠[])(h15:keys.length<=15)(hp:ps.length<=15):
  fq X B E (.Dict keys values pos) (uh ps):=
 PE.imp (FO h hall hl h0 h15) λU H Q ⟨G,δ,R,q⟩ p hn=>by
  unfold uh at q;cases e:m6 ps δ with
  |none=>rw[e]at q;exact q.elim
  |some l=>
   rw[e]at q;have eo:Ext G H G (upd H p (.dK [])):=Ext.own R.gh _ hn;refine Mz ps l G _ (R.ext eo) e λkvs G2 H2 e2 pd=>⟨e2.hh p _ bj,kvs,rfl,by rw[<-pd.length,D1 e];exact hp,?_⟩;have gp:G p=none:=de R.gh hn;have gn:G2 p=none:=e2.fr p _ bj gp rfl;have ne:∀{b u},H b=some u->b≠p:=λz=>b0 z hn;refine q (.ref p) (upd G2 p (.dK (ni [] kvs))) _ ⟨e2.gg.trans (di gn _),λb u z=>?_,λb u z=>?_,λb u z g w=>?_⟩ ⟨p,rfl,.inl ⟨rfl,_,bj,DenK.mono (di gn _) (pd.merge (kvs:=[]) (es:=[]) rfl)⟩⟩
   ·rw[a6 (ne z)];exact e2.hh b u (by rw[a6 (ne z)];exact z)
   ·by_cases hb:b=p
    ·subst hb;rw[bj]at z⊢;exact z
    ·rw[a6 hb]at z⊢;exact e2.gh b u z
   ·rw[a6 (ne z)];exact e2.fr b u (by rw[a6 (ne z)];exact z) g w
end
def Jx:typeLookup (.type "list") "keys"=pure none:=am_miss_of_fast (by decide+kernel)
def yy:typeLookup (.type "list") "__getattr__"=pure none:=by rw[rS,oO];kernel_rfl
def Jo(a:Addr)(its:Array dG)(n:Nat)(sl:Array (Option dG))(u:Tok):
  Meets (Builtin.«object.__getattribute__» ⟨[.ref a,.str "keys" u],[]⟩) (λA R s=>s.heap.get? a=some {cls:=.type "list",dict:=none,data:=.seq its n,slots:=sl}/\raisesAttr (.ref a) "keys" A R s):=
 Meets.of_wp λprog w A R s hs=>by
  obtain⟨hp,g,d,tk,os⟩:=s;obtain⟨hx,hs⟩:=hs;have hT:(⟨hp,g,d,tk,os⟩:dP).TypeIs (.ref a) "list":=⟨_,hx,rfl⟩;have hmiss:=Jx;unfold Builtin.«object.__getattribute__»
  repeat (any_goals (first|assumption|wp_step))
  exact wpAny_raiseAttrError (A:=A.in1) hs.1 hs.2 (attrMsg_fits (by decide+kernel) (by rw[jC];decide))
def Jy{prog:eS}{w:fI}{A:fV}{E:dG->dP->Prop}{h:Heap}{g:Array GenState}{d:Drawn}{t:Nat}{os:OsState}{a:Addr}{its:Array dG}{n:Nat}{sl:Array (Option dG)}{Q:Option dG->dP->Prop}(hx:h.get? a=some {cls:=.type "list",dict:=none,data:=.seq its n,slots:=sl})(hA:A.handled=none)
  (hq:∀h' tk,(∀b ob,h.get? b=some ob->h'.get? b=some ob)->Q none ⟨h',g,d,tk,os⟩):dX (eJ prog w) A (getAttr? (.ref a) "keys") Q E ⟨h,g,d,t,os⟩:=by
 have hT:(⟨h,g,d,t,os⟩:dP).TypeIs (.ref a) "list":=⟨_,hx,rfl⟩;have f1:=sub_AttributeError;have f3:=F.slot_list_getattribute.lookup;have f4:=F.slot_list_getattribute.bind (.ref a);have f5:=yy;unfold getAttr? getAttrBy? getAttrBy
 repeat (any_goals (first|assumption|((with_reducible show dX _ _ (call (Value.builtin "list.__getattribute__") _ _) _ _ _);refine call_meets F.slot_list_getattribute hT F.entry_list_ga (F.args_list_getattribute_2 _ _) (Jo a its n sl _) ⟨hx,hA,λh' tk' e hx'=>?_⟩)|wp_step))
 obtain⟨t',u',he⟩:=hx'.there;show dX _ _ (getattributeRaised _ _ _ _ _ _ _) _ _ _;unfold getattributeRaised
 repeat (any_goals (first|assumption|wp_step))
 exact hq h' _ hx'.keeps
def sv:entryFor table "dict.update.loop"=some Builtin.«dict.update.loop»:=entryFor_of_tree (by kernel_rfl)
def jr:plainId "dict.update.loop"=true:=by decide+kernel
def Ip(prog:eS)(w:fI)(h:Heap)(kv:fo×dG)(v:dG):Prop:=∃p o k n,v=.ref p/\h.get? p=some o/\o.cls=.type "tuple"/\o.data=.seq #[k,kv.2] n/\(ba prog w).is kv.1 k=true
section
variable{prog:eS}{w:fI}{A:fV}{R:Result->dP->Prop}{I:Addr}{fp wr:List Addr}{St:Nat->Heap->Prop}{ps:List (fo×dG)}{items:Array dG}
def Py(W:Walks prog w A.in1 I fp wr ps.length (λi v=>items[i]?=some v) St)(d:Addr)(hd:d∉fp)(hz:ps.length<=dN):
  ∀(rest:List (fo×dG))(i:Nat)(s:dP)(kvs:List (fo×dG)),ps.drop i=rest->i<=ps.length->St i s.heap->s.heap.DictOf (ba prog w) d kvs->kvs.length<=i->
   (∀(j:Nat) kv v,ps[j]?=some kv->items[j]?=some v->Ip prog w s.heap kv v/\v≠.ref d/\∀b∈wr,v≠.ref b)->
   (∀h' tk,(∀b o,b≠d->b∉wr->s.heap.get? b=some o->h'.get? b=some o)->h'.DictOf (ba prog w) d (merged kvs rest)->R (.ok (.ret .none)) {s with heap:=h',toks:=tk})->
   lM (eJ prog w) A (.builtin "dict.update.loop" ⟨[.ref d,.ref I,iD i,.none],[]⟩) R s:=by
 have haw:d∉wr:=λz=>hd (W.sub _ z);intro rest;induction rest with
 |nil=>
  intro i s kvs hdr hi st hT hk hP hR;have hin:i=ps.length:=by
   have:=congrArg kS hdr;rw[iI,jD]at this
   lia
  subst hin;refine jE sv ?_;rw[iG jr _];show dX _ A.in1 (kZ (.ref I)>>=_) _ _ s;refine dA (W.done s _ _ st λh' tk hk=>?_);show dX _ A.in1 (Builtin.Dict.addKeywords d []>>=λ_=>ret fC) _ _ _;refine dA (dB (dB (hR h' tk (λb o _ hb e=>hk b o hb e) ?_)));obtain⟨o,es,ep,h1,h2⟩:=hT;exact⟨o,es,ep,hk d o haw h1,h2⟩
 |cons n rest ih=>
  intro i s kvs hdr hi st hT hkl hP hR;have hlt:i<ps.length:=by
   have:=congrArg kS hdr;rw[iI,dI]at this
   lia
  have hni:ps[i]?=some n:=by
   have:(ps.drop i)[0]?=some n:=by rw[hdr];rfl
   simpa using this
  have hd':ps.drop (i+1)=rest:=by
   have:(ps.drop i).drop 1=rest:=by rw[hdr];rfl
   rw[List.drop_drop]at this;exact this
  refine jE sv ?_;rw[iG jr _];show dX _ A.in1 (kZ (.ref I)>>=_) _ _ s;refine dA (W.item i s _ _ hlt st λv h1 tk1 hv st1 hk1=>?_);have hP':∀(j:Nat) kv v,ps[j]?=some kv->items[j]?=some v->Ip prog w h1 kv v/\v≠.ref d/\∀b∈wr,v≠.ref b:=λj kv v e1 e2=>by
   obtain⟨⟨p,o,k,m,rfl,g1,g2⟩,g3,g4⟩:=hP j kv v e1 e2;exact⟨⟨p,o,k,m,rfl,hk1 p o (λz=>g4 p z rfl) g1,g2⟩,g3,g4⟩
  obtain⟨⟨p,o,k,m,rfl,g1,g2,g3,g4⟩,g5,g6⟩:=hP' i n v hni hv;have hT1:h1.DictOf (ba prog w) d kvs:=by
   obtain⟨o,es,ep,z1,z2⟩:=hT;exact⟨o,es,ep,hk1 d o haw z1,z2⟩
  have hTp:Shared.TypeIs {s with heap:=h1,toks:=tk1} (.ref p) "tuple":=⟨o,g1,g2⟩;show dX _ A.in1 (sG [eZ p] _>>=_) _ _ _;refine dA (gW ?_);refine dA (mJ ?_);unfold Builtin.Dict.pairItems;refine dA (lO hTp ?_);rw[dJ (by decide)];refine dA (fU g1 g3 (dB ?_));show dX _ A.in1 (sG [k,n.2] (dictSet d k n.2)) _ _ _;refine gW (wpAny_dictSet_pairs (hsz:=by lia) g4 hT1 λh2 hT2 sb=>?_);refine dB ⟨jZ jr _,?_⟩;have ei:iD ((i:Int)+1)=iD ((i+1:Nat):Int):=by push_cast;rfl
  show lM (eJ prog w) A (.builtin "dict.update.loop" ⟨[.ref d,.ref I,iD ((i:Int)+1),.none],[]⟩) R _;rw[ei];refine ih (i+1) _ (stored kvs n.1 n.2) hd' hlt (W.frame _ _ _ st1 λc hc o e=>?_) hT2 ?_ (λj kv v e1 e2=>?_) λh' tk hk hT'=>?_
  ·rw[sb.2 c (λz:c=d=>hd (z▸hc))];exact e
  ·have:=stored_length_le kvs n.1 n.2;lia
  ·obtain⟨⟨q,o',k',m',rfl,z1,z2⟩,z3,z4⟩:=hP' j kv v e1 e2;exact⟨⟨q,o',k',m',rfl,(sb.2 q (λz=>z3 (by rw[z]))).trans z1,z2⟩,z3,z4⟩
  ·refine hR h' tk (λc o hc hw e=>hk c o hc hw ?_) hT';show h2.get? c=some o;rw[sb.2 c hc];exact hk1 c o hw e
end
section
variable{prog:eS}{w:fI}{A:fV}{E:dG->dP->Prop}{s:dP}
def Of{its:Array dG}{ps:List (fo×dG)}(hh:A.handled=none)(hl:s.heap.get? l=some {cls:=.type "list",dict:=none,data:=.seq its n,slots:=sl})(hlen:its.size=ps.length)(hz:ps.length<=dN)
  (hP:∀(j:Nat) kv v,ps[j]?=some kv->its[j]?=some v->Ip prog w s.heap kv v)
  (h:∀h' tk,h'.DictOf (ba prog w) s.heap.objs.size (merged [] ps)->(∀c o,s.heap.get? c=some o->h'.get? c=some o)->Q (.ref s.heap.objs.size) {s with heap:=h',toks:=tk}):
  dX (eJ prog w) A (call (.type "dict") [.ref l]) Q E s:=by
 refine callType_codes (Q₁:=λobj s₁=>obj=.ref s.heap.objs.size/\s₁={s with heap:=s.heap.push {cls:=.type "dict",data:=.dict #[]}}) F.kt_called_dict (F.kt_typeCall_dict_1 _) F.entry_dict_init (kt_code_dict_new _ ⟨rfl,rfl⟩) ?_
 rintro obj s₁ ⟨rfl,rfl⟩
 have hnew:(s.heap.push {cls:=.type "dict",data:=.dict #[]}).DictOf (ba prog w) s.heap.objs.size []:=Heap.DictOf.new s.heap;generalize hh1:s.heap.push {cls:=.type "dict",data:=.dict #[]}=h1 at hnew⊢;have k1:∀c o,s.heap.get? c=some o->h1.get? c=some o:=λc o e=>by rw[<-hh1];exact dE _ e
 have hl1:=k1 _ _ hl;have hT:Shared.TypeIs {s with heap:=h1} (.ref l) "list":=⟨_,hl1,rfl⟩;refine⟨hnew.typeIs,F.args_dict_init_2 _ _,?_⟩;unfold Builtin.«dict.__init__»;refine dA ?_;unfold Builtin.Dict.selfAndRest;refine dA (wpAny_notOrdered_dict hnew.typeIs ?_);show dX _ _ (pure (s.heap.objs.size,[eZ l])) _ _ _;refine dB ?_;show dX _ _ (Builtin.Dict.updateFrom "dict.__init__" s.heap.objs.size (.ref l) [] .none) _ _ _;unfold Builtin.Dict.updateFrom;refine dA (lO hT ?_);rw[dJ (by decide)];obtain⟨hp,g,dr,tk,os⟩:=s;refine dA (Jy hl1 (by simpa using hh) λh2 tk2 k2=>?_);rw[dJ (by rfl)];refine dA (lJ ?_);have hl2:=k2 _ _ hl1;refine dA (lW (items:=its) ⟨_,hl2,rfl,n,rfl⟩ ?_);refine dB ⟨jZ jr _,?_⟩;have hl2':h2.IsList l its:=⟨_,hl2,rfl,n,rfl⟩;obtain⟨od,es,ep,hod,hrest⟩:=hnew;have hod2:=k2 _ _ hod;have d2:hp.objs.size<h2.objs.size:=dY hod2;have lt:l<hp.objs.size:=dY hl;have hneI:l≠h2.objs.size:=eM (oA lt d2);have W:=Walks.list (prog:=prog) (w:=w) (A:=A.in1.in1) hh h2.objs.size l hneI its;rw[hlen]at W;show lM _ _ (.builtin "dict.update.loop" ⟨[_,_,iD ((0:Nat):Int),.none],[]⟩) _ _;refine Py W hp.objs.size ?_ hz ps 0 _ [] rfl (fZ _) ⟨⟨_,eD _ rfl,rfl,rfl⟩,hl2'.push _⟩ ⟨od,es,ep,dE _ hod2,hrest⟩ (fZ _) (λj kv v e1 e2=>?_) λh' tk' hk hD=>⟨rfl,h h' tk' hD λc o e=>?_⟩
 ·simp only[gD,mP,or_false,not_or];exact⟨eM d2,jS lt⟩
 ·obtain⟨p,o,k,m,rfl,g1,g2⟩:=hP j kv v e1 e2;have lp:p<hp.objs.size:=dY g1;refine⟨⟨p,o,k,m,rfl,dE _ (k2 _ _ (k1 _ _ g1)),g2⟩,λz=>?_,λb hb z=>?_⟩
  ·injection z with z
   exact eM lp z
  ·injection z with z
   have:b=h2.objs.size:=by simpa using hb
   exact eM (oA lp d2) (z.trans this)
 ·have lc:c<hp.objs.size:=dY e;refine hk c o (eM lc) (λhb=>?_) (dE _ (k2 _ _ (k1 _ _ e)));have:c=h2.objs.size:=by simpa using hb
  exact eM (oA lc d2) this
end
noncomputable def lx:List D->Option (List (fo×D))
 |[]=>some []
 | .tup [k, v] :: r => (match bw k, lx r with
  |some j,some l=>some ((j,v)::l)
  |_,_=>none)
 |_=>none
def r9:D->Option D
 |.lst ds=>if ds.length<=dN then(lx ds).map λl=>.dct false (gc [] l)else none
 |_=>none
def My(h:lx (d::r)=some l):∃k v j t,d=.tup [k,v]/\bw k=some j/\lx r=some t/\l=(j,v)::t:=by
 unfold lx at h;split at h
 ·rename_i e;cases e
 ·rename_i k v r' e;cases e;cases e1:bw k with
  |none=>rw[e1]at h;cases h
  |some j=>
   cases e2:lx r with
   |none=>rw[e1,e2]at h;cases h
   |some t=>rw[e1,e2]at h;cases h;exact⟨k,v,j,t,rfl,e1,rfl,rfl⟩
 ·cases h
section
variable{X:Cx}{B:Hp}{E:EK}{e:Expr}{g:En->Res}{pos p:Pos}
theorem Hu(I:Inv X pins U H s)(sg:Same G H):∀{ds:List D}{l:List (fo×D)}{vs:List V}{its:List dG},lx ds=some l->DenL (kx X) G ds vs->Vals vs its->
  ∃(kvs:List (fo×V)) (ps:List (fo×dG)),KV kvs ps/\PD (kx X) G l kvs/\ps.length=its.length/\∀(j:Nat) kv v,ps[j]?=some kv->its[j]?=some v->Ip X.prog X.w s.heap kv v
 |[],l,vs,its,h,dl,r=>by
  cases h;cases (show vs=[]from dl);cases r;exact⟨[],[],.nil,jM,rfl,λj kv v e=>by simp at e⟩
 |d::ds,l,vs,its,h,dl,r=>by
  obtain⟨k,v,j,t,rfl,ek,et,rfl⟩:=My h;obtain⟨v0,vr,rfl,dv,dr⟩:=dl;cases r with
  |cons rv rr=>
   obtain⟨kvs,ps,a1,a2,a3,a4⟩:=Hu I sg et dr rr;obtain⟨b,us,rfl,hb,dl2⟩:=dv;obtain⟨uk,q1,rfl,dk,uv,q2,rfl,du,e0⟩:=dl2;cases e0;have huk:uk=kV j:=ou (H:=G) (.inl dk) ek;subst huk;obtain⟨_,its2,r2,o,h1,h2,n,h3⟩:=(show ObjOk X.prog X.w H s.heap b (.tup [kV j,uv])from I.hok b _ (sg _ _ hb));cases r2 with
   |cons ra rb=>
    cases rb with
    |cons rc rd=>
     cases rd;rename_i kk vv;refine⟨(j,uv)::kvs,(j,vv)::ps,.cons ⟨rfl,rc⟩ a1,⟨rfl,du,a2⟩,by rw[dI,dI,a3],λi kv w e1 e2=>?_⟩;cases i with
     |zero=>
      simp at e1 e2;subst e1 e2;exact⟨b,o,kk,n,rv,h1,h2,by simpa using h3,wq ra⟩
     |succ i=>exact a4 i kv w (by simpa using e1) (by simpa using e2)
def OS(X:Cx):List V->Hp->VK->Prop:=λxs H Q=>∃a vs G ds l,xs=[.ref a]/\SqL X.K H a vs/\Same G H/\DenL (kx X) G ds vs/\ds.length<=dN/\lx ds=some l/\∀p kvs,H p=none->PD (kx X) G l kvs->Q (.ref p) (upd H p (.dK (ni [] kvs)))
def Oe(hc:X.calm=true):CallR X (.type "dict") (OS X):=by
 intro pins s U H xs us Q I r q;obtain⟨a,vs,G,ds,l,rfl,sq,sg,dl,hz,e,q⟩:=q;obtain⟨u,rfl,ru⟩:=l9 r;cases ru;obtain⟨its,rv,⟨o,n,h1,h2,h3,h4⟩,_⟩:=I.list sq;obtain⟨ocls,odict,odata,oslots⟩:=o;simp only at h2 h3 h4;subst h2 h3 h4;obtain⟨kvs,ps,a1,a2,a3,a4⟩:=Hu I sg e dl rv;have zl:ps.length<=dN:=by rw[a3,<-rv.length,<-dl.length];exact hz
 have zk:(ni [] kvs).length<=dN:=by
  have h1:=pq kvs [];have h2:kvs.length=ps.length:=mZ a1;simp only[jD]at h1
  lia
 refine Of (I.ok.hd hc) h1 (by rw[a3];simp) zl (λj kv v e1 e2=>a4 j kv v e1 (by simpa using e2)) λh' tk hD hk=>?_;exact⟨.ref s.heap.objs.size,_,I.laid (a:=s.heap.objs.size) (o:=.dK (ni [] kvs)) (t':=tk) (λb o e=>hk b o e) (dR _) ⟨zk,beq_eq_false_iff_ne.mpr (jJ (eM I.big)),_,a1.merge .nil,hD⟩,rfl,q _ kvs (I.hok.fresh (dR _)) a2⟩
def Zw(hc:X.calm=true)(hg:Gl X "dict")(hm:X.mg "dict"=none)(ha:jc X B E e g)(he:eE [e] X.env=(false,eval e X.env)::eE [] X.env):fq X B E (.Call (.Name "dict" p) [e] [] pos) (g1 r9 g):=
 PE.imp (ml (Oe hc) hg hm PyProof.Rows.boot_dict (fe ha ik he) (by decide) (by decide) he rfl) λU H Q q=>KD (λG H x dx d sg ax ed Q q=>by
  unfold r9 at ed;split at ed
  ·rename_i ds
   by_cases hz:ds.length<=dN
   ·rw[dJ hz]at ed;cases el:lx ds with
    |none=>rw[el]at ed;cases ed
    |some l=>
     rw[el]at ed;cases ed;obtain⟨b,vs,rfl,sq,dl⟩:=ax.lst sg;refine⟨b,vs,G,ds,l,rfl,sq,sg,dl,hz,el,λp kvs hp pd=>q _ (upd G p (.dK (ni [] kvs))) _ (Ext.new sg _ hp) ⟨p,rfl,.inl ⟨rfl,_,bj,?_⟩⟩⟩;exact DenK.mono (di (de sg hp) _) (pd.merge (kvs:=[]) (es:=[]) rfl)
   ·rw[dM hz]at ed;cases ed
  ·cases ed) q
end
def L7(w:fI):Bool:= !(w.params.followText "set-order")
section
variable{prog:eS}{w:fI}{A:fV}{E:dG->dP->Prop}{s:dP}
def EM(x:dG)(h:Q (.ref s.heap.objs.size) {s with heap:=s.heap.push {cls:=.type "set",dict:=none,data:=.set #[] 0 (.fresh 0 0 (L7 w))}}):
  lM (eJ prog w) A (.call (.builtin "set.__new__") ⟨[.type "set",x],[]⟩) (wants Q E) s:=by
 refine codeAny_of_tree ?_;show dX _ A.in1 (checkBuiltinCall "set.__new__" ⟨[.type "set",x],[]⟩>>=λ_=>again (.builtin "set.__new__" ⟨[.type "set",x],[]⟩)) _ _ s;refine dA (oZ (PySem.F.newCall_set_1 x) (dB ?_));refine⟨jZ PySem.F.plain_set_new _,jE PySem.F.entry_set_new ?_⟩;rw[iG PySem.F.plain_set_new _];unfold Builtin.«set.__new__» Builtin.Frozenset.newClass;have hsub:=sub_set_self;obtain⟨hp,gs,dr,tk,os⟩:=s;dsimp only at h⊢
 wp_walk
 refine mQ (dB ?_);dsimp only;simp only[newObj];refine dA (wpAny_alloc (dB (dB ?_)));exact h
end
theorem Du:∀{l:List α}{i:Nat}(h:i<l.length),(l[i]::l.eraseIdx i).Perm l
 |a::r,0,_=>mK _
 |a::r,i+1,h=>by
  have h':i<r.length:=by simpa using h
  exact(oF a (r[i]'h') (r.eraseIdx i)).trans ((Du h').cons a)
theorem Bt(next:Nat->Nat):∀(n k:Nat)(left:List α)(out:Array α),left.length=n->(pickOrder.go next n k left out).toList.Perm (out.toList++left)
 |0,k,left,out,h=>by
  have:left=[]:=List.length_eq_zero_iff.mp h;subst this;unfold pickOrder.go;rw[gZ]
 |n+1,k,left,out,h=>by
  unfold pickOrder.go;have hlt:next k % left.length<left.length:=Nat.mod_lt _ (by lia)
  rw[eR hlt];dsimp only;refine(Bt next n (k+1) _ _ (by rw[List.length_eraseIdx,dJ hlt];lia)).trans ?_;rw[Array.toList_push,oD];refine List.Perm.append_left _ ?_;exact Du hlt
def Ve(next:Nat->Nat)(xs:Array α):(pickOrder next xs).toList.Perm xs.toList:=by
 have:=Bt next xs.size 0 xs.toList #[] (by simp)
 simpa[pickOrder]using this
noncomputable def pb(w:fI)(a ep:Nat)(es:Array (Int×dG)):Array (Int×dG):=if w.params.followText "set-order" then pickOrder (w.params.setOrder a ep) es else es
def og(w:fI)(a ep:Nat)(es:Array (Int×dG)):(pb w a ep es).toList.Perm es.toList:=by
 unfold pb;split
 ·exact Ve _ _
 ·exact mK _
def SetIt(h:Heap)(I a:Addr)(slot i n ep:Nat):Prop:=h.get? I=some {cls:=.type "set_iterator",data:=.fields #[iD slot,iD i,.ref a,iD n,iD ep]}
def q8:Slot "set_iterator" "__next__" "set_iterator.__next__":=
 .of (owner:="set_iterator") (n:="__next__") (by rw[rS,oO];kernel_rfl) (by decide+kernel) (by decide+kernel) (by decide+kernel) (.inl (by decide+kernel)) (by rw[isSubtype_type];kernel_rfl)
def Fe:entryFor table "set_iterator.__next__"=some Builtin.«set_iterator.__next__»:=entryFor_of_tree (by kernel_rfl)
def Fd(a:dG):argsOk "set_iterator.__next__" ⟨[a],[]⟩:=by
 unfold argsOk;kernel_rfl
def Nh:Slot "set_iterator" "__iter__" "set_iterator.__iter__":=
 .of (owner:="set_iterator") (n:="__iter__") (by rw[rS,oO];kernel_rfl) (by decide+kernel) (by decide+kernel) (by decide+kernel) (.inl (by decide+kernel)) (by rw[isSubtype_type];kernel_rfl)
def Qc:entryFor table "set.__iter__"=some Builtin.«frozenset.__iter__»:=entryFor_alias (id':="frozenset.__iter__") (by kernel_rfl) rfl (by decide+kernel) (by kernel_rfl)
def Qe(a:dG):argsOk "set_iterator.__iter__" ⟨[a],[]⟩:=by
 unfold argsOk;kernel_rfl
def Qf:entryFor table "set_iterator.__iter__"=some Builtin.«dict_keyiterator.__iter__»:=entryFor_alias (id':="dict_keyiterator.__iter__") (by kernel_rfl) (by first|rfl|decide+kernel) (by decide+kernel) (by kernel_rfl)
section
variable{prog:eS}{w:fI}{A:fV}{E:dG->dP->Prop}{s:dP}{a I:Addr}{S:List Nat}{es:Array (Int×dG)}{ep i:Nat}
def SetIt.ty{slot n:Nat}(h:SetIt s.heap I a slot i n ep):s.TypeIs (.ref I) "set_iterator":=⟨_,h,rfl⟩
def AM(hT:s.TypeIs (.ref a) "set")(h:Q false s):dX (eJ prog w) A (pR (.ref a)) Q E s:=by
 unfold pR;refine dA (kK hT PySem.F.slot_set_len.lookup ?_);generalize hid:("set.__len__":String)=id0
 wp_delta
 rw[show splitId id0=some ("set","__len__")from by subst hid;decide+kernel];subst hid;refine dA (kA (T:="set") (b:=true) hT sub_set_self ?_);refine pK (λhab=>absurd hab (by decide)) (λ_=>?_);refine pK (λ_=>?_) (λhab=>absurd (by decide+kernel) hab);exact dA (lO hT (dB h))
end
end Pu
end
section
namespace Pu
open PySem PySem.Spec PyProof.Rows L2 PySem.W
def GoOk(n:Nat)(cmp:Nat->Nat->Bool):KasT α->(α->Prop)->Prop
 |.ret a,R=>R a
 |.ask i j k,R=>i<n/\j<n/\GoOk n cmp (k (cmp i j)) R
section
variable{n:Nat}{cmp:Nat->Nat->Bool}
theorem GoOk.mono{R R':α->Prop}(h:∀a,R a->R' a):∀{t:KasT α},GoOk n cmp t R->GoOk n cmp t R'
 |.ret a,g=>h a g
 |.ask i j k,⟨g1,g2,g3⟩=>⟨g1,g2,GoOk.mono h g3⟩
theorem GoOk.bind:∀{t:KasT α},GoOk n cmp t (λa=>GoOk n cmp (f a) R)->GoOk n cmp (t.bind f) R
 |.ret a,g=>g
 |.ask i j k,⟨g1,g2,g3⟩=>⟨g1,g2,GoOk.bind g3⟩
theorem GoOk.wp{α:Type}{C:Nat->Nat->(Bool->dP->Prop)->dP->Prop}{R:α->Prop}{Q:α->dP->Prop}{s:dP}(hc:∀i j (K:Bool->dP->Prop),i<n->j<n->K (cmp i j) s->C i j K s)(hq:∀a,R a->Q a s):
  ∀{t:KasT α},GoOk n cmp t R->t.kasWp C Q s
 |.ret a,g=>hq a g
 |.ask i j k,⟨g1,g2,g3⟩=>hc i j _ g1 g2 (GoOk.wp hc hq g3)
structure Ord(n:Nat)(cmp:Nat->Nat->Bool):Prop where
 as:∀i j,i<n->j<n->i≠j->cmp j i= !cmp i j
 tr:∀i j k,i<n->j<n->k<n->cmp i j=true->cmp j k=true->cmp i k=true
def At(p:Array Nat)(i:Nat):Nat:=p.getD i 0
def PermR(n:Nat)(p:Array Nat):Prop:=p.toList.Perm (eY n)
theorem PermR.size{p:Array Nat}(h:PermR n p):p.size=n:=by
 have:=List.Perm.length_eq h;simpa using this
def Kt{p:Array Nat}(h:i<p.size):At p i=p[i]:=by
 unfold At;simp[pY,h]
def PermR.lt{p:Array Nat}(h:PermR n p){i:Nat}(hi:i<n):At p i<n:=by
 have hs:i<p.size:=by rw[h.size];exact hi
 rw[Kt hs];exact List.mem_range.mp (h.mem_iff.mp (by simp))
def PermR.ne(h:PermR n p)(hi:i<n)(hj:j<n)(e:i≠j):At p i≠At p j:=by
 have hs:i<p.size:=by rw[h.size];exact hi
 have ht:j<p.size:=by rw[h.size];exact hj
 rw[Kt hs,Kt ht];have nd:p.toList.Nodup:=(h.nodup_iff).mpr List.nodup_range;intro z;have pw:=List.pairwise_iff_getElem.mp nd;rcases Nat.lt_or_gt_of_ne e with q|q
 ·exact pw i j (by simpa using hs) (by simpa using ht) q (by simpa using z)
 ·exact pw j i (by simpa using ht) (by simpa using hs) q (by simpa using z.symm)
def So(cmp:Nat->Nat->Bool)(p:Array Nat)(m:Nat):Prop:=∀a b,a<b->b<m->cmp (At p a) (At p b)=true
def De(cmp:Nat->Nat->Bool)(p:Array Nat)(m:Nat):Prop:=∀a b,a<b->b<m->cmp (At p b) (At p a)=true
def So.succ(O:Ord n cmp)(hp:PermR n p)(h1:1<=m)(hm:m<n)(h:So cmp p m)(hc:cmp (At p m) (At p (m - 1))=false):So cmp p (m+1):=by
 intro a b hab hb
 by_cases hb':b<m
 ·exact h a b hab hb'
 ·obtain rfl:b=m:=by lia
  have e:cmp (At p (b - 1)) (At p b)=true:=by
   have:=O.as (At p b) (At p (b - 1)) (hp.lt hm) (hp.lt (by lia)) (hp.ne hm (by lia) (by lia));rw[this,hc];rfl
  by_cases ha:a=b - 1
  ·rw[ha];exact e
  ·exact O.tr _ _ _ (hp.lt (by lia)) (hp.lt (by lia)) (hp.lt hm) (h a (b - 1) (by lia) (by lia)) e
def De.succ(O:Ord n cmp)(hp:PermR n p)(h1:1<=m)(hm:m<n)(h:De cmp p m)(hc:cmp (At p m) (At p (m - 1))=true):De cmp p (m+1):=by
 intro a b hab hb
 by_cases hb':b<m
 ·exact h a b hab hb'
 ·obtain rfl:b=m:=by lia
  by_cases ha:a=b - 1
  ·rw[ha];exact hc
  ·exact O.tr _ _ _ (hp.lt hm) (hp.lt (by lia)) (hp.lt (by lia)) hc (h a (b - 1) (by lia) (by lia))
theorem Ob{p:Array Nat}(O:Ord n cmp)(hp:PermR n p):∀(f m:Nat),1<=m->m+f<=n->So cmp p m->GoOk n cmp (kas_asc p f m) (λk=>m<=k/\k<=m+f/\So cmp p k/\(k<m+f->cmp (At p k) (At p (k - 1))=true))
 |0,m,h1,h2,h=>⟨dR _,dR _,h,λz=>by lia⟩
 |f+1,m,h1,h2,h=>by
  refine⟨hp.lt (show m<n by lia),hp.lt (show m - 1<n by lia),?_⟩;show GoOk n cmp (if cmp (At p m) (At p (m - 1))=true then KasT.ret m else kas_asc p f (m+1)) _
  by_cases hc:cmp (At p m) (At p (m - 1))=true
  ·rw[dJ hc];exact⟨dR _,by lia,h,λ_=>hc⟩
  ·rw[dM hc];refine(Ob O hp f (m+1) (by lia) (by lia) (h.succ O hp h1 (by lia) (by simpa using hc))).mono λk g=>?_;obtain⟨g1,g2,g3,g4⟩:=g;exact⟨by lia,by lia,g3,λz=>g4 (by lia)⟩
theorem Rm{p:Array Nat}(O:Ord n cmp)(hp:PermR n p):∀(f m:Nat),2<=m->m+f<=n->De cmp p m->GoOk n cmp (kas_desc f p m 0) (λr=>r.1=p/\r.2.2=0/\m<=r.2.1/\r.2.1<=m+f/\De cmp p r.2.1)
 |0,m,h1,h2,h=>⟨rfl,rfl,dR _,dR _,h⟩
 |f+1,m,h1,h2,h=>by
  have l1:At p m<n:=hp.lt (by lia);have l2:At p (m - 1)<n:=hp.lt (by lia);refine⟨l1,l2,?_⟩;show GoOk n cmp (if cmp (At p m) (At p (m - 1))=true then(if 0>0 then kas_desc f (kas_rev p (m - (0+1)) m) (m+1) 0 else kas_desc f p (m+1) 0)
   else .ask (At p (m - 1)) (At p m) λd=>if d=true then .ret (p,m,0)else kas_desc f p (m+1) (0+1)) _
  by_cases hc:cmp (At p m) (At p (m - 1))=true
  ·rw[dJ hc,dM (by lia)];refine(Rm O hp f (m+1) (by lia) (by lia) (h.succ O hp (by lia) (by lia) hc)).mono λr g=>?_;obtain⟨g1,g2,g3,g4,g5⟩:=g;exact⟨g1,g2,by lia,by lia,g5⟩
  ·rw[dM hc];have e:cmp (At p (m - 1)) (At p m)=true:=by
    have:=O.as (At p m) (At p (m - 1)) l1 l2 (hp.ne (by lia) (by lia) (by lia));rw[this];simpa using hc
   refine⟨l2,l1,?_⟩;dsimp only;rw[dJ e];exact⟨rfl,rfl,dR _,(show m<=m+(f+1) by lia),h⟩
def PermR.rev(hp:PermR n p)(i j:Nat):PermR n (kas_rev p i j):=(Array.perm_iff_toList_perm.mp (mirror_perm p i j _)).trans hp
def PermR.bub(hp:PermR n p)(i j:Nat):PermR n (bubble p i j):=(Array.perm_iff_toList_perm.mp (bubble_perm p i j)).trans hp
def zz:At p i=(p[i]?).getD 0:=by
 unfold At;simp[Array.getD_eq_getD_getElem?]
def Wq{p:Array Nat}(hm:m<=p.size)(hk:k<m):At (kas_rev p 0 m) k=At p (m - 1 - k):=by
 rw[zz,zz];unfold kas_rev;rw[getElem?_mirror_all hm];rw[dJ (by lia)]
 congr 2
 lia
def BX{m:Nat}(O:Ord n cmp)(hp:PermR n p)(h1:1<=m)(h2:m<=n)(h:De cmp p m):GoOk n cmp (kas_tail3 m n p) (λr=>PermR n r.2/\1<=r.1/\r.1<=n/\So cmp r.2 r.1):=by
 unfold kas_tail3;have hr:=hp.rev 0 m;have hs:So cmp (kas_rev p 0 m) m:=λa b hab hb=>by
  have hz:m<=p.size:=by rw[hp.size];exact h2
  rw[Wq hz (by lia),Wq hz hb];exact h _ _ (by lia) (by lia)
 refine GoOk.bind ((Ob O hr (n - m) m h1 (by lia) hs).mono λk g=>?_);obtain⟨g1,g2,g3,_⟩:=g;exact⟨hr,by lia,by lia,g3⟩
def W5{p:Array Nat}(O:Ord n cmp)(hp:PermR n p)(h2:2<=n):GoOk n cmp (kas_count n p) (λr=>PermR n r.2/\1<=r.1/\r.1<=n/\So cmp r.2 r.1):=by
 unfold kas_count;refine GoOk.bind ((Ob O hp (n - 1) 1 (dR _) (by lia) (λa b h1 h2=>by lia)).mono λm g=>?_);obtain⟨g1,g2,g3,g4⟩:=g
 by_cases e1:(m==n)=true
 ·rw[dJ e1];exact⟨hp,g1,by lia,g3⟩
 ·rw[dM e1];have ne:m≠n:=λz=>e1 (by rw[z];exact beq_self_eq_true _)
  by_cases e2:m>1
  ·rw[dJ e2];refine⟨hp.lt (show 0<n by lia),hp.lt (show m - 1<n by lia),?_⟩;have:cmp (At p 0) (At p (m - 1))=true:=g3 0 (m - 1) (by lia) (by lia);show GoOk n cmp (if cmp (At p 0) (At p (m - 1))=true then _ else _) _;rw[dJ this];exact⟨hp,g1,by lia,g3⟩
  ·rw[dM e2];obtain rfl:m=1:=by lia
   have c0:=g4 (by lia);unfold kas_descPart;refine GoOk.bind ((Rm O hp (n - 2) 2 (dR _) (by lia) (λa b h1 h2=>?_)).mono λr g=>?_)
   ·obtain rfl:b=1:=by lia
    obtain rfl:a=0:=by lia
    exact c0
   ·obtain⟨k1,k2,k3,k4,k5⟩:=g;rw[k1,k2,dM (by lia)];exact BX O hp (by lia) (by lia) k5
theorem Ex(O:Ord n cmp)(hp:PermR n p)(hk:k<n)(hs:So cmp p k):∀(f l r:Nat),l<=r->r<=k->r - l<=f->(∀a,a<l->cmp (At p a) (At p k)=true)->(∀a,r<=a->a<k->cmp (At p k) (At p a)=true)->
  GoOk n cmp (kas_place p k f l r) (λm=>m<=k/\(∀a,a<m->cmp (At p a) (At p k)=true)/\(∀a,m<=a->a<k->cmp (At p k) (At p a)=true))
 |0,l,r,h1,h2,h3,h4,h5=>by
  obtain rfl:l=r:=by lia
  exact⟨h2,h4,h5⟩
 |f+1,l,r,h1,h2,h3,h4,h5=>by
  unfold kas_place
  by_cases hl:l>=r
  ·rw[dJ hl];obtain rfl:l=r:=by lia
   exact⟨h2,h4,h5⟩
  ·rw[dM hl];have hm:(l+r) / 2<k:=by lia
   refine⟨hp.lt hk,hp.lt (by lia),?_⟩;show GoOk n cmp (if cmp (At p k) (At p ((l+r) / 2))=true then kas_place p k f l ((l+r) / 2)else kas_place p k f ((l+r) / 2+1) r) _
   by_cases hc:cmp (At p k) (At p ((l+r) / 2))=true
   ·rw[dJ hc];refine Ex O hp hk hs f l _ (by lia) (by lia) (by lia) h4 λa a1 a2=>?_
    by_cases z:a=(l+r) / 2
    ·rw[z];exact hc
    ·exact O.tr _ _ _ (hp.lt hk) (hp.lt (by lia)) (hp.lt (by lia)) hc (hs _ _ (by lia) a2)
   ·rw[dM hc];have e:cmp (At p ((l+r) / 2)) (At p k)=true:=by
     have:=O.as (At p k) (At p ((l+r) / 2)) (hp.lt hk) (hp.lt (by lia)) (hp.ne hk (by lia) (by lia));rw[this];simpa using hc
    refine Ex O hp hk hs f _ r (by lia) (by lia) (by lia) (λa ha=>?_) h5
    by_cases z:a=(l+r) / 2
    ·rw[z];exact e
    ·exact O.tr _ _ _ (hp.lt (by lia)) (hp.lt (by lia)) (hp.lt hk) (hs a _ (by lia) (by lia)) e
def Wo{p:Array Nat}(hk:k<p.size)(hl:l<=k)(i:Nat):At (bubble p k (k - l)) i=if i=l then At p k else if l<i/\i<=k then At p (i - 1)else At p i:=by
 rw[zz,getElem?_bubble hk (k - l) (by lia),zz,zz,zz];have e:k - (k - l)=l:=by lia
 by_cases h1:i=l
 ·subst h1;simp[e]
 ·by_cases h2:l<i/\i<=k
  ·simp[e,h1,h2]
  ·simp[e,h1,h2]
theorem Re(O:Ord n cmp):∀(f k:Nat)(p:Array Nat),PermR n p->1<=k->k+f=n->So cmp p k->GoOk n cmp (kas_bin f p k) (λq=>PermR n q/\So cmp q n)
 |0,k,p,hp,h1,h2,hs=>by
  obtain rfl:k=n:=by lia
  exact⟨hp,hs⟩
 |f+1,k,p,hp,h1,h2,hs=>by
  unfold kas_bin;have hk:k<n:=by lia
  refine GoOk.bind ((Ex O hp hk hs k 0 k (fZ _) (dR _) (by lia) (λa h=>by lia) (λa h h'=>by lia)).mono λl g=>?_);obtain⟨g1,g2,g3⟩:=g;refine Re O f (k+1) _ (hp.bub _ _) (by lia) (by lia) λa b hab hb=>?_;have hz:k<p.size:=by rw[hp.size];exact hk
  rw[Wo hz g1,Wo hz g1]
  by_cases a1:a=l
  ·rw[dJ a1,dM (by lia),dJ (by lia)];exact g3 _ (by lia) (by lia)
  ·rw[dM a1]
   by_cases a2:l<a/\a<=k
   ·rw[dJ a2,dM (by lia),dJ (by lia)];exact hs _ _ (by lia) (by lia)
   ·rw[dM a2]
    by_cases b1:b=l
    ·rw[dJ b1];exact g2 _ (by lia)
    ·rw[dM b1]
     by_cases b2:l<b/\b<=k
     ·rw[dJ b2];exact hs _ _ (by lia) (by lia)
     ·rw[dM b2];exact hs _ _ hab (by lia)
def HK(O:Ord n cmp)(h2:2<=n):GoOk n cmp (kas_sort n) (λq=>PermR n q/\So cmp q n):=by
 unfold kas_sort;refine GoOk.bind ((W5 O (by unfold PermR;simp) h2).mono λr g=>?_);obtain⟨g1,g2,g3,g4⟩:=g
 by_cases hr:r.1<n
 ·rw[dJ hr];have:max r.1 1=r.1:=by lia
  rw[this];exact Re O _ _ _ g1 g2 (by lia) g4
 ·rw[dM hr];obtain e:r.1=n:=by lia
  rw[e]at g4;exact⟨g1,g4⟩
end
end Pu
end
section
namespace Pu
open PySem PySem.Spec PyProof.Rows L2 PySem.SeqAt PySem.W
def CG(i j:Int):eL (.int i) (.int j)=(i==j):=by rw[eL]
theorem ug:∀(c d:List Int),iH (c.map .int) (d.map .int)=decide (c=d)
 |[],[]=>by simp[iH]
 |[],_::_=>by simp[iH]
 |_::_,[]=>by simp[iH]
 |i::c,j::d=>by
  rw[dC,dC,iH,ug c d,CG]
  by_cases h:i=j<;>simp[h]
theorem uo:∀(k l:List Int),gx (k.map .int) (l.map .int)=some (decide (k<l))
 |[],[]=>by simp[gx]
 |[],_::_=>by simp[gx]
 |_::_,[]=>by simp[gx]
 |i::k,j::l=>by
  rw[dC,dC,gx,uo k l,CG];show some (if(i==j)=true then decide (k<l)else decide (i<j))=_
  congr 1
  by_cases h:i=j
  ·subst h;simp[gH]
  ·have:(i==j)=false:=by simpa using h
   rw[this];simp[gH,h]
theorem fy:∀k:List Int,dO (k.map .int)=true
 |[]=>rfl
 |i::k=>by
  rw[dC,dO,fy k];rfl
theorem ox:∀k:List Int,eU (k.map .int)=0
 |[]=>rfl
 |i::k=>by
  rw[dC,eU,ox k];rfl
def vy(x:Str)(c:List Int):List Int:=x.cps.toList.map iP++(-1)::c
theorem yo:∀(a b:List Nat)(c d:List Int),(a.map iP++(-1)::c<b.map iP++(-1)::d)↔(a<b\/(a=b/\c<d))
 |[],[],c,d=>by simp[gH]
 |[],j::b,c,d=>by
  simp only[kU,kN,dC,oS,gH];have h1:(-1:Int)<iP j:=Int.lt_of_lt_of_le (by decide) (Int.natCast_nonneg j);have h2:([]:List Nat)<j::b:=by simp
  simp only[h1,h2,true_or]
 |i::a,[],c,d=>by
  simp only[kU,kN,dC,oS,gH];have h0:(0:Int)<=iP i:=Int.natCast_nonneg i;have h1:¬iP i<(-1:Int):=λz=>by lia
  have h2:iP i≠(-1:Int):=λz=>by lia
  have h3:¬(i::a<([]:List Nat)):=by simp
  simp[h1,h2,h3]
 |i::a,j::b,c,d=>by
  simp only[dC,oS,gH,yo a b c d];have h1:(iP i<iP j)↔i<j:=Int.ofNat_lt;have h2:(iP i=iP j)↔i=j:=Int.ofNat_inj;rw[h1,h2];constructor
  ·rintro (h|⟨rfl,h|⟨rfl,h⟩⟩)
   ·exact .inl (.inl h)
   ·exact .inl (.inr ⟨rfl,h⟩)
   ·exact .inr ⟨rfl,h⟩
  ·rintro ((h|⟨rfl,h⟩)|⟨e,h⟩)
   ·exact .inl h
   ·exact .inr ⟨rfl,.inl h⟩
   ·cases e;exact .inr ⟨rfl,.inr ⟨rfl,h⟩⟩
def OE:Nat->List Int->List iW->Prop
 |0,k,xs=>k≠[]/\xs=k.map .int
 |1,k,xs=>∃i c,k=i::c/\xs=[.int i,.tuple (c.map .int)]
 |_,k,xs=>∃x c,k=vy x c/\eK x=true/\xs=[.str x,.tuple (c.map .int)]
def Kj{x y:Str}(e:x.cps.toList=y.cps.toList):x=y:=by
 cases x;cases y;exact congrArg _ (Array.toList_inj.mp e)
def Tr(c d:List Int):gx [.tuple (c.map .int)] [.tuple (d.map .int)]=some (decide (c<d)):=by
 have e1:CZ (.tuple (c.map .int)) (.tuple (d.map .int))=some (decide (c<d)):=by rw[CZ];exact uo c d
 have e2:eL (.tuple (c.map .int)) (.tuple (d.map .int))=decide (c=d):=by rw[eL];exact ug c d
 rw[gx,e1,e2];show some (if decide (c=d)=true then false else decide (c<d))=_
 by_cases z:c=d
 ·subst z;simp
 ·simp[z]
def OD(h:OE b k xs)(h':OE b l ys):gx xs ys=some (decide (k<l)):=by
 match b,h,h' with
 |0,h,h'=>rw[h.2,h'.2];exact uo k l
 |1,h,h'=>
  obtain⟨i,c,rfl,rfl⟩:=h;obtain⟨j,d,rfl,rfl⟩:=h';rw[gx,Tr,CG];show some (if(i==j)=true then decide (c<d)else decide (i<j))=_
  congr 1
  by_cases z:i=j
  ·subst z;simp[gH]
  ·have:(i==j)=false:=by simpa using z
   rw[this];simp[gH,z]
 |_+2,h,h'=>
  obtain⟨x,c,rfl,_,rfl⟩:=h;obtain⟨y,d,rfl,_,rfl⟩:=h';have ex:CZ (.str x) (.str y)=some (decide (x.cps.toList<y.cps.toList)):=by rw[CZ]
  rw[gx,Tr,ex];have e3:eL (.str x) (.str y)=decide (x=y):=by rw[eL];by_cases e:x=y<;>simp[e]
  rw[e3];show some (if decide (x=y)=true then decide (c<d)else decide (x.cps.toList<y.cps.toList))=_
  congr 1
  have q:decide (vy x c<vy y d)=decide (x.cps.toList<y.cps.toList\/(x.cps.toList=y.cps.toList/\c<d)):=decide_eq_decide.mpr (yo x.cps.toList y.cps.toList c d);rw[q]
  by_cases z:x=y
  ·subst z;simp[kF]
  ·have z':x.cps.toList≠y.cps.toList:=λe=>z (Kj e);simp[z,z']
def FT(b:Nat)(d:iW):Prop:=if b<2 then∃i,d=.int i else∃x,d=.str x
def Cv(h:OE b k xs):dO xs=true/\eU xs<=1/\∃d r,FT b d/\xs=d::r:=by
 match b,h with
 |0,h=>
  obtain⟨h1,rfl⟩:=h;refine⟨fy k,by rw[ox];lia,?_⟩;cases k with
  |nil=>exact absurd rfl h1
  |cons i c=>exact⟨_,_,⟨i,rfl⟩,rfl⟩
 |1,h=>
  obtain⟨i,c,rfl,rfl⟩:=h;refine⟨?_,?_,_,_,⟨i,rfl⟩,rfl⟩
  ·rw[dO,dO,dO,fM,fM,fy c];rfl
  ·rw[eU,eU,eU,iK,iK,ox c];simp
 |_+2,h=>
  obtain⟨x,c,rfl,ok,rfl⟩:=h;refine⟨?_,?_,_,_,by unfold FT;rw[dM (by lia)];exact⟨x,rfl⟩,rfl⟩
  ·rw[dO,dO,dO,fM,fM,fy c,ok];rfl
  ·rw[eU,eU,eU,iK,iK,ox c];simp
section
variable{prog:eS}{w:fI}{A:fV}{E:dG->dP->Prop}{s:dP}
theorem Ya:∀(xs ys:List iW)(vs ws:List dG)(i:Nat)(as bs:List Addr)(c:Bool),rB s.heap vs xs as->rB s.heap ws ys bs->dO xs=true->dO ys=true->
  A.units+min (eU xs) (eU ys)<gQ->gx xs ys=some c->fin=decide (xs.length<ys.length)->(i=0->∀x y,xs.head?=some x->ys.head?=some y->(∃a b,x=.int a/\y=.int b)\/∃a b,x=.str a/\y=.str b)->Q c s->KatLex prog w A true fin Q (vs.zip ws) i s
 |[],[],vs,ws,i,as,bs,c,ra,rb,ha,hb,hu,hl,hf,h0,q=>by
  cases ra;cases rb;cases hl;subst hf;exact kat_nil q
 |[],y::ys,vs,ws,i,as,bs,c,ra,rb,ha,hb,hu,hl,hf,h0,q=>by
  cases ra;cases rb;cases hl;have:fin=true:=by rw[hf];simp
  subst this;exact kat_nil q
 |x::xs,[],vs,ws,i,as,bs,c,ra,rb,ha,hb,hu,hl,hf,h0,q=>by
  cases ra;cases rb;cases hl;have:fin=false:=by rw[hf];simp
  subst this;exact kat_nil q
 |x::xs,y::ys,_,_,i,_,_,c,ra,rb,ha,hb,hu,hl,hf,h0,q=>by
  have ha':x.canLay0=true/\dO xs=true:=by simpa[dO]using ha
  have hb':y.canLay0=true/\dO ys=true:=by simpa[dO]using hb
  obtain⟨a,b,l1,l2,rfl⟩:=um hl;cases ra with
  |@cons v vr _ _ as1 as2 r rs=>
   cases rb with
   |@cons v' vr' _ _ bs1 bs2 r' rs'=>
    refine kat_cons (eqAt_reads x y A s _ _ _ _ r r' ha'.1 hb'.1 (room_head hu) prog w _ _ ?_);cases he:eL x y with
    |true=>
     rw[he,dJ rfl]at q;exact kat_yes (Ya xs ys _ _ (i+1) _ _ b rs rs' ha'.2 hb'.2 (room_tail hu) l2 (by rw[hf];simp) (λz=>by lia) q)
    |false=>
     rw[he,dM (by simp)]at q;refine kat_no ?_
     by_cases hi:i=0
     ·rcases h0 hi x y rfl rfl with ⟨m,n,rfl,rfl⟩|⟨m,n,rfl,rfl⟩
      ·subst hi;cases r;cases r';cases l1;exact oneLt_int q
      ·subst hi;cases r;cases r';cases l1;exact oneLt_str q
     ·have:(i==0)=false:=by simpa using hi
      rw[this,mI];exact kat_one _ _ (xw x y A s _ _ _ _ a r r' ha'.1 hb'.1 (room_head hu) l1 prog w _ _ q)
def LD(rx:Reads s.heap x (.tuple xs) as)(ry:Reads s.heap y (.tuple ys) bs)(sx:OE b k xs)(sy:OE b l ys)(hu:A.units+1<gQ)(h:Q (decide (k<l)) s):
  dX (eJ prog w) A (keyLt' (tuples' true) x y) Q E s:=by
 obtain⟨c1,d1,i1,r1,t1,e1⟩:=Cv sx;obtain⟨c2,d2,i2,r2,t2,e2⟩:=Cv sy;have hs:=OD sx sy;cases rx with
 |@tuple a o vs n _ as1 h1 h2 h3 h4=>
  cases ry with
  |@tuple a' o' vs' n' _ bs1 k1 k2 k3 k4=>
   have n1:vs.size=xs.length:=by simpa using ReadsAll.length _ _ _ h4
   have n2:vs'.size=ys.length:=by simpa using ReadsAll.length _ _ _ k4
   refine kat_lt h1 h3 k1 k3 (Ya xs ys _ _ 0 _ _ _ h4 k4 c1 c2 ?_ hs (by rw[n1,n2]) (λ_ x y hx hy=>?_) h)
   ·have:min (eU xs) (eU ys)<=1:=fF (Nat.min_le_left _ _) d1
    lia
   ·rw[e1]at hx;rw[e2]at hy;cases hx;cases hy;unfold FT at t1 t2
    by_cases hb:b<2
    ·rw[dJ hb]at t1 t2;obtain⟨i,rfl⟩:=t1;obtain⟨j,rfl⟩:=t2;exact .inl ⟨_,_,rfl,rfl⟩
    ·rw[dM hb]at t1 t2;obtain⟨i,rfl⟩:=t1;obtain⟨j,rfl⟩:=t2;exact .inr ⟨_,_,rfl,rfl⟩
def KeysAre(s:dP)(b:Nat):List dG->List (List Int)->Prop
 |[],[]=>True
 |v::vs,k::ks=>(∃xs as,Reads s.heap v (.tuple xs) as/\OE b k xs)/\KeysAre s b vs ks
 |_,_=>False
theorem KeysAre.len:∀{vs:List dG}{ks:List (List Int)},KeysAre s b vs ks->ks.length=vs.length
 |[],[],_=>rfl
 |[],_::_,h=>h.elim
 |_::_,[],h=>h.elim
 |v::vs,k::ks,⟨_,h⟩=>by rw[dI,dI,KeysAre.len h]
theorem KeysAre.get:∀{vs:List dG}{ks:List (List Int)},KeysAre s b vs ks->∀{i:Nat},i<vs.length->∃xs as,Reads s.heap (vs.getD i fC) (.tuple xs) as/\OE b (ks.getD i []) xs
 |[],_,_,i,h=>by simp at h
 |_::_,[],h,_,_=>h.elim
 |v::vs,k::ks,⟨h0,_⟩,0,_=>h0
 |v::vs,k::ks,⟨_,h⟩,i+1,hi=>by
  have:=KeysAre.get h (i:=i) (by simpa using hi);simpa using this
def FV(b:Nat)(v:dG):Prop:=if b<2 then∃n t,v=mO n t else∃x t,v=sA x t
theorem KeysAre.firsts:∀{vs:List dG}{ks:List (List Int)},KeysAre s b vs ks->∃fs,KatTups s.heap vs fs/\fs.length=vs.length/\∀v∈fs,FV b v
 |[],[],_=>⟨[],.nil,rfl,λv h=>by simp at h⟩
 |[],_::_,h=>h.elim
 |_::_,[],h=>h.elim
 |v::vs,k::ks,⟨⟨xs,as,r,sh⟩,h⟩=>by
  obtain⟨fs,f1,f2,f3⟩:=KeysAre.firsts h;obtain⟨_,_,d,q,td,rfl⟩:=Cv sh;cases r with
  |@tuple a o ws n _ as1 h1 h2 h3 h4=>
   cases hw:ws.toList with
   |nil=>rw[hw]at h4;cases h4
   |cons u us=>
    rw[hw]at h4;cases h4 with
    |cons r rs=>
     have fu:FV b u:=by
      unfold FT at td;unfold FV
      by_cases hb:b<2
      ·rw[dJ hb]at td⊢;obtain⟨i,rfl⟩:=td;cases r with
       |int _ t=>exact⟨_,_,rfl⟩
      ·rw[dM hb]at td⊢;obtain⟨i,rfl⟩:=td;cases r with
       |str _ t=>exact⟨_,_,rfl⟩
     refine⟨u::fs,KatTups.cons h1 h2 h3 ?_ f1,by simp[f2],λv hv=>?_⟩
     ·have:ws.toList[0]?=some u:=by rw[hw];rfl
      simpa using this
     ·rcases List.mem_cons.mp hv with rfl|hv
      ·exact fu
      ·exact f3 v hv
def Ad(kz:List (List Int))(i j:Nat):Bool:=decide (kz.getD i []<kz.getD j [])
def Y2{kz:List (List Int)}(nd:kz.Nodup):Ord kz.length (Ad kz) where
 as:=λi j hi hj ne=>by
  have e:kz.getD i []≠kz.getD j []:=by
   rw[show kz.getD i []=kz[i] by simp[hi],show kz.getD j []=kz[j] by simp[hj]];have pw:=List.pairwise_iff_getElem.mp nd;rcases Nat.lt_or_gt_of_ne ne with q|q
   ·exact pw i j hi hj q
   ·exact(pw j i hj hi q).symm
  unfold Ad
  by_cases z:kz.getD i []<kz.getD j []
  ·have:¬kz.getD j []<kz.getD i []:=λy=>kF _ (oV z y);rw[decide_eq_true z,decide_eq_false this];rfl
  ·have:kz.getD j []<kz.getD i []:=nM z (jJ e);rw[decide_eq_true this,decide_eq_false z];rfl
 tr:=λi j k _ _ _ h1 h2=>by
  unfold Ad at *;exact decide_eq_true (oV (of_decide_eq_true h1) (of_decide_eq_true h2))
def Ir(prog:eS)(w:fI)(A:fV)(ks vs:List dG)(R:Array Nat->Prop)(s:dP):Prop:=
 ∀E:dG->dP->Prop,dX (eJ prog w) A (keyKind' ks.toArray) (λκ s'=>s'=s/\∀E':dG->dP->Prop,dX (eJ prog w) A (sortRuns'.run (SortSt.mk' κ (ks.toArray.zip vs.toArray) #[] 7 none)) (λr s''=>
  s''=s/\failedOf r.2=none/\∃p:Array Nat,R p/\p.size=vs.length/\(arrOf r.2).map (·.2)=List.toArray (p.toList.map λi=>vs.getD i fC)) E' s) E s
def ON{ks vs:List dG}{kz:List (List Int)}(hl:ks.length=vs.length)(hk:KeysAre s b ks kz)(h2:2<=vs.length)(h64:vs.length<64)(nd:kz.Nodup)(hu:A.units+1<gQ):
  Ir prog w A ks vs (λp=>PermR vs.length p/\So (Ad kz) p vs.length) s:=by
 intro E;have hz:=hk.len;obtain⟨fs,f1,f2,f3⟩:=hk.firsts;have go:∀{T:dG},(T==T)=true->(T !=rJ "tuple")=true->(∀v∈fs,Looks (eJ prog w) s.heap (typeOf v) T)->dX (eJ prog w) A (keyKind' ks.toArray) (λκ s'=>s'=s/\∀E':dG->dP->Prop,dX (eJ prog w) A (sortRuns'.run (SortSt.mk' κ (ks.toArray.zip vs.toArray) #[] 7 none)) (λr s''=>
  s''=s/\failedOf r.2=none/\∃p:Array Nat,(PermR vs.length p/\So (Ad kz) p vs.length)/\p.size=vs.length/\(arrOf r.2).map (·.2)=List.toArray (p.toList.map λi=>vs.getD i fC)) E' s) E s:=λ{T} t1 t2 t3=>by
  refine kat_kind (T:=T) f1 (by lia) t3 t1 ?_;rw[t2];refine⟨rfl,λE'=>?_⟩;have o:=Y2 nd;rw[hz,hl]at o;refine fL (kat_run (Q:=λst s''=>s''=s/\failedOf st=none/\∃p:Array Nat,(PermR vs.length p/\So (Ad kz) p vs.length)/\p.size=vs.length/\(arrOf st).map (·.2)=List.toArray (p.toList.map λi=>vs.getD i fC))
   (G:=λp s'=>s'=s/\PermR vs.length p/\So (Ad kz) p vs.length) hl h2 h64 (λp st s' g1 g2 g3 g4=>⟨g4.1,g3,p,g4.2,g1,kat_snds hl g2⟩) ?_) (λ_ _ x=>x) (λ_ _ x=>x)
  refine GoOk.wp (cmp:=Ad kz) (n:=vs.length) (R:=λp=>PermR vs.length p/\So (Ad kz) p vs.length) (λi j K hi hj q=>?_) (λp r=>⟨rfl,r⟩) (HK o h2);obtain⟨xs,as,r1,s1⟩:=hk.get (i:=i) (by lia);obtain⟨ys,bs,r2,s2⟩:=hk.get (i:=j) (by lia);exact LD r1 r2 s1 s2 hu q
 by_cases hb:b<2
 ·refine go (T:=.type "int") (by decide) (by decide) λv hv=>?_;have:=f3 v hv;unfold FV at this;rw[dJ hb]at this;obtain⟨n,t,rfl⟩:=this;exact Looks.of_pure rfl
 ·refine go (T:=.type "str") (by decide) (by decide) λv hv=>?_;have:=f3 v hv;unfold FV at this;rw[dM hb]at this;obtain⟨n,t,rfl⟩:=this;exact Looks.of_pure rfl
end
noncomputable def Pr(h:Heap)(a:Addr)(vs:List dG):Heap:=((h.update a (rO λ_=>(#[]:Array dG))).push (qU "tuple" vs.toArray 0)).push (qU "list" #[] 0)
def Yl{h:Heap}(e:h.get? b=some o)(ne:b≠a):(Pr h a vs).get? b=some o:=by
 unfold Pr;refine dE _ (dE _ ?_);rw[Heap.get?_update_ne _ _ _ _ ne];exact e
def OutOf(R:Array Nat->Prop)(vs out:List dG):Prop:=(vs.length<2/\out=vs)\/(2<=vs.length/\∃p:Array Nat,R p/\p.size=vs.length/\out=p.toList.map λi=>vs.getD i fC)
def OutOf.len{vs out:List dG}(h:OutOf R vs out):out.length=vs.length:=by
 rcases h with ⟨_,rfl⟩|⟨_,p,_,h1,rfl⟩
 ·rfl
 ·rw[dD,eC,h1]
section
variable{prog:eS}{w:fI}{A:fV}{E:dG->dP->Prop}{s:dP}
def Ql{vs:List dG}(ho:s.heap.get? a=some (qU "list" vs.toArray n))(hz:vs.length<=1000)(hR:2<=vs.length->Ir prog w A vs vs R {s with heap:=Pr s.heap a vs})
  (h:∀out:List dG,OutOf R vs out->P (.done (.ret .none)) {s with heap:=sortedHeap s.heap a vs out.toArray}):dX (eJ prog w) A (Builtin.«list.sort» ⟨[.ref a],[]⟩) P E s:=by
 have ha:a<s.heap.objs.size:=dY ho;have zl:vs.length<=dN:=by rw[jC];lia
 obtain⟨e1,ho1⟩:∃e1,(s.heap.update a (rO λ_=>(#[]:Array dG))).get? a=some (qU "list" #[] e1):=⟨_,get?_update_seq ho λ_=>#[]⟩;have ho6:(Pr s.heap a vs).get? a=some (qU "list" #[] e1):=dE _ (dE _ ho1);rw[list_sort_plain];refine dA (listItems_at ho rfl (dA (listUpdate_at ho rfl ?_ (by simpa using zl) (fZ _))));refine dA (seqEpoch_at ho1 rfl (dA (wpAny_newTuple (dA (wpAny_newList (gW ?_) (fZ _))) zl)));show dX (eJ prog w) A _ P E {s with heap:=Pr s.heap a vs};dsimp only
 by_cases h2:vs.toArray.size<2
 ·have h2':vs.length<2:=by simpa using h2
  rw[dJ h2,dJ h2];refine dA (dB ?_);rw[StateT.run_pure];refine dA (dB ?_);dsimp only;have em:Array.map (λx:Keyed=>x.2) (vs.toArray.zip vs.toArray)=vs.toArray:=by
   apply Array.toList_inj.mp;rw[Array.toList_map,Array.toList_zip];exact List.map_snd_zip (dR _)
  rw[show(arrOf (SortSt.mk' general' (vs.toArray.zip vs.toArray) #[] 7 none)).map (·.2)=vs.toArray from em];refine dA (seqEpoch_at ho6 rfl (dA (listUpdate_at ho6 rfl ?_ (fZ _) (fF (lQ (eF ..)) (by lia)))));simp only[bne_self_eq_false,Bool.false_eq_true,if_false];exact dB (h vs (.inl ⟨h2',rfl⟩))
 ·have h2':2<=vs.length:=by simpa using h2
  rw[dM h2,dM h2];refine dA (fL (hR h2' _) (λκ s' g=>?_) λ_ _ x=>x);obtain⟨rfl,g⟩:=g;refine dA (fL (g _) (λr s' g=>?_) λ_ _ x=>x);obtain⟨rfl,hf,p,hp,hs,ho'⟩:=g;obtain⟨⟨⟩,st⟩:=r;dsimp only at hf ho'⊢;rw[ho',hf];have zo:(p.toList.map λi=>vs.getD i fC).length<=dN:=by rw[dD,eC,hs];exact zl
  refine dA (seqEpoch_at ho6 rfl (dA (listUpdate_at ho6 rfl ?_ (fZ _) (fF (lQ (eF ..)) (by lia)))));simp only[bne_self_eq_false,Bool.false_eq_true,if_false];exact dB (h _ (.inr ⟨h2',p,hp,hs,rfl⟩))
end
def SZ:D->Option Int
 |.int i=>some i
 |_=>none
def qo:List D->Option (List Int)
 |[]=>some []
 |d::ds=>match SZ d,qo ds with
  |some i,some r=>some (i::r)
  |_,_=>none
def Lw:D->Option (List Int)
 |.tup ds=>match qo ds with
  |some (i::r)=>some (i::r)
  |_=>none
 |_=>none
def kf:List D->Option (List (List Int))
 |[]=>some []
 |d::ds=>match Lw d,kf ds with
  |some k,some r=>some (k::r)
  |_,_=>none
theorem D6:∀{ds:List D}{ns:List Int},qo ds=some ns->ds=ns.map D.int
 |[],ns,h=>by cases h;rfl
 |d::ds,ns,h=>by
  unfold qo at h;cases e1:SZ d with
  |none=>rw[e1]at h;cases h
  |some i=>
   cases e2:qo ds with
   |none=>rw[e1,e2]at h;cases h
   |some r=>
    rw[e1,e2]at h;cases h;cases d<;>first|(cases e1;rw[D6 e2];rfl)|cases e1
def DL{k:List Int}(h:Lw d=some k):k≠[]/\d=.tup (k.map D.int):=by
 unfold Lw at h;cases d with
 |tup ds=>
  dsimp only at h;cases e:qo ds with
  |none=>rw[e]at h;cases h
  |some ns=>
   rw[e]at h;cases ns with
   |nil=>cases h
   |cons i r=>cases h;exact⟨by simp,by rw[D6 e]⟩
 |_=>cases h
def m7(h:kf (d::ds)=some kz):∃k r,Lw d=some k/\kf ds=some r/\kz=k::r:=by
 unfold kf at h;cases e1:Lw d with
 |none=>rw[e1]at h;cases h
 |some k=>
  cases e2:kf ds with
  |none=>rw[e1,e2]at h;cases h
  |some r=>rw[e1,e2]at h;cases h;exact⟨k,r,rfl,rfl,rfl⟩
theorem A6:∀ns:List Int,cn (ns.map D.int)=some (ns.map gK)
 |[]=>rfl
 |i::r=>by
  rw[dC,cn,A6 r];rfl
section
variable{X:Cx}{pins:List (Addr×Obj)}{U:St}{G H:Hp}{s:dP}
theorem L0(I:Inv X pins U H s)(sg:Same G H):∀{ds:List D}{kz:List (List Int)}{vs:List V}{us:List dG},kf ds=some kz->DenL (kx X) G ds vs->Vals vs us->KeysAre s 0 us kz
 |[],kz,vs,us,h,dl,r=>by
  cases h;cases (show vs=[]from dl);cases r;trivial
 |d::ds,kz,vs,us,h,dl,r=>by
  obtain⟨k,r',h1,h2,rfl⟩:=m7 h;obtain⟨v,vr,rfl,dv,dr⟩:=dl;obtain⟨hn,rfl⟩:=DL h1;cases r with
  |cons rv rr=>
   refine⟨?_,L0 I sg h2 dr rr⟩;obtain⟨as,ra⟩:=y9 I sg dv rv (show cg (.tup (k.map D.int))=some (.tuple (k.map gK)) by rw[cg,A6]);exact⟨_,as,ra,hn,rfl⟩
end
noncomputable def O6(x:List Int×D):List (List Int×D)->List (List Int×D)
 |[]=>[x]
 |y::r=>if x.1<y.1 then x::y::r else y::O6 x r
def zc(l:List (List Int×D)):List (List Int×D):=l.foldr O6 []
theorem Am(x:List Int×D):∀l,(O6 x l).Perm (x::l)
 |[]=>.refl _
 |y::r=>by
  unfold O6;split
  ·exact .refl _
  ·exact((Am x r).cons y).trans (oF x y r)
theorem jy:∀l,(zc l).Perm l
 |[]=>.refl _
 |x::r=>(Am x _).trans ((jy r).cons x)
theorem R9:∀{l:List (List Int×D)},l.Pairwise (λa b=>a.1<b.1)->(∀y∈l,y.1≠x.1)->(O6 x l).Pairwise (λa b=>a.1<b.1)
 |[],_,_=>by unfold O6;exact List.pairwise_singleton _ _
 |y::r,h,hn=>by
  unfold O6;obtain⟨h1,h2⟩:=List.pairwise_cons.mp h;split
  ·rename_i c;refine List.pairwise_cons.mpr ⟨λz hz=>?_,h⟩;rcases List.mem_cons.mp hz with rfl|hz
   ·exact c
   ·exact oV c (h1 z hz)
  ·rename_i c;have lt:y.1<x.1:=nM c (hn y (.head _));refine List.pairwise_cons.mpr ⟨λz hz=>?_,R9 h2 λz hz=>hn z (.tail _ hz)⟩;rcases List.mem_cons.mp ((Am x r).mem_iff.mp hz)with rfl|hz
   ·exact lt
   ·exact h1 z hz
theorem ux:∀{l:List (List Int×D)},(l.map (·.1)).Nodup->(zc l).Pairwise (λa b=>a.1<b.1)
 |[],_=>qL
 |x::r,h=>by
  obtain⟨h1,h2⟩:=List.nodup_cons.mp (show(x.1::r.map (·.1)).Nodup from h);refine R9 (ux h2) λy hy e=>h1 ?_;rw[<-e];exact mU ((jy r).mem_iff.mp hy)
def Vf{kz:List (List Int)}{ds:List D}{p:Array Nat}(hl:kz.length=ds.length)(nd:kz.Nodup)(hp:PermR ds.length p)(hs:So (Ad kz) p ds.length):p.toList.map (λi=>ds.getD i D.non)=(zc (kz.zip ds)).map (·.2):=by
 have e:p.toList.map (λi=>(kz.getD i [],ds.getD i D.non))=zc (kz.zip ds):=by
  have pr:(p.toList.map λi=>(kz.getD i [],ds.getD i D.non)).Perm (kz.zip ds):=by
   have:(eY ds.length).map (λi=>(kz.getD i [],ds.getD i D.non))=kz.zip ds:=by
    refine List.ext_getElem (by simp[hl]) λi h1 h2=>?_;have:i<ds.length:=by simpa using h1
    have:i<kz.length:=by lia
    simp[*]
   rw[<-this];exact List.Perm.map _ hp
  have nz:((kz.zip ds).map (·.1)).Nodup:=by
   rw[rE (by lia)];exact nd
  refine List.Perm.eq_of_pairwise (le:=λa b:List Int×D=>a.1<b.1) (λa b _ _ h1 h2=>absurd (oV h1 h2) (kF _)) ?_ (ux nz) (pr.trans (jy _).symm);rw[lX,List.pairwise_iff_getElem];intro i j hi hj hij;have hz:=hp.size;have hj':j<ds.length:=by rw[<-hz];simpa using hj
  have:=hs i j hij hj';rw[Kt (by lia),Kt (by lia)]at this;simpa[Ad]using this
 rw[<-e,eQ];rfl
end Pu
end
section
namespace Pu
open PySem PySem.Spec PyProof.Rows L2
def wt:List D->Option (List fo)
 |[]=>some []
 |d::r=>match bw d,wt r with
  |some k,some ks=>some (k::ks)
  |_,_=>none
theorem Lz:∀ks:List fo,wt (ks.map kD)=some ks
 |[]=>rfl
 |k::ks=>by
  show(match bw (kD k),wt (ks.map kD)with
   |some k,some ks=>some (k::ks)
   |_,_=>none)=_
  rw[uj,Lz ks]
def Yp:D->Option NK
 |.tup ds=>(wt ds).map .inr
 |d=>(bw d).map .inl
def Pv:List D->Option bg
 |[]=>some []
 |d::r=>match Yp d,Pv r with
  |some k,some ks=>some (k::ks)
  |_,_=>none
def jf:D->Option bg
 |.tup ds=>Pv ds
 |_=>none
def Yq:∀k:NK,Yp (JR k)=some k
 |.inl (.inl _)=>rfl
 |.inl (.inr _)=>rfl
 |.inr ks=>by show(wt (ks.map kD)).map nF=_;rw[Lz];rfl
theorem Su:∀ks:bg,Pv (ks.map JR)=some ks
 |[]=>rfl
 |k::ks=>by
  show(match Yp (JR k),Pv (ks.map JR)with
   |some k,some ks=>some (k::ks)
   |_,_=>none)=_
  rw[Yq,Su ks]
def qp(ks:bg):jf (kT ks)=some ks:=Su ks
theorem yn{K:KA}{G:Hp}:∀{ds:List D}{vs:List V}{ks:List fo},DenL K G ds vs->wt ds=some ks->vs=ks.map kV
 |[],_,_,h,e=>by cases e;exact h
 |d::r,_,ks,⟨v,t,h1,h2,h3⟩,e=>by
  unfold wt at e;cases e1:bw d with
  |none=>rw[e1]at e;cases e
  |some k=>
   cases e2:wt r with
   |none=>rw[e1,e2]at e;cases e
   |some ks'=>
    rw[e1,e2]at e;cases e;rw[h1,yn h3 e2,ou (H:=G) (.inl h2) e1];rfl
def LX{K:KA}{G:Hp}{d:D}{v:V}{k:NK}(h:Den K G d v)(e:Yp d=some k):nkAt G k v:=by
 have one:∀{d:D},Den K G d v->(bw d).map kP=some k->nkAt G k v:=λ{d} h e=>by
  cases e1:bw d with
  |none=>rw[e1]at e;cases e
  |some j=>rw[e1]at e;cases e;exact ou (H:=G) (.inl h) e1
 cases d with
 |tup ds=>
  obtain⟨a,vs,rfl,h2,h3⟩:=h;have e:(wt ds).map nF=some k:=e;cases e1:wt ds with
  |none=>rw[e1]at e;cases e
  |some ks=>rw[e1]at e;cases e;exact⟨a,rfl,by rw[<-yn h3 e1];exact h2⟩
 |_=>exact one h e
theorem Dn{K:KA}{G:Hp}:∀{ds:List D}{vs:List V}{ks:bg},DenL K G ds vs->Pv ds=some ks->NkL G ks vs
 |[],_,_,h,e=>by cases e;exact h
 |d::r,_,ks,⟨v,t,h1,h2,h3⟩,e=>by
  unfold Pv at e;cases e1:Yp d with
  |none=>rw[e1]at e;cases e
  |some k=>
   cases e2:Pv r with
   |none=>rw[e1,e2]at e;cases e
   |some ks'=>
    rw[e1,e2]at e;cases e;exact⟨v,t,h1,LX h2 e1,Dn h3 e2⟩
noncomputable def Ma:List (D×D)->bg->Option D
 |[],_=>none
 |(k,d)::r,j=>if jf k=some j then some d else Ma r j
def D5(kvs:List (D×D))(j:bg):Bool:=kvs.any λp=>decide (jf p.1=some j)
def Z0(kvs:List (D×D))(j:bg)(v:D):List (D×D):=if D5 kvs j=true then kvs.map (λp=>if jf p.1=some j then(p.1,v)else p)else kvs++[(kT j,v)]
section
variable{K:KA}{G:Hp}
theorem DenT.length:∀{kvs:List (D×D)}{es:List (bg×V)},DenT K G kvs es->kvs.length=es.length
 |[],_,h=>by rw[show _=[]from h];rfl
 |(_,_)::_,_,⟨k,v,r,h1,_,_,h3⟩=>by rw[h1,dI,dI,DenT.length h3]
theorem DenT.look:∀{kvs:List (D×D)}{es:List (bg×V)},DenT K G kvs es->∀j,(∀d,Ma kvs j=some d->∃v,ly es j=some v/\Den K G d v)/\(Ma kvs j=none->ly es j=none)
 |[],es,h,j=>by
  rw[show es=[]from h];exact⟨λd e=>(by cases e),λ_=>Nw⟩
 |(k,d)::r,es,h,j=>by
  obtain⟨k',v,t,rfl,rfl,dv,dt⟩:=h;obtain⟨i1,i2⟩:=DenT.look dt j;unfold Ma;rw[qp k']
  by_cases e:k'=j
  ·subst e;rw[dJ rfl];exact⟨λd' z=>⟨v,va rfl,by cases z;exact dv⟩,λz=>by cases z⟩
  ·rw[dM (λz=>e (eI z))];refine⟨λd' z=>?_,λz=>?_⟩
   ·obtain⟨u,q1,q2⟩:=i1 d' z;exact⟨u,(n9 e).trans q1,q2⟩
   ·exact(n9 e).trans (i2 z)
theorem DenT.has:∀{kvs:List (D×D)}{es:List (bg×V)},DenT K G kvs es->∀j,D5 kvs j=es.any λkv=>decide (kv.1=j)
 |[],es,h,j=>by rw[show es=[]from h];rfl
 |(k,d')::r,es,h,j=>by
  obtain⟨k',u,t,rfl,rfl,du,dt⟩:=h;have ih:=DenT.has dt j;unfold D5 at ih⊢;rw[iX,iX,ih]
  congr 1
  rw[qp k']
  by_cases e:k'=j
  ·simp[e]
  ·rw[decide_eq_false e,decide_eq_false λz=>e (eI z)]
theorem DenT.repl(dv:Den K G d v):∀{kvs:List (D×D)}{es:List (bg×V)},DenT K G kvs es->∀j,DenT K G (kvs.map λp=>if jf p.1=some j then(p.1,d)else p) (es.map λkv=>if kv.1=j then(kv.1,v)else kv)
 |[],es,h,j=>by rw[show es=[]from h];rfl
 |(k,d')::r,es,h,j=>by
  obtain⟨k',u,t,rfl,rfl,du,dt⟩:=h;have ih:=DenT.repl dv dt j;rw[dC,dC];dsimp only;rw[qp k']
  by_cases e:k'=j
  ·rw[dJ e,dJ (by rw[e])];exact⟨k',v,_,rfl,rfl,dv,ih⟩
  ·rw[dM e,dM λz=>e (eI z)];exact⟨k',u,_,rfl,rfl,du,ih⟩
theorem DenT.snoc(dv:Den K G d v):∀{kvs:List (D×D)}{es:List (bg×V)},DenT K G kvs es->∀j,DenT K G (kvs++[(kT j,d)]) (es++[(j,v)])
 |[],es,h,j=>by rw[show es=[]from h];exact⟨j,v,[],rfl,rfl,dv,rfl⟩
 |(k,d')::r,es,h,j=>by
  obtain⟨k',u,t,rfl,rfl,du,dt⟩:=h;exact⟨k',u,_,rfl,rfl,du,DenT.snoc dv dt j⟩
def DenT.put(dv:Den K G d v)(h:DenT K G kvs es)(j:bg):DenT K G (Z0 kvs j d) (oi es j v):=by
 unfold Z0 oi;rw[h.has j]
 by_cases e:(es.any λkv=>decide (kv.1=j))=true
 ·rw[dJ e,dJ e];exact h.repl dv j
 ·rw[dM e,dM e];exact h.snoc dv j
end
section
variable{X:Cx}{G0 B:Hp}{E:EK}{e a b:Expr}{es:List Expr}{g h k:En->Res}{pos p:Pos}
def E6(i:Nat):En->Out:=λδ=>.nx (δ.set i (.od true []))
def EnvR.setDT{K:KA}{G H:Hp}{U:St}{δ:En}{i:Nat}{a:Addr}(R:EnvR K B G H U δ)(hn:H a=none):EnvR K B G (upd H a (.dT [])) (U.set i (some (.ref a))) (δ.set i (.od true [])):=by
 have e:Ext G H G (upd H a (.dT [])):=Ext.own R.gh _ hn;have R':=R.ext e;have gn:G a=none:=de R.gh hn;have bn:B a=none:=de R.bh hn;have oth:∀(j:Nat) s,δ[j]?=some s->s.own=true->U[j]?=some (some (V.ref a))->False:=λj s q1 q2 q3=>by
  obtain⟨o,z1,z2⟩:=R.sl j s q1;rw[q3]at z1;cases z1;obtain⟨a',z,u,z3,_⟩:=z2.ref q2;cases z;rw[hn]at z3;cases z3
 have at_i:∀{s:Sl},(δ.set i (.od true []))[i]?=some s->s=.od true []/\i<δ.length:=λq=>by
  have hl:i<δ.length:=by
   have:=(List.getElem?_eq_some_iff.mp q).1;rwa [fE]at this
  rw[dW hl]at q;cases q;exact⟨rfl,hl⟩
 refine⟨R'.bh,R'.gh,by rw[fE,fE];exact R.len,λj s q=>?_,λj s b q1 q2 q3=>?_,λj k s t b q1 q2 q3 q4 q5 q6=>?_,R.gb⟩
 ·by_cases z:i=j
  ·subst z;obtain⟨rfl,hl⟩:=at_i q;exact⟨some (.ref a),dW (by rw[R.len];exact hl),a,[],rfl,bj,rfl⟩
  ·rw[dZ z]at q⊢;exact R'.sl j s q
 ·by_cases z:i=j
  ·subst z;obtain⟨rfl,hl⟩:=at_i q1;rw[dW (by rw[R.len];exact hl)]at q3;cases q3;exact⟨gn,bn⟩
  ·rw[dZ z]at q1 q3;exact R'.own j s b q1 q2 q3
 ·by_cases zj:i=j
  ·subst zj;obtain⟨rfl,hl⟩:=at_i q1;rw[dW (by rw[R.len];exact hl)]at q5;cases q5
   by_cases zk:i=k
   ·exact zk
   ·rw[dZ zk]at q2 q6;exact(oth k t q2 q4 q6).elim
  ·rw[dZ zj]at q1 q5
   by_cases zk:i=k
   ·subst zk;obtain⟨rfl,hl⟩:=at_i q2;rw[dW (by rw[R.len];exact hl)]at q6;cases q6;exact(oth j s q1 q3 q5).elim
   ·rw[dZ zk]at q2 q6;exact R'.dis j k s t b q1 q2 q3 q4 q5 q6
def HW(hs:PS X (.Assign [.Name x pos'] (.Dict [] [] p) pos) (Nr AB (tf i))):su X G0 B E (.Assign [.Name x pos'] (.Dict [] [] p) pos) (E6 i):=
 PS.imp hs λD U H ⟨G,δ,R,e,q⟩=>λa ha=>q _ G _ (Same.refl G) (R.setDT ha) (e.trans (Ext.own R.gh _ ha))
def EnvR.odAtT{K:KA}{G H:Hp}{U:St}{δ:En}{i:Nat}{kvs:List (D×D)}(R:EnvR K B G H U δ)(h:δ[i]?=some (.od true kvs)):∃a es,U[i]?=some (some (V.ref a))/\H a=some (.dT es)/\DenT K G kvs es/\G a=none/\B a=none:=by
 obtain⟨o,q1,a,vs,q2,q3,q4⟩:=R.sl i _ h;subst q2;obtain⟨g,b⟩:=R.own i _ a h rfl q1;exact⟨a,vs,q1,q3,q4,g,b⟩
def EnvR.wrDT{K:KA}{G H:Hp}{U:St}{δ:En}{i:Nat}{kvs kvs':List (D×D)}{a:Addr}{es es':List (bg×V)}(R:EnvR K B G H U δ)(hi:δ[i]?=some (.od true kvs))(hs:U[i]?=some (some (V.ref a)))(ha:H a=some (.dT es))(dl:DenT K G kvs' es'):
  EnvR K B G (upd H a (.dT es')) U (δ.set i (.od true kvs')):=by
 obtain⟨gn,bn⟩:=R.own i _ a hi rfl hs;have hl:i<δ.length:=(List.getElem?_eq_some_iff.mp hi).1;have sb:∀{F:Hp},F a=none->Same F H->Same F (upd H a (.dT es')):=λfn s b u q=>by
  rw[a6 (b0 q fn)];exact s b u q
 have ownEq:∀{j:Nat}{s:Sl},(δ.set i (.od true kvs'))[j]?=some s->s.own=true->∃s',δ[j]?=some s'/\s'.own=true:=λ{j s} q o=>by
  by_cases z:i=j
  ·subst z;exact⟨_,hi,rfl⟩
  ·rw[dZ z]at q;exact⟨s,q,o⟩
 refine⟨sb bn R.bh,sb gn R.gh,by rw[fE];exact R.len,λj s q=>?_,λj s b q1 q2 q3=>?_,λj k s t b q1 q2 q3 q4 q5 q6=>?_,R.gb⟩
 ·by_cases z:i=j
  ·subst z;rw[dW hl]at q;cases q;exact⟨_,hs,a,es',rfl,bj,dl⟩
  ·rw[dZ z]at q;obtain⟨o,z1,z2⟩:=R.sl j s q;refine⟨o,z1,?_⟩;cases s with
   |no=>trivial
   |pu d=>exact z2
   |bo d=>exact z2
   |ow fs=>
    obtain⟨b,us,y1,y2,y3⟩:=z2;have nb:b≠a:=by
     rintro rfl
     rw[ha]at y2;cases y2
    exact⟨b,us,y1,by rw[a6 nb];exact y2,y3⟩
   |od t fs=>
    cases t with
    |true=>
     obtain⟨b,us,y1,y2,y3⟩:=z2;have nb:b≠a:=by
      rintro rfl
      subst y1;exact z (R.dis i j _ _ b hi q rfl rfl hs z1)
     exact⟨b,us,y1,by rw[a6 nb];exact y2,y3⟩
    |false=>
     obtain⟨b,us,y1,y2,y3⟩:=z2;have nb:b≠a:=by
      rintro rfl
      rw[ha]at y2;cases y2
     exact⟨b,us,y1,by rw[a6 nb];exact y2,y3⟩
 ·obtain⟨s',z1,z2⟩:=ownEq q1 q2;exact R.own j s' b z1 z2 q3
 ·obtain⟨s',z1,z2⟩:=ownEq q1 q3;obtain⟨t',y1,y2⟩:=ownEq q2 q4;exact R.dis j k s' t' b z1 y1 z2 y2 q5 q6
def Arg.keys{K:KA}{G H:Hp}{d:D}{v:V}{ks:bg}(s:Same G H)(h:Arg K G H d v)(e:jf d=some ks):∃b,v=.ref b/\TkAt H ks b:=by
 cases d with
 |tup ds=>
  obtain⟨b,vs,h1,h2,h3⟩:=h.tup0 s;exact⟨b,h1,vs,h2,(Dn h3 e).mono λ_ _ q=>s _ _ q⟩
 |_=>cases e
noncomputable def yc(i:Nat)(gk gv:En->Res):En->Out:=λδ=>match δ[i]? with
 |some (.od true kvs)=>(gv δ).then λv=>(gk δ).then λk=>match jf k with
  |some j=>if kvs.length<dN then .nx (δ.set i (.od true (Z0 kvs j v)))else .st
  |none=>.st
 |_=>.st
def HZ{i:Nat}{x:Str}{p pos':Pos}{kxx vx:Expr}(hu:X.A.units+5<gQ)(hv:PE X (.Name x p) (Gc i))(hk:jc X B E kxx g)(hval:fq X B E vx h)
  (hs:kB vx (some (.Subscript (.Name x p) kxx pos')) pos.line X.env=pure false:=by rfl):su X G0 B E (.Assign [.Subscript (.Name x p) kxx pos'] vx pos) (yc i g h):=
 PS.imp (Ta hu hv hk hval hs) λD U H ⟨G,δ,R,ex,q⟩=>by
  unfold yc at q;cases ed:δ[i]? with
  |none=>rw[ed]at q;exact q.elim
  |some sl=>
   rw[ed]at q;cases sl with
   |od t kvs=>
    cases t with
    |false=>exact q.elim
    |true=>
     dsimp only at q;obtain⟨l,es,q1,q2,q3,q4,q5⟩:=R.odAtT ed;refine⟨G,δ,R,(rg ex q).mono λdv _ q v G1 H1 e1 dn=>⟨.ref l,q1,G1,δ,R.ext e1,(rg (K:=(kx X)) (ex.trans e1) (OutP.same e1.gg q)).mono λdk _ q y G2 H2 e2 ay=>?_⟩⟩;have e12:=e1.trans e2;cases ej:jf dk with
     |none=>rw[ej]at q;exact q.elim
     |some j=>
      rw[ej]at q;dsimp only at q
      by_cases hl:kvs.length<dN
      ·rw[dJ hl]at q;have h2:=e12.hh _ _ q2;have g2:=e12.fr _ _ q2 q4 rfl;obtain⟨b,rfl,hb⟩:=Arg.keys e2.gh ay ej;refine⟨l,_,rfl,DPut.t h2 hb (by rw[<-q3.length];exact hl),?_⟩;exact q U G2 _ e2.gg (EnvR.wrDT (R.ext e12) ed q1 h2 ((q3.mono e12.gg).put (dn.mono e2.gg) j)) (Ext.wr (ex.trans e12) g2 q5)
      ·rw[dM hl]at q;exact q.elim
   |no=>exact q.elim
   |pu _=>exact q.elim
   |bo _=>exact q.elim
   |ow _=>exact q.elim
end
noncomputable def BS:Expr->Bool
 |.Call (.Name x _) _ _ _=>decide (x≠"len") && decide (x≠"int") && decide (x≠"str")
 |.Tuple _ _ _=>true
 |_=>false
noncomputable def Qt:Nat->Expr->List Str
 |0,_=>[]
 |n+1,e=>match e with
  |.Call (.Attribute (.Name x _) m _) (k::r) _ _=>(if(m="setdefault"||m="get") && BS k then[x]else[])++(r.flatMap (Qt n))
  |.Call (.Attribute o _ _) _ _ _=>Qt n o
  |.Compare l _ rs _=>Qt n l++rs.flatMap (Qt n)
  |.BoolOp _ es _=>es.flatMap (Qt n)
  |.UnaryOp _ e _=>Qt n e
  |.BinOp l _ r _=>Qt n l++Qt n r
  |_=>[]
def Qu:Nat->List Stmt->List Str
 |0,_=>[]
 |n+1,ss=>ss.flatMap λs=>match s with
  |.For _ it b o _=>Qt n it++Qu n b++Qu n o
  |.While c b o _=>Qt n c++Qu n b++Qu n o
  |.If c b o _=>Qt n c++Qu n b++Qu n o
  |.Assign [.Subscript (.Name x _) k _] v _=>(if BS k then[x]else[])++Qt n v
  |.Assign _ v _=>Qt n v
  |.Expr e _=>Qt n e
  |.Return (some e) _=>Qt n e
  |_=>[]
noncomputable def aj:D->D->Option D
 |.lst xs,.int i=>atI xs i
 |.tup xs,.int i=>atI xs i
 | .str z, .int i => if z.length <= dN then (match atI z.cps.toList i with
  |some c=>some (.str ⟨#[c]⟩)
  |none=>none)else none
 |.dct false kvs,k=>(bw k).bind (bq kvs)
 |.dct true kvs,k=>(jf k).bind (Ma kvs)
 |_,_=>none
def UU:R2:=λx y H Q=>∃a v,x=.ref a/\DGet H a y (some v)/\Q v H
section
variable{X:Cx}{B:Hp}{E:EK}{a b:Expr}{g h:En->Res}{pos:Pos}
def DN(hu:X.A.units+5<gQ):IxR X UU:=by
 intro value slice pins s U H x y v u Q I rx ry q hs;obtain⟨l,w,rfl,dg,q⟩:=q;cases rx;exact tail_any (K6 I dg) PySem.F.slot_dict_getitem.lookup (Ub hu I dg ry λw' s3 I3 rw'=>⟨w,H,I3,rw',q⟩) hs
def Arg.dctT{K:KA}{G H:Hp}{kvs:List (D×D)}{v:V}(s:Same G H)(h:Arg K G H (.dct true kvs) v):∃a es,v=.ref a/\H a=some (.dT es)/\DenT K G kvs es:=by
 rcases h with ⟨a,h1,h2⟩|⟨_,_,_,z,_⟩|⟨t',kvs',a,z,h1,h2⟩
 ·rcases h2 with ⟨z,_⟩|⟨_,es,q,r⟩
  ·cases z
  ·exact⟨a,es,h1,s _ _ q,r⟩
 ·cases z
 ·cases z;rcases h2 with ⟨z,_⟩|⟨_,es,q,r⟩
  ·cases z
  ·exact⟨a,es,h1,q,r⟩
def FC{K:KA}:g9 K aj (λx y H Q=>bY K x y H Q\/UU x y H Q):=λG H x y dx dy d sg ax ay ed Q q=>by
 unfold aj at ed;split at ed
 ·obtain⟨l,vs,rfl,sq,dl⟩:=ax.lst sg;obtain⟨v,ev,dv⟩:=dl.atI ed;exact .inl (.inl ⟨l,vs,_,v,rfl,ay.int,sq,ev,q _ G H (Ext.refl sg) dv⟩)
 ·obtain⟨l,vs,rfl,sq,dl⟩:=ax.tup sg;obtain⟨v,ev,dv⟩:=dl.atI ed;exact .inl (.inr (.inl ⟨l,vs,_,v,rfl,ay.int,sq,ev,q _ G H (Ext.refl sg) dv⟩))
 ·split at ed
  ·rename_i hz;split at ed
   ·rename_i c ec;cases ed;exact .inl (.inr (.inr ⟨_,_,c,ax.str,ay.int,hz,ec,q _ G H (Ext.refl sg) rfl⟩))
   ·cases ed
  ·cases ed
 ·rename_i kvs;cases ek:bw dy with
  |none=>rw[ek]at ed;cases ed
  |some j=>
   rw[ek]at ed;obtain⟨l,es,rfl,h1,dl⟩:=Arg.dctK sg ax;obtain⟨v,ev,dv⟩:=(dl.look j).1 d ed;rw[ou ay ek];refine .inr ⟨l,v,rfl,?_,q _ G H (Ext.refl sg) dv⟩;rw[<-ev];exact DGet.k h1
 ·rename_i kvs;cases ek:jf dy with
  |none=>rw[ek]at ed;cases ed
  |some j=>
   rw[ek]at ed;obtain⟨l,es,rfl,h1,dl⟩:=Arg.dctT sg ax;obtain⟨v,ev,dv⟩:=(dl.look j).1 d ed;obtain⟨b,rfl,hb⟩:=Arg.keys sg ay ek;refine .inr ⟨l,v,rfl,?_,q _ G H (Ext.refl sg) dv⟩;rw[<-ev];exact DGet.t h1 hb
 ·cases ed
def TL(hu:X.A.units+5<gQ)(ha:jc X B E a g)(hb:jc X B E b h)(hs:Iq b:=by intro _ _;rfl):fq X B E (.Subscript a b pos) (g2 aj g h):=PE.imp (SA (LJ.or (DN hu)) ha hb hs) λU H Q q=>WW FC q
end
end Pu
end
section
namespace L2
open PySem PySem.Spec PyProof.Rows
def Inv.drew{X:Cx}{pins:List (Addr×Obj)}{U:St}{H:Hp}{s:dP}(I:Inv X pins U H s)(d':Drawn):Inv X pins U H {s with drawn:=d'}:=by
 have:=I.step (h':=s.heap) (H':=H) (g':=s.gens) (d':=d') (t':=s.toks) (ch:=[]) (λ_ z=>nomatch z) (λb o _ _ _ e _=>e) (λb o _ _ _ e _=>⟨o.slots,e⟩) (λb o _ _ n=>n) (λb o _ e=>⟨o,e⟩) (λ_ _ z=>z) (λ_ _ _ z=>z) (λ_ _ z=>z) (λ_ z=>z) I.hok I.bare;exact this
end L2
namespace Pu
open PySem PySem.Spec PyProof.Rows L2 PySem.SeqAt PySem.W
theorem Rk{K:KA}{G:Hp}{ds:List D}{vs:List V}(dl:DenL K G ds vs):∀{ps:List Nat},(∀i∈ps,i<ds.length)->DenL K G (ps.map λi=>ds.getD i D.non) (ps.map λi=>vs.getD i V.non)
 |[],_=>rfl
 |i::r,h=>by
  refine⟨_,_,rfl,?_,Rk dl λj hj=>h j (.tail _ hj)⟩;have key:∀{ds:List D}{vs:List V}(i:Nat),DenL K G ds vs->i<ds.length->Den K G (ds.getD i D.non) (vs.getD i V.non):=by
   intro ds;induction ds with
   |nil=>intro vs i _ h;simp at h
   |cons d ds ih=>
    intro vs i dl h;obtain⟨v,vr,rfl,dv,dr⟩:=dl;cases i with
    |zero=>exact dv
    |succ i=>simpa using ih i dr (by simpa using h)
  exact key i dl (h i (.head _))
theorem Tt{vs:List V}{us:List dG}(r:Vals vs us):∀{ps:List Nat},(∀i∈ps,i<vs.length)->Vals (ps.map λi=>vs.getD i V.non) (ps.map λi=>us.getD i fC)
 |[],_=>.nil
 |i::q,h=>by
  refine .cons ?_ (Tt r λj hj=>h j (.tail _ hj));have key:∀{vs:List V}{us:List dG}(i:Nat),Vals vs us->i<vs.length->RelV (vs.getD i V.non) (us.getD i fC):=by
   intro vs us i r;induction r generalizing i with
   |nil=>intro h;simp at h
   |cons hh t ih=>
    intro h;cases i with
    |zero=>exact hh
    |succ i=>simpa using ih i (by simpa using h)
  exact key i r (h i (.head _))
noncomputable def Pc:D->Option (List Int)
 |.tup [.str x,.tup ds]=>if eK x then(qo ds).map (vy x)else none
 |_=>none
def kh:List D->Option (List (List Int))
 |[]=>some []
 |d::ds=>match Pc d,kh ds with
  |some k,some r=>some (k::r)
  |_,_=>none
def DK(h:Pc d=some k):∃x c,eK x=true/\k=vy x c/\d=.tup [.str x,.tup (c.map D.int)]:=by
 unfold Pc at h;split at h
 ·rename_i x ds;split at h
  ·rename_i ok;cases e:qo ds with
   |none=>rw[e]at h;cases h
   |some c=>rw[e]at h;cases h;exact⟨x,c,ok,rfl,by rw[D6 e]⟩
  ·cases h
 ·cases h
def m9(h:kh (d::ds)=some kz):∃k r,Pc d=some k/\kh ds=some r/\kz=k::r:=by
 unfold kh at h;cases e1:Pc d with
 |none=>rw[e1]at h;cases h
 |some k=>
  cases e2:kh ds with
  |none=>rw[e1,e2]at h;cases h
  |some r=>rw[e1,e2]at h;cases h;exact⟨k,r,rfl,rfl,rfl⟩
def jw(ds:List D):Option (Nat×List (List Int)):=match kf ds with
 |some kz=>some (0,kz)
 |none=>(kh ds).map λkz=>(2,kz)
theorem Hk:∀{ds:List D}{kz:List (List Int)},kf ds=some kz->kz.length=ds.length
 |[],kz,h=>by cases h;rfl
 |d::ds,kz,h=>by
  obtain⟨k,r,_,h2,rfl⟩:=m7 h;rw[dI,dI,Hk h2]
theorem Hl:∀{ds:List D}{kz:List (List Int)},kh ds=some kz->kz.length=ds.length
 |[],kz,h=>by cases h;rfl
 |d::ds,kz,h=>by
  obtain⟨k,r,_,h2,rfl⟩:=m9 h;rw[dI,dI,Hl h2]
def xr{ds:List D}{kz:List (List Int)}(h:jw ds=some (b,kz)):kz.length=ds.length:=by
 unfold jw at h;split at h
 ·rename_i e;cases h;exact Hk e
 ·cases e:kh ds with
  |none=>rw[e]at h;cases h
  |some k=>rw[e]at h;cases h;exact Hl e
noncomputable def i9(ds:List D):Option (List D):=if ds.length<2 then some ds else if ds.length<64 then(match jw ds with
  |some (_,kz)=>if kz.Nodup then some ((zc (kz.zip ds)).map (·.2))else none
  |none=>none)else none
noncomputable def nq:D->Option D
 |.lst ds=>(i9 ds).map .lst
 |.dct true kvs=>(i9 (kvs.map (·.1))).map .lst
 |_=>none
def Fg{ds ds':List D}(h:i9 ds=some ds'):ds.length<64/\((ds.length<2/\ds'=ds)\/(2<=ds.length/\∃b kz,jw ds=some (b,kz)/\kz.Nodup/\ds'=(zc (kz.zip ds)).map (·.2))):=by
 unfold i9 at h
 by_cases h2:ds.length<2
 ·rw[dJ h2]at h;cases h;exact⟨by lia,.inl ⟨h2,rfl⟩⟩
 ·rw[dM h2]at h
  by_cases h64:ds.length<64
  ·rw[dJ h64]at h;cases hk:jw ds with
   |none=>rw[hk]at h;cases h
   |some p=>
    obtain⟨b,kz⟩:=p;rw[hk]at h;dsimp only at h
    by_cases nd:kz.Nodup
    ·rw[dJ nd]at h;cases h;exact⟨h64,.inr ⟨by lia,b,kz,rfl,nd,rfl⟩⟩
    ·rw[dM nd]at h;cases h
  ·rw[dM h64]at h;cases h
section
variable{X:Cx}{pins:List (Addr×Obj)}{U:St}{G H:Hp}{s:dP}
theorem Hq(I:Inv X pins U H s)(sg:Same G H):∀{ds:List D}{kz:List (List Int)}{vs:List V}{us:List dG},kh ds=some kz->DenL (kx X) G ds vs->Vals vs us->KeysAre s 2 us kz
 |[],kz,vs,us,h,dl,r=>by
  cases h;cases (show vs=[]from dl);cases r;trivial
 |d::ds,kz,vs,us,h,dl,r=>by
  obtain⟨k,r',h1,h2,rfl⟩:=m9 h;obtain⟨v,vr,rfl,dv,dr⟩:=dl;obtain⟨x,c,ok,rfl,rfl⟩:=DK h1;cases r with
  |cons rv rr=>
   refine⟨?_,Hq I sg h2 dr rr⟩;have e:cg (.tup [.str x,.tup (c.map D.int)])=some (.tuple [.str x,.tuple (c.map gK)]):=by
    rw[cg,cn,cn,cn,cg,cg,A6]
   obtain⟨as,ra⟩:=y9 I sg dv rv e;exact⟨_,as,ra,x,c,rfl,ok,rfl⟩
def Pe(I:Inv X pins U H s)(sg:Same G H)(h:jw ds=some (b,kz))(dl:DenL (kx X) G ds vs)(r:Vals vs us):KeysAre s b us kz:=by
 unfold jw at h;split at h
 ·rename_i e;cases h;exact L0 I sg e dl r
 ·cases e:kh ds with
  |none=>rw[e]at h;cases h
  |some k=>rw[e]at h;cases h;exact Hq I sg e dl r
end
section
variable{X:Cx}{B:Hp}{E:EK}{e:Expr}{g:En->Res}{pos p:Pos}
def B1{pins:List (Addr×Obj)}{U:St}{G H:Hp}{s:dP}{a:Addr}{ds':List D}{Q:VK}(hu:X.A.units+5<gQ)(I:Inv X pins U H s)(sg:Same G H)
  (col:∀(Q':List dG->dP->Prop)(E':dG->dP->Prop),(∀d' h' tk its vs ds,(∀b o,s.heap.get? b=some o->h'.get? b=some o)->Vals vs its->DenL (kx X) G ds vs->i9 ds=some ds'->Q' its {s with heap:=h',toks:=tk,drawn:=d'})->dX (eJ X.prog X.w) X.A.in1 (collect (.ref a)) Q' E' s)
  (q:∀p vs',H p=none->DenL (kx X) G ds' vs'->Q (.ref p) (upd H p (.lst vs'))):dX (eJ X.prog X.w) X.A (call (.builtin "sorted") [.ref a]) (EP X pins U Q) X.xe s:=by
 refine Calls.call_function_entry kind_sorted plain_sorted entry_sorted (args_sorted1 _) ?_;unfold Builtin.«sorted»;refine dA (m:=checkCount "sorted" 1 1 _) (dB (dA (col _ _ λd0 h1 tk its vs ds k1 rv dl e=>?_)));obtain⟨h64,hh⟩:=Fg e;have n1:its.length=vs.length:=rv.length.symm;have n2:vs.length=ds.length:=dl.length.symm;have zl:its.length<=dN:=by rw[jC];lia
 refine dA (wpAny_newList ?_ zl);have I1:Inv X pins U H {s with heap:=h1,toks:=tk,drawn:=d0}:=(I.drew d0).kept k1;have hoL:(h1.push (qU "list" its.toArray 0)).get? h1.objs.size=some (qU "list" its.toArray 0):=eD _ rfl;have k2:∀b o,h1.get? b=some o->(h1.push (qU "list" its.toArray 0)).get? b=some o/\b≠h1.objs.size:=λb o e=>⟨dE _ e,eM (dY e)⟩;have hR:2<=its.length->Ir X.prog X.w X.A.in1.in1 its its (λp=>PermR its.length p/\∃b kz,jw ds=some (b,kz)/\kz.Nodup/\So (Ad kz) p its.length/\ds'=(zc (kz.zip ds)).map (·.2)) {s with heap:=Pr (h1.push (qU "list" its.toArray 0)) h1.objs.size its,toks:=tk,drawn:=d0}:=λh2=>by
  rcases hh with ⟨z,_⟩|⟨_,b,kz,hk,nd,hd⟩
  ·lia
  ·have I2:Inv X pins U H {s with heap:=Pr (h1.push (qU "list" its.toArray 0)) h1.objs.size its,toks:=tk,drawn:=d0}:=I1.kept (t':=tk) λb o e=>Yl (k2 b o e).1 (k2 b o e).2;have ka:=Pe I2 sg hk dl rv;intro E';refine fL (ON (prog:=X.prog) (w:=X.w) (A:=X.A.in1.in1) (vs:=its) rfl ka h2 (by lia) nd (by show X.A.units+1+1+1<gQ;lia) E') (λκ s' g=>⟨g.1,λE2=>fL (g.2 E2) (λr s2 g2=>?_) λ_ _ x=>x⟩) λ_ _ x=>x;obtain⟨g1,g2,p,⟨g3,g4⟩,g5,g6⟩:=g2;exact⟨g1,g2,p,⟨g3,b,kz,hk,nd,g4,hd⟩,g5,g6⟩
 refine dA (gW (fP slot_list_sort ⟨_,hoL,rfl⟩ entry_list_sort (Ql (s:={s with heap:=h1.push (qU "list" its.toArray 0),toks:=tk,drawn:=d0}) hoL (by lia) hR λout ho=>⟨_,rfl,dB ⟨_,rfl,?_⟩⟩) (args_list_sort _)));obtain⟨ep,hat⟩:=sortedHeap_at (out:=out.toArray) hoL;have key:∃vs',DenL (kx X) G ds' vs'/\Vals vs' out:=by
  rcases ho with ⟨z,rfl⟩|⟨z,p,⟨hp,b,kz,hk,nd,hs,hd⟩,hps,rfl⟩
  ·rcases hh with ⟨_,rfl⟩|⟨z2,_⟩
   ·exact⟨vs,dl,rv⟩
   ·lia
  ·have hp':PermR ds.length p:=by rw[<-n2,<-n1];exact hp
   have hs':So (Ad kz) p ds.length:=by rw[<-n2,<-n1];exact hs
   have lt:∀i∈p.toList,i<ds.length:=λi hi=>List.mem_range.mp (hp'.mem_iff.mp hi);rw[hd,<-Vf (xr hk) nd hp' hs'];exact⟨_,Rk dl lt,Tt rv λi hi=>by rw[n2];exact lt i hi⟩
 obtain⟨vs',d',v'⟩:=key;have z:vs'.length<=dN:=by rw[v'.length,ho.len];exact zl
 refine⟨.ref h1.objs.size,_,I1.laid (a:=h1.objs.size) (o:=.lst vs') (t':=tk) (λb o e=>?_) (dR _) ⟨z,out,ep,v',hat⟩,rfl,q _ vs' (I1.hok.fresh (dR _)) d'⟩;have hlt:=dY e;rw[sortedHeap_old (k2 b o e).2 (by rw[iR];exact oG hlt)];exact(k2 b o e).1
def Fh(hu:X.A.units+5<gQ)(I:Inv X pins U H s)(sg:Same G H)(rv:Vals vs its)(dl:DenL (kx X) G ds vs)(e:i9 ds=some ds')
  (col:∀(Q':List dG->dP->Prop)(E':dG->dP->Prop),(∀h' tk,(∀b o,s.heap.get? b=some o->h'.get? b=some o)->Q' its {s with heap:=h',toks:=tk})->dX (eJ X.prog X.w) X.A.in1 (collect (.ref a)) Q' E' s)
  (q:∀p vs',H p=none->DenL (kx X) G ds' vs'->Q (.ref p) (upd H p (.lst vs'))):dX (eJ X.prog X.w) X.A (call (.builtin "sorted") [.ref a]) (EP X pins U Q) X.xe s:=
 B1 hu I sg (λQ' E' hq=>col Q' E' λh' tk k=>hq s.drawn h' tk its vs ds k rv dl e) q
def RawD(h:Heap)(d:Addr)(es:Array DictEntry)(ep:Nat):Prop:=∃o,h.get? d=some o/\o.ExactDict/\o.data=.dict es ep
section
variable{prog:eS}{w:fI}{A:fV}{E:dG->dP->Prop}{s:dP}{d:Addr}{es:Array DictEntry}{ep:Nat}
def RawD.ty(h:RawD s.heap d es ep):s.TypeIs (.ref d) "dict":=let ⟨o,h1,h2,_⟩:=h;⟨o,h1,h2.1⟩
def AW(hd:(d==jH)=false)(hm:RawD s.heap d es ep)
  (hQ:Q (.ref s.heap.objs.size) {s with heap:=s.heap.push {cls:=.type "dict_keyiterator",data:=.fields #[.ref d,.int 0 0,.int es.size 0,.int ep 0]}}):
  dX (eJ prog w) A (pyIter (.ref d)) Q E s:=by
 have hT:=hm.ty;obtain⟨o,ho,hc,hdat⟩:=id hm;refine qP hT F.slot_dict_iter (fP F.slot_dict_iter hT F.entry_dict_iter ?_ (F.args_dict_iter_1 _));unfold Builtin.«dict.__iter__»;refine dA ?_;unfold Builtin.Dict.dictSlotNone;refine dA (wpAny_notOrdered_dict hT ?_);show dX _ _ (pure (eZ d)) _ _ s;refine dB ?_;show dX _ _ (Builtin.Dict.showsAll d>>=_) _ _ s;unfold Builtin.Dict.showsAll;rw[dM (by rw[hd];exact Bool.false_ne_true)];refine dA (dB ?_);refine dA (qQ ho hdat ?_);refine dA (rT ho hdat ?_);refine dA (fO (dB ⟨_,rfl,"dict_keyiterator",_,⟨_,eD _ rfl,rfl⟩,F.slot_dict_keyiterator_next.lookup,?_⟩));simpa[iD]using hQ
def AX(hit:s.heap.IsKeyIter it d i es.size ep)(hm:RawD s.heap d es ep)(hlt':i<es.size)
  (hQ:∀h',h'.IsKeyIter it d (i+1) es.size ep->gU it s.heap h'->Q (some es[i].key) {s with heap:=h'}):dX (eJ prog w) A (kZ (.ref it)) Q E s:=by
 obtain⟨o,ho,hc,hd⟩:=id hit;obtain⟨od,hod,hcd,hdd⟩:=id hm;unfold kZ;refine dA (nD (fW (name:=iJ "__next__") hit.typeIs jP
  (fP jP hit.typeIs pA ?_ (oU _))))
 refine dA (dB ?_);refine dA ?_;refine dA ?_
 first|refine dA (jL hit.typeIs (dB ?_))|refine dA (lD hit.typeIs (dB ?_))
 refine dA (pZ ho hd ?_);have hown:pL "dict_keyiterator"=false:=by decide
 simp only[hown,Bool.false_eq_true,if_false];show dX _ _ (if(eZ d==fC)=true then _ else _) _ _ s;rw[dM (show¬((eZ d==fC)=true)from Bool.false_ne_true)];refine dA (dB ?_);refine dA (qQ hod hdd ?_);rw[dM (by simp)];refine dA (dB ?_);refine dA (rT hod hdd ?_);rw[dM (by simp)];refine dB ?_;simp only[show¬((i:Int)<0)from by lia,if_false,iN,eO hlt'];refine dA ?_
 first|refine dA (jL hit.typeIs (dB ?_))|refine dA (lD hit.typeIs (dB ?_))
 refine dA (wpAny_isOneOf_keyiter hit.typeIs ?_);show dX _ _ (setField (.ref it) 1 (iD ((i:Int)+1))>>=_) _ _ s;refine dA (jA ho hd (by simp) ?_);have hit':(s.heap.update it (jK (·.setIfInBounds 1 (iD ((i:Int)+1))))).IsKeyIter it d (i+1) es.size ep:=
  ⟨_,gF _ ho (lU (jI hd _)),(qN ..).trans hc,by rw[jI hd];simp[iD]⟩
 refine dA (gW ?_);refine dA (wpAny_isOneOf_keyiter (s:={s with heap:=s.heap.update it (jK (·.setIfInBounds 1 (iD ((i:Int)+1))))}) hit'.typeIs ?_);show dX _ _ (pure es[i].key) _ _ _;exact dB (dB ⟨_,rfl,dB (hQ _ hit' (iC ..))⟩)
def GC(hh:A.handled=none)(hit:s.heap.IsKeyIter it d es.size es.size ep)(hm:RawD s.heap d es ep)
  (hQ:∀h',Heap.ExtBut it s.heap h'->Q none {s with heap:=h'}):dX (eJ prog w) A (kZ (.ref it)) Q E s:=by
 obtain⟨o,ho,hc,hd⟩:=id hit;obtain⟨od,hod,hcd,hdd⟩:=id hm;unfold kZ;refine dA (nD (fW (name:=iJ "__next__") hit.typeIs jP
  (fP jP hit.typeIs pA ?_ (oU _))))
 refine dA (dB ?_);refine dA ?_;refine dA ?_
 first|refine dA (jL hit.typeIs (dB ?_))|refine dA (lD hit.typeIs (dB ?_))
 refine dA (pZ ho hd ?_);have hown:pL "dict_keyiterator"=false:=by decide
 simp only[hown,Bool.false_eq_true,if_false];show dX _ _ (if(eZ d==fC)=true then _ else _) _ _ s;rw[dM (show¬((eZ d==fC)=true)from Bool.false_ne_true)];refine dA (dB ?_);refine dA (qQ hod hdd ?_);rw[dM (by simp)];refine dA (dB ?_);refine dA (rT hod hdd ?_);rw[dM (by simp)];refine dB ?_;simp only[show¬((es.size:Int)<0)from by lia,if_false,iN,Array.getElem?_eq_none (dR es.size)];refine dA ?_
 first|refine dA (jL hit.typeIs (dB ?_))|refine dA (lD hit.typeIs (dB ?_))
 show dX _ _ (setField (.ref it) 0 .none>>=_) _ _ s;refine dA (jA ho hd (by simp) ?_);show dX _ _ (newExc (.type "StopIteration") []>>=_) _ _ _;refine dA ?_;simp only[newExc,newTuple];refine dA (fO ?_ (by size_fits));refine dA (m:=mL _ _) (oZ (a:=fC) (by first|rfl|(simp only[mL];rfl)) ?_);refine fO ?_ (by size_fits);simp only[raiseNew];refine dA (wpAny_handled ?_);rw[show A.in1.handled=none from hh];refine dA (dB (wpAny_throw ?_));refine dA (kA (T:="StopIteration") (b:=true) ⟨_,eD _ rfl,rfl⟩ isSubtype_stop ?_);exact dB (hQ _ (((iC ..).extBut.push _).push _))
def Wb(hh:A.handled=none)(I:Addr)(hne:d≠I):Walks prog w A I [I,d] [I] es.size (λi v=>∃e,es[i]?=some e/\v=e.key) (λi h=>h.IsKeyIter I d i es.size ep/\RawD h d es ep) where
 sub:=λb hb=>by simp at hb;simp[hb]
 frame:=λ_ _ _ st hk=>⟨st.1.at λo e=>hk I (by simp) o e,let ⟨o,h1,h2⟩:=st.2;⟨o,hk d (by simp) o h1,h2⟩⟩
 item:=λi s Q E hi st hQ=>AX st.1 st.2 hi λh' hit' hs'=>hQ _ h' s.toks ⟨_,eO hi,rfl⟩ ⟨hit',let ⟨o,h1,h2⟩:=st.2;⟨o,hs'.extBut d o hne h1,h2⟩⟩ λb o hb e=>hs'.extBut b o (λh=>hb (by simp[h])) e
 done:=λs Q E st hQ=>GC hh st.1 st.2 λh' he'=>hQ h' s.toks λb o hb e=>he' b o (λh=>hb (by simp[h])) e
 self:=λ_ _ _ _ st hQ=>wpAny_pyIter_keyiter st.1 hQ
def HJ(lo:(d==jH)=false):PySem.W.KdlSrc prog w "dict" d d es.size (λi v=>∃e,es[i]?=some e/\v=e.key) (λh=>RawD h d es ep) where
 type:=λ_ hm=>hm.ty
 there:=λ_ hm=>let ⟨_,h1,_⟩:=hm;⟨dY h1,dY h1⟩
 keep:=λ_ _ hm hk=>let ⟨o,h1,h2⟩:=hm;⟨o,hk d (.inl rfl) o h1,h2⟩
 notList:=by decide
 notTuple:=by decide
 hint:=λ_ _ _ _ hm hq=>PySem.W.kdl_hint_dict hm.ty hq
 iter:=λ_ _ hh hm=>⟨_,_,(λ_ _ hq=>AW lo hm hq),Wb hh _ (let ⟨_,h1,_⟩:=hm;eM (dY h1)),⟨⟨_,eD _ rfl,rfl,rfl⟩,let ⟨o,h1,h2⟩:=hm;⟨o,dE _ h1,h2⟩⟩⟩
end
def gT(G H:Hp):Hp:=λb=>match H b with
 |some (.tup vs)=>some (.tup vs)
 |_=>G b
def Al(h:H b=some (.tup vs)):gT G H b=some (.tup vs):=by unfold gT;rw[h]
def Jn(h:∀vs,H b≠some (.tup vs)):gT G H b=G b:=by
 unfold gT;split
 ·rename_i vs e;exact absurd e (h vs)
 ·rfl
def Aj(sg:Same G H):Ext G H (gT G H) H:=by
 refine⟨λb u q=>?_,Same.refl H,λb u q=>?_,λb u q g z=>?_⟩
 ·have:=sg b u q
  by_cases c:∃vs,u=.tup vs
  ·obtain⟨vs,rfl⟩:=c;exact Al this
  ·rw[Jn λvs e=>c ⟨vs,by rw[this]at e;cases e;rfl⟩];exact q
 ·by_cases c:∃vs,H b=some (.tup vs)
  ·obtain⟨vs,e⟩:=c;rw[Al e]at q;rw[e];exact q
  ·rw[Jn λvs e=>c ⟨vs,e⟩]at q;exact sg b u q
 ·rw[Jn λvs e=>by rw[q]at e;cases e;cases z];exact g
def W7{K:KA}{G:Hp}(k:fo):Den K G (kD k) (kV k):=by cases k<;>exact rfl
theorem Rl{K:KA}{G:Hp}:∀ks:List fo,DenL K G (ks.map kD) (ks.map kV)
 |[]=>rfl
 |k::r=>⟨_,_,rfl,W7 k,Rl r⟩
def W8{K:KA}{G H:Hp}{k:NK}{v:V}(h:nkAt H k v):Den K (gT G H) (JR k) v:=by
 cases k with
 |inl k=>rw[show v=kV k from h];exact W7 k
 |inr ks=>obtain⟨b,rfl,q⟩:=h;exact⟨b,_,rfl,Al q,Rl ks⟩
theorem K5{K:KA}{G H:Hp}:∀{ks:bg}{vs:List V},NkL H ks vs->DenL K (gT G H) (ks.map JR) vs
 |[],_,h=>h
 |_::_,_,⟨v,t,e,h1,h2⟩=>⟨v,t,e,W8 h1,K5 h2⟩
def W9{K:KA}{G H:Hp}{k:bg}{b:Addr}(h:TkAt H k b):Den K (gT G H) (kT k) (.ref b):=by
 obtain⟨vs,h1,h2⟩:=h;exact⟨b,vs,rfl,Al h1,K5 h2⟩
theorem Jd{K:KA}{G H:Hp}:∀{es:List (bg×V)}{xs:List (bg×Addr×dG)},KT H es xs->DenL K (gT G H) (es.map λp=>kT p.1) (xs.map λq=>V.ref q.2.1)/\Vals (xs.map λq=>V.ref q.2.1) (xs.map λq=>eZ q.2.1)
 |_,_,.nil=>⟨rfl,.nil⟩
 |_,_,.cons h t=>⟨⟨_,_,rfl,W9 h.2.1,(Jd (K:=K) (G:=G) t).1⟩,.cons rfl (Jd (K:=K) (G:=G) t).2⟩
theorem Gx{K:KA}{G:Hp}:∀{kvs:List (D×D)}{es:List (bg×V)},DenT K G kvs es->kvs.map (·.1)=es.map λp=>kT p.1
 |[],_,h=>by rw[show _=[]from h];rfl
 |(_,_)::_,_,⟨k,v,r,h1,h2,_,h3⟩=>by rw[h1,dC,dC,Gx h3,h2]
def OQ(X:Cx):List V->Hp->VK->Prop:=λxs H Q=>(∃a vs G ds ds',xs=[.ref a]/\SqL X.K H a vs/\Same G H/\DenL (kx X) G ds vs/\i9 ds=some ds'/\∀p vs',H p=none->DenL (kx X) G ds' vs'->Q (.ref p) (upd H p (.lst vs')))\/
 ∃a es G ds',xs=[.ref a]/\H a=some (.dT es)/\Same G H/\i9 (es.map λp=>kT p.1)=some ds'/\∀p vs',H p=none->DenL (kx X) (gT G H) ds' vs'->Q (.ref p) (upd H p (.lst vs'))
def Oi(hu:X.A.units+5<gQ)(hc:X.calm=true):CallR X (.builtin "sorted") (OQ X):=by
 intro pins s U H xs us Q I r q;rcases q with ⟨a,vs,G,ds,ds',rfl,sq,sg,dl,e,q⟩|⟨a,es,G,ds',rfl,ha,sg,e,q⟩
 ·obtain⟨u,rfl,ru⟩:=l9 r;cases ru;obtain⟨its,rv,pl,_⟩:=I.list sq;have h64:=(Fg e).1;have n1:its.length=vs.length:=rv.length.symm;have n2:vs.length=ds.length:=dl.length.symm;have zl:its.length<=dN:=by rw[jC];lia
  refine Fh hu I sg rv dl e (λQ' E' hq=>collect_list pl.isList (hq _ _ λb o e=>?_) zl) q;rw[Heap.get?_update_ne _ _ _ _ (eM (dY e))];exact dE _ e
 ·obtain⟨u,rfl,ru⟩:=l9 r;cases ru;obtain⟨z,hd,xs,rel,o,dt,ep,h1,h2,h3,h4,_⟩:=IB I.hok ha;obtain⟨dl,rv⟩:=Jd (K:=kx X) (G:=G) rel;have hz:dt.size=xs.length:=by have:=congrArg kS h4;simpa using this
  have zl:dt.size<=dN:=by rw[hz,<-mZ rel];exact z
  refine Fh (G:=gT G H) hu I (Aj sg).gh rv dl e (λQ' E' hq=>?_) q;refine PySem.W.kdu_collect (A:=X.A.in1) (HJ (es:=dt) (ep:=ep) hd) (I.ok.hd hc) ⟨o,h1,h2,h3⟩ zl λh' tk acc hk hacc=>?_;have ew:acc.toList=xs.map λq=>eZ q.2.1:=by
   refine lY λi=>?_
   by_cases hi:i<acc.size
   ·have hi':acc.toList[i]?=some acc[i]:=by rw[eV];exact eO hi
    obtain⟨e,e1,e2⟩:=hacc.2 i acc[i] (eO hi);have e3:dt.toList[i]?=some e:=by rw[eV];exact e1
    rw[h4,eP]at e3;rw[hi',eP,e2];cases ex:xs[i]? with
    |none=>rw[ex]at e3;cases e3
    |some q=>rw[ex]at e3;cases e3;rfl
   ·rw[iQ (by rw[eC];lia),iQ (by rw[dD,<-hz,<-hacc.1];lia)]
  rw[ew];exact hq h' tk hk
def Vk(hu:X.A.units+5<gQ)(hc:X.calm=true)(hg:Gl X "sorted")(hm:X.mg "sorted"=none)(ha:jc X B E e g)(he:eE [e] X.env=(false,eval e X.env)::eE [] X.env):fq X B E (.Call (.Name "sorted" p) [e] [] pos) (g1 nq g):=
 PE.imp (nj (Oi hu hc) hg hm PyProof.Rows.boot_sorted (fe ha ik he) (by decide) (by decide) he rfl) λU H Q q=>KD (λG H x dx d sg ax ed Q q=>by
  unfold nq at ed;split at ed
  ·rename_i ds;cases e:i9 ds with
   |none=>rw[e]at ed;cases ed
   |some ds'=>
    rw[e]at ed;cases ed;obtain⟨l,vs,rfl,sq,dl⟩:=ax.lst sg;exact .inl ⟨l,vs,G,ds,ds',rfl,sq,sg,dl,e,λp vs' hp d'=>q _ (upd G p (.lst vs')) _ (Ext.new sg _ hp) (uf sg hp d')⟩
  ·rename_i kvs;cases e:i9 (kvs.map (·.1))with
   |none=>rw[e]at ed;cases ed
   |some ds'=>
    rw[e]at ed;cases ed;obtain⟨l,es,rfl,h1,dl⟩:=Arg.dctT sg ax;rw[Gx dl]at e;exact .inr ⟨l,es,G,ds',rfl,h1,sg,e,λp vs' hp d'=>q _ (upd (gT G H) p (.lst vs')) _ ((Aj sg).trans (Ext.new (Aj sg).gh _ hp)) (uf (Aj sg).gh hp d')⟩
  ·cases ed) q
end
end Pu
end
section
namespace Pu
open PySem PySem.Spec PyProof.Rows L2
def Ea(h1:Lw d=some k)(h2:kf ds=some r):kf (d::ds)=some (k::r):=by
 unfold kf;rw[h1,h2]
def Ed(h1:Pc d=some k)(h2:kh ds=some r):kh (d::ds)=some (k::r):=by
 unfold kh;rw[h1,h2]
def Eb{ds ds2:List D}(p:ds.Perm ds2):∀{kz:List (List Int)},kf ds=some kz->∃kz2,kf ds2=some kz2/\(kz2.zip ds2).Perm (kz.zip ds):=by
 induction p with
 |nil=>intro kz h;exact⟨kz,h,mK _⟩
 |cons x p ih=>
  intro kz h;obtain⟨k,r,h1,h2,rfl⟩:=m7 h;obtain⟨r2,q1,q2⟩:=ih h2;exact⟨k::r2,Ea h1 q1,q2.cons _⟩
 |swap x y l=>
  intro kz h;obtain⟨k,r,h1,h2,rfl⟩:=m7 h;obtain⟨k2,r2,h3,h4,rfl⟩:=m7 h2;exact⟨k2::k::r2,Ea h3 (Ea h1 h4),oF _ _ _⟩
 |trans p1 p2 ih1 ih2=>
  intro kz h;obtain⟨k1,q1,q2⟩:=ih1 h;obtain⟨k2,q3,q4⟩:=ih2 q1;exact⟨k2,q3,q4.trans q2⟩
def Pd{ds ds2:List D}(p:ds.Perm ds2):∀{kz:List (List Int)},kh ds=some kz->∃kz2,kh ds2=some kz2/\(kz2.zip ds2).Perm (kz.zip ds):=by
 induction p with
 |nil=>intro kz h;exact⟨kz,h,mK _⟩
 |cons x p ih=>
  intro kz h;obtain⟨k,r,h1,h2,rfl⟩:=m9 h;obtain⟨r2,q1,q2⟩:=ih h2;exact⟨k::r2,Ed h1 q1,q2.cons _⟩
 |swap x y l=>
  intro kz h;obtain⟨k,r,h1,h2,rfl⟩:=m9 h;obtain⟨k2,r2,h3,h4,rfl⟩:=m9 h2;exact⟨k2::k::r2,Ed h3 (Ed h1 h4),oF _ _ _⟩
 |trans p1 p2 ih1 ih2=>
  intro kz h;obtain⟨k1,q1,q2⟩:=ih1 h;obtain⟨k2,q3,q4⟩:=ih2 q1;exact⟨k2,q3,q4.trans q2⟩
def Qk{l l2:List (List Int×D)}(p:l2.Perm l)(nd:(l.map (·.1)).Nodup):zc l2=zc l:=by
 have nd2:(l2.map (·.1)).Nodup:=(p.map _).nodup_iff.mpr nd;exact List.Perm.eq_of_pairwise (le:=λa b:List Int×D=>a.1<b.1) (λa b _ _ h1 h2=>absurd (oV h1 h2) (kF _)) (ux nd2) (ux nd) ((jy _).trans (p.trans (jy _).symm))
def Lx{ds ds2:List D}(p:ds.Perm ds2){kz:List (List Int)}(h:jw ds=some (b,kz)):∃b2 kz2,jw ds2=some (b2,kz2)/\(kz2.zip ds2).Perm (kz.zip ds):=by
 unfold jw at h⊢;cases e:kf ds with
 |some k=>
  rw[e]at h;cases h;obtain⟨k2,q1,q2⟩:=Eb p e;exact⟨0,k2,by rw[q1],q2⟩
 |none=>
  rw[e]at h;cases e2:kf ds2 with
  |some k2=>
   obtain⟨k3,q1,_⟩:=Eb p.symm e2;rw[e]at q1;cases q1
  |none=>
   cases e3:kh ds with
   |none=>rw[e3]at h;cases h
   |some k=>
    rw[e3]at h;cases h;obtain⟨k2,q1,q2⟩:=Pd p e3;exact⟨2,k2,by rw[q1];rfl,q2⟩
def Qi{ds ds2 ds':List D}(p:ds.Perm ds2)(h:i9 ds=some ds'):i9 ds2=some ds':=by
 have pl:=p.length_eq;obtain⟨h64,hh⟩:=Fg h;rcases hh with ⟨h2,rfl⟩|⟨h2,b,kz,hk,nd,rfl⟩
 ·have:ds2=ds':=by
   match ds',ds2,h2,p with
   |[],l,_,p=>exact List.Perm.nil_eq p|>.symm
   |[x],l,_,p=>exact(List.singleton_perm.mp p).symm▸rfl
  rw[this];exact h
 ·obtain⟨b2,kz2,q1,q2⟩:=Lx p hk;have lz:=xr hk;have lz2:=xr q1;have n1:((kz.zip ds).map (·.1)).Nodup:=by rw[rE (by lia)];exact nd
  have n2:kz2.Nodup:=by
   have:=(q2.map (·.1)).nodup_iff.mpr n1;rw[rE (by lia)]at this;exact this
  unfold i9;rw[dM (by lia),dJ (by lia),q1];dsimp only;rw[dJ n2,Qk q2 n1]
end Pu
end
section
namespace ST
open PySem PySem.SetTable
def Ks(mask:Nat)(p:Probe):Probe:=if p.more>0 then{p with j:=p.j+1,more:=p.more - 1}else
 {p with j:=(leap mask p.i p.perturb).1,more:=runEnd mask (leap mask p.i p.perturb).1 - (leap mask p.i p.perturb).1,i:=(leap mask p.i p.perturb).1,perturb:=(leap mask p.i p.perturb).2}
def it(mask:Nat):Nat->Probe->Probe
 |0,p=>p
 |n+1,p=>it mask n (Ks mask p)
theorem Jr{mask:Nat}:∀(m n:Nat)(p:Probe),it mask (m+n) p=it mask n (it mask m p)
 |0,n,p=>by rw[pS];rfl
 |m+1,n,p=>by
  rw[show m+1+n=(m+n)+1 by lia];exact Jr m n (Ks mask p)
def Wg(mask:Nat)(h:Int):Probe:={j:=bits h % (mask+1),more:=runEnd mask (bits h % (mask+1)) - bits h % (mask+1),i:=bits h % (mask+1),perturb:=bits h,dummy:=none}
structure Val(mask:Nat)(p:Probe):Prop where
 more:p.more<=9
 i:p.i<=mask
 pt:p.perturb<2 ^ 64
 dum:p.dummy=none
 j:p.j+p.more<=mask
def Ay{mask i:Nat}(h:i<=mask):i<=runEnd mask i/\runEnd mask i<=mask/\runEnd mask i - i<=9:=by
 unfold runEnd;split<;>lia
def CT(h:Int):bits h<2 ^ 64:=by
 unfold bits;have h1:=rV h (show(2 ^ 64:Int)≠0 by decide);have h2:=qA h (show(0:Int)<2 ^ 64 by decide)
 lia
def C4(mask:Nat)(h:Int):Val mask (Wg mask h):=by
 have e:bits h % (mask+1)<=mask:=Nat.le_of_lt_succ (Nat.mod_lt _ (Nat.succ_pos _));obtain⟨h1,h2,h3⟩:=Ay e;exact⟨h3,e,CT h,rfl,by show bits h % (mask+1)+(runEnd mask (bits h % (mask+1)) - bits h % (mask+1))<=mask;lia⟩
def Bo(mask:Nat)(p:Probe):Nat:=(p.i * 5+1+p.perturb / 32) % (mask+1)
def yx(mask:Nat)(p:Probe):Probe:={p with j:=Bo mask p,more:=runEnd mask (Bo mask p) - Bo mask p,i:=Bo mask p,perturb:=p.perturb / 32}
def zt{mask:Nat}{p:Probe}(v:Val mask p):Val mask (yx mask p):=by
 have e:Bo mask p<=mask:=Nat.le_of_lt_succ (Nat.mod_lt _ (Nat.succ_pos _));obtain⟨h1,h2,h3⟩:=Ay e;exact⟨h3,e,Nat.lt_of_le_of_lt (Nat.div_le_self _ _) v.pt,v.dum,by show Bo mask p+(runEnd mask (Bo mask p) - Bo mask p)<=mask;lia⟩
def IU{mask:Nat}{p:Probe}(v:Val mask p):Val mask (Ks mask p):=by
 unfold Ks;split
 ·exact⟨by have:=v.more;show p.more - 1<=9;lia,v.i,v.pt,v.dum,by have:=v.j;show p.j+1+(p.more - 1)<=mask;lia⟩
 ·exact zt v
theorem Q2{mask:Nat}:∀(n:Nat){p:Probe},Val mask p->Val mask (it mask n p)
 |0,_,v=>v
 |n+1,_,v=>Q2 n (IU v)
theorem Js{mask:Nat}:∀(k:Nat)(p:Probe),p.more=k->it mask (k+1) p=yx mask p
 |0,p,h=>by
  show Ks mask p=_;unfold Ks;rw[dM (by lia)];rfl
 |k+1,p,h=>by
  show it mask (k+1) (Ks mask p)=_;have e:Ks mask p={p with j:=p.j+1,more:=p.more - 1}:=by unfold Ks;rw[dJ (by lia)]
  rw[Js k (Ks mask p) (by rw[e];show p.more - 1=k;lia),e];rfl
def Me(mask:Nat):Nat->Probe->Probe
 |0,p=>p
 |n+1,p=>Me mask n (yx mask p)
theorem X2{mask:Nat}:∀(k:Nat){p:Probe},Val mask p->∃m,m<=10 * k/\it mask m p=Me mask k p
 |0,p,v=>⟨0,by lia,rfl⟩
 |k+1,p,v=>by
  obtain⟨m,h1,h2⟩:=X2 k (zt v);have:=v.more;exact⟨p.more+1+m,by lia,by rw[Jr,Js _ p rfl,h2];rfl⟩
theorem y6{mask:Nat}:∀(m n:Nat)(p:Probe),Me mask (m+n) p=Me mask n (Me mask m p)
 |0,n,p=>by rw[pS];rfl
 |m+1,n,p=>by
  rw[show m+1+n=(m+n)+1 by lia];exact y6 m n (yx mask p)
theorem Kn{mask:Nat}:∀(n:Nat){p:Probe},Val mask p->Val mask (Me mask n p)
 |0,_,v=>v
 |n+1,_,v=>Kn n (zt v)
theorem Pn{mask:Nat}:∀(k:Nat)(p:Probe),(Me mask k p).perturb=p.perturb / 32 ^ k
 |0,p=>by rw[Nat.pow_zero,Nat.div_one];rfl
 |k+1,p=>by
  show(Me mask k (yx mask p)).perturb=_;rw[Pn k,Nat.pow_succ,Nat.mul_comm,<-Nat.div_div_eq_div_mul];rfl
def lc(mask:Nat):Nat->Nat->Nat
 |0,i=>i
 |n+1,i=>lc mask n ((i * 5+1) % (mask+1))
theorem Jw{mask:Nat}:∀(m n i:Nat),lc mask (m+n) i=lc mask n (lc mask m i)
 |0,n,p=>by rw[pS];rfl
 |m+1,n,p=>by
  rw[show m+1+n=(m+n)+1 by lia];exact Jw m n _
theorem Pm{mask:Nat}:∀(k:Nat){p:Probe},p.perturb=0->p.j=p.i->(Me mask k p).i=lc mask k p.i/\(Me mask k p).j=lc mask k p.i
 |0,p,h,e=>⟨rfl,e⟩
 |k+1,p,h,e=>by
  have:=Pm (mask:=mask) k (p:=yx mask p) (by show p.perturb / 32=0;rw[h]) rfl;have e2:(yx mask p).i=(p.i * 5+1) % (mask+1):=by show(p.i * 5+1+p.perturb / 32) % (mask+1)=_;rw[h]
  rw[e2]at this;exact this
def Y0(mask:Nat):Nat->Nat->List Nat
 |0,_=>[]
 |n+1,i=>i::Y0 mask n ((i * 5+1) % (mask+1))
theorem J2{mask j:Nat}:∀{n i:Nat},j∈Y0 mask n i->∃k,k<n/\lc mask k i=j
 |0,i,h=>by cases h
 |n+1,i,h=>by
  rcases List.mem_cons.mp h with h|h
  ·exact⟨0,by lia,h.symm⟩
  ·obtain⟨k,h1,h2⟩:=J2 h;exact⟨k+1,by lia,h2⟩
def Mk(mask:Nat):Prop:=mask=7\/mask=31\/mask=127
def FX{mask:Nat}(hm:Mk mask):(∀j,j<=mask->j∈Y0 mask (mask+1) 0)/\lc mask (mask+1) 0=0:=by
 have g:∀m,((eY (m+1)).all λj=>(Y0 m (m+1) 0).contains j)=true->∀j,j<=m->j∈Y0 m (m+1) 0:=λm h j hj=>by
  have:=List.all_eq_true.mp h j (List.mem_range.mpr (by lia));simpa using this
 rcases hm with rfl|rfl|rfl
 ·exact⟨g _ (by decide+kernel),by decide+kernel⟩
 ·exact⟨g _ (by decide+kernel),by decide+kernel⟩
 ·exact⟨g _ (by decide+kernel),by decide+kernel⟩
def L6{mask i j:Nat}(hm:Mk mask)(hi:i<=mask)(hj:j<=mask):∃k,k<=mask/\lc mask k i=j:=by
 obtain⟨h1,h2⟩:=FX hm;obtain⟨a,a1,a2⟩:=J2 (h1 i hi);obtain⟨b,b1,b2⟩:=J2 (h1 j hj)
 by_cases h:a<=b
 ·exact⟨b - a,by lia,by rw[<-a2,<-Jw,show a+(b - a)=b by lia,b2]⟩
 ·exact⟨mask+1 - a+b,by lia,by rw[<-a2,<-Jw,show a+(mask+1 - a+b)=(mask+1)+b by lia,Jw,h2,b2]⟩
def RM{mask j:Nat}{p:Probe}(hm:Mk mask)(v:Val mask p)(hj:j<=mask):∃m,m<10 * turns mask/\(it mask m p).j=j:=by
 have v13:=Kn 13 v;have p0:(Me mask 13 p).perturb=0:=by
  rw[Pn];exact Nat.div_eq_of_lt (eW v.pt (by decide))
 have e13:(Me mask 13 p).j=(Me mask 13 p).i:=by
  rw[show(13:Nat)=12+1 from rfl,y6];rfl
 obtain⟨k,k1,k2⟩:=L6 hm v13.i hj;obtain⟨m,m1,m2⟩:=X2 (13+k) v;refine⟨m,by unfold turns;lia,?_⟩;rw[m2,y6,(Pm k p0 e13).2,k2]
abbrev Ris(xs:Array Nat):Prop:=xs.toList.Pairwise (· <·)
def Ris.lt{xs:Array Nat}(h:Ris xs){a b x y:Nat}(hab:a<b)(hx:xs[a]?=some x)(hy:xs[b]?=some y):x<y:=by
 rw[<-eV]at hx hy;obtain⟨a1,rfl⟩:=List.getElem?_eq_some_iff.mp hx;obtain⟨b1,rfl⟩:=List.getElem?_eq_some_iff.mp hy;exact List.pairwise_iff_getElem.mp h a b a1 b1 hab
def Ris.inj(h:Ris xs){a b x:Nat}(hx:xs[a]?=some x)(hy:xs[b]?=some x):a=b:=by
 rcases lZ a b with z|z|z
 ·exact absurd (h.lt z hx hy) (fR _)
 ·exact z
 ·exact absurd (h.lt z hy hx) (fR _)
theorem Dh{xs:Array Nat}(h:Ris xs):∀(fuel lo hi:Nat),hi<=xs.size->lo<=hi->hi - lo<=fuel->(∀k x,k<lo->xs[k]?=some x->x<j)->(∀k x,hi<=k->xs[k]?=some x->j<=x)->
  below.go xs j fuel lo hi<=xs.size/\(∀k x,k<below.go xs j fuel lo hi->xs[k]?=some x->x<j)/\(∀k x,below.go xs j fuel lo hi<=k->xs[k]?=some x->j<=x)
 |0,lo,hi,h1,h2,h3,a,b=>by
  have:lo=hi:=by lia
  subst this;exact⟨h1,a,b⟩
 |fuel+1,lo,hi,h1,h2,h3,a,b=>by
  unfold below.go
  by_cases hl:lo<hi
  ·rw[dJ hl];dsimp only;have hm:(lo+hi) / 2<xs.size:=by lia
   have eg:xs[(lo+hi) / 2]?=some (xs.getD ((lo+hi) / 2) j):=by
    rw[eO hm];simp[pY,hm]
   by_cases hc:xs.getD ((lo+hi) / 2) j<j
   ·rw[dJ hc];refine Dh h fuel _ hi h1 (by lia) (by lia) (λk x hk hx=>?_) b;rcases jV k ((lo+hi) / 2)with z|z
    ·exact oA (h.lt z hx eg) hc
    ·have:k=(lo+hi) / 2:=by lia
     subst this;rw[eg]at hx;cases hx;exact hc
   ·rw[dM hc];refine Dh h fuel lo _ (by lia) (by lia) (by lia) a (λk x hk hx=>?_);rcases jV ((lo+hi) / 2) k with z|z
    ·have:=h.lt z eg hx;lia
    ·have:k=(lo+hi) / 2:=by lia
     subst this;rw[eg]at hx;cases hx;lia
  ·rw[dM hl];have:lo=hi:=by lia
   subst this;exact⟨h1,a,b⟩
def yj{xs:Array Nat}(h:Ris xs):below xs j<=xs.size/\(∀k x,k<below xs j->xs[k]?=some x->x<j)/\(∀k x,below xs j<=k->xs[k]?=some x->j<=x):=
 Dh h xs.size 0 xs.size (dR _) (by lia) (by lia) (λk x hk=>by lia) λk x hk hx=>by
  obtain⟨z,_⟩:=Array.getElem?_eq_some_iff.mp hx
  lia
def Ws(h:Ris xs)(e:xs[i]?=some j):below xs j=i:=by
 obtain⟨_,h2,h3⟩:=yj (j:=j) h;rcases lZ i (below xs j)with z|z|z
 ·exact absurd (h2 i j z e) (fR _)
 ·exact z.symm
 ·have hz:below xs j<xs.size:=by
   obtain⟨q,_⟩:=Array.getElem?_eq_some_iff.mp e
   lia
  have e2:xs[below xs j]?=some xs[below xs j]:=eO hz;have:=h3 _ _ (dR _) e2;have:=h.lt z e2 e
  lia
def Ib{t:gV}(h:Ris t.place)(e:t.place[i]?=some j):t.slot j=.live i:=by
 unfold slot;rw[Ws h e];dsimp only;rw[dJ (by rw[e];exact beq_self_eq_true _)]
def Qh{t:gV}(hd:t.dummies=#[])(e:j∉t.place.toList):t.slot j=.empty:=by
 unfold slot;dsimp only;rw[dM (λz=>e (by
  have z:t.place[below t.place j]?=some j:=by simpa using z
  rw[<-eV]at z;exact fB z)),hd]
 rfl
def Qg{t:gV}(h:Ris t.place)(hd:t.dummies=#[])(j:Nat):(∃i,t.place[i]?=some j/\t.slot j=.live i)\/(j∉t.place.toList/\t.slot j=.empty):=by
 by_cases e:j∈t.place.toList
 ·obtain⟨i,hi⟩:=iV e;rw[eV]at hi;exact .inl ⟨i,hi,Ib h hi⟩
 ·exact .inr ⟨e,Qh hd e⟩
theorem P1:∀(n:Nat)(l:List Nat),l.length<n->∃j,j<n/\j∉l
 |0,l,h=>by lia
 |n+1,l,h=>by
  by_cases e:n∈l
  ·obtain⟨j,h1,h2⟩:=P1 n (l.erase n) (by rw[List.length_erase_of_mem e];have:=List.length_pos_of_mem e;lia);exact⟨j,by lia,λz=>h2 ((List.mem_erase_of_ne (by lia)).mpr z)⟩
  ·exact⟨n,by lia,e⟩
theorem R0{t:gV}(hr:Ris t.place)(hd:t.dummies=#[]):∀(fuel:Nat)(p:Probe),p.dummy=none->(∃m,m<fuel/\(it t.mask m p).j∉t.place.toList)->
  ∃m,m<fuel/\(∀m',m'<m->∃i,t.place[i]?=some (it t.mask m' p).j/\hashAt i≠h)/\
   (((it t.mask m p).j∉t.place.toList/\probe.go t hashAt h fuel p=some (.empty (it t.mask m p).j none))\/
    ∃i,t.place[i]?=some (it t.mask m p).j/\hashAt i=h/\probe.go t hashAt h fuel p=some (.candidate (it t.mask m p).j i (it t.mask (m+1) p)))
 |0,p,_,⟨m,h1,_⟩=>by lia
 |fuel+1,p,hp,⟨m0,h1,h2⟩=>by
  rcases Qg hr hd p.j with ⟨i,e1,e2⟩|⟨e1,e2⟩
  ·by_cases hh:hashAt i=h
   ·refine⟨0,by lia,λm' z=>by lia,.inr ⟨i,e1,hh,?_⟩⟩;unfold probe.go;rw[e2];dsimp only;rw[dJ (by rw[hh];exact beq_self_eq_true _)];rfl
   ·have hm0:m0≠0:=λz=>by
     subst z;rw[<-eV]at e1;exact h2 (fB e1)
    obtain⟨k,rfl⟩:∃k,m0=k+1:=⟨m0 - 1,by lia⟩;have hp':(Ks t.mask p).dummy=none:=by unfold Ks;split<;>exact hp
    obtain⟨m,q1,q2,q3⟩:=R0 (hashAt:=hashAt) (h:=h) hr hd fuel (Ks t.mask p) hp' ⟨k,by lia,h2⟩;have eg:probe.go t hashAt h (fuel+1) p=probe.go t hashAt h fuel (Ks t.mask p):=by
     rw[probe.go,e2];dsimp only;rw[dM (by simpa using hh)];rfl
    refine⟨m+1,by lia,λm' z=>?_,?_⟩
    ·cases m' with
     |zero=>exact⟨i,e1,hh⟩
     |succ m'=>exact q2 m' (by lia)
    ·rw[eg];exact q3
  ·refine⟨0,by lia,λm' z=>by lia,.inl ⟨e1,?_⟩⟩;unfold probe.go;rw[e2];dsimp only;rw[hp];rfl
def d9(mask:Nat)(h:Int)(m:Nat):Nat:=(it mask m (Wg mask h)).j
def Sy{mask m:Nat}{h:Int}:d9 mask h m<=mask:=by
 have:=(Q2 m (C4 mask h)).j;unfold d9
 lia
structure TOk(t:gV)(hs:List Int):Prop where
 mask:Mk t.mask
 dum:t.dummies=#[]
 len:t.place.size=hs.length
 rise:Ris t.place
 le:∀j∈t.place.toList,j<=t.mask
 room:t.place.size<=t.mask
 reach:∀q∈t.place.toList.zip hs,∃m,d9 t.mask q.2 m=q.1/\∀m',m'<m->d9 t.mask q.2 m'∈t.place.toList
def TOk.fits{t:gV}{hs:List Int}(T:TOk t hs):t.place.size=hs.length/\t.fill<=t.mask:=by
 refine⟨T.len,?_⟩;unfold fill;rw[T.dum];exact T.room
def TOk.empty{t:gV}(T:TOk t hs)(p:Probe)(v:Val t.mask p):∃m,m<10 * turns t.mask/\(it t.mask m p).j∉t.place.toList:=by
 obtain⟨j,h1,h2⟩:=P1 (t.mask+1) t.place.toList (by have:=T.room;rw[eC];lia);obtain⟨m,m1,m2⟩:=RM T.mask v (j:=j) (by lia);exact⟨m,m1,by rw[m2];exact h2⟩
theorem TOk.probe{t:gV}(T:TOk t hs)(hashAt:Nat->Int)(h:Int)(m:Nat):∃m1,m<=m1/\(∀m',m<=m'->m'<m1->∃i,t.place[i]?=some (d9 t.mask h m')/\hashAt i≠h)/\
   ((d9 t.mask h m1∉t.place.toList/\t.probe hashAt h (it t.mask m (Wg t.mask h))=some (.empty (d9 t.mask h m1) none))\/
   ∃i,t.place[i]?=some (d9 t.mask h m1)/\hashAt i=h/\t.probe hashAt h (it t.mask m (Wg t.mask h))=some (.candidate (d9 t.mask h m1) i (it t.mask (m1+1) (Wg t.mask h)))):=by
 have v:=Q2 m (C4 t.mask h);obtain⟨k,k1,k2,k3⟩:=R0 (hashAt:=hashAt) (h:=h) T.rise T.dum (10 * turns t.mask) _ v.dum (T.empty _ v);have e:∀n,(it t.mask n (it t.mask m (Wg t.mask h)))=it t.mask (m+n) (Wg t.mask h):=λn=>(Jr m n _).symm;refine⟨m+k,by lia,λm' a b=>?_,?_⟩
 ·have:=k2 (m' - m) (by lia);rw[e,show m+(m' - m)=m' by lia]at this;exact this
 ·rw[e,e]at k3;exact k3
def TOk.first{t:gV}(T:TOk t hs)(h:Int):∃M,M<10 * turns t.mask/\d9 t.mask h M∉t.place.toList:=T.empty _ (C4 t.mask h)
def BM{mask:Nat}(h:Mk mask):10 * turns mask<=1420:=by
 unfold turns;rcases h with rfl|rfl|rfl<;>decide
def fx(xs:Array α)(p:Nat)(x:α):(insertAt xs p x).toList=xs.toList.take p++x::xs.toList.drop p:=by
 unfold insertAt;simp[List.extract_eq_drop_take];exact List.take_of_length_le (by simp)
def Cq{l:List α}:y∈l.take p++x::l.drop p↔y=x\/y∈l:=by
 rw[nJ,gD];constructor
 ·rintro (h|h|h)
  ·exact .inr (pB h)
  ·exact .inl h
  ·exact .inr (List.mem_of_mem_drop h)
 ·rintro (h|h)
  ·exact .inr (.inl h)
  ·rw[<-oP p l,nJ]at h;rcases h with h|h
   ·exact .inl h
   ·exact .inr (.inr h)
def IR{l:List α}{r:List β}(hl:l.length=r.length):(l.take p++x::l.drop p).zip (r.take p++y::r.drop p)=(l.zip r).take p++(x,y)::(l.zip r).drop p:=by
 rw[List.zip_append (by rw[hV,hV,hl]),pX];unfold List.zip;rw[List.take_zipWith,List.drop_zipWith]
theorem TOk.put{t:gV}(T:TOk t hs)(hn:d9 t.mask h m∉t.place.toList)(hb:∀m',m'<m->d9 t.mask h m'∈t.place.toList)(room:t.place.size+1<=t.mask):
  ∃p,p<=hs.length/\(t.put (d9 t.mask h m)).2=p/\TOk (t.put (d9 t.mask h m)).1 (hs.take p++h::hs.drop p)/\(t.put (d9 t.mask h m)).1={t with place:=insertAt t.place p (d9 t.mask h m),dummies:=#[]}:=by
 obtain⟨b1,b2,b3⟩:=yj (j:=d9 t.mask h m) T.rise;have hd:has t.dummies (d9 t.mask h m)=false:=by rw[T.dum];rfl
 have ep:(t.put (d9 t.mask h m)).1={t with place:=insertAt t.place (below t.place (d9 t.mask h m)) (d9 t.mask h m),dummies:=#[]}:=by
  unfold SetTable.put;dsimp only;rw[hd,T.dum];rfl
 refine⟨below t.place (d9 t.mask h m),by rw[<-T.len];exact b1,rfl,?_,ep⟩;rw[ep];generalize hp:below t.place (d9 t.mask h m)=p at *;have hl:t.place.toList.length=hs.length:=by rw[eC];exact T.len
 have lt:∀x∈t.place.toList.take p,x<d9 t.mask h m:=λx hx=>by
  obtain⟨i,hi⟩:=iV hx;rw[List.getElem?_take]at hi;split at hi
  ·rename_i z;rw[eV]at hi;exact b2 i x z hi
  ·cases hi
 have gt:∀x∈t.place.toList.drop p,d9 t.mask h m<x:=λx hx=>by
  obtain⟨i,hi⟩:=iV hx;rw[List.getElem?_drop,eV]at hi;have h1:=b3 _ x (lH p i) hi;have h2:x≠d9 t.mask h m:=λz=>by
   subst z;rw[<-eV]at hi;exact hn (fB hi)
  lia
 have rs:(t.place.toList.take p).Pairwise (· <·)/\(t.place.toList.drop p).Pairwise (· <·):=by
  have:=T.rise;unfold Ris at this;rw[<-oP p t.place.toList,pC]at this;exact⟨this.1,this.2.1⟩
 refine⟨T.mask,rfl,?_,?_,?_,?_,?_⟩
 ·show(insertAt t.place p _).size=_;rw[<-eC,fx];simp only[dU,hV,dI,iI,hl]
 ·show((insertAt t.place p (d9 t.mask h m)).toList).Pairwise (· <·);rw[fx,pC];refine⟨rs.1,List.pairwise_cons.mpr ⟨gt,rs.2⟩,λx hx y hy=>?_⟩;rcases List.mem_cons.mp hy with rfl|hy
  ·exact lt x hx
  ·exact oA (lt x hx) (gt y hy)
 ·show∀j∈(insertAt t.place p (d9 t.mask h m)).toList,j<=t.mask;rw[fx];intro j hj;rcases Cq.mp hj with rfl|hj
  ·exact Sy
  ·exact T.le j hj
 ·show(insertAt t.place p _).size<=t.mask;rw[<-eC,fx];simp only[dU,hV,dI,iI,eC]
  lia
 ·show∀q∈(insertAt t.place p (d9 t.mask h m)).toList.zip _,∃m',d9 t.mask q.2 m'=q.1/\∀k,k<m'->d9 t.mask q.2 k∈(insertAt t.place p (d9 t.mask h m)).toList;rw[fx,IR hl];intro q hq;rcases Cq.mp hq with rfl|hq
  ·exact⟨m,rfl,λk hk=>Cq.mpr (.inr (hb k hk))⟩
  ·obtain⟨m',h1,h2⟩:=T.reach q hq;exact⟨m',h1,λk hk=>Cq.mpr (.inr (h2 k hk))⟩
def V0(fg mv:Nat)(led:Bool):TOk (.fresh fg mv led) []:=⟨.inl rfl,rfl,rfl,qL,(λj hj=>absurd (show j∈([]:List Nat)from hj) (by simp)),fZ _,(λq hq=>absurd (show q∈([]:List (Nat×Int))from hq) (by simp))⟩
structure Own(mask:Nat)(owner:Array (Option Nat))(L:List Nat):Prop where
 size:owner.size=mask+1
 nd:L.Nodup
 le:∀j∈L,j<=mask
 at_:∀(j i:Nat),owner[j]?=some (some i)↔L[i]?=some j
theorem Own.none{mask:Nat}{owner:Array (Option Nat)}{L:List Nat}(O:Own mask owner L){j:Nat}(hj:j<=mask):(owner.getD j (some 0)).isNone=true↔j∉L:=by
 have hz:j<owner.size:=by rw[O.size];lia
 have eg:owner.getD j (some 0)=owner[j]:=by simp[pY,hz]
 rw[eg];cases e:owner[j]with
 |none=>
  refine⟨λ_ z=>?_,λ_=>rfl⟩;obtain⟨i,hi⟩:=iV z;have:=(O.at_ j i).mpr hi;rw[eO hz,e]at this;cases this
 |some i=>
  refine⟨λz=>(by cases z),λz=>absurd (fB ((O.at_ j i).mp ?_)) z⟩;rw[eO hz,e]
theorem O9{mask:Nat}:∀(k:Nat)(p:Probe),k<=p.more->(it mask k p).j=p.j+k
 |0,p,_=>rfl
 |k+1,p,h=>by
  show(it mask k (Ks mask p)).j=_;have e:Ks mask p={p with j:=p.j+1,more:=p.more - 1}:=by unfold Ks;rw[dJ (by lia)]
  rw[e,O9 k _ (by show k<=p.more - 1;lia)];show p.j+1+k=p.j+(k+1)
  lia
def O0:(∀k,(eY n).find? f=some k->k<n/\f k=true/\∀k',k'<k->f k'=false)/\((eY n).find? f=none->∀k,k<n->f k=false):=by
 refine⟨λk h=>?_,λh k hk=>?_⟩
 ·have h1:=List.mem_range.mp (List.mem_of_find?_eq_some h);have h2:=List.find?_some h;refine⟨h1,h2,λk' hk'=>?_⟩;obtain⟨_,as,bs,e1,e2⟩:=List.find?_eq_some_iff_append.mp h;have la:as.length=k:=by
   have e3:(eY n)[as.length]?=some k:=by rw[e1];simp
   rw[mT (by
    have:=congrArg kS e1;simp at this
    lia)]at e3
   exact eI e3
  have:k'∈as:=by
   have e3:(eY n)[k']?=some k':=mT (by lia);rw[e1,fY (by lia)]at e3;exact fB e3
  simpa using e2 k' this
 ·have:=List.find?_eq_none.mp h k (List.mem_range.mpr hk);simpa using this
theorem Rx{mask:Nat}{owner:Array (Option Nat)}{L:List Nat}(O:Own mask owner L):∀(fuel:Nat)(p:Probe),Val mask p->p.j=p.i->p.more=runEnd mask p.i - p.i->(∃k,k<fuel/\(Me mask k p).j∉L)->
  ∃m,layClean.free mask owner fuel p.i p.perturb=some (it mask m p).j/\(it mask m p).j∉L/\∀m',m'<m->(it mask m' p).j∈L
 |0,p,_,_,_,⟨k,h,_⟩=>by lia
 |fuel+1,p,v,ej,em,⟨k,hk,hf⟩=>by
  obtain⟨r1,r2,r3⟩:=Ay v.i;obtain⟨f1,f2⟩:=O0 (n:=runEnd mask p.i+1 - p.i) (f:=λk=>(owner.getD (p.i+k) (some 0)).isNone);unfold layClean.free;cases e:(eY (runEnd mask p.i+1 - p.i)).find? λk=>(owner.getD (p.i+k) (some 0)).isNone with
  |some q=>
   obtain⟨q1,q2,q3⟩:=f1 q e;dsimp only;have eq:∀x,x<=q->(it mask x p).j=p.i+x:=λx hx=>by rw[O9 x p (by lia),ej]
   refine⟨q,by rw[eq q (dR _)],?_,λm' hm=>?_⟩
   ·rw[eq q (dR _)];exact(O.none (by lia)).mp q2
   ·rw[eq m' (by lia)];refine kJ λz=>?_;have:=(O.none (j:=p.i+m') (by lia)).mpr z;have:=q3 m' hm
    simp_all
  |none=>
   dsimp only;have all:=f2 e;have ne:k≠0:=λz=>by
    subst z;refine hf ?_;refine kJ λz=>?_;have z':p.i+0∉L:=by rw[Nat.add_zero,<-ej];exact z
    have a:=all 0 (by lia);have b:=(O.none (j:=p.i+0) (by lia)).mpr z'
    simp_all
   obtain⟨k',rfl⟩:∃k',k=k'+1:=⟨k - 1,by lia⟩;obtain⟨m,m1,m2,m3⟩:=Rx O fuel (yx mask p) (zt v) rfl rfl ⟨k',by lia,hf⟩;have el:∀x,it mask (p.more+1+x) p=it mask x (yx mask p):=λx=>by rw[Jr,Js _ p rfl]
   refine⟨p.more+1+m,?_,?_,λm' hm=>?_⟩
   ·rw[el];exact m1
   ·rw[el];exact m2
   ·rcases jV m' (p.more+1)with z|z
    ·rw[O9 m' p (by lia),ej];refine kJ λy=>?_;have a:=all m' (by lia);have b:=(O.none (j:=p.i+m') (by lia)).mpr y
     simp_all
    ·have:=m3 (m' - (p.more+1)) (by lia);rw[<-el,show p.more+1+(m' - (p.more+1))=m' by lia]at this;exact this
def CB{mask:Nat}{owner:Array (Option Nat)}{L:List Nat}(hm:Mk mask)(O:Own mask owner L)(hl:L.length<=mask)(h:Int):
  ∃m,layClean.free mask owner (turns mask) (bits h % (mask+1)) (bits h)=some (d9 mask h m)/\d9 mask h m∉L/\∀m',m'<m->d9 mask h m'∈L:=by
 obtain⟨j,j1,j2⟩:=P1 (mask+1) L (by lia);have v:=C4 mask h;have v13:=Kn 13 v;have p0:(Me mask 13 (Wg mask h)).perturb=0:=by
  rw[Pn];exact Nat.div_eq_of_lt (eW v.pt (by decide))
 have e13:(Me mask 13 (Wg mask h)).j=(Me mask 13 (Wg mask h)).i:=by
  rw[show(13:Nat)=12+1 from rfl,y6];rfl
 obtain⟨k,k1,k2⟩:=L6 hm v13.i (show j<=mask by lia);exact Rx O (turns mask) (Wg mask h) v rfl rfl ⟨13+k,by unfold turns;lia,by rw[y6,(Pm k p0 e13).2,k2];exact j2⟩
def Own.snoc{mask:Nat}{owner:Array (Option Nat)}{L:List Nat}(O:Own mask owner L){j:Nat}(hj:j<=mask)(hn:j∉L):Own mask (owner.setIfInBounds j (some L.length)) (L++[j]):=by
 have hz:j<owner.size:=by rw[O.size];lia
 refine⟨by rw[Array.size_setIfInBounds];exact O.size,?_,?_,λx i=>?_⟩
 ·rw[List.nodup_append];exact⟨O.nd,by simp,λa ha b hb=>by rw[List.mem_singleton.mp hb];exact λz=>hn (z▸ha)⟩
 ·intro x hx;rcases List.mem_append.mp hx with hx|hx
  ·exact O.le x hx
  ·rw[List.mem_singleton.mp hx];exact hj
 ·rw[Array.getElem?_setIfInBounds]
  by_cases e:j=x
  ·subst e;rw[dJ rfl,dJ hz];constructor
   ·intro z;cases z;simp
   ·intro z;rcases lZ i L.length with y|y|y
    ·rw[fY y]at z;exact absurd (fB z) hn
    ·rw[y]
    ·rw[gE (by lia)]at z;have:=(List.getElem?_eq_some_iff.mp z).1;simp at this
     lia
  ·rw[dM e,O.at_];rcases jV i L.length with y|y
   ·rw[fY y]
   ·rw[gE y,iQ y];constructor
    ·intro z;cases z
    ·intro z;have:=List.mem_singleton.mp (fB z);exact absurd this.symm e
theorem L4{mask:Nat}(hm:Mk mask):∀(hs:List Int)(owner:Array (Option Nat))(L:List Nat)(pre:List Int),Own mask owner L->L.length=pre.length->L.length+hs.length<=mask->
  (∀q∈L.zip pre,∃m,d9 mask q.2 m=q.1/\∀m',m'<m->d9 mask q.2 m'∈L)->
  ∃owner' L',hs.foldl (init:=some (owner,L.length)) (λacc h=>do
    let (owner,k) <-acc;let j <-layClean.free mask owner (turns mask) (bits h % (mask+1)) (bits h)
    pure (owner.setIfInBounds j (some k),k+1))=some (owner',L'.length)/\Own mask owner' L'/\L'.length=(pre++hs).length/\
   ∀q∈L'.zip (pre++hs),∃m,d9 mask q.2 m=q.1/\∀m',m'<m->d9 mask q.2 m'∈L'
 |[],owner,L,pre,O,hl,_,r=>⟨owner,L,rfl,O,by rw[gZ];exact hl,by rw[gZ];exact r⟩
 |h::hs,owner,L,pre,O,hl,hr,r=>by
  rw[dI]at hr;obtain⟨m,m1,m2,m3⟩:=CB hm O (by lia) h;have O':=O.snoc Sy m2;have lL:(L++[d9 mask h m]).length=L.length+1:=by simp
  obtain⟨owner',L',h1,h2,h3,h4⟩:=L4 hm hs _ _ (pre++[h]) O' (by simp[hl]) (by rw[lL];lia) (λq hq=>by
   rw[List.zip_append hl,pX,List.zip_nil_left]at hq;rcases List.mem_append.mp hq with hq|hq
   ·obtain⟨k,k1,k2⟩:=r q hq;exact⟨k,k1,λm' z=>mE _ (k2 m' z)⟩
   ·rw[List.mem_singleton.mp hq];exact⟨m,rfl,λm' z=>mE _ (m3 m' z)⟩)
  refine⟨owner',L',?_,h2,by rw[h3];simp,by
   rw[oD]at h4;exact h4⟩
  rw[List.foldl_cons];rw[lL]at h1;rw[<-h1]
  congr 1
  show(layClean.free mask owner (turns mask) (bits h % (mask+1)) (bits h)).bind _=_;rw[m1];rfl
def ZK(mask:Nat):Own mask (Array.replicate (mask+1) none) []:=by
 refine⟨by simp,iZ,λj hj=>(by cases hj),λj i=>?_⟩;constructor
 ·intro h;rw[Array.getElem?_replicate]at h;split at h<;>cases h
 ·intro h;cases h
def U1{mask:Nat}(hm:Mk mask)(hs:Array Int)(hl:hs.size<=mask):∃owner L,layClean mask hs=some owner/\Own mask owner L/\L.length=hs.size/\
  ∀q∈L.zip hs.toList,∃m,d9 mask q.2 m=q.1/\∀m',m'<m->d9 mask q.2 m'∈L:=by
 obtain⟨owner,L,h1,h2,h3,h4⟩:=L4 hm hs.toList _ [] [] (ZK mask) rfl (by simpa using hl) (λq hq=>by cases hq);refine⟨owner,L,?_,h2,by simpa using h3,by simpa using h4⟩;unfold layClean;rw[<-Array.foldl_toList];exact congrArg (Option.map (·.1)) h1
def nc(mask:Nat)(owner:Array (Option Nat)):List (Nat×Nat):=(eY (mask+1)).filterMap λj=>(owner.getD j none).map (j,·)
def nh{mask:Nat}{owner:Array (Option Nat)}{L:List Nat}(O:Own mask owner L){q:Nat×Nat}:q∈nc mask owner↔L[q.2]?=some q.1:=by
 have e:∀j,j<mask+1->owner[j]?=some (owner.getD j none):=λj hj=>by
  have hz:j<owner.size:=by rw[O.size];exact hj
  rw[eO hz];simp[pY,hz]
 unfold nc;rw[List.mem_filterMap];constructor
 ·rintro ⟨j,hj,h⟩
  have hj:=List.mem_range.mp hj;cases eo:owner.getD j none with
  |none=>rw[eo]at h;cases h
  |some i=>
   rw[eo]at h;cases h;exact(O.at_ j i).mp (by rw[e j hj,eo])
 ·intro h;have hj:q.1<mask+1:=Nat.lt_succ_of_le (O.le _ (fB h));refine⟨q.1,List.mem_range.mpr hj,?_⟩;have:=(O.at_ q.1 q.2).mpr h;rw[e _ hj]at this;rw[eI this];rfl
def Sj(mask:Nat)(owner:Array (Option Nat)):(nc mask owner).Pairwise λa b=>a.1<b.1:=by
 unfold nc;rw[List.pairwise_filterMap];refine qR ?_ List.pairwise_lt_range;intro a b hab x hx y hy;cases ea:owner.getD a none with
 |none=>rw[ea]at hx;cases hx
 |some i=>
  cases eb:owner.getD b none with
  |none=>rw[eb]at hy;cases hy
  |some k=>
   rw[ea]at hx;rw[eb]at hy;cases hx;cases hy;exact hab
def DE{mask:Nat}(hm:Mk mask)(hs:Array Int)(hl:hs.size<=mask)(fg mv:Nat)(led plain:Bool):∃t' order,laid mask fg mv led plain hs=some (t',order)/\t'.mask=mask/\t'.led=led/\t'.plain=plain/\
  order.toList.Perm (eY hs.size)/\TOk t' (order.toList.map λi=>hs.toList.getD i 0):=by
 obtain⟨owner,L,h1,O,h3,h4⟩:=U1 hm hs hl;refine⟨_,_,by unfold laid;rw[h1];rfl,rfl,rfl,rfl,?_,?_⟩
 ·show((nc mask owner).map (·.2)).Perm _;refine(List.perm_ext_iff_of_nodup ?_ List.nodup_range).mpr λi=>?_
  ·rw[List.Nodup,lX];refine List.Pairwise.imp_of_mem ?_ (Sj mask owner);intro a b ha hb hab z;have z1:=(nh O).mp ha;have z2:=(nh O).mp hb;rw[z,z2]at z1;have:=eI z1
   lia
  ·rw[oH,List.mem_range];constructor
   ·rintro ⟨q,hq,rfl⟩
    have:=(List.getElem?_eq_some_iff.mp ((nh O).mp hq)).1
    lia
   ·intro hi;have hz:i<L.length:=by lia
    exact⟨(L[i],i),(nh O).mpr (eR hz),rfl⟩
 ·have pl:∀j,j∈(nc mask owner).map (·.1)↔j∈L:=λj=>by
   rw[oH];constructor
   ·rintro ⟨q,hq,rfl⟩;exact fB ((nh O).mp hq)
   ·intro h;obtain⟨i,hi⟩:=iV h;exact⟨(j,i),(nh O).mpr hi,rfl⟩
  have pw:((nc mask owner).map (·.1)).Pairwise (· <·):=by rw[lX];exact Sj mask owner
  have pe:((nc mask owner).map (·.1)).Perm L:=(List.perm_ext_iff_of_nodup (qR (λh=>eM h) pw) O.nd).mpr pl;have ln:(nc mask owner).length=hs.size:=by have:=pe.length_eq;rw[dD]at this;lia
  refine⟨hm,rfl,?_,pw,λj hj=>O.le j ((pl j).mp hj),?_,?_⟩
  ·show((nc mask owner).map (·.1)).toArray.size=(((nc mask owner).map (·.2)).map λi=>hs.toList.getD i 0).length;simp
  ·show((nc mask owner).map (·.1)).toArray.size<=mask;simp
   lia
  ·show∀q∈((nc mask owner).map (·.1)).zip (((nc mask owner).map (·.2)).map λi=>hs.toList.getD i 0),∃m,d9 mask q.2 m=q.1/\∀m',m'<m->d9 mask q.2 m'∈(nc mask owner).map (·.1);intro q hq;rw[eQ,List.zip_map',oH]at hq;obtain⟨x,hx,rfl⟩:=hq;have hx:=(nh O).mp hx;have hz:=(List.getElem?_eq_some_iff.mp hx).1;have hh:hs.toList[x.2]?=some (hs.toList.getD x.2 0):=by
    rw[fJ,eR (by rw[eC];lia)];rfl
   obtain⟨m,m1,m2⟩:=h4 (x.1,hs.toList.getD x.2 0) (by
    have:(L.zip hs.toList)[x.2]?=some (x.1,hs.toList.getD x.2 0):=by rw[List.getElem?_zip_eq_some];exact⟨hx,hh⟩
    exact fB this)
   exact⟨m,m1,λm' z=>(pl _).mpr (m2 m' z)⟩
structure SOk(t:gV)(hs:List Int):Prop extends TOk t hs where
 loose:t.place.size * 5<t.mask * 3
def Vx(fg mv:Nat)(led:Bool):SOk (.fresh fg mv led) []:=⟨V0 fg mv led,by show 0 * 5<7 * 3;decide⟩
def SOk.room1{t:gV}(S:SOk t hs):t.place.size+1<=t.mask:=by
 have:=S.loose;rcases S.mask with e|e|e<;>rw[e]at this⊢<;>lia
def B4{t:gV}(hd:t.dummies=#[]):t.tooFull=decide (t.place.size * 5>=t.mask * 3):=by
 unfold tooFull fill;rw[hd];rfl
def SOk.relay{t:gV}{hs:Array Int}(T:TOk t hs.toList)(loose:(t.place.size - 1) * 5<t.mask * 3)(full:t.tooFull=true)(few:hs.size<=76):
  sizeAbove (grown hs.size)<=dN/\∃t' order,t.relaid hs (grown hs.size)=some (t',order)/\t'.led=t.led/\t'.plain=t.plain/\order.toList.Perm (eY hs.size)/\SOk t' (order.toList.map λi=>hs.toList.getD i 0):=by
 rw[B4 T.dum]at full;have full:=of_decide_eq_true full;have ln:=T.len;rw[eC]at ln;have key:∀n mask',sizeAbove (grown n) - 1=mask'->n=hs.size->Mk mask'->n * 5<mask' * 3->n<=mask'->sizeAbove (grown n)<=dN->sizeAbove (grown hs.size)<=dN/\∃t' order,t.relaid hs (grown hs.size)=some (t',order)/\t'.led=t.led/\t'.plain=t.plain/\order.toList.Perm (eY hs.size)/\SOk t' (order.toList.map λi=>hs.toList.getD i 0):=by
  intro n mask' e en mk lo le sl;subst en;refine⟨sl,?_⟩;obtain⟨t',order,h1,h2,h3,h4,h5,h6⟩:=DE mk hs le t.finger (t.movedTo mask') t.led t.plain;refine⟨t',order,?_,h3,h4,h5,h6,?_⟩
  ·unfold relaid;rw[e];exact h1
  ·rw[h6.len,h2];rw[dD,h5.length_eq,lV];exact lo
 rcases T.mask with e|e|e
 ·rw[e]at full loose;exact key 5 31 (by decide) (by lia) (.inr (.inl rfl)) (by decide) (by decide) (by decide)
 ·rw[e]at full loose;exact key 19 127 (by decide) (by lia) (.inr (.inr rfl)) (by decide) (by decide) (by decide)
 ·rw[e]at full loose
  lia
end ST
end
section
namespace L2
open PySem PySem.Spec PyProof.Rows
def NX:fo->Bool
 |.inl _=>true
 |.inr _=>false
def ZJ:NK->Bool
 |.inl k=>NX k
 |.inr ks=>ks.all NX
def N8(k:bg):Bool:=k.all ZJ
section
variable{prog:eS}{w:fI}{A:fV}{E:dG->dP->Prop}{s:dP}
def R6(n:Nat)(h:(ba prog w).is k v=true):nU n v=pure (NX k):=by
 rcases cj h with ⟨i,t,rfl,rfl⟩|⟨x,t,rfl,rfl⟩
 ·rw[hashByValue_scannable n rfl];rfl
 ·rw[hashByValue_scannable n rfl];rfl
def DW{ks:List fo}(hk:lI (ba prog w) s.heap ks a)(h:Q (ks.all NX) s):dX (eJ prog w) A (nU (n+1) (.ref a)) Q E s:=by
 have hT:=hk.typeIs;obtain⟨o,items,n',ho,_,hd,hi⟩:=hk;unfold nU;refine dA (kK hT F.slot_tuple_hash.lookup ?_);show dX _ _ (pU (.ref a)>>=_) _ _ s;refine dA (fU ho hd ?_);refine dA ?_;show dX _ _ (forIn items _ _) _ _ s;rw[<-jG];refine hJ _ (λrest r s'=>r.1=none/\s'=s/\∃left,ItemsAre (ba prog w) left rest/\left.all NX=ks.all NX) _ ?_ ?_ _ _ ⟨rfl,rfl,ks,hi,rfl⟩
 ·rintro v rest r s' ⟨hr,rfl,left,hl,ea⟩
  cases hl with
  |@cons k v' ks' vs' hk ht=>
   rw[R6 n hk];refine dA (dB ?_);rw[fT]at ea;cases e:NX k with
   |true=>
    simp only[hU,Bool.false_eq_true,if_false];rw[e,Bool.true_and]at ea;exact dB ⟨rfl,rfl,ks',ht,ea⟩
   |false=>
    simp only[mD,if_true];rw[e,Bool.false_and]at ea;refine dB (dB ?_);rw[<-ea]at h;exact h
 ·rintro ⟨r1,r2⟩ s' ⟨hr,rfl,left,hl,ea⟩
  simp only at hr;subst hr;cases hl;refine dB ?_;rw[<-ea]at h;exact h
def LP(hk:c6 prog w s.heap ks a)(h:Q (N8 ks) s):dX (eJ prog w) A (nU 8 (.ref a)) Q E s:=by
 obtain⟨o,items,n',ho,hc,hd,hi⟩:=hk;have hT:s.TypeIs (.ref a) "tuple":=⟨o,ho,hc⟩;unfold nU;refine dA (kK hT F.slot_tuple_hash.lookup ?_);show dX _ _ (pU (.ref a)>>=_) _ _ s;refine dA (fU ho hd ?_);refine dA ?_;show dX _ _ (forIn items _ _) _ _ s;rw[<-jG];refine hJ _ (λrest r s'=>r.1=none/\s'=s/\∃left,NItems prog w s.heap left rest/\left.all ZJ=N8 ks) _ ?_ ?_ _ _ ⟨rfl,rfl,ks,hi,rfl⟩
 ·rintro v rest r s' ⟨hr,rfl,left,hl,ea⟩
  cases left with
  |nil=>cases (show v::rest=[]from hl)
  |cons k ks'=>
   obtain⟨v',t,e,h1,hl'⟩:=hl;cases e;refine dA ?_;have go:dX (eJ prog w) A (nU 7 v) (λb s''=>b=ZJ k/\s''=s') E s':=by
    cases k with
    |inl k=>rw[R6 _ h1];exact dB ⟨rfl,rfl⟩
    |inr ys=>obtain⟨b,rfl,q⟩:=h1;exact DW q ⟨rfl,rfl⟩
   refine fL go (λb s'' ⟨e1,e2⟩=>?_) λ_ _ q=>q;subst e2;rw[fT,<-e1]at ea;cases b with
   |true=>
    simp only[hU,Bool.false_eq_true,if_false];rw[Bool.true_and]at ea;exact dB ⟨rfl,rfl,ks',hl',ea⟩
   |false=>
    simp only[mD,if_true];rw[Bool.false_and]at ea;refine dB (dB ?_);rw[<-ea]at h;exact h
 ·rintro ⟨r1,r2⟩ s' ⟨hr,rfl,left,hl,ea⟩
  simp only at hr;subst hr;cases left with
  |cons k ks'=>obtain⟨v',t,e,_⟩:=hl;cases e
  |nil=>
   refine dB ?_;rw[<-ea]at h;exact h
def Sw(n:Nat)(h:(ba prog w).is k v=true):kW n v=pure false:=by
 rcases cj h with ⟨i,t,rfl,rfl⟩|⟨x,t,rfl,rfl⟩<;>(cases n<;>rfl)
def EI(hk:lI (ba prog w) s.heap ks a)(h:Q false s):dX (eJ prog w) A (kW (n+1) (.ref a)) Q E s:=by
 have hT:=hk.typeIs;obtain⟨o,items,n',ho,_,hd,hi⟩:=hk;unfold kW;refine dA (lO hT ?_);show dX _ _ ((if("tuple"=="tuple")=true then pure true else isSubtype (.type "tuple") (.type "tuple"))>>=_) _ _ s;rw[dJ (beq_self_eq_true _)];refine dA (dB ?_);simp only[hU,Bool.false_eq_true,if_false];refine dA (fU ho hd ?_);dsimp only;refine dA ?_;show dX _ _ (forIn items _ _) _ _ s;rw[<-jG];refine hJ _ (λrest r s'=>r.1=none/\s'=s/\∃left,ItemsAre (ba prog w) left rest) _ ?_ ?_ _ _ ⟨rfl,rfl,ks,hi⟩
 ·rintro v rest r s' ⟨hr,rfl,left,hl⟩
  cases hl with
  |@cons k v' ks' vs' hk ht=>
   rw[Sw n hk];refine dA (dB ?_);simp only[Bool.false_eq_true,if_false];exact dB ⟨rfl,rfl,ks',ht⟩
 ·rintro ⟨r1,r2⟩ s' ⟨hr,rfl,left,hl⟩
  simp only at hr;subst hr;exact dB h
def Yu(hk:c6 prog w s.heap ks a)(h:Q false s):dX (eJ prog w) A (kW 8 (.ref a)) Q E s:=by
 obtain⟨o,items,n',ho,hc,hd,hi⟩:=hk;have hT:s.TypeIs (.ref a) "tuple":=⟨o,ho,hc⟩;unfold kW;refine dA (lO hT ?_);show dX _ _ ((if("tuple"=="tuple")=true then pure true else isSubtype (.type "tuple") (.type "tuple"))>>=_) _ _ s;rw[dJ (beq_self_eq_true _)];refine dA (dB ?_);simp only[hU,Bool.false_eq_true,if_false];refine dA (fU ho hd ?_);dsimp only;refine dA ?_;show dX _ _ (forIn items _ _) _ _ s;rw[<-jG];refine hJ _ (λrest r s'=>r.1=none/\s'=s/\∃left,NItems prog w s.heap left rest) _ ?_ ?_ _ _ ⟨rfl,rfl,ks,hi⟩
 ·rintro v rest r s' ⟨hr,rfl,left,hl⟩
  cases left with
  |nil=>cases (show v::rest=[]from hl)
  |cons k ks'=>
   obtain⟨v',t,e,h1,hl'⟩:=hl;cases e;refine dA ?_;have go:dX (eJ prog w) A (kW 7 v) (λb s''=>b=false/\s''=s') E s':=by
    cases k with
    |inl k=>rw[Sw _ h1];exact dB ⟨rfl,rfl⟩
    |inr ys=>obtain⟨b,rfl,q⟩:=h1;exact EI q ⟨rfl,rfl⟩
   refine fL go (λb s'' ⟨e1,e2⟩=>?_) λ_ _ q=>q;subst e1 e2;simp only[Bool.false_eq_true,if_false];exact dB ⟨rfl,rfl,ks',hl'⟩
 ·rintro ⟨r1,r2⟩ s' ⟨hr,rfl,left,hl⟩
  simp only at hr;subst hr;exact dB h
def PK(hk:c6 prog w s.heap k b)(hy:∀y∈ys,∃c k',y=.ref c/\c6 prog w s.heap k' c)(h:Q false s):dX (eJ prog w) A (searchCouldBeSeen (.ref b) ys) Q E s:=by
 unfold searchCouldBeSeen;refine dA ?_;refine hJ _ (λrest r s'=>r.1=none/\s'=s/\∀y∈rest,∃c k',y=.ref c/\c6 prog w s.heap k' c) _ ?_ ?_ _ _ ⟨rfl,rfl,hy⟩
 ·rintro v rest r s' ⟨hr,rfl,hl⟩
  obtain⟨c,k',rfl,hc⟩:=hl v dH;have tl:∀y∈rest,∃c k',y=.ref c/\c6 prog w s'.heap k' c:=λy hy=>hl y (dF _ hy);dsimp only;show dX _ _ (if((b==c)||(false && false))=true then _ else _) _ _ _;split
  ·exact dB ⟨rfl,rfl,tl⟩
  ·refine dA (E4 hk ?_);simp only[hU,Bool.false_eq_true,if_false];refine dA (E4 hc ?_);simp only[hU,Bool.false_eq_true,if_false];refine dA (Yu hk ?_);simp only[Bool.false_eq_true,if_false];refine dA (Yu hc ?_);simp only[Bool.false_eq_true,if_false];exact dB ⟨rfl,rfl,tl⟩
 ·rintro ⟨r1,r2⟩ s' ⟨hr,rfl,hl⟩
  simp only at hr;subst hr;exact dB h
def VE(prog:eS)(w:fI)(h:Heap)(e:Int×dG)(k:bg):Prop:=e.1=(a9 prog w).hash k/\∃b,e.2=.ref b/\c6 prog w h k b
def ElsK(prog:eS)(w:fI)(h:Heap):List (Int×dG)->List bg->Prop
 |[],ks=>ks=[]
 |e::es,ks=>∃k r,ks=k::r/\VE prog w h e k/\ElsK prog w h es r
theorem ElsK.len:∀{es:List (Int×dG)}{ks:List bg},ElsK prog w h es ks->es.length=ks.length
 |[],ks,e=>by rw[show ks=[]from e];rfl
 |_::_,_,⟨k,r,e,_,t⟩=>by rw[e,dI,dI,t.len]
theorem ElsK.get:∀{es:List (Int×dG)}{ks:List bg}{i:Nat}{e:Int×dG},ElsK prog w h es ks->es[i]?=some e->∃k,ks[i]?=some k/\VE prog w h e k
 |[],_,_,_,_,q=>by simp at q
 |_::_,_,0,e,⟨k,r,e1,h1,t⟩,q=>by subst e1;simp at q;subst q;exact⟨k,rfl,h1⟩
 |_::_,_,i+1,e,⟨k,r,e1,h1,t⟩,q=>by
  subst e1;obtain⟨k',q1,q2⟩:=ElsK.get (i:=i) t (by simpa using q);exact⟨k',by simpa using q1,q2⟩
structure SetK(prog:eS)(w:fI)(h:Heap)(a:Addr)(ks:List bg)(es:Array (Int×dG))(ep:Nat)(t:gV):Prop where
 at_:h.get? a=some {cls:=.type "set",dict:=none,data:=.set es ep t}
 tab:ST.SOk t (es.toList.map (·.1))
 els:ElsK prog w h es.toList ks
 nd:ks.Nodup
theorem SetK.fits{es:Array (Int×dG)}{t:gV}(S:SetK prog w h a ks es ep t):t.fits es.size=true:=by
 obtain⟨h1,h2⟩:=S.tab.toTOk.fits;unfold qV;rw[dQ];exact⟨by rw[h1];simp,decide_eq_true h2⟩
def Zo{es:Array (Int×dG)}{f:Nat->Int}{t:gV}{h:Int}{p:SetTable.Probe}(hf:∀i,f i=(es[i]?.map (·.1)).getD 0):t.probe f h p=t.probe (λi=>(es[i]?.map (·.1)).getD 0) h p:=by
 rw[show f=λi=>(es[i]?.map (·.1)).getD 0 from funext hf]
def Yt{t:gV}(h:ST.Mk t.mask):t.gaveWay=false:=by
 unfold SetTable.gaveWay;rcases h with e|e|e<;>rw[e]<;>rfl
end
section
variable{prog:eS}{w:fI}{A:fV}{E:dG->dP->Prop}{s:dP}{a b:Addr}{ks:List bg}{es:Array (Int×dG)}{ep:Nat}{t:gV}{k:bg}
def N9(t:gV)(ks:List bg)(k:bg)(h:Int)(m:Nat):Prop:=∀m',m'<m->∃(i:Nat) (k':bg),t.place[i]?=some (ST.d9 t.mask h m')/\ks[i]?=some k'/\k'≠k
def SetK.at_slot(S:SetK prog w s.heap a ks es ep t){i j:Nat}(e:t.place[i]?=some j):∃v k',es[i]?=some v/\ks[i]?=some k'/\VE prog w s.heap v k':=by
 have hi:i<es.size:=by
  have:=(Array.getElem?_eq_some_iff.mp e).1;have l:=S.tab.len;simp at l
  lia
 have e1:es.toList[i]?=some es[i]:=by rw[eV];exact eO hi
 obtain⟨k',q1,q2⟩:=S.els.get e1;exact⟨es[i],k',by rw[<-eV];exact e1,q1,q2⟩
def Vu(hr:(a9 prog w).room A)(S:SetK prog w s.heap a ks es ep t)(hk:c6 prog w s.heap k b){Q:SetFound->dP->Prop}(h1:k∈ks->Q (.there none) s)
  (h2:∀m,ST.d9 t.mask ((a9 prog w).hash k) m∉t.place.toList->N9 t ks k ((a9 prog w).hash k) m->Q (.free (ST.d9 t.mask ((a9 prog w).hash k) m) false) s)
  (M:Nat) (hM:ST.d9 t.mask ((a9 prog w).hash k) M∉t.place.toList):∀(d fuel m:Nat)(stand:Option SetTable.Probe),M - m<d->m<=M->d<=fuel->stand.getD (t.probeStart ((a9 prog w).hash k))=ST.it t.mask m (ST.Wg t.mask ((a9 prog w).hash k))->
   N9 t ks k ((a9 prog w).hash k) m->dX (eJ prog w) A (setSearchFrom a (.ref b) ((a9 prog w).hash k) true fuel stand) Q E s:=by
 generalize hh:(a9 prog w).hash k=hsh at *;intro d;induction d with
 |zero=>
  intro fuel m stand e1
  lia
 |succ d ih=>
  intro fuel m stand e1 e2 e3 e4 ps;obtain⟨fuel,rfl⟩:∃f,fuel=f+1:=⟨fuel - 1,by lia⟩;unfold setSearchFrom;refine dA (iO S.at_ rfl S.fits ?_);dsimp only;rw[Yt S.tab.mask];simp only[Bool.false_eq_true,if_false];rw[e4,Zo (es:=es)]
  ·obtain⟨m1,q1,q2,q3⟩:=S.tab.toTOk.probe (λi=>(es[i]?.map (·.1)).getD 0) hsh m;have mem:∀{i j:Nat},t.place[i]?=some j->j∈t.place.toList:=λe=>by
    rw[<-eV]at e;exact fB e
   have le:m1<=M:=by
    rcases jV M m1 with z|z
    ·obtain⟨i,z1,_⟩:=q2 M e2 z;exact absurd (mem z1) hM
    ·exact z
   have ps1:N9 t ks k hsh m1:=λm' hm=>by
    rcases jV m' m with z|z
    ·exact ps m' z
    ·obtain⟨i,z1,z2⟩:=q2 m' z hm;obtain⟨v,k',y1,y2,y3,y4⟩:=S.at_slot z1;refine⟨i,k',z1,y2,λz3=>z2 ?_⟩;subst z3;show(es[i]?.map (·.1)).getD 0=hsh;rw[y1];show v.1=hsh;rw[y3,hh]
   rcases q3 with ⟨z1,z2⟩|⟨i,z1,z2,z3⟩
   ·rw[z2];exact dB (h2 m1 z1 ps1)
   ·rw[z3];obtain⟨v,k',y1,y2,y3,c,y4,y5⟩:=S.at_slot z1;obtain⟨vh,vv⟩:=v;dsimp only at y3 y4;subst y4;have lt:m1<M:=by
     rcases jV m1 M with z|z
     ·exact z
     ·have:m1=M:=by lia
      subst this;exact absurd (mem z1) hM
    have sl:=ST.Ib S.tab.rise z1;have sm:t.sameMemory t.moves t.mask=some true:=by unfold SetTable.sameMemory;rw[dJ (beq_self_eq_true _)]
    have ts:∀y∈(es.filter λx=>x.fst==hsh).toList.map (λx=>x.snd),∃c k',y=.ref c/\c6 prog w s.heap k' c:=λy hy=>by
     obtain⟨x,hx,rfl⟩:=List.mem_map.mp hy;have hx:x∈es:=(show x∈es/\x.fst=hsh by simpa using hx).1;obtain⟨i,hi⟩:=iV (show x∈es.toList by simpa using hx);obtain⟨k'',_,_,c',e5,e6⟩:=S.els.get hi;exact⟨c',k'',e5,e6⟩
    dsimp only;cases hl:t.led with
    |true=>
     simp only[hU,Bool.false_eq_true,if_false];rw[y1];dsimp only;refine dA (gW ((a9 prog w).eqBool hr y5 hk ?_));refine dA (iO S.at_ rfl S.fits ?_);dsimp only
     by_cases ek:k'=k
     ·subst ek;simp only[decide_true,qW,if_true];exact dB (h1 (fB y2))
     ·simp only[ek,decide_false,mI,Bool.false_eq_true,if_false];rw[sm];simp only[if_true];rw[sl];dsimp only;rw[y1];dsimp only;refine dA (wpAny_isSame_ref_self ?_);simp only[if_true];refine dA (dB ?_);dsimp only;refine ih fuel (m1+1) _ (by lia) (by lia) (by lia) rfl λm' hm=>?_;rcases jV m' m1 with z|z
      ·exact ps1 m' z
      ·have:m'=m1:=by lia
       subst this;exact⟨i,k',z1,y2,ek⟩
    |false=>
     simp only[mD,if_true];refine dA (PK hk ts ?_);simp only[Bool.false_eq_true,if_false];rw[y1];dsimp only;refine dA (gW ((a9 prog w).eqBool hr y5 hk ?_));refine dA (iO S.at_ rfl S.fits ?_);dsimp only
     by_cases ek:k'=k
     ·subst ek;simp only[decide_true,qW,if_true];exact dB (h1 (fB y2))
     ·simp only[ek,decide_false,mI,Bool.false_eq_true,if_false];rw[sm];simp only[if_true];rw[sl];dsimp only;rw[y1];dsimp only;refine dA (wpAny_isSame_ref_self ?_);simp only[if_true];refine dA (dB ?_);dsimp only;refine ih fuel (m1+1) _ (by lia) (by lia) (by lia) rfl λm' hm=>?_;rcases jV m' m1 with z|z
      ·exact ps1 m' z
      ·have:m'=m1:=by lia
       subst this;exact⟨i,k',z1,y2,ek⟩
  ·intro i;rfl
def O5(S:SetK prog w s.heap a ks es ep t){i:Nat}{k:bg}(h:ks[i]?=some k):∃j,t.place[i]?=some j/\(j,(a9 prog w).hash k)∈t.place.toList.zip (es.toList.map (·.1)):=by
 have hi:=(List.getElem?_eq_some_iff.mp h).1;have l1:=S.els.len;have l2:=S.tab.len;rw[dD]at l2;have hp:i<t.place.size:=by lia
 obtain⟨v,k',y1,y2,y3,_⟩:=S.at_slot (i:=i) (eO hp);rw[h]at y2;cases y2;refine⟨t.place[i],eO hp,?_⟩;have:(t.place.toList.zip (es.toList.map (·.1)))[i]?=some (t.place[i],(a9 prog w).hash k):=by
  rw[List.getElem?_zip_eq_some];refine⟨by rw[eV];exact eO hp,?_⟩;rw[eP,eV,y1];show some v.1=_;rw[y3]
 exact fB this
def AQ(hr:(a9 prog w).room A)(S:SetK prog w s.heap a ks es ep t)(hk:c6 prog w s.heap k b){Q:SetFound->dP->Prop}(h1:k∈ks->Q (.there none) s)
  (h2:k∉ks->∀m,ST.d9 t.mask ((a9 prog w).hash k) m∉t.place.toList->(∀m',m'<m->ST.d9 t.mask ((a9 prog w).hash k) m'∈t.place.toList)->Q (.free (ST.d9 t.mask ((a9 prog w).hash k) m) false) s):
  dX (eJ prog w) A (setSearch a (.ref b) ((a9 prog w).hash k) true) Q E s:=by
 obtain⟨M,M1,M2⟩:=S.tab.toTOk.first ((a9 prog w).hash k)
 have:=ST.BM S.tab.mask;refine Vu hr S hk h1 (λm z1 z2=>?_) M M2 100000 100000 0 none (by lia) (by lia) (by lia) rfl (λm' hm=>by lia);have mem:∀{i j:Nat},t.place[i]?=some j->j∈t.place.toList:=λe=>by
  rw[<-eV]at e;exact fB e
 refine h2 (λz=>?_) m z1 λm' hm=>?_
 ·obtain⟨i0,e0⟩:=iV z;obtain⟨j,j1,j2⟩:=O5 S e0;obtain⟨m0,r1,r2⟩:=S.tab.reach _ j2;dsimp only at r1 r2;have lt:m0<m:=by
   rcases lZ m0 m with y|y|y
   ·exact y
   ·subst y;rw[r1]at z1;exact absurd (mem j1) z1
   ·exact absurd (r2 m y) z1
  obtain⟨i,k',y1,y2,y3⟩:=z2 m0 lt;rw[r1]at y1;have:=S.tab.rise.inj y1 j1;subst this;rw[e0]at y2;cases y2;exact y3 rfl
 ·obtain⟨i,k',y1,_⟩:=z2 m' hm;exact mem y1
end
section
variable{prog:eS}{w:fI}{A:fV}{E:dG->dP->Prop}{s:dP}{a b:Addr}{ks:List bg}{es:Array (Int×dG)}{ep:Nat}{t:gV}{k:bg}
def V1{h h':Heap}{d:Addr}{o:Obj}{es ep tt}(ho:h.get? d=some o)(hd:o.data=.set es ep tt)(hs:gU d h h'){ks:List fo}{b:Addr}(q:lI (ba prog w) h ks b):lI (ba prog w) h' ks b:=by
 obtain⟨o',items,n,ho',hc,hd',hi⟩:=q;refine⟨o',items,n,(hs.2 _ ?_).trans ho',hc,hd',hi⟩
 rintro rfl
 obtain rfl:=eI (ho'.symm.trans ho);rw[hd]at hd';exact nomatch hd'
def Yr{h h':Heap}{o:Obj}{es ep tt}(ho:h.get? d=some o)(hd:o.data=.set es ep tt)(hs:gU d h h'):∀{k:NK}{v:dG},Cg prog w h k v->Cg prog w h' k v
 |.inl k,v,e=>e
 |.inr ks,v,⟨b,e,q⟩=>⟨b,e,V1 ho hd hs q⟩
theorem Hs{h h':Heap}{o:Obj}{es ep tt}(ho:h.get? d=some o)(hd:o.data=.set es ep tt)(hs:gU d h h'):∀{ks:bg}{vs:List dG},NItems prog w h ks vs->NItems prog w h' ks vs
 |[],_,e=>e
 |_::_,_,⟨v,t,e,h1,h2⟩=>⟨v,t,e,Yr ho hd hs h1,Hs ho hd hs h2⟩
def Uy{h h':Heap}{d:Addr}{o:Obj}{es ep tt}(ho:h.get? d=some o)(hd:o.data=.set es ep tt)(hs:gU d h h'){ks:bg}{b:Addr}(q:c6 prog w h ks b):c6 prog w h' ks b:=by
 obtain⟨o',items,n,ho',hc,hd',hi⟩:=q;refine⟨o',items,n,(hs.2 _ ?_).trans ho',hc,hd',Hs ho hd hs hi⟩
 rintro rfl
 obtain rfl:=eI (ho'.symm.trans ho);rw[hd]at hd';exact nomatch hd'
theorem Ah{h h':Heap}{o:Obj}{es ep tt}(ho:h.get? d=some o)(hd:o.data=.set es ep tt)(hs:gU d h h'):∀{l:List (Int×dG)}{ks:List bg},ElsK prog w h l ks->ElsK prog w h' l ks
 |[],_,e=>e
 |_::_,_,⟨k,r,e,⟨e1,b,e2,e3⟩,h2⟩=>⟨k,r,e,⟨e1,b,e2,Uy ho hd hs e3⟩,Ah ho hd hs h2⟩
theorem ElsK.app:∀{l l':List (Int×dG)}{ks ks':List bg},ElsK prog w h l ks->ElsK prog w h l' ks'->ElsK prog w h (l++l') (ks++ks')
 |[],_,ks,_,e,q=>by rw[show ks=[]from e];exact q
 |_::_,_,_,_,⟨k,r,e,h1,h2⟩,q=>by subst e;exact⟨k,r++_,rfl,h1,h2.app q⟩
theorem ElsK.take:∀{l:List (Int×dG)}{ks:List bg}(n:Nat),ElsK prog w h l ks->ElsK prog w h (l.take n) (ks.take n)
 |_,_,0,_=>by simp[ElsK]
 |[],ks,n+1,e=>by rw[show ks=[]from e];simp[ElsK]
 |_::_,_,n+1,⟨k,r,e,h1,h2⟩=>by subst e;exact⟨k,r.take n,rfl,h1,h2.take n⟩
theorem ElsK.drop:∀{l:List (Int×dG)}{ks:List bg}(n:Nat),ElsK prog w h l ks->ElsK prog w h (l.drop n) (ks.drop n)
 |_,_,0,e=>e
 |[],ks,n+1,e=>by rw[show ks=[]from e];simp[ElsK]
 |_::_,_,n+1,⟨k,r,e,h1,h2⟩=>by subst e;exact h2.drop n
theorem ElsK.pick{l:List (Int×dG)}{ks:List bg}(q:ElsK prog w h l ks):∀(order:List Nat),(∀i∈order,i<l.length)->ElsK prog w h (order.map λi=>l.getD i (0,.none)) (order.map λi=>ks.getD i [])
 |[],_=>rfl
 |i::r,hb=>by
  have hi:=hb i dH;have e:l[i]?=some l[i]:=eR hi;obtain⟨k,q1,q2⟩:=q.get e;refine⟨ks.getD i [],r.map _,rfl,?_,q.pick r λj hj=>hb j (dF _ hj)⟩;show VE prog w h (l.getD i (0,fC)) (ks.getD i []);rw[fJ,fJ,e,q1];exact q2
def Zi{l:List α}:(eY l.length).map (λi=>l.getD i d)=l:=by
 apply lY;intro i;rw[eP];rcases jV i l.length with h|h
 ·rw[mT h,eR h];simp[fJ,h]
 ·rw[iQ (by simpa using h),iQ h];rfl
def Ew{l:List α}{order:List Nat}(h:order.Perm (eY l.length)):(order.map λi=>l.getD i d).Perm l:=by
 have:=h.map λi=>l.getD i d;rw[Zi]at this;exact this
theorem Xk{l:List α}:∀{order:List Nat},(∀i∈order,i<l.length)->order.filterMap (λi=>l[i]?)=order.map λi=>l.getD i d
 |[],_=>rfl
 |i::r,h=>by
  have hi:=h i dH;rw[gI,eR hi,dC,Xk (d:=d) λj hj=>h j (dF _ hj)];simp[fJ,hi]
def GB{h0:Heap}(S:h0.get? a=some {cls:=.type "set",dict:=none,data:=.set es ep t})(hs0:s.heap=h0)(T:ST.TOk t (es.toList.map (·.1)))(el:ElsK prog w h0 es.toList ks)(nd:ks.Nodup)(loose:(t.place.size - 1) * 5<t.mask * 3)(full:t.tooFull=true)(few:es.size<=76)
  (h:∀h' ks' es' ep' t',gU a s.heap h'->SetK prog w h' a ks' es' ep' t'->ks'.Perm ks->(∀hh,ElsK prog w hh es.toList ks->ElsK prog w hh es'.toList ks')->t'.plain=t.plain->t'.led=t.led->Q () {s with heap:=h'}):dX (eJ prog w) A (setRelay a (SetTable.grown es.size)) Q E s:=by
 subst hs0;have fits:t.fits es.size=true:=by
  obtain⟨h1,h2⟩:=T.fits;unfold qV;rw[dQ];exact⟨by rw[h1];simp,decide_eq_true h2⟩
 have eh:(es.map (·.1)).toList=es.toList.map (·.1):=by simp
 have sh:(es.map (·.1)).size=es.size:=by simp
 obtain⟨r1,t',order,r2,r3,r4,r5,r6⟩:=ST.SOk.relay (t:=t) (hs:=es.map (·.1)) (by rw[eh];exact T) loose full (by rw[sh];exact few);rw[sh]at r1 r2 r5;have ob:∀i∈order.toList,i<es.toList.length:=λi hi=>by
  have:=List.mem_range.mp (r5.mem_iff.mp hi);rw[eC];exact this
 have e2:(order.filterMap (es[·]?)).toList=order.toList.map λi=>es.toList.getD i (0,.none):=by
  rw[Array.toList_filterMap];have:(λ(i:Nat)=>es[i]?)=λ(i:Nat)=>es.toList[i]?:=by funext i;rw[eV]
  rw[this];exact Xk ob
 have sz:(order.filterMap (es[·]?)).size=es.size:=by
  rw[<-eC,e2,dD,r5.length_eq,lV]
 unfold setRelay;refine dA (iO S rfl fits ?_);dsimp only;rw[dM (Nat.not_lt.mpr r1),r2];refine dA (oZ (a:=(order.filterMap (es[·]?),t')) ?_ ?_)
 ·show(if((order.filterMap (es[·]?)).size !=es.size)=true then _ else _)=_;rw[dM (by rw[sz];simp)]
 ·dsimp only;have hz:(order.filterMap (es[·]?)).size<=dN:=by rw[sz,jC];lia
  refine wpAny_storeSet_of S rfl ?_ hz;have sb:=iC s.heap a (nN (order.filterMap (es[·]?)) t');have g1:(s.heap.update a (nN (order.filterMap (es[·]?)) t')).get? a=some {cls:=.type "set",dict:=none,data:=.set (order.filterMap (es[·]?)) (ep+1) t'}:=gF (nN (order.filterMap (es[·]?)) t') S rfl;have ll:=el.len;refine h _ (order.toList.map λi=>ks.getD i []) _ _ _ sb ⟨g1,?_,?_,?_⟩ ?_ (λhh z=>by rw[e2];exact z.pick _ ob) r4 r3
  ·have:(order.filterMap (es[·]?)).toList.map (·.1)=order.toList.map λi=>(es.map (·.1)).toList.getD i 0:=by
    rw[e2,eQ];refine gJ λi hi=>?_;have:=ob i hi;rw[eh];show(es.toList.getD i (0,.none)).1=(es.toList.map (·.1)).getD i 0;rw[fJ,fJ,eP,eR this];rfl
   rw[this];exact r6
  ·rw[e2];exact Ah S rfl sb (el.pick _ ob)
  ·have p:=Ew (l:=ks) (d:=[]) (order:=order.toList) (by rw[<-ll,eC];exact r5);exact p.nodup_iff.mpr nd
  ·exact Ew (by rw[<-ll,eC];exact r5)
def y8{l:List α}:(l.take p++x::l.drop p).Perm (x::l):=by
 have:=List.perm_middle (a:=x) (l₁:=l.take p) (l₂:=l.drop p);rw[oP]at this;exact this
def IK(hr:(a9 prog w).room A)(S:SetK prog w s.heap a ks es ep t)(few:k∉ks->ks.length<76)(hk:c6 prog w s.heap k b)
  (h1:k∈ks->Q false s)
  (h2:k∉ks->∀h' ks' es' ep' t',gU a s.heap h'->SetK prog w h' a ks' es' ep' t'->ks'.Perm (k::ks)->(∀hh,ElsK prog w hh es.toList ks->c6 prog w hh k b->ElsK prog w hh es'.toList ks')->t'.plain=(t.plain && N8 k)->t'.led=t.led->Q true {s with heap:=h'}):
  dX (eJ prog w) A (setAddHashed a (.ref b) ((a9 prog w).hash k)) Q E s:=by
 unfold setAddHashed setAddHashedIn;refine gW (dA (iO S.at_ rfl S.fits ?_));dsimp only;have bs:byScan (.ref b) es=false:=rfl;rw[bs];simp only[Bool.false_eq_true,if_false];refine dA (AQ hr S hk (λz=>?_) λz m m1 m2=>?_)
 ·exact dB (h1 z)
 dsimp only;refine dA (iO S.at_ rfl S.fits ?_);dsimp only;have few:=few z;obtain⟨p,p1,p2,p3,p4⟩:=S.tab.toTOk.put m1 m2 S.tab.room1;rw[p2];generalize (t.put (ST.d9 t.mask ((a9 prog w).hash k) m)).1=t1 at p3 p4;have q1:t1.plain=t.plain:=by rw[p4]
 have q2:t1.led=t.led:=by rw[p4]
 have q3:t1.mask=t.mask:=by rw[p4]
 have l1:=S.els.len;have l2:=S.tab.len;rw[dD]at l2;have il:(mB es p ((a9 prog w).hash k,eZ b)).toList=es.toList.take p++((a9 prog w).hash k,eZ b)::es.toList.drop p:=ST.fx _ _ _;have sz:(mB es p ((a9 prog w).hash k,eZ b)).size=es.size+1:=by
  rw[<-eC,il,y8.length_eq,dI,eC]
 have hz:(mB es p ((a9 prog w).hash k,eZ b)).size<=dN:=by rw[sz,jC];rw[eC]at l1;lia
 have hh:(mB es p ((a9 prog w).hash k,eZ b)).toList.map (·.1)=(es.toList.map (·.1)).take p++(a9 prog w).hash k::(es.toList.map (·.1)).drop p:=by
  rw[il,fQ,dC,qX,List.map_drop]
 rw[<-hh]at p3;generalize mB es p ((a9 prog w).hash k,eZ b)=es1 at il sz hz hh p3;have fl:∀(F:Bool->Sem Bool),(∀bv,(t1.plain && bv)=(t.plain && N8 k)->dX (eJ prog w) A (F bv) Q E s)->dX (eJ prog w) A (if t1.plain=true then nU 8 (.ref b)>>=F else(pure true:Sem Bool)>>=F) Q E s:=λF hR=>by
  split
  ·rename_i c;exact dA (LP hk (hR _ (by rw[q1])))
  ·rename_i c;have c:t1.plain=false:=by simpa using c
   refine dA (dB (hR true ?_));rw[q1]at c;rw[q1,c];rfl
 refine fl _ λbv ebv=>?_;have⟨t2,et2,r1,r2,r3,r4⟩:∃t2,(if bv=true then t1 else{t1 with plain:=false})=t2/\ST.TOk t2 (es1.toList.map (·.1))/\t2.plain=(t.plain && N8 k)/\t2.led=t.led/\t2.mask=t.mask:=by
  cases bv with
  |true=>exact⟨t1,dJ rfl,p3,by rw[<-ebv,Bool.and_true],q2,q3⟩
  |false=>exact⟨{t1 with plain:=false},dM (by decide),⟨p3.mask,p3.dum,p3.len,p3.rise,p3.le,p3.room,p3.reach⟩,by rw[<-ebv,mI],q2,q3⟩
 rw[et2];refine dA (wpAny_storeSet_of S.at_ rfl ?_ hz);have g1:(s.heap.update a (nN es1 t2)).get? a=some {cls:=.type "set",dict:=none,data:=.set es1 (ep+1) t2}:=gF (nN es1 t2) S.at_ rfl;have sb:=iC s.heap a (nN es1 t2);have el1:ElsK prog w (s.heap.update a (nN es1 t2)) es1.toList (ks.take p++k::ks.drop p):=by
  rw[il];refine Ah S.at_ rfl sb ((S.els.take p).app ⟨k,_,rfl,⟨rfl,b,rfl,hk⟩,S.els.drop p⟩)
 have el2:∀hh,ElsK prog w hh es.toList ks->c6 prog w hh k b->ElsK prog w hh es1.toList (ks.take p++k::ks.drop p):=λhh z1 z2=>by
  rw[il];exact(z1.take p).app ⟨k,_,rfl,⟨rfl,b,rfl,z2⟩,z1.drop p⟩
 have nd1:(ks.take p++k::ks.drop p).Nodup:=y8.nodup_iff.mpr (List.nodup_cons.mpr ⟨z,S.nd⟩);have ps:t2.place.size=t.place.size+1:=by
  have:=r1.len;rw[dD,eC]at this;rw[eC]at l2
  lia
 have lo:=S.tab.loose
 by_cases full:t2.tooFull=true
 ·rw[full];simp only[mD,qW,if_true];rw[<-sz];refine dA (GB (h0:=s.heap.update a (nN es1 t2)) g1 rfl r1 el1 nd1 (by rw[ps,r4];exact lo) full (by rw[sz];rw[eC]at l1;lia) λh' ks' es' ep' t' sb' S' pp ee e1 e2=>?_);refine dB (h2 z h' ks' es' ep' t' (sb.trans sb') S' (pp.trans y8) (λhh z1 z2=>ee hh (el2 hh z1 z2)) (e1.trans r2) (e2.trans r3))
 ·have full':t2.tooFull=false:=by simpa using full
  rw[full'];simp only[mD,mI,Bool.false_eq_true,if_false];have lo2:t2.place.size * 5<t2.mask * 3:=by
   rw[ST.B4 r1.dum]at full';have:=of_decide_eq_false full'
   lia
  exact dB (h2 z _ _ _ _ _ sb ⟨g1,⟨r1,lo2⟩,el1,nd1⟩ y8 el2 r2 r3)
end
def D5(T:List bg)(k:bg):Bool:=T.any λx=>decide (x=k)
def yt:D5 T k=true↔k∈T:=by
 unfold D5;rw[List.any_eq_true];constructor
 ·rintro ⟨x,hx,e⟩;rw[<-of_decide_eq_true e];exact hx
 ·intro h;exact⟨k,h,decide_eq_true rfl⟩
def ui(T:List bg)(k:bg):List bg:=if D5 T k then T else T++[k]
def ko(kz:List bg):List bg:=kz.foldl ui []
def DT(T:List bg)(k:bg):T.length<=(ui T k).length:=by
 unfold ui;split
 ·exact dR _
 ·simp
theorem Rw:∀(kz:List bg)(T:List bg),T.length<=(kz.foldl ui T).length
 |[],T=>dR _
 |k::r,T=>fF (DT T k) (Rw r _)
section
variable{prog:eS}{w:fI}
def BQ{h h':Heap}(m:∀c o,h.get? c=some o->h'.get? c=some o)(q:lI (ba prog w) h ks b):lI (ba prog w) h' ks b:=by
 obtain⟨o',items,n,ho',hc,hd',hi⟩:=q;exact⟨o',items,n,m _ _ ho',hc,hd',hi⟩
def EL{h h':Heap}(m:∀c o,h.get? c=some o->h'.get? c=some o):∀{k:NK}{v:dG},Cg prog w h k v->Cg prog w h' k v
 |.inl k,v,e=>e
 |.inr ks,v,⟨b,e,q⟩=>⟨b,e,BQ m q⟩
theorem Mo{h h':Heap}(m:∀c o,h.get? c=some o->h'.get? c=some o):∀{ks:bg}{vs:List dG},NItems prog w h ks vs->NItems prog w h' ks vs
 |[],_,e=>e
 |_::_,_,⟨v,t,e,h1,h2⟩=>⟨v,t,e,EL m h1,Mo m h2⟩
def yw{h h':Heap}(m:∀c o,h.get? c=some o->h'.get? c=some o)(q:c6 prog w h ks b):c6 prog w h' ks b:=by
 obtain⟨o',items,n,ho',hc,hd',hi⟩:=q;exact⟨o',items,n,m _ _ ho',hc,hd',Mo m hi⟩
def Tx(prog:eS)(w:fI)(h0 h:Heap)(a:Addr)(T:List bg):Prop:=∃ks es ep t,h.get? a=some {cls:=.type "set",dict:=none,data:=.set es ep t}/\ST.SOk t (es.toList.map (·.1))/\ElsK prog w h0 es.toList ks/\ks.Nodup/\ks.Perm T/\t.led=Pu.L7 w/\t.plain=T.all N8
theorem Lk{h h':Heap}(m:∀c o,h.get? c=some o->h'.get? c=some o):∀{l:List (Int×dG)}{ks:List bg},ElsK prog w h l ks->ElsK prog w h' l ks
 |[],_,e=>e
 |_::_,_,⟨k,r,e,⟨e1,b,e2,e3⟩,h2⟩=>⟨k,r,e,⟨e1,b,e2,yw m e3⟩,Lk m h2⟩
end
section
variable{prog:eS}{w:fI}{A:fV}{R:Result->dP->Prop}{I:Addr}{fp wr:List Addr}{P:Nat->dG->Prop}{St:Nat->Heap->Prop}{kz:List bg}{h0:Heap}
def V5(W:Walks prog w A.in1 I fp wr kz.length P St)(hu:(a9 prog w).room A.in1)(a:Addr)(ha:a∉fp)(hb:∀c o,h0.get? c=some o->c≠a/\c∉wr)(hP:∀i v,P i v->∃k b,kz[i]?=some k/\v=.ref b/\c6 prog w h0 k b):
  ∀(rest:List bg)(i:Nat)(s:dP)(T:List bg),kz.drop i=rest->i<=kz.length->St i s.heap->(∀c o,h0.get? c=some o->s.heap.get? c=some o)->Tx prog w h0 s.heap a T->(rest.foldl ui T).length<=76->
   (∀h' tk,(∀b o,b≠a->b∉wr->s.heap.get? b=some o->h'.get? b=some o)->Tx prog w h0 h' a (rest.foldl ui T)->R (.ok (.ret .none)) {s with heap:=h',toks:=tk})->
   lM (eJ prog w) A (.builtin "set.update.loop" ⟨[.ref a,.ref I],[]⟩) R s:=by
 have haw:a∉wr:=λz=>ha (W.sub _ z);intro rest;induction rest with
 |nil=>
  intro i s T hd hi st h0s hT hl hR;have hin:i=kz.length:=by
   have:=congrArg kS hd;rw[iI,jD]at this
   lia
  subst hin;refine jE mV ?_;rw[iG iM _];show dX _ A.in1 (kZ (.ref I)>>=_) _ _ s;refine dA (W.done s _ _ st λh' tk hk=>?_);show dX _ A.in1 (ret fC) _ _ _;obtain⟨ks,es,ep,t,g,q⟩:=hT;exact dB (hR h' tk (λb o _ hb e=>hk b o hb e) ⟨ks,es,ep,t,hk a _ haw g,q⟩)
 |cons n rest ih=>
  intro i s T hd hi st h0s hT hl hR;have hlt:i<kz.length:=by
   have:=congrArg kS hd;rw[iI,dI]at this
   lia
  have hni:kz[i]?=some n:=by
   have:(kz.drop i)[0]?=some n:=by rw[hd];rfl
   simpa using this
  have hd':kz.drop (i+1)=rest:=by
   have:(kz.drop i).drop 1=rest:=by rw[hd];rfl
   rw[List.drop_drop]at this;exact this
  refine jE mV ?_;rw[iG iM _];show dX _ A.in1 (kZ (.ref I)>>=_) _ _ s;refine dA (W.item i s _ _ hlt st λv h1 tk1 hv st1 hk1=>?_);obtain⟨k,b,e1,rfl,hk⟩:=hP i v hv;rw[hni]at e1;cases e1;have h0s1:∀c o,h0.get? c=some o->h1.get? c=some o:=λc o e=>hk1 c o (hb c o e).2 (h0s c o e);obtain⟨ks,es,ep,t,g,so,el,nd,pm,le,pl⟩:=hT;have S1:SetK prog w h1 a ks es ep t:=⟨hk1 a _ haw g,so,Lk h0s1 el,nd⟩;show dX _ A.in1 (sG [eZ b] (setAdd a (.ref b))>>=_) _ _ _;refine dA (gW ?_);unfold setAdd;refine gW (dA ((a9 prog w).pyHash (k:=n) hu (yw h0s1 hk) ?_));have fl:=Rw rest (ui T n);have fle:(rest.foldl ui (ui T n)).length<=76:=hl
  by_cases hn:n∈ks
  ·have eT:ui T n=T:=by unfold ui;rw[dJ (yt.mpr (pm.mem_iff.mp hn))]
   refine IK (s:={s with heap:=h1,toks:=tk1+(a9 prog w).draws n}) hu S1 (λz=>absurd hn z) (yw h0s1 hk) (λ_=>?_) λz=>absurd hn z;refine dB ⟨jZ iM _,ih (i+1) _ (ui T n) hd' hlt st1 h0s1 (by rw[eT];exact⟨ks,es,ep,t,S1.at_,so,el,nd,pm,le,pl⟩) hl λh' tk hk' hT'=>?_⟩;exact hR h' tk (λc o hc hw e=>hk' c o hc hw (hk1 c o hw e)) hT'
  ·have hnT:n∉T:=λz=>hn (pm.mem_iff.mpr z);have eT:ui T n=T++[n]:=by unfold ui;rw[dM (λz=>hnT (yt.mp z))]
   rw[eT]at fl fle;have few:ks.length<76:=by
    rw[pm.length_eq];simp at fl
    lia
   refine IK (s:={s with heap:=h1,toks:=tk1+(a9 prog w).draws n}) hu S1 (λ_=>few) (yw h0s1 hk) (λz=>absurd z hn) λ_ h2 ks' es' ep' t' sb S2 pp ee ep1 ep2=>?_;refine dB ⟨jZ iM _,ih (i+1) _ (ui T n) hd' hlt (W.frame _ _ _ st1 λc hc o e=>?_) (λc o e=>?_) ⟨ks',es',ep',t',S2.at_,S2.tab,ee h0 el hk,S2.nd,?_,ep2.trans le,?_⟩ hl λh' tk hk' hT'=>?_⟩
   ·rw[sb.2 c (λz:c=a=>ha (z▸hc))];exact e
   ·show h2.get? c=some o;rw[sb.2 c (hb c o e).1];exact h0s1 c o e
   ·rw[eT];exact(pp.trans (pm.cons n)).trans (List.perm_append_singleton n T).symm
   ·rw[ep1,pl,eT,List.all_append];simp
   ·refine hR h' tk (λc o hc hw e=>hk' c o hc hw ?_) hT';show h2.get? c=some o;rw[sb.2 c hc];exact hk1 c o hw e
end
end L2
end
section
namespace Pu
open PySem PySem.Spec PyProof.Rows L2
def KeysIn(prog:eS)(w:fI)(h:Heap):List dG->List bg->Prop
 |[],kz=>kz=[]
 |v::vs,kz=>∃k r b,kz=k::r/\v=.ref b/\c6 prog w h k b/\KeysIn prog w h vs r
theorem KeysIn.len:∀{vs:List dG}{kz:List bg},KeysIn prog w h vs kz->vs.length=kz.length
 |[],kz,e=>by rw[show kz=[]from e];rfl
 |_::_,_,⟨k,r,b,e,_,_,t⟩=>by rw[e,dI,dI,t.len]
theorem KeysIn.get:∀{vs:List dG}{kz:List bg}{i:Nat}{v:dG},KeysIn prog w h vs kz->vs[i]?=some v->∃k b,kz[i]?=some k/\v=.ref b/\c6 prog w h k b
 |[],_,_,_,_,q=>by simp at q
 |_::_,_,0,v,⟨k,r,b,e1,e2,h1,t⟩,q=>by subst e1;simp at q;subst q;exact⟨k,b,rfl,e2,h1⟩
 |_::_,_,i+1,v,⟨k,r,b,e1,e2,h1,t⟩,q=>by
  subst e1;obtain⟨k',b',q1,q2⟩:=KeysIn.get (i:=i) t (by simpa using q);exact⟨k',b',by simpa using q1,q2⟩
section
variable{prog:eS}{w:fI}{A:fV}{E:dG->dP->Prop}{s:dP}
def T7{h0:Heap}{items:Array dG}(hu:A.units+12<gQ)(hh:A.handled=none)(hl:s.heap.IsList l items)(hi:KeysIn prog w h0 items.toList kz)(hm:∀c o,h0.get? c=some o->s.heap.get? c=some o)(hs:(ko kz).length<=76)
  (h:∀(h':Heap)(tk:Nat),Tx prog w h0 h' s.heap.objs.size (ko kz)->(∀c o,c<s.heap.objs.size->s.heap.get? c=some o->h'.get? c=some o)->Q (.ref s.heap.objs.size) {s with heap:=h',toks:=tk}):
  dX (eJ prog w) A (call (.type "set") [.ref l]) Q E s:=by
 obtain⟨c0,tl0,hmro⟩:=PySem.F.called_set.mro;have hmade:=PySem.F.called_set.made;have hsub:=PySem.F.called_set.sub;refine wpAny_call (codeAny_of_tree ?_);show dX _ _ (callAny (.type "set") _) _ _ _;refine dB ⟨Code.quiet_builtin _ (by decide+kernel),jE PySem.F.entry_type_call ?_⟩;rw[Around.under_plain (weight_type_call_type "set" [.ref l] []) rfl];have hnt:=PySem.F.called_set.notType;have hcc:=PySem.F.called_set.canCreate;have hct:=PySem.F.typeCall_set_1 (.ref l)
 repeat (any_goals (first|assumption|wp_step))
 refine nX (EM (.ref l) (E:=E) (Q:=λobj s₁=>obj=.ref s.heap.objs.size/\s₁={s with heap:=s.heap.push {cls:=.type "set",dict:=none,data:=.set #[] 0 (.fresh 0 0 (L7 w))}}) ⟨rfl,rfl⟩) λr s₁ hr=>?_;cases r with
 |error e=>exact hr
 |ok fl=>
  cases fl with
  |ret obj=>
   obtain⟨rfl,rfl⟩:=hr;generalize hh1:s.heap.push {cls:=.type "set",dict:=none,data:=.set #[] 0 (.fresh 0 0 (L7 w))}=h1;have hz1:h1.objs.size=s.heap.objs.size+1:=by rw[<-hh1,iR]
   have k1:∀c o,s.heap.get? c=some o->h1.get? c=some o:=λc o e=>by rw[<-hh1];exact dE _ e
   have hS:h1.get? s.heap.objs.size=some {cls:=.type "set",dict:=none,data:=.set #[] 0 (.fresh 0 0 (L7 w))}:=by rw[<-hh1];exact eD _ rfl
   have hT:Shared.TypeIs {s with heap:=h1} (.ref s.heap.objs.size) "set":=⟨_,hS,rfl⟩;have hli:=PySem.F.called_set.init.lookup;have hbi:=PySem.F.called_set.init.bind (.ref s.heap.objs.size)
   repeat (any_goals (first|assumption|wp_step))
   refine nX (codeAny_call_builtin (R:=wants (λr s₂=>r=.none/\∃h' tk,s₂={s with heap:=h',toks:=tk}/\Tx prog w h0 h' s.heap.objs.size (ko kz)/\(∀c o,c<s.heap.objs.size->s.heap.get? c=some o->h'.get? c=some o)) E)
    PySem.F.called_set.init.plain PySem.F.entry_set_init (check_set_init_1 hT ?_)) λr₂ s₂ hr₂=>?_
   ·have hlt:l<s.heap.objs.size:=by
     obtain⟨o,e,_⟩:=hl;exact dY e
    have hh3:A.in1.in1.in1.handled=none:=by simp[hh]
    have hneI:l≠h1.objs.size:=by rw[hz1];exact eM (oG hlt)
    have hSf:s.heap.objs.size∉[h1.objs.size,l]:=by
     rw[hz1];simp only[gD,mP,or_false,not_or];exact⟨eM (rF _),jS hlt⟩
    have len:items.size=kz.length:=by rw[<-eC];exact hi.len
    have fin:∀{h2:Heap}{oI:Obj},h2=h1.push oI->∀(h':Heap)(tk:Nat),(∀c o,c≠s.heap.objs.size->c∉[h1.objs.size]->h2.get? c=some o->h'.get? c=some o)->∀c o,c<s.heap.objs.size->s.heap.get? c=some o->h'.get? c=some o:=λ{h2 oI} e2 h' tk hk c o hc e=>by
     refine hk c o (eM hc) (by rw[hz1];simp;lia) ?_;rw[e2];exact dE _ (k1 c o e)
    obtain⟨ol,hol,hcl,nl,hdl⟩:=hl;obtain⟨ocls,odict,odata,oslots⟩:=ol;simp only at hcl hdl;subst hcl;subst hdl;have hol':=k1 _ _ hol;have q1:=PySem.F.sub_list_set;have q2:=PySem.F.sub_list_frozenset;have q3:(rJ "list"==rJ "dict")=false:=by decide
    have hl1:h1.IsList l items:=⟨_,hol',rfl,nl,rfl⟩;unfold Builtin.«set.__init__» noKeywords Builtin.Frozenset.updateFrom;generalize hPI:pyIter=PI
    wp_walk
    subst hPI;refine lW hl1 (dA (wpAny_runValue ?_));have W:=Walks.list (prog:=prog) (w:=w) hh3 h1.objs.size l hneI items;rw[len]at W;refine V5 (h0:=h0) W (show A.units+1+1+1+4<gQ by lia) s.heap.objs.size hSf (λc o e=>⟨eM (dY (hm c o e)),λz=>eM (oG (dY (hm c o e))) ((List.mem_singleton.mp z).trans hz1)⟩) (λi v hv=>hi.get (by rw[eV];exact hv)) kz 0 _ [] rfl (fZ _) ⟨⟨_,eD _ rfl,rfl,rfl⟩,hl1.push _⟩ (λc o e=>dE _ (k1 c o (hm c o e))) ⟨[],#[],0,_,dE _ hS,ST.Vx _ _ _,rfl,iZ,mK _,rfl,rfl⟩ hs λh' tk hk hS'=>?_;refine dB ?_;show dX _ _ (ret fC) _ _ _;exact dB ⟨rfl,h',tk,rfl,hS',fin rfl h' tk hk⟩
   ·cases r₂ with
    |error e=>exact hr₂
    |ok fl₂=>
     cases fl₂ with
     |ret r=>
      obtain⟨rfl,h',tk,rfl,hS',hk'⟩:=hr₂
      repeat (any_goals (first|assumption|wp_step))
      exact h _ _ hS' hk'
     |_=>exact hr₂.elim
  |_=>exact hr.elim
end
def Tz(h:Heap)(a:Addr)(es:Array (Int×dG))(ep:Nat)(t:gV):Prop:=h.get? a=some {cls:=.type "set",dict:=none,data:=.set es ep t}
structure NotDr(w:fI)(es:Array (Int×dG))(t:gV):Prop where
 fits:t.fits es.size=true
 rise:ST.Ris t.place
 led:t.led=L7 w
 pl:w.params.followText "set-order"=true\/(!t.plain && decide (es.size>1))=false
theorem NotDr.size{es:Array (Int×dG)}{t:gV}(N:NotDr w es t):t.place.size=es.size:=by
 have:=N.fits;unfold qV at this;rw[dQ]at this;simpa using this.1
def NotDr.walk{es:Array (Int×dG)}{t:gV}(N:NotDr w es t):qB t.place 0=0/\∀i,i<es.size->qB t.place (t.place.getD i 0+1)=i+1:=by
 have at_:∀i,i<t.place.size->t.place[i]?=some (t.place.getD i 0):=λi hi=>by
  rw[eO hi];simp[pY,hi]
 refine⟨?_,λi hi=>?_⟩
 ·obtain⟨b1,b2,b3⟩:=ST.yj (j:=0) N.rise;refine kJ λz=>?_;have:=b2 0 _ (by lia) (at_ 0 (by lia))
  lia
 ·rw[<-N.size]at hi;obtain⟨b1,b2,b3⟩:=ST.yj (j:=t.place.getD i 0+1) N.rise;rcases lZ (qB t.place (t.place.getD i 0+1)) (i+1)with z|z|z
  ·have:=b3 i _ (by lia) (at_ i hi);lia
  ·exact z
  ·have h1:=b2 (i+1) _ z (at_ (i+1) (by lia));have h2:=N.rise.lt (rF i) (at_ i hi) (at_ (i+1) (by lia))
   lia
noncomputable def lh(w:fI)(t:gV)(i:Nat):Nat:=if w.params.followText "set-order" then 0 else if i=0 then 0 else t.place.getD (i - 1) 0+1
section
variable{prog:eS}{w:fI}{A:fV}{E:dG->dP->Prop}{s:dP}{a I:Addr}{es:Array (Int×dG)}{ep i:Nat}{t:gV}
def S8(N:NotDr w es t)(ho:Tz s.heap a es ep t)(hi:i<=es.size)
  (h:Q (((pb w a ep es)[i]?).map λe=>(e.2,lh w t (i+1))) s):dX (eJ prog w) A (setNext a (lh w t i) i ep) Q E s:=by
 have hf:t.fits es.size=true:=N.fits;unfold setNext;refine dA (iO ho rfl hf ?_);dsimp only;unfold setsByText;refine dA (dA (mQ (dB ?_)));have hb0:(eJ prog w).w.params.followText "set-order"=w.params.followText "set-order":=rfl;cases bt:w.params.followText "set-order" with
 |true=>
  have e0:pb w a ep es=pickOrder (w.params.setOrder a ep) es:=by unfold pb;rw[dJ bt]
  have e1:∀i,lh w t i=0:=λi=>by unfold lh;rw[dJ bt]
  rw[e0,e1]at h;rw[e1];have e2:(⟨(eJ prog w).prog,(eJ prog w).w.params⟩:Setting).params.followText "set-order"=true:=bt;rw[e2];simp only[if_true,bne_self_eq_false,Bool.false_eq_true,if_false];refine dA ?_;unfold setWalk;refine dA (iO ho rfl hf ?_);dsimp only;unfold setsByText;refine dA (dA (mQ (dB ?_)));rw[e2];simp only[if_true];refine dA (mQ (dB ?_));exact dB h
 |false=>
  have e0:pb w a ep es=es:=by unfold pb;rw[dM (by rw[bt];decide)]
  have e1:∀i,lh w t i=if i=0 then 0 else t.place.getD (i - 1) 0+1:=λi=>by unfold lh;rw[dM (by rw[bt];decide)]
  have e2:(⟨(eJ prog w).prog,(eJ prog w).w.params⟩:Setting).params.followText "set-order"=false:=bt;have e3:L7 w=true:=by unfold L7;rw[bt];rfl
  have bl:qB t.place (lh w t i)=i:=by
   obtain⟨b1,b2⟩:=N.walk;rw[e1]
   by_cases z:i=0
   ·rw[dJ z,z];exact b1
   ·rw[dM z,b2 (i - 1) (by lia)];lia
  rw[e0]at h;rw[e2];simp only[Bool.false_eq_true,if_false];refine pK (λz=>?_) λ_=>?_
  ·have z':(!t.plain && decide (es.size>1))=true:=z;rcases N.pl with y|y
   ·rw[bt]at y;cases y
   ·rw[y]at z';cases z'
  ·refine dA ?_;have e4:(!t.led && !es.isEmpty)=false:=by
    have:t.led=true:=N.led.trans e3;rw[this];rfl
   wp_delta
   rw[e4];simp only[Bool.false_eq_true,if_false];refine dB (dB ?_);rw[bl];cases hc:es[i]? with
   |none=>
    rw[hc]at h;exact h
   |some e=>
    rw[hc]at h;have hlt:i<t.place.size:=by
     have:=(Array.getElem?_eq_some_iff.mp hc).1;have:=N.size
     lia
    rw[eO hlt];have:lh w t (i+1)=t.place[i]+1:=by
     rw[e1,dM (by lia)];simp[pY,hlt]
    rw[this]at h;exact h
def FJ(N:NotDr w es t)(ho:Tz s.heap a es ep t)(hit:SetIt s.heap I a (lh w t i) i es.size ep)(he:(pb w a ep es)[i]?=some e)
  (hQ:∀h',SetIt h' I a (lh w t (i+1)) (i+1) es.size ep->gU I s.heap h'->Q (some e.2) {s with heap:=h'}):dX (eJ prog w) A (kZ (.ref I)) Q E s:=by
 have hf:t.fits es.size=true:=N.fits;have hi:i<=es.size:=by
  have h1:=(Array.getElem?_eq_some_iff.mp he).1;have h2:=(og w a ep es).length_eq;rw[eC,eC]at h2
  lia
 unfold kZ;refine dA (nD (fW (name:=iJ "__next__") hit.ty q8 (fP q8 hit.ty Fe ?_ (Fd _))));unfold Builtin.«set_iterator.__next__»;refine dA (dB ?_);refine dA (pZ hit rfl ?_);dsimp only[iD];refine dA (pN ho rfl hf ?_);rw[dM (by simp)];refine dA (S8 (prog:=prog) N ho hi ?_);rw[show((ep:Int).toNat)=ep from iN ep,he];dsimp only[Option.map];have hit0:s.heap.get? I=some {cls:=.type "set_iterator",data:=.fields #[iD (lh w t i:Nat),iD (i:Nat),.ref a,iD (es.size:Nat),iD (ep:Nat)]}:=hit;refine dA (jA hit0 rfl (by simp) ?_);have g1:=gF (jK (·.setIfInBounds 0 (mO ((lh w t (i+1):Nat):Int) 0))) hit0 rfl;refine dA (jA g1 rfl (by simp[jK]) ?_);have g2:=gF (jK (·.setIfInBounds 1 (mO ((i:Int)+1) 0))) g1 rfl;refine dB ⟨e.2,rfl,dB (hQ _ ?_ ((iC ..).trans (iC ..)))⟩;unfold SetIt;rw[g2];rfl
def NW(hh:A.handled=none)(N:NotDr w es t)(ho:Tz s.heap a es ep t)(hit:SetIt s.heap I a (lh w t es.size) es.size es.size ep)
  (hQ:∀h',Heap.ExtBut I s.heap h'->Q none {s with heap:=h'}):dX (eJ prog w) A (kZ (.ref I)) Q E s:=by
 have hf:t.fits es.size=true:=N.fits;have he:(pb w a ep es)[es.size]?=none:=by
  have h2:=(og w a ep es).length_eq;rw[eC,eC]at h2;rw[<-h2];simp
 unfold kZ;refine dA (nD (fW (name:=iJ "__next__") hit.ty q8 (fP q8 hit.ty Fe ?_ (Fd _))));unfold Builtin.«set_iterator.__next__»;refine dA (dB ?_);refine dA (pZ hit rfl ?_);dsimp only[iD];refine dA (pN ho rfl hf ?_);rw[dM (by simp)];refine dA (S8 (prog:=prog) N ho (dR _) ?_);rw[show((ep:Int).toNat)=ep from iN ep,he];dsimp only[Option.map];have hit0:s.heap.get? I=some {cls:=.type "set_iterator",data:=.fields #[iD (lh w t es.size:Nat),iD (es.size:Nat),.ref a,iD (es.size:Nat),iD (ep:Nat)]}:=hit;refine dA (jA hit0 rfl (by simp) ?_);show dX _ _ (newExc (.type "StopIteration") []>>=raiseNew) _ _ _;refine dA ?_;simp only[newExc,newTuple];refine dA (fO ?_ (by size_fits));refine dA (m:=mL _ _) (oZ (a:=fC) (by first|rfl|(simp only[mL];rfl)) ?_);refine fO ?_ (by size_fits);simp only[raiseNew];refine dA (wpAny_handled ?_);rw[show A.in1.handled=none from hh];refine dA (dB (wpAny_throw ?_));refine dA (kA (T:="StopIteration") (b:=true) ⟨_,eD _ rfl,rfl⟩ isSubtype_stop ?_);exact dB (hQ _ (((iC ..).extBut.push _).push _))
def FI(N:NotDr w es t)(ho:Tz s.heap a es ep t)
  (hQ:Q (.ref s.heap.objs.size) {s with heap:=s.heap.push {cls:=.type "set_iterator",data:=.fields #[iD (0:Nat),iD (0:Nat),.ref a,iD (es.size:Nat),iD (ep:Nat)]}}):dX (eJ prog w) A (pyIter (.ref a)) Q E s:=by
 have hT:s.TypeIs (.ref a) "set":=⟨_,ho,rfl⟩;have hf:t.fits es.size=true:=N.fits;refine qP hT PySem.F.slot_set_iter (fP PySem.F.slot_set_iter hT Qc ?_ (PySem.F.args_set_iter_1 _));unfold Builtin.«frozenset.__iter__» Builtin.Frozenset.slot0 slotArgs;simp only[List.isEmpty_nil,hU,Bool.false_eq_true,↓reduceIte,bind_assoc,jD,bne_self_eq_false];unfold Builtin.Frozenset.addrOf Builtin.Frozenset.sizeOf;refine dA (dB ?_)
 try dsimp only
 refine dA (dB ?_);refine dA (dA (pN ho rfl hf (dB ?_)));refine dA ?_;unfold setDrawn;refine dA (iO ho rfl hf ?_);dsimp only;unfold setsByText;refine dA (dA (mQ (dB (dB ?_))));refine pK (λz=>?_) λ_=>?_
 ·exfalso;rw[dQ]at z;have z':(!t.plain && decide (es.size>1))=true:=z.2;have z1:(!(w.params.followText "set-order"))=true:=z.1;rcases N.pl with y|y
  ·rw[y]at z1;cases z1
  ·rw[y]at z';cases z'
 ·refine dA (dB (dA (wpAny_setEpoch_of ho rfl hf ?_)));refine dA (fO (dB ⟨_,rfl,"set_iterator",_,⟨_,eD _ rfl,rfl⟩,q8.lookup,hQ⟩) (by size_fits))
def BG(hh:A.handled=none)(N:NotDr w es t)(hne:a≠I):Walks prog w A I [I,a] [I] es.size (λi v=>∃e,(pb w a ep es)[i]?=some e/\v=e.2) (λi h=>SetIt h I a (lh w t i) i es.size ep/\Tz h a es ep t) where
 sub:=λb hb=>by simp at hb;simp[hb]
 frame:=λ_ _ _ st hk=>⟨hk I (by simp) _ st.1,hk a (by simp) _ st.2⟩
 item:=λi s Q E hi st hQ=>by
  have h2:=(og w a ep es).length_eq;rw[eC,eC]at h2;have he:(pb w a ep es)[i]?=some ((pb w a ep es)[i]'(by lia)):=eO _;exact FJ N st.2 st.1 he λh' hit' hs'=>hQ _ h' s.toks ⟨_,he,rfl⟩ ⟨hit',(hs'.2 a hne).trans st.2⟩ λb o hb e=>hs'.extBut b o (λh=>hb (by simp[h])) e
 done:=λs Q E st hQ=>NW hh N st.2 st.1 λh' he'=>hQ h' s.toks λb o hb e=>he' b o (λh=>hb (by simp[h])) e
 self:=λi s Q E st hQ=>by
  refine qP st.1.ty Nh (fP Nh st.1.ty Qf ?_ (Qe _));show dX _ _ (ret (.ref I)) _ _ s;exact dB ⟨_,rfl,"set_iterator",_,st.1.ty,q8.lookup,hQ⟩
end
section
variable{prog:eS}{w:fI}{A:fV}{E:dG->dP->Prop}{s:dP}{a L:Addr}{es:Array (Int×dG)}{ep:Nat}{t:gV}
def OB(N:NotDr w es t):PySem.W.KdlSrc prog w "set" a a es.size (λi v=>∃e,(pb w a ep es)[i]?=some e/\v=e.2) (λh=>Tz h a es ep t) where
 type:=λ_ hm=>⟨_,hm,rfl⟩
 there:=λ_ hm=>⟨dY (show sL _ a=some _ from hm),dY (show sL _ a=some _ from hm)⟩
 keep:=λ_ _ hm hk=>hk a (.inl rfl) _ hm
 notList:=by decide
 notTuple:=by decide
 hint:=λ_ _ _ _ hm hq=>AM ⟨_,hm,rfl⟩ hq
 iter:=λA s hh hm=>⟨_,_,(λ_ _ hq=>FI N hm hq),BG hh N (eM (dY (show sL _ a=some _ from hm))),⟨by
  have:lh w t 0=0:=by unfold lh;split<;>rfl
  rw[this];exact eD _ rfl,dE _ hm⟩⟩
end
section
variable{prog:eS}{w:fI}{A:fV}{E:dG->dP->Prop}{s:dP}{a:Addr}
def Xe{l l':List (Int×dG)}(p:l.Perm l'):∀{ks:List bg},ElsK prog w h l ks->∃ks',ks'.Perm ks/\ElsK prog w h l' ks':=by
 induction p with
 |nil=>intro ks q;exact⟨ks,mK _,q⟩
 |cons x p ih=>
  intro ks ⟨k,r,e,h1,h2⟩;subst e;obtain⟨r',q1,q2⟩:=ih h2;exact⟨k::r',q1.cons k,k,r',rfl,h1,q2⟩
 |swap x y l=>
  intro ks ⟨k,r,e,h1,k2,r2,e2,h2,h3⟩;subst e;subst e2;exact⟨k2::k::r2,oF _ _ _,k2,k::r2,rfl,h2,k,r2,rfl,h1,h3⟩
 |trans p1 p2 ih1 ih2=>
  intro ks q;obtain⟨k1,q1,q2⟩:=ih1 q;obtain⟨k2,q3,q4⟩:=ih2 q2;exact⟨k2,q3.trans q1,q4⟩
theorem Lj:∀{l:List (Int×dG)}{ks:List bg},ElsK prog w h l ks->KeysIn prog w h (l.map (·.2)) ks
 |[],ks,e=>e
 |_::_,_,⟨k,r,e,⟨_,b,e2,e3⟩,h2⟩=>⟨k,r,b,e,e2,e3,Lj h2⟩
def Nf{T:List bg}(hh:A.handled=none)(S:Tx prog w h0 s.heap a T)(few:T.length<=76)(pt:T.all N8=true)
  (hR:∀d' h' tk vs kz,(∀b o,s.heap.get? b=some o->h'.get? b=some o)->List.Perm kz T->KeysIn prog w h0 vs kz->R vs {s with heap:=h',toks:=tk,drawn:=d'}):dX (eJ prog w) A (collect (.ref a)) R E s:=by
 obtain⟨ks,es,ep,t,g,so,el,nd,pm,le,pl⟩:=S;have ln:es.size=T.length:=by rw[<-pm.length_eq,<-el.len,eC]
 have hf:t.fits es.size=true:=by
  obtain⟨h1,h2⟩:=so.toTOk.fits;unfold qV;rw[dQ];exact⟨by rw[h1];simp,decide_eq_true h2⟩
 have zn:es.size<=dN:=by rw[jC];lia
 have fin:∀(l:List (Int×dG)),l.Perm es.toList->∃kz,List.Perm kz T/\KeysIn prog w h0 (l.map (·.2)) kz:=λl hp=>by
  obtain⟨ks',q1,q2⟩:=Xe hp.symm el;exact⟨ks',q1.trans pm,Lj q2⟩
 by_cases dr:False
 ·exact dr.elim
 ·have N:NotDr w es t:=⟨hf,so.rise,le,.inr (by rw[pl,pt];rfl)⟩;refine PySem.W.kdu_collect (OB (ep:=ep) N) hh g zn λh' tk acc hk hacc=>?_;have wl:=(og w a ep es).length_eq;have ew:acc.toList=(pb w a ep es).toList.map (·.2):=by
   refine lY λi=>?_
   by_cases hi:i<acc.size
   ·have hi':acc.toList[i]?=some acc[i]:=by rw[eV];exact eO hi
    obtain⟨e,e1,e2⟩:=hacc.2 i acc[i] (eO hi);rw[hi',eP,eV,e1,e2];rfl
   ·rw[iQ (by rw[eC];lia),iQ (by rw[dD,wl,eC,<-hacc.1];lia)]
  obtain⟨kz,q1,q2⟩:=fin _ (og w a ep es);rw[ew];exact hR s.drawn h' tk _ kz hk q1 q2
end
def Eu(x:Option HO)(o:Obj):Obj:=match x with
 |some (.tup _)=>o
 |_=>{o with data:=.freed}
def Vd(h:∀vs,x≠some (.tup vs)):(Eu x o).data=.freed:=by
 unfold Eu;split
 ·rename_i vs;exact absurd rfl (h vs)
 ·rfl
def Jb(H:Hp)(h:Heap):Heap:={h with objs:=h.objs.mapIdx λi o=>Eu (H i) o}
def Xq{h:Heap}{o:Obj}(e:h.objs[b]?=some o)(hd:o.data≠.freed):h.get? b=some o:=by
 unfold sL;rw[e];obtain⟨c,d,dt,sl⟩:=o;cases dt<;>first|rfl|exact absurd rfl hd
def Xr{h:Heap}{o:Obj}(e:h.get? b=some o):h.objs[b]?=some o/\o.data≠.freed:=by
 unfold sL at e;cases ho:h.objs[b]? with
 |none=>rw[ho]at e;cases e
 |some ob=>
  rw[ho]at e;obtain⟨c,d,dt,sl⟩:=ob;cases dt<;>first|(cases e;exact⟨rfl,λz=>nomatch z⟩)|cases e
def CM{h:Heap}(e:h.get? b=some o)(hb:H b=some (.tup vs)):(Jb H h).get? b=some o:=by
 obtain⟨e1,e2⟩:=Xr e;refine Xq ?_ e2;show(h.objs.mapIdx λi o=>Eu (H i) o)[b]?=some o;rw[Array.getElem?_mapIdx,e1];show some (Eu (H b) o)=some o;rw[hb];rfl
def Dm{h:Heap}(e:(Jb H h).get? b=some o):h.get? b=some o/\∃vs,H b=some (.tup vs):=by
 obtain⟨e1,e2⟩:=Xr e;have e1':(h.objs.mapIdx λi o=>Eu (H i) o)[b]?=some o:=e1;rw[Array.getElem?_mapIdx]at e1';cases ho:h.objs[b]? with
 |none=>rw[ho]at e1';cases e1'
 |some ob=>
  rw[ho]at e1';have e3:Eu (H b) ob=o:=eI e1'
  by_cases c:∃vs,H b=some (.tup vs)
  ·obtain⟨vs,hb⟩:=c;rw[hb]at e3;have e4:ob=o:=e3;subst e4;exact⟨Xq ho e2,vs,hb⟩
  ·have:=Vd (x:=H b) (o:=ob) λvs z=>c ⟨vs,z⟩;rw[e3]at this;exact absurd this e2
section
variable{P:eS}{w:fI}{G H:Hp}{h:Heap}{K:KA}
def Qw(H:Hp):Hp:=gT (λ_=>none) H
def DU(ok:HOk P w H h):HOk P w (Qw H) (Jb H h):=by
 intro a o e
 by_cases c:∃vs,H a=some (.tup vs)
 ·obtain⟨vs,hb⟩:=c;rw[show Qw H a=some (.tup vs)from Al hb]at e;cases e;obtain⟨z,its,r,ob,e1,e2⟩:=(show ObjOk P w H h a (.tup vs)from ok a _ hb);exact⟨z,its,r,ob,CM e1 hb,e2⟩
 ·rw[show Qw H a=none from Jn λvs z=>c ⟨vs,z⟩]at e;cases e
def DJ(ok:HOk P w H h)(q:TkAt H k b):c6 P w (Jb H h) k b:=xq (DU ok) (q.mono λb xs e=>Al e)
def AV(r:RelV x (.ref b)):x=.ref b:=by
 cases x<;>first|(cases r;rfl)|(obtain⟨_,z⟩:=r;cases z)|cases r
def Sb(e:(ba P w).is k v=true)(r:RelV x v):x=kV k:=by
 rcases cj e with ⟨i,t,rfl,rfl⟩|⟨y,t,rfl,rfl⟩
 ·cases x<;>first|(obtain⟨_,z⟩:=r;cases z;rfl)|(obtain⟨_,z⟩:=r;cases z)|cases r
 ·cases x<;>first|(obtain⟨_,z⟩:=r;cases z;rfl)|(obtain⟨_,z⟩:=r;cases z)|cases r
theorem D9:∀{ks:List fo}{us:List dG}{xs:List V},ItemsAre (ba P w) ks us->Vals xs us->xs=ks.map kV
 |_,_,_,.nil,r=>by cases r;rfl
 |_,_,_,.cons h1 t1,r=>by
  cases r with
  |cons h2 t2=>rw[Sb h1 h2,D9 t1 t2,dC]
def BR(ok:HOk P w H h){ks:List fo}(q:lI (ba P w) (Jb H h) ks b):H b=some (.tup (ks.map kV)):=by
 obtain⟨o,items,n,e,hc,hd,hi⟩:=q;obtain⟨e1,vs,hb⟩:=Dm e;obtain⟨_,its,r,ob,e2,hc2,n2,hd2⟩:=(show ObjOk P w H h b (.tup vs)from ok b _ hb);rw[e1]at e2;cases e2;rw[hd]at hd2;cases hd2;rw[hb,D9 (by simpa using hi) r]
theorem Mp(ok:HOk P w H h):∀{ks:bg}{vs:List V}{us:List dG},NItems P w (Jb H h) ks us->Vals vs us->NkL H ks vs
 |[],vs,us,e,r=>by rw[show us=[]from e]at r;cases r;rfl
 |k::ks,vs,us,⟨v,t,e,q,e2⟩,r=>by
  subst e;cases r with
  |cons h1 t1=>
   refine⟨_,_,rfl,?_,Mp ok e2 t1⟩;cases k with
   |inl k=>exact Sb q h1
   |inr ys=>obtain⟨b,rfl,q⟩:=q;exact⟨b,AV h1,BR ok q⟩
def Yb(ok:HOk P w H h)(q:c6 P w (Jb H h) ks b):TkAt H ks b:=by
 obtain⟨o,items,n,e,hc,hd,hi⟩:=q;obtain⟨e1,vs,hb⟩:=Dm e;obtain⟨_,its,r,ob,e2,hc2,n2,hd2⟩:=(show ObjOk P w H h b (.tup vs)from ok b _ hb);rw[e1]at e2;cases e2;rw[hd]at hd2;cases hd2;exact⟨vs,hb,Mp ok (by simpa using hi) r⟩
theorem Ee(hp:∀k b,c6 P w h0 k b->TkAt H k b):∀{us:List dG}{kz:List bg},KeysIn P w h0 us kz->∃vs,Vals vs us/\DenL K (gT G H) (kz.map kT) vs
 |[],kz,e=>by rw[show kz=[]from e];exact⟨[],.nil,rfl⟩
 |_::_,_,⟨k,r,b,e1,e2,q,t⟩=>by
  subst e1 e2;obtain⟨vs,h1,h2⟩:=Ee hp t;exact⟨.ref b::vs,.cons rfl h1,⟨_,_,rfl,W9 (hp k b q),h2⟩⟩
def VB(H:Hp):List V->List bg->Prop
 |[],kz=>kz=[]
 |v::vs,kz=>∃k r b,kz=k::r/\v=.ref b/\TkAt H k b/\VB H vs r
theorem Hn(ok:HOk P w H h):∀{vs:List V}{us:List dG}{kz:List bg},VB H vs kz->Vals vs us->KeysIn P w (Jb H h) us kz
 |[],us,kz,e,r=>by cases r;exact e
 |v::vs,us,kz,⟨k,r',b,e1,e2,q,t⟩,r=>by
  subst e1 e2;cases r with
  |cons h1 t1=>exact⟨k,r',b,rfl,h1,DJ ok q,Hn ok t t1⟩
def pk:List D->Option (List bg)
 |[]=>some []
 |d::ds=>match jf d,pk ds with
  |some k,some r=>some (k::r)
  |_,_=>none
theorem JU(sg:Same G H):∀{ds:List D}{vs:List V}{kz:List bg},DenL K G ds vs->pk ds=some kz->VB H vs kz
 |[],vs,kz,dl,e=>by cases e;rw[show vs=[]from dl];rfl
 |d::ds,vs,kz,⟨v,vr,e1,dv,dr⟩,e=>by
  subst e1;unfold pk at e;cases h1:jf d with
  |none=>rw[h1]at e;cases e
  |some k=>
   cases h2:pk ds with
   |none=>rw[h1,h2]at e;cases e
   |some r=>
    rw[h1,h2]at e;cases e;cases d with
    |tup es=>
     obtain⟨b,ws,rfl,hb,dw⟩:=dv;exact⟨k,r,b,rfl,rfl,TkAt.mono (λb xs z=>sg b _ z) ⟨ws,hb,Dn dw h1⟩,JU sg dr h2⟩
    |_=>cases h1
noncomputable def sd(d:D):Option D:=match d with
 |.lst ds=>(pk ds).bind λkz=>if(ko kz).length<=76/\(ko kz).all N8=true then(i9 ((ko kz).map kT)).map .lst else none
 |_=>none
def sa(d:D):Option D:=sd d
end
section
variable{X:Cx}
def RW(X:Cx)(H0:Hp)(p:Addr)(T:List bg)(h:Heap):Prop:=∃h0,Tx X.prog X.w h0 h p T/\∀k b,c6 X.prog X.w h0 k b->TkAt H0 k b
def CD(X:Cx)(H0:Hp)(p:Addr)(T:List bg):HO:=.ext (RW X H0 p T)
def Z7(X:Cx):List V->Hp->VK->Prop:=λxs H Q=>∃a vs kz,xs=[.ref a]/\SqL X.K H a vs/\VB H vs kz/\(ko kz).length<=76/\∀p,H p=none->Q (.ref p) (upd H p (CD X H p (ko kz)))
def Oh(hc:X.calm=true)(hu:X.A.units+12<gQ):CallR X (.type "set") (Z7 X):=by
 intro pins s U H xs us Q I r q;obtain⟨a,vs,kz,rfl,sq,kv,sm,q⟩:=q;obtain⟨u,rfl,ru⟩:=l9 r;cases ru;obtain⟨its,rv,pl,_⟩:=I.list sq;refine T7 (h0:=Jb H s.heap) hu (I.ok.hd hc) pl.isList (by simpa using Hn I.hok kv rv) (λc o e=>(Dm e).1) sm λh' tk hS hk=>?_;refine⟨.ref s.heap.objs.size,_,I.laid (a:=s.heap.objs.size) (o:=CD X H s.heap.objs.size (ko kz)) (t':=tk) (λb o e=>hk b o (dY e) e) (dR _) ?_,rfl,q _ (I.hok.fresh (dR _))⟩;refine⟨⟨_,hS,λk b z=>Yb I.hok z⟩,?_,λh1 h2 ⟨h0,x,y⟩ k=>⟨h0,?_,y⟩⟩
 ·obtain⟨ks,es,ep,t,g,_⟩:=hS;exact⟨_,g⟩
 ·obtain⟨ks,es,ep,t,g,z⟩:=x;exact⟨ks,es,ep,t,k _ g,z⟩
def P7(X:Cx):List V->Hp->VK->Prop:=λxs H Q=>∃p T H0 G ds',xs=[.ref p]/\H p=some (CD X H0 p T)/\(∀b ys,H0 b=some (.tup ys)->H b=some (.tup ys))/\Same G H/\(T.length<=76/\T.all N8=true)/\i9 (T.map kT)=some ds'/\∀q vs',H q=none->DenL (kx X) (gT G H) ds' vs'->Q (.ref q) (upd H q (.lst vs'))
def Kz(hu:X.A.units+5<gQ)(hc:X.calm=true):CallR X (.builtin "sorted") (P7 X):=by
 intro pins s U H xs us Q I r q;obtain⟨p,T,H0,G,ds',rfl,hp,ht,sg,few,es,q⟩:=q;obtain⟨u,rfl,ru⟩:=l9 r;cases ru;obtain⟨⟨h0,hS,hk0⟩,_,_⟩:=I.hok p _ hp;refine B1 (G:=gT G H) hu I (Aj sg).gh (λQ' E' hq=>?_) q;refine Nf (I.ok.hd hc) hS few.1 few.2 λd' h' tk vs kz k1 pm ki=>?_;obtain⟨ys,rx,dl⟩:=Ee (K:=kx X) (G:=G) (H:=H) (λk b z=>(hk0 k b z).mono ht) ki;exact hq d' h' tk vs ys (kz.map kT) k1 rx dl (Qi ((pm.map kT).symm) es)
end
section
variable{X:Cx}{B:Hp}{E:EK}{e:Expr}{g:En->Res}{pos p pos' p':Pos}
def Qj(sg:Same G H)(ax:Arg (kx X) G H dx x)(ed:sd dx=some d)(q:∀v G' H',Ext G H G' H'->Den (kx X) G' d v->Q v H'):
  Z7 X [x] H λx H1=>P7 X [x] H1 Q:=by
 cases dx with
 |lst ds=>
  have ed1:((pk ds).bind λkz=>if(ko kz).length<=76/\(ko kz).all N8=true then(i9 ((ko kz).map kT)).map D.lst else none)=some d:=ed;cases hk:pk ds with
  |none=>rw[hk]at ed1;cases ed1
  |some kz=>
   rw[hk]at ed1;have ed2:(if(ko kz).length<=76/\(ko kz).all N8=true then(i9 ((ko kz).map kT)).map D.lst else none)=some d:=ed1
   by_cases few:(ko kz).length<=76/\(ko kz).all N8=true
   ·rw[dJ few]at ed2;cases e2:i9 ((ko kz).map kT)with
    |none=>rw[e2]at ed2;cases ed2
    |some ds'=>
     rw[e2]at ed2;cases ed2;obtain⟨a,vs,rfl,sq,dl⟩:=ax.lst sg;refine⟨a,vs,kz,rfl,sq,JU sg dl hk,few.1,λp hp=>?_⟩;have x1:=Ext.own sg (CD X H p (ko kz)) hp;refine⟨p,ko kz,H,G,ds',rfl,bj,λb ys e=>?_,x1.gh,few,e2,λq' vs' hq' d'=>?_⟩
     ·rw[a6 (b0 e hp)];exact e
     ·have x2:=Aj x1.gh;exact q _ _ _ (x1.trans (x2.trans (Ext.new x2.gh (.lst vs') hq'))) (uf x2.gh hq' d')
   ·rw[dM few]at ed2;cases ed2
 |_=>cases ed
def Vj(hu:X.A.units+12<gQ)(hc:X.calm=true)(hg:Gl X "sorted")(hm:X.mg "sorted"=none)(hg':Gl X "set")(hm':X.mg "set"=none)(ha:jc X B E e g)(he:eE [e] X.env=(false,eval e X.env)::eE [] X.env):
  fq X B E (.Call (.Name "sorted" p) [.Call (.Name "set" p') [e] [] pos'] [] pos) (g1 sd g):=
 PE.imp (nj (Kz (by lia) hc) hg hm PyProof.Rows.boot_sorted (vo (ml (Oh hc hu) hg' hm' PyProof.Rows.boot_set (fe ha ik he) (by decide) (by decide) he rfl) J3 rfl) (by decide) (by decide) rfl rfl) λU H Q q=>
  KD (rr:=λxs H Q=>Z7 X xs H λx H1=>P7 X [x] H1 Q) (λG H x dx d sg ax ed Q q=>Qj sg ax ed q) q
end
def E3:D->D->Option D:=M8 λi j=>some (.int (if j<i then j else i))
def Z5:D->D->Option D:=M8 λi j=>some (.int (if j>i then j else i))
section
variable{X:Cx}{B:Hp}{E:EK}{a b:Expr}{g h:En->Res}{pos p:Pos}
def OP(f:Int->Int->Int):List V->Hp->VK->Prop:=λxs H Q=>∃i j,xs=[.int i,.int j]/\Q (.int (f i j)) H
def T4(hc:X.calm=true):CallR X (.builtin "max") (OP λi j=>if j>i then j else i):=by
 intro pins s U H xs us Q I r q;obtain⟨i,j,rfl,q⟩:=q;obtain⟨u,v,rfl,⟨t,rfl⟩,⟨t',rfl⟩⟩:=BI r;refine max_two_ints (I.ok.hd hc) λh' tk hk=>⟨.int (if j>i then j else i),H,I.kept hk,?_,q⟩
 by_cases c:j>i
 ·rw[dJ c,dJ c];exact⟨_,rfl⟩
 ·rw[dM c,dM c];exact⟨_,rfl⟩
def T6(hc:X.calm=true):CallR X (.builtin "min") (OP λi j=>if j<i then j else i):=by
 intro pins s U H xs us Q I r q;obtain⟨i,j,rfl,q⟩:=q;obtain⟨u,v,rfl,⟨t,rfl⟩,⟨t',rfl⟩⟩:=BI r;refine min_two_ints (I.ok.hd hc) λh' tk hk=>⟨.int (if j<i then j else i),H,I.kept hk,?_,q⟩
 by_cases c:j<i
 ·rw[dJ c,dJ c];exact⟨_,rfl⟩
 ·rw[dM c,dM c];exact⟨_,rfl⟩
def VW{K:KA}{f:Int->Int->Int}{U:St}{H:Hp}{Q:VK}(q:Vy K B E (g2 (M8 λi j=>some (.int (f i j))) g h) U H Q):WU (OP f) (ZC K B E [true,true] (af g (af h ao))) U H Q:=by
 obtain⟨G,δ,R,q⟩:=q;refine⟨G,δ,R,?_⟩;unfold af ao;cases eg:g δ with
 |ok x=>
  cases eh:h δ with
  |ok y=>
   have q':ResP E G H (Res.of (M8 (λi j=>some (.int (f i j))) x y)) λd=>∀v G' H',Ext G H G' H'->Den K G' d v->Q v H':=by
    have e:g2 (M8 λi j=>some (.int (f i j))) g h δ=Res.of (M8 (λi j=>some (.int (f i j))) x y):=by unfold g2;rw[eg,eh];rfl
    rw[e]at q;exact q
   obtain⟨d,ed,qd⟩:=ResP.of q';intro vs G' H' e1 al;obtain⟨d1,dr,v1,vr,z1,rfl,a1,d2,dr2,v2,vr2,z2,rfl,a2,z3,rfl⟩:=al;cases z1;cases z2;cases x with
   |int i=>
    cases y with
    |int j=>
     cases ed;exact⟨i,j,by rw[Arg.int a1,Arg.int a2],qd _ G' H' e1 rfl⟩
    |_=>cases ed
   |_=>cases ed
  |er c=>
   have e:g2 (M8 λi j=>some (.int (f i j))) g h δ=.er c:=by unfold g2;rw[eg,eh];rfl
   rw[e]at q;exact q
  |st=>
   have e:g2 (M8 λi j=>some (.int (f i j))) g h δ=.st:=by unfold g2;rw[eg,eh];rfl
   rw[e]at q;exact q
 |er c=>
  have e:g2 (M8 λi j=>some (.int (f i j))) g h δ=.er c:=by unfold g2;rw[eg];rfl
  rw[e]at q;exact q
 |st=>
  have e:g2 (M8 λi j=>some (.int (f i j))) g h δ=.st:=by unfold g2;rw[eg];rfl
  rw[e]at q;exact q
def GN(hc:X.calm=true)(hg:Gl X "max")(hm:X.mg "max"=none)(ha:jc X B E a g)(hb:jc X B E b h)(he:eE [a,b] X.env=(false,eval a X.env)::eE [b] X.env)(he2:eE [b] X.env=(false,eval b X.env)::eE [] X.env):
  fq X B E (.Call (.Name "max" p) [a,b] [] pos) (g2 Z5 g h):=
 PE.imp (nj (T4 hc) hg hm (by rfl) (fe ha (fe hb ik he2) he) (by decide) (by decide) he (by rw[he2];rfl)) λU H Q q=>VW q
def GL(hc:X.calm=true)(hg:Gl X "min")(hm:X.mg "min"=none)(ha:jc X B E a g)(hb:jc X B E b h)(he:eE [a,b] X.env=(false,eval a X.env)::eE [b] X.env)(he2:eE [b] X.env=(false,eval b X.env)::eE [] X.env):
  fq X B E (.Call (.Name "min" p) [a,b] [] pos) (g2 E3 g h):=
 PE.imp (nj (T6 hc) hg hm (by rfl) (fe ha (fe hb ik he2) he) (by decide) (by decide) he (by rw[he2];rfl)) λU H Q q=>VW q
end
def YH(K:eB)(a:Addr):It:=
 ⟨λi H=>∃xs x,SqL K H a xs/\xs[i]?=some x,λi H v H'=>∃p x,H p=none/\v=.ref p/\H'=upd H p (.tup [.int (i:Int),x])/\∀xs,SqL K H a xs->xs[i]?=some x,λi H=>∃xs,SqL K H a xs/\xs.length<=i⟩
def cL(e it a:Addr)(i:Nat)(h:Heap):Prop:=(∃old,IsEnum h e it (i:Int) old)/\h.IsListIter it a i
def V2{P:eS}{w:fI}{K:eB}{tes:List Expr}{k1}{tp:Pos}(a e it:Addr)(hne:e≠it):Turn P w K (.Tuple tes k1 tp) (YH K a) [e,it] e (cL e it a) where
 mem:=by simp
 obj:=λi h st b hb=>by
  obtain⟨⟨old,he⟩,o,ho,hc,hd⟩:=st;rcases List.mem_cons.mp hb with rfl|hb
  ·exact⟨_,he,λv z=>by
    have z':Data.fields _=sE v:=z;cases z'⟩
  ·have e:b=it:=by simpa using hb
   subst e;exact⟨o,ho,λv z=>by rw[hd]at z;cases z⟩
 keep:=λi h h' st k=>⟨let ⟨old,he⟩:=st.1;⟨old,k e (by simp) _ he⟩,st.2.at λo q=>k it (by simp) o q⟩
 item:=by
  intro X hP hw hK hc i pins s U H E I hf st hg;subst hP hw hK;obtain⟨xs,x,hq,hx⟩:=hg;obtain⟨its,rv,p,hz⟩:=I.list hq;obtain⟨u,hu,ru⟩:=rv.get hx;obtain⟨⟨old,he⟩,hit⟩:=st;obtain⟨f0,f1,f2,f3,f4,f5⟩:=hf e (by simp);obtain⟨g0,g1,g2,g3,g4,g5⟩:=hf it (by simp);have qM:H s.heap.objs.size=none:=I.hok.fresh (dR _);have elt:e<s.heap.objs.size:=dY he;refine wpAny_pyNext_enum_item he hit p.isList (x:=u) (by simpa using hu) hne λh1 he1 hit1 ht1 hz1 hk1=>?_;refine⟨_,rfl,wpAny_letOwnedTupleGo_enum he1 λh2 he2 sb=>?_⟩;have sb':gU e h1 h2:=sb;have k2:∀b o,b≠e->b≠it->s.heap.get? b=some o->h2.get? b=some o:=λb o h1' h2' q=>sb'.extBut b o h1' (hk1 b o h1' h2' q);have t2:h2.get? s.heap.objs.size=some {cls:=.type "tuple",data:=.seq #[.int (i:Int) s.toks,u]}:=sb'.extBut _ _ (jS elt) ht1;have old':∀{b:Addr}{o:HO},H b=some o->b≠s.heap.objs.size/\b≠e/\b≠it:=λ{b o} q=>⟨b0 q qM,b0 q f0,b0 q g0⟩;have ch:∀b,b∉[e,it]->b≠e/\b≠it:=λb hb=>by simpa using hb
  have I2:Inv X pins U (upd H s.heap.objs.size (.tup [.int (i:Int),x])) {s with heap:=h2,toks:=s.toks+1}:=by
   refine I.step (g':=s.gens) (d':=s.drawn) (ch:=[e,it]) (λb hb=>?_) (λb o _ _ hc q _=>k2 b o (ch b hc).1 (ch b hc).2 q) (λb o _ _ hc q _=>⟨o.slots,k2 b o (ch b hc).1 (ch b hc).2 q⟩) (λb o _ q n=>?_) (λb o hc q=>⟨o,k2 b o (ch b hc).1 (ch b hc).2 q⟩)
    (λb ys q=>by rw[a6 (old' q).1];exact q) (λb o v q=>by rw[a6 (old' q).1];exact q) (λb y q=>by rw[a6 (old' q).1];exact q) (λm hm=>?_) (λb v q=>?_) I.bare
   ·rcases List.mem_cons.mp hb with rfl|hb
    ·exact⟨f3,f1,f4,f5⟩
    ·have z:b=it:=by simpa using hb
     subst z;exact⟨g3,g1,g4,g5⟩
   ·rw[a6 (eM (dY q))];exact n
   ·obtain⟨o,es,ep,ho,r⟩:=hm;exact⟨o,es,ep,k2 _ o (jJ f1) (jJ g1) ho,r⟩
   ·by_cases hb:b=s.heap.objs.size
    ·subst hb;rw[bj]at q;cases q;exact⟨by rw[jC];simp,[.int (i:Int) s.toks,u],.cons ⟨_,rfl⟩ (.cons ru .nil),_,t2,rfl,0,rfl⟩
    ·rw[a6 hb]at q;refine(I.hok b v q).stay (λb' v' hb' r=>k2 b' v' ?_ ?_ r) (λb' z=>by rw[a6 (old' z).1];exact z) (λb' ys z=>by rw[a6 (old' z).1];exact z) λb' o' u' z=>by rw[a6 (old' z).1];exact z
     ·rcases hb' with z|z
      ·rw[z];exact(old' q).2.1
      ·exact(old' z).2.1
     ·rcases hb' with z|z
      ·rw[z];exact(old' q).2.2
      ·exact(old' z).2.2
  refine⟨.ref s.heap.objs.size,_,I2,rfl,⟨_,x,qM,rfl,rfl,λys hy=>by rw[I.list_inj hy hq];exact hx⟩,⟨⟨u,?_⟩,?_⟩,λb hb=>?_⟩
  ·have:((i+1:Nat):Int)=(i:Int)+1:=by push_cast;rfl
   rw[this];exact he2
  ·exact hit1.at λo q=>sb'.extBut it o (jJ hne) q
  ·have z:=(hf b hb).1;have:b<s.heap.objs.size:=by
    rcases List.mem_cons.mp hb with rfl|hb
    ·exact elt
    ·have z:b=it:=by simpa using hb
     subst z;obtain⟨o,ho,_⟩:=hit;exact dY ho
   rw[a6 (eM this)];exact z
 done:=by
  intro X hP hw hK hc i pins s U H E I hf st hg;subst hP hw hK;obtain⟨xs,hq,hx⟩:=hg;obtain⟨its,rv,p,hz⟩:=I.list hq;obtain⟨⟨old,he⟩,hit⟩:=st;obtain⟨g0,g1,g2,g3,g4,g5⟩:=hf it (by simp);have hl:=rv.length;exact wpAny_pyNext_enum_end (I.ok.hd hc) he hit p.isList (by simp;lia) λh' eb=>⟨rfl,I.turned (t':=s.toks) (λb o hb e=>eb b o hb e) g0 g1 g3 g4 g5⟩
 self:=λ_ _ _ _ _ st h=>let ⟨_,he⟩:=st.1;wpAny_pyIter_enum he h
def m4:Nat->List D->List D
 |_,[]=>[]
 |i,d::r=>.tup [.int (i:Int),d]::m4 (i+1) r
theorem Ai:∀(i:Nat)(ds:List D),(m4 i ds).length=ds.length
 |_,[]=>rfl
 |i,d::r=>by rw[m4,dI,dI,Ai]
theorem G9:∀(i j:Nat)(ds:List D),(m4 i ds)[j]?=(ds[j]?).map λd=>.tup [.int ((i+j:Nat):Int),d]
 |_,_,[]=>by simp[m4]
 |i,0,d::r=>by simp[m4]
 |i,j+1,d::r=>by
  rw[m4,iF,iF,G9 (i+1) j r];rw[show i+1+j=i+(j+1) by lia]
section
variable{X:Cx}{B:Hp}{E:EK}{e:Expr}{g:En->Res}{pos p tp:Pos}{tes:List Expr}{k1:Nat}
def X3{K:KA}{a:Addr}{G1:Hp}{ds:List D}{vs:List V}{S:Hp->Hp->Prop}(h:∀G H,S G H->Same G H->SqL K H a vs/\Same G1 G)(dl:DenL K G1 ds vs):B8 K (YH K a) (m4 0 ds) S:=λi G H hS sg=>by
 obtain⟨q,g⟩:=h G H hS sg;refine⟨λd ed=>?_,λhl=>⟨vs,q,by rw[Ai]at hl;rw[<-dl.length];exact hl⟩⟩;rw[G9,pS]at ed;cases e0:ds[i]? with
 |none=>rw[e0]at ed;cases ed
 |some d0=>
  rw[e0]at ed;cases ed;obtain⟨v,ev,dv⟩:=dl.get e0;refine⟨⟨vs,v,q,ev⟩,λx H' ⟨p,y,hp,e1,e2,e3⟩=>?_⟩;subst e1 e2;have z:=e3 vs q;rw[ev]at z;cases z;exact⟨_,Ext.new sg (.tup [.int (i:Int),v]) hp,qi sg hp (DenL.append (DenL.one (d:=.int (i:Int)) rfl) (DenL.one (dv.mono g)))⟩
end
section
variable{prog:eS}{w:fI}{A:fV}{E:dG->dP->Prop}{s:dP}
def lu{items}(hit:pV s.heap it t i)(ht:nW s.heap t items)(hx:items[i]?=some x)
  (hQ:∀h',pV h' it t (i+1)->gU it s.heap h'->Q x {s with heap:=h'}):dX (eJ prog w) A (gN (.ref it)) Q E s:=by
 obtain⟨o,ho,hc,hd⟩:=id hit;obtain⟨ol,hol,_,nl,hdl⟩:=ht;unfold gN;refine dA (fW (name:=iJ "__next__") hit.typeIs mW (fP mW hit.typeIs entry_tupleiter_next ?_ (args_tupleiter_next _)));show dX _ _ (field (.ref it) 0>>=_) _ _ s;refine dA (gS ho hd (x:=.ref t) rfl ?_);show dX _ _ (if(eZ t==fC)=true then _ else _) _ _ s;rw[dM (show¬((eZ t==fC)=true)from Bool.false_ne_true)];show dX _ _ (field (.ref it) 1>>=_) _ _ s;refine dA (gS ho hd (x:=.int i 0) rfl ?_);show dX _ _ (pU (.ref t)>>=_) _ _ s;refine dA (fU hol hdl ?_);simp only[iN,hx];refine dA (jA ho hd (by simp) (dB ⟨x,rfl,dB (hQ _ ?_ (iC ..))⟩));exact⟨_,gF _ ho (lU (jI hd _)),(qN ..).trans hc,by
  rw[jI hd];simp[iD]⟩
def uq{items}(hh:A.handled=none)(hit:pV s.heap it t i)(ht:nW s.heap t items)(hx:items[i]?=none)
  (hE:∀h' e,Heap.ExtBut it s.heap h'->(∃o,h'.get? e=some o/\o.cls=.type "StopIteration")->E (.ref e) {s with heap:=h'}):dX (eJ prog w) A (gN (.ref it)) Q E s:=by
 obtain⟨o,ho,hc,hd⟩:=id hit;obtain⟨ol,hol,_,nl,hdl⟩:=ht;unfold gN;refine dA (fW (name:=iJ "__next__") hit.typeIs mW (fP mW hit.typeIs entry_tupleiter_next ?_ (args_tupleiter_next _)));show dX _ _ (field (.ref it) 0>>=_) _ _ s;refine dA (gS ho hd (x:=.ref t) rfl ?_);show dX _ _ (if(eZ t==fC)=true then _ else _) _ _ s;rw[dM (show¬((eZ t==fC)=true)from Bool.false_ne_true)];show dX _ _ (field (.ref it) 1>>=_) _ _ s;refine dA (gS ho hd (x:=.int i 0) rfl ?_);show dX _ _ (pU (.ref t)>>=_) _ _ s;refine dA (fU hol hdl ?_);simp only[iN,hx];refine dA (lJ (dA (jA ho hd (by simp) ?_)));show dX _ _ (newExc (.type "StopIteration") []>>=_) _ _ _;refine dA ?_;simp only[newExc,newTuple];refine dA (fO ?_ (by size_fits));refine dA (m:=mL _ _) (oZ (a:=fC) (by first|rfl|(simp only[mL];rfl)) ?_);refine fO ?_ (by size_fits);simp only[raiseNew];refine dA (wpAny_handled ?_)
 first|rw[show A.in1.handled=none from hh]|rw[hh]
 refine dA (dB (wpAny_throw ?_));exact hE _ _ (((iC ..).extBut.push _).push _) ⟨_,eD _ rfl,rfl⟩
structure ZAt(h:Heap)(z TI TO i1 i2 l1 l2 k:Nat)(f0:dG):Prop where
 hz:IsZip h z TI TO f0
 hI:rY h TI (.ref i1) (.ref i2)
 hO:∃a b,rY h TO a b
 h1:pV h i1 l1 k
 h2:pV h i2 l2 k
def Wd{z TI TO i1 i2 l1 l2 k:Nat}{xs ys:Array dG}{x y:dG}{Q:Option dG->dP->Prop}(D:ZipApart z TI TO i1 i2 l1 l2)(Z:ZAt s.heap z TI TO i1 i2 l1 l2 k .none)
  (hl1:nW s.heap l1 xs)(hl2:nW s.heap l2 ys)(hx:xs[k]?=some x)(hy:ys[k]?=some y)
  (hQ:∀h',ZAt h' z TI TO i1 i2 l1 l2 (k+1) (iD s.heap.objs.size)->rY h' s.heap.objs.size x y->h'.objs.size=s.heap.objs.size+1->
   (∀c o,c≠z->c≠TO->c≠i1->c≠i2->s.heap.get? c=some o->h'.get? c=some o)->Q (some (.ref s.heap.objs.size)) {s with heap:=h'}):
  dX (eJ prog w) A (kZ (.ref z)) Q E s:=by
 obtain⟨hz,hTI,⟨a,b,hTO⟩,h1,h2⟩:=Z;have hT:s.TypeIs (.ref z) "zip":=⟨_,hz,rfl⟩;unfold kZ;refine dA (nD (fW (name:=iJ "__next__") hT pM (fP pM hT F.entry_zip_next ?_ (F.args_zip_next_1 _))));show dX _ _ (field (.ref z) 2>>=_) _ _ _;refine dA (gS hz rfl (x:=.bool false) rfl ?_);show dX _ _ (field (.ref z) 3>>=_) _ _ _;refine dA (gS hz rfl (x:=.ref TI) rfl ?_);refine dA (fU hTI rfl ?_);show dX _ _ (iT (.ref z)>>=_) _ _ _;refine dA ?_;unfold iT;refine dA (gS hz rfl (x:=.none) rfl (dB ?_));simp only[if_true];refine dA (lJ ?_);refine dA (gS hz rfl (x:=.ref TO) rfl ?_);refine dA (kG hz (by simp) λg1 z1 s1=>?_);replace z1:IsZip g1 z TI TO .ellipsis:=z1;refine dA ?_;simp only[List.zipIdx_cons,List.zipIdx_nil,rR,List.forIn_nil];refine dA (dA (qY ?_));show dX _ _ (gN (.ref i1)>>=_) _ _ _;refine dA (lu (h1.extBut s1.extBut D.i1z) (hl1.extBut s1.extBut D.l1z) hx λg2 p2 s2=>dB ?_);have t2:rY g2 TO a b:=s2.extBut _ _ D.TOi1 (s1.extBut _ _ D.TOz hTO);refine dA (fU t2 rfl ?_);refine dA (pE t2 λg3 t3 s3=>?_);replace t3:rY g3 TO x b:=t3;refine dA (nV (dB ?_));refine dA (dA (qY ?_));show dX _ _ (gN (.ref i2)>>=_) _ _ _;refine dA (lu (((h2.extBut s1.extBut D.i2z).extBut s2.extBut D.i12.symm).extBut s3.extBut D.TOi2.symm) (((hl2.extBut s1.extBut D.l2z).extBut s2.extBut D.l2i1).extBut s3.extBut D.l2TO) hy λg4 p4 s4=>dB ?_);have t4:rY g4 TO x b:=s4.extBut _ _ D.TOi2 t3;refine dA (fU t4 rfl ?_);refine dA (pE t4 λg5 t5 s5=>?_);replace t5:rY g5 TO x y:=t5;refine dA (nV (dB (dB ?_)));refine dA (fU t5 rfl ?_);refine dA (wpAny_newTuple ?_);have sz:g5.objs.size=s.heap.objs.size:=by rw[s5.1,s4.1,s3.1,s2.1,s1.1]
 have k5:∀c o,c≠z->c≠TO->c≠i1->c≠i2->s.heap.get? c=some o->g5.get? c=some o:=λc o c1 c2 c3 c4 e=>s5.extBut _ _ c2 (s4.extBut _ _ c4 (s3.extBut _ _ c2 (s2.extBut _ _ c3 (s1.extBut _ _ c1 e))));have z5:IsZip g5 z TI TO .ellipsis:=s5.extBut _ _ D.TOz.symm (s4.extBut _ _ D.i2z.symm (s3.extBut _ _ D.TOz.symm (s2.extBut _ _ D.i1z.symm z1)));have q1:pV g5 i1 l1 (k+1):=((p2.extBut s3.extBut D.TOi1.symm).extBut s4.extBut D.i12).extBut s5.extBut D.TOi1.symm;have q2:pV g5 i2 l2 (k+1):=p4.extBut s5.extBut D.TOi2.symm;have zlt:z<g5.objs.size:=dY z5;show dX _ _ (mY (.ref z) (.ref g5.objs.size)>>=_) _ _ _;refine dA ?_;unfold mY;have z6:IsZip (g5.push {cls:=.type "tuple",data:=.seq #[x,y]}) z TI TO .ellipsis:=dE _ z5;refine dA (kG z6 (by simp) λg7 z7 s7=>?_);replace z7:IsZip g7 z TI TO (iD g5.objs.size):=z7;refine kG z7 (by simp) λg8 z8 s8=>?_;replace z8:IsZip g8 z TI TO (iD g5.objs.size):=z8;have up:∀c o,c≠z->g5.get? c=some o->g8.get? c=some o:=λc o c1 e=>s8.extBut _ _ c1 (s7.extBut _ _ c1 (dE _ e));have t8:rY g8 g5.objs.size x y:=s8.extBut _ _ (jS zlt) (s7.extBut _ _ (jS zlt) (eD _ rfl));have n8:g8.objs.size=g5.objs.size+1:=by rw[s8.1,s7.1,iR]
 rw[sz]at z8 t8 n8;refine dB ⟨_,rfl,dB ?_⟩;show Q (some (.ref g5.objs.size)) _;rw[sz];exact hQ g8 ⟨z8,up _ _ D.TIz (k5 _ _ D.TIz D.TITO D.TIi1 D.TIi2 hTI),⟨x,y,up _ _ D.TOz t5⟩,let ⟨o,e,r⟩:=q1;⟨o,up _ o D.i1z e,r⟩,let ⟨o,e,r⟩:=q2;⟨o,up _ o D.i2z e,r⟩⟩ t8 n8 λc o c1 c2 c3 c4 e=>up c o c1 (k5 c o c1 c2 c3 c4 e)
def BE{z TI TO i1 i2 l1 l2 k:Nat}{xs ys:Array dG}{Q:Option dG->dP->Prop}(hh:A.handled=none)(D:ZipApart z TI TO i1 i2 l1 l2)(Z:ZAt s.heap z TI TO i1 i2 l1 l2 k .none)
  (hl1:nW s.heap l1 xs)(hl2:nW s.heap l2 ys)(hend:xs[k]?=none\/ys[k]?=none)
  (hQ:∀h',(∀c o,c≠z->c≠TO->c≠i1->c≠i2->s.heap.get? c=some o->h'.get? c=some o)->Q none {s with heap:=h'}):dX (eJ prog w) A (kZ (.ref z)) Q E s:=by
 obtain⟨hz,hTI,⟨a,b,hTO⟩,h1,h2⟩:=Z;have hT:s.TypeIs (.ref z) "zip":=⟨_,hz,rfl⟩;have fin:∀h' e,(∀c o,c≠z->c≠TO->c≠i1->c≠i2->s.heap.get? c=some o->h'.get? c=some o)->(∃o,h'.get? e=some o/\o.cls=.type "StopIteration")->dX (eJ prog w) A (do if(<-isInstance (.ref e) (.type "StopIteration"))then pure (Option.none:Option dG)else throw (.ref e)) Q E {s with heap:=h'}:=λh' e hk ⟨o,ho,hc⟩=>
  dA (kA (T:="StopIteration") (b:=true) ⟨o,ho,hc⟩ isSubtype_stop (dB (hQ _ hk)))
 unfold kZ;refine dA (nD (fW (name:=iJ "__next__") hT pM (fP pM hT F.entry_zip_next ?_ (F.args_zip_next_1 _))));show dX _ _ (field (.ref z) 2>>=_) _ _ _;refine dA (gS hz rfl (x:=.bool false) rfl ?_);show dX _ _ (field (.ref z) 3>>=_) _ _ _;refine dA (gS hz rfl (x:=.ref TI) rfl ?_);refine dA (fU hTI rfl ?_);show dX _ _ (iT (.ref z)>>=_) _ _ _;refine dA ?_;unfold iT;refine dA (gS hz rfl (x:=.none) rfl (dB ?_));simp only[if_true];refine dA (lJ ?_);refine dA (gS hz rfl (x:=.ref TO) rfl ?_);refine dA (kG hz (by simp) λg1 z1 s1=>?_);replace z1:IsZip g1 z TI TO .ellipsis:=z1;refine dA ?_;simp only[List.zipIdx_cons,List.zipIdx_nil,rR,List.forIn_nil];refine dA (dA (qY ?_));show dX _ _ (gN (.ref i1)>>=_) _ _ _;cases hx:xs[k]? with
 |none=>
  refine dA (uq hh (h1.extBut s1.extBut D.i1z) (hl1.extBut s1.extBut D.l1z) hx λg2 e s2 he=>?_);obtain⟨oe,hoe,hce⟩:=he;have z2:IsZip g2 z TI TO .ellipsis:=s2 _ _ D.i1z.symm z1;have ez:e≠z:=λx=>by subst x;rw[z2]at hoe;cases hoe;simp at hce
  refine kG z2 (by simp) λg3 _ s3=>?_;exact fin g3 e (λc o c1 _ c3 _ x=>s3.extBut _ _ c1 (s2 _ _ c3 (s1.extBut _ _ c1 x))) ⟨oe,s3.extBut _ _ ez hoe,hce⟩
 |some x=>
  have hy:ys[k]?=none:=by rcases hend with h|h;rw[hx]at h;cases h;exact h
  refine dA (lu (h1.extBut s1.extBut D.i1z) (hl1.extBut s1.extBut D.l1z) hx λg2 p2 s2=>dB ?_);have t2:rY g2 TO a b:=s2.extBut _ _ D.TOi1 (s1.extBut _ _ D.TOz hTO);refine dA (fU t2 rfl ?_);refine dA (pE t2 λg3 t3 s3=>?_);refine dA (nV (dB ?_));refine dA (dA (qY ?_));show dX _ _ (gN (.ref i2)>>=_) _ _ _;refine dA (uq hh (((h2.extBut s1.extBut D.i2z).extBut s2.extBut D.i12.symm).extBut s3.extBut D.TOi2.symm) (((hl2.extBut s1.extBut D.l2z).extBut s2.extBut D.l2i1).extBut s3.extBut D.l2TO) hy λg4 e s4 he=>?_);obtain⟨oe,hoe,hce⟩:=he;have z4:IsZip g4 z TI TO .ellipsis:=s4 _ _ D.i2z.symm (s3.extBut _ _ D.TOz.symm (s2.extBut _ _ D.i1z.symm z1));have ez:e≠z:=λx=>by subst x;rw[z4]at hoe;cases hoe;simp at hce
  refine kG z4 (by simp) λg5 _ s5=>?_;exact fin g5 e (λc o c1 c2 c3 c4 x=>s5.extBut _ _ c1 (s4 _ _ c4 (s3.extBut _ _ c2 (s2.extBut _ _ c3 (s1.extBut _ _ c1 x))))) ⟨oe,s5.extBut _ _ ez hoe,hce⟩
end
section
variable{prog:eS}{w:fI}{A:fV}{E:dG->dP->Prop}{s:dP}
def X1(l:Addr):Obj:={cls:=.type "tuple_iterator",data:=.fields #[.ref l,.int 0 0]}
def YR(h:Heap):Obj:={cls:=.type "tuple",data:=.seq #[.ref h.objs.size,.ref (h.objs.size+1)]}
def aN:Obj:={cls:=.type "tuple",data:=.seq #[.none,.none]}
noncomputable def cW(h:Heap):Obj:={cls:=.type "zip",data:=.fields #[.none,.bool false,.bool false,.ref (h.objs.size+2),.ref (h.objs.size+3)]}
def zH(h:Heap)(l1 l2:Addr):Heap:=((((h.push (X1 l1)).push (X1 l2)).push (YR h)).push aN).push (cW h)
def Pp(l1 l2:Addr)(xs ys:Array dG):
  Meets (Builtin.«zip.__new__» ⟨[.type "zip",.ref l1,.ref l2],[]⟩) (λ_ R s=>nW s.heap l1 xs/\nW s.heap l2 ys/\
   R (.ok (.ret (.ref (s.heap.objs.size+4)))) {s with heap:=zH s.heap l1 l2}):=
 .of_wp λprog w A R s h=>by
  obtain⟨hp,g,d,tk,os⟩:=s;obtain⟨hl1,hl2,h⟩:=h;have hsub:=sub_zip;have hL1:nW (Shared.heap ⟨hp,g,d,tk,os⟩) l1 xs:=hl1;have hL2:nW (Shared.heap ⟨hp.push {cls:=.type "tuple_iterator",data:=.fields #[.ref l1,.int 0 0]},g,d,tk,os⟩) l2 ys:=IsTup.push hl2 _
  wp_walk using iter_tuple hL1,iter_tuple hL2
  refine⟨_,rfl,?_⟩;simp only[iR];exact h
def T8(hl1:nW s.heap l1 xs)(hl2:nW s.heap l2 ys)
  (h:∀h',ZAt h' (s.heap.objs.size+4) (s.heap.objs.size+2) (s.heap.objs.size+3) s.heap.objs.size (s.heap.objs.size+1) l1 l2 0 .none->h'.objs.size=s.heap.objs.size+5->(∀c o,s.heap.get? c=some o->h'.get? c=some o)->Q (.ref (s.heap.objs.size+4)) {s with heap:=h'}):
  dX (eJ prog w) A (call (.type "zip") [.ref l1,.ref l2]) Q E s:=by
 refine callType_new F.called_zip (by decide) (F.typeCall_zip_2 _ _) (F.newCall_zip_2 _ _) (λobj=>F.args_object_init_3 obj _ _) F.entry_zip_new (Pp l1 l2 xs ys) ⟨hl1,hl2,?_⟩;have n1:(s.heap.push (X1 l1)).objs.size=s.heap.objs.size+1:=iR ..;have n2:((s.heap.push (X1 l1)).push (X1 l2)).objs.size=s.heap.objs.size+2:=by rw[iR,n1]
 have n3:(((s.heap.push (X1 l1)).push (X1 l2)).push (YR s.heap)).objs.size=s.heap.objs.size+3:=by rw[iR,n2]
 have n4:((((s.heap.push (X1 l1)).push (X1 l2)).push (YR s.heap)).push aN).objs.size=s.heap.objs.size+4:=by rw[iR,n3]
 have n5:(zH s.heap l1 l2).objs.size=s.heap.objs.size+5:=by unfold zH;rw[iR,n4]
 have g5:(zH s.heap l1 l2).get? (s.heap.objs.size+4)=some (cW s.heap):=by rw[<-n4];exact eD _ rfl
 have g4:(zH s.heap l1 l2).get? (s.heap.objs.size+3)=some aN:=by rw[<-n3];exact dE _ (eD _ rfl)
 have g3:(zH s.heap l1 l2).get? (s.heap.objs.size+2)=some (YR s.heap):=by rw[<-n2];exact dE _ (dE _ (eD _ rfl))
 have g2:(zH s.heap l1 l2).get? (s.heap.objs.size+1)=some (X1 l2):=by rw[<-n1];exact dE _ (dE _ (dE _ (eD _ rfl)))
 have g1:(zH s.heap l1 l2).get? s.heap.objs.size=some (X1 l1):=dE _ (dE _ (dE _ (dE _ (eD _ rfl))));exact⟨⟨_,g5,rfl⟩,h _ ⟨g5,g3,⟨_,_,g4⟩,⟨_,g1,rfl,rfl⟩,⟨_,g2,rfl,rfl⟩⟩ n5 λc o x=>dE _ (dE _ (dE _ (dE _ (dE _ x))))⟩
end
def YE(K:eB)(l m:Addr):It:=
 ⟨λi H=>∃xs ys x y,SqT K H l xs/\SqT K H m ys/\xs[i]?=some x/\ys[i]?=some y,λi H v H'=>∃p x y,H p=none/\v=.ref p/\H'=upd H p (.tup [x,y])/\(∀xs,SqT K H l xs->xs[i]?=some x)/\∀ys,SqT K H m ys->ys[i]?=some y,λi H=>∃xs ys,SqT K H l xs/\SqT K H m ys/\(xs.length<=i\/ys.length<=i)⟩
def ZAt.at{h h':Heap}{z TI TO i1 i2 l1 l2 k:Nat}{f0:dG}(Z:ZAt h z TI TO i1 i2 l1 l2 k f0)(e:∀b∈[z,TI,TO,i1,i2],∀o,h.get? b=some o->h'.get? b=some o):ZAt h' z TI TO i1 i2 l1 l2 k f0:=
 ⟨e z (by simp) _ Z.hz,e TI (by simp) _ Z.hI,let ⟨a,b,q⟩:=Z.hO;⟨a,b,e TO (by simp) _ q⟩,let ⟨o,q,r⟩:=Z.h1;⟨o,e i1 (by simp) o q,r⟩,let ⟨o,q,r⟩:=Z.h2;⟨o,e i2 (by simp) o q,r⟩⟩
def ZAt.there{h:Heap}{z TI TO i1 i2 l1 l2 k:Nat}{f0:dG}(Z:ZAt h z TI TO i1 i2 l1 l2 k f0):∀b∈[z,TI,TO,i1,i2],∃o,h.get? b=some o/\∀v,o.data≠.cell v:=λb hb=>by
 obtain⟨hz,hI,⟨a,c,hO⟩,⟨o1,q1,_,d1⟩,⟨o2,q2,_,d2⟩⟩:=Z;have:b=z\/b=TI\/b=TO\/b=i1\/b=i2:=by simpa using hb
 rcases this with rfl|rfl|rfl|rfl|rfl
 ·exact⟨_,hz,λv z=>by have z':Data.fields _=sE v:=z;cases z'⟩
 ·exact⟨_,hI,λv z=>by have z':Data.seq _ _=sE v:=z;cases z'⟩
 ·exact⟨_,hO,λv z=>by have z':Data.seq _ _=sE v:=z;cases z'⟩
 ·exact⟨_,q1,λv z=>by rw[d1]at z;cases z⟩
 ·exact⟨_,q2,λv z=>by rw[d2]at z;cases z⟩
def BN{P:eS}{w:fI}{K:eB}{tes:List Expr}{k1}{tp:Pos}{z TI TO i1 i2 l1 l2:Addr}(D:ZipApart z TI TO i1 i2 l1 l2):Turn P w K (.Tuple tes k1 tp) (YE K l1 l2) [z,TI,TO,i1,i2] z (λi h=>ZAt h z TI TO i1 i2 l1 l2 i .none) where
 mem:=by simp
 obj:=λi h Z=>Z.there
 keep:=λi h h' Z e=>Z.at e
 item:=by
  intro X hP hw hK hc i pins s U H E I hf Z hg;subst hP hw hK;obtain⟨xs,ys,x,y,hq1,hq2,hx,hy⟩:=hg;obtain⟨its,rv,p,hz⟩:=I.tuple hq1;obtain⟨jts,rw',p',hz'⟩:=I.tuple hq2;obtain⟨u,hu,ru⟩:=rv.get hx;obtain⟨v,hv,rv'⟩:=rw'.get hy;have qM:H s.heap.objs.size=none:=I.hok.fresh (dR _);have lts:∀b∈[z,TI,TO,i1,i2],b<s.heap.objs.size:=λb hb=>let ⟨o,q,_⟩:=Z.there b hb;dY q;refine Wd D Z p p' (x:=u) (y:=v) (by simpa using hu) (by simpa using hv) λh1 Z1 t1 n1 e1=>?_;refine⟨_,rfl,wpAny_letOwnedTupleGo_zip Z1.hz λh2 z2 sb=>?_⟩;have sb':gU z h1 h2:=sb;have ch:∀b,b∉[z,TI,TO,i1,i2]->b≠z/\b≠TI/\b≠TO/\b≠i1/\b≠i2:=λb hb=>by simpa using hb
  have k2:∀b o,b∉[z,TI,TO,i1,i2]->s.heap.get? b=some o->h2.get? b=some o:=λb o hb q=>by
   obtain⟨c1,c2,c3,c4,c5⟩:=ch b hb;exact sb'.extBut b o c1 (e1 b o c1 c3 c4 c5 q)
  have t2:h2.get? s.heap.objs.size=some {cls:=.type "tuple",data:=.seq #[u,v]}:=sb'.extBut _ _ (jS (lts z (by simp))) t1;have old':∀{b:Addr}{o:HO},H b=some o->b≠s.heap.objs.size/\b∉[z,TI,TO,i1,i2]:=λ{b o} q=>⟨b0 q qM,λhb=>by
   have:=(hf b hb).1;rw[this]at q;cases q⟩
  have Z2:ZAt h2 z TI TO i1 i2 l1 l2 (i+1) .none:=by
   obtain⟨hz,hI,⟨a,c,hO⟩,⟨o1,q1,r1⟩,⟨o2,q2,r2⟩⟩:=Z1;exact⟨z2,sb'.extBut _ _ D.TIz hI,⟨a,c,sb'.extBut _ _ D.TOz hO⟩,⟨o1,sb'.extBut _ _ D.i1z q1,r1⟩,⟨o2,sb'.extBut _ _ D.i2z q2,r2⟩⟩
  have I2:Inv X pins U (upd H s.heap.objs.size (.tup [x,y])) {s with heap:=h2}:=by
   refine I.step (g':=s.gens) (d':=s.drawn) (t':=s.toks) (ch:=[z,TI,TO,i1,i2]) (λb hb=>?_) (λb o _ _ hc q _=>k2 b o hc q) (λb o _ _ hc q _=>⟨o.slots,k2 b o hc q⟩) (λb o _ q n=>?_) (λb o hc q=>⟨o,k2 b o hc q⟩)
    (λb ys q=>by rw[a6 (old' q).1];exact q) (λb o v q=>by rw[a6 (old' q).1];exact q) (λb y q=>by rw[a6 (old' q).1];exact q) (λm hm=>?_) (λb v' q=>?_) I.bare
   ·obtain⟨f0,f1,f2,f3,f4,f5⟩:=hf b hb;exact⟨f3,f1,f4,f5⟩
   ·rw[a6 (eM (dY q))];exact n
   ·obtain⟨o,es,ep,ho,r⟩:=hm;exact⟨o,es,ep,k2 _ o (λhb=>(hf _ hb).2.1 rfl) ho,r⟩
   ·by_cases hb:b=s.heap.objs.size
    ·subst hb;rw[bj]at q;cases q;exact⟨by rw[jC];simp,[u,v],.cons ru (.cons rv' .nil),_,t2,rfl,0,rfl⟩
    ·rw[a6 hb]at q;refine(I.hok b v' q).stay (λb' v'' hb' r=>k2 b' v'' ?_ r) (λb' z=>by rw[a6 (old' z).1];exact z) (λb' ys z=>by rw[a6 (old' z).1];exact z) λb' o' u' z=>by rw[a6 (old' z).1];exact z
     rcases hb' with z|z
     ·rw[z];exact(old' q).2
     ·exact(old' z).2
  refine⟨.ref s.heap.objs.size,_,I2,rfl,⟨_,x,y,qM,rfl,rfl,λzs hy=>by rw[I.tuple_inj hy hq1];exact hx,λzs hy'=>by rw[I.tuple_inj hy' hq2];exact hy⟩,Z2,λb hb=>?_⟩;rw[a6 (eM (lts b hb))];exact(hf b hb).1
 done:=by
  intro X hP hw hK hc i pins s U H E I hf Z hg;subst hP hw hK;obtain⟨xs,ys,hq1,hq2,hx⟩:=hg;obtain⟨its,rv,p,hz⟩:=I.tuple hq1;obtain⟨jts,rw',p',hz'⟩:=I.tuple hq2;have hl:=rv.length;have hl':=rw'.length;refine BE (I.ok.hd hc) D Z p p' (by rcases hx with h|h;exact .inl (by simp;lia);exact .inr (by simp;lia)) λh' eb=>⟨rfl,?_⟩;have ch:∀b,b∉[z,TI,TO,i1,i2]->b≠z/\b≠TI/\b≠TO/\b≠i1/\b≠i2:=λb hb=>by simpa using hb
  have k2:∀b o,b∉[z,TI,TO,i1,i2]->s.heap.get? b=some o->h'.get? b=some o:=λb o hb q=>by
   obtain⟨c1,c2,c3,c4,c5⟩:=ch b hb;exact eb b o c1 c3 c4 c5 q
  have old':∀{b:Addr}{o:HO},H b=some o->b∉[z,TI,TO,i1,i2]:=λ{b o} q hb=>by
   have:=(hf b hb).1;rw[this]at q;cases q
  refine I.step (g':=s.gens) (d':=s.drawn) (t':=s.toks) (ch:=[z,TI,TO,i1,i2]) (λb hb=>?_) (λb o _ _ hc q _=>k2 b o hc q) (λb o _ _ hc q _=>⟨o.slots,k2 b o hc q⟩) (λb o _ q n=>n) (λb o hc q=>⟨o,k2 b o hc q⟩)
   (λb ys q=>q) (λb o v q=>q) (λb y q=>q) (λm hm=>?_) (λb v' q=>?_) I.bare
  ·obtain⟨f0,f1,f2,f3,f4,f5⟩:=hf b hb;exact⟨f3,f1,f4,f5⟩
  ·obtain⟨o,es,ep,ho,r⟩:=hm;exact⟨o,es,ep,k2 _ o (λhb=>(hf _ hb).2.1 rfl) ho,r⟩
  ·refine(I.hok b v' q).stay (λb' v'' hb' r=>k2 b' v'' ?_ r) (λb' z=>z) (λb' ys z=>z) λb' o' u' z=>z;rcases hb' with z|z
   ·rw[z];exact old' q
   ·exact old' z
 self:=λ_ _ _ _ _ Z h=>wpAny_pyIter_zip Z.hz h
def wa:List D->List D->List D
 |x::r,y::q=>.tup [x,y]::wa r q
 |_,_=>[]
theorem N3:∀(ds es:List D)(i:Nat){d:D},(wa ds es)[i]?=some d->∃x y,ds[i]?=some x/\es[i]?=some y/\d=.tup [x,y]
 |[],es,i,d,h=>by simp[wa]at h
 |x::r,[],i,d,h=>by simp[wa]at h
 |x::r,y::q,0,d,h=>by simp[wa]at h;exact⟨x,y,rfl,rfl,h.symm⟩
 |x::r,y::q,i+1,d,h=>by
  simp only[wa,iF]at h⊢;exact N3 r q i h
theorem N4:∀(ds es:List D),(wa ds es).length=min ds.length es.length
 |[],es=>by simp[wa]
 |x::r,[]=>by simp[wa]
 |x::r,y::q=>by simp only[wa,dI,N4 r q];lia
def O4(r:En->ResL):En->ResL:=λδ=>match r δ with
 |.ok [.tup ds,.tup es]=>.ok (wa ds es)
 |.er c=>.er c
 |_=>.st
section
variable{X:Cx}{B:Hp}{E:EK}{e e':Expr}{g h:En->Res}{pos p tp:Pos}{tes:List Expr}{k1:Nat}
def aM(q:ResLP E G H (O4 r δ) P):ResLP E G H (r δ) λl=>∃ds es,l=[.tup ds,.tup es]/\P (wa ds es):=by
 unfold O4 at q;cases e:r δ with
 |ok l=>
  rw[e]at q;split at q
  ·rename_i h0;cases h0;exact⟨_,_,rfl,q⟩
  ·rename_i h0;cases h0
  ·exact q.elim
 |er c=>rw[e]at q;exact q
 |st=>rw[e]at q;exact q
def LM{K:KA}{a b:Addr}{G1:Hp}{ds es:List D}{vs us:List V}{S:Hp->Hp->Prop}(h:∀G H,S G H->Same G H->SqT K H a vs/\SqT K H b us/\Same G1 G)(dl:DenL K G1 ds vs)(el:DenL K G1 es us):B8 K (YE K a b) (wa ds es) S:=λi G H hS sg=>by
 obtain⟨q,q',g⟩:=h G H hS sg;refine⟨λd ed=>?_,λhl=>⟨vs,us,q,q',by rw[N4]at hl;rw[<-dl.length,<-el.length];lia⟩⟩;obtain⟨x0,y0,e1,e2,rfl⟩:=N3 ds es i ed;obtain⟨v,ev,dv⟩:=dl.get e1;obtain⟨u,eu,du⟩:=el.get e2;refine⟨⟨vs,us,v,u,q,q',ev,eu⟩,λx H' ⟨p,y,y',hp,h1,h2,h3,h4⟩=>?_⟩;subst h1 h2;have z:=h3 vs q;rw[ev]at z;cases z;have z:=h4 us q';rw[eu]at z;cases z;exact⟨_,Ext.new sg (.tup [v,u]) hp,qi sg hp (DenL.append (DenL.one (dv.mono g)) (DenL.one (du.mono g)))⟩
def NY(hg:Gl X "zip")(hm:X.mg "zip"=none)(h1:jc X B E e g)(h2:jc X B E e' h)(n1:iy e=true)(n2:iy e'=true):
  IL X B E (.Tuple tes k1 tp) (.Call (.Name "zip" p) [e,e'] [] pos) (O4 (af g (af h ao))):=by
 intro pins s U H R I ⟨G,δ,Rr,q⟩;have ha:Q6 X B E [true,true] [e,e'] (af g (af h ao)):=fe h1 (fe h2 ik (a8 n2)) (a8 n1);refine Call_ (xt I hg hm (by decide+kernel:jR "zip"=some (.type "zip")) (jT (iz (ha pos pins s U H (λvs H1=>∃a b,vs=[.ref a,.ref b]/\(∃xs,SqT X.K H1 a xs)/\(∃ys,SqT X.K H1 b ys)/\R (YE X.K a b) H1) I ⟨G,δ,Rr,(aM q).mono λl _ ⟨ds,es,ed,q⟩ v G1 H1 e1 ax=>?_⟩) λus s1 ⟨vs,H1,I1,r1,a,b,e1,⟨xs,hq⟩,⟨ys,hq'⟩,q1⟩=>?_) (a8 n1) ?_))
 ·subst ed;obtain⟨v1,v2,rfl,a1,a2⟩:=ArgsM.two ax;rcases a1 with ⟨a,vs,rfl,s,dl⟩|⟨ds2,a,vs,z,_⟩|⟨t,kvs,a,z,_⟩
  ·rcases a2 with ⟨b,us,rfl,s',el⟩|⟨ds2,a,vs,z,_⟩|⟨t,kvs,a,z,_⟩
   ·have t1:∀{G2 H2:Hp},Same G1 G2->Same G2 H2->SqT (kx X) H2 a vs:=λx1 sg=>.inl (.inl (sg _ _ (x1 _ _ s)));have t2:∀{G2 H2:Hp},Same G1 G2->Same G2 H2->SqT (kx X) H2 b us:=λx1 sg=>.inl (.inl (sg _ _ (x1 _ _ s')));exact⟨a,b,rfl,⟨vs,t1 (Same.refl G1) e1.gh⟩,⟨us,t2 (Same.refl G1) e1.gh⟩,q _ G1 H1 e1 (LM (λG2 H2 ⟨x1,x2⟩ sg=>⟨t1 x1 sg,t2 x1 sg,x1⟩) dl el)⟩
   ·cases z
   ·cases z
  ·cases z
  ·cases z
 ·subst e1;obtain⟨u,r,rfl,ru,rr⟩:∃u r,us=u::r/\RelV (.ref a) u/\Vals [.ref b] r:=by
   cases r1 with
   |cons h t=>exact⟨_,_,rfl,h,t⟩
  obtain⟨u2,rfl,ru2⟩:=l9 rr;cases ru;cases ru2;obtain⟨its,rv,pl,_⟩:=I1.tuple hq;obtain⟨jts,rv',pl',_⟩:=I1.tuple hq';have la:@LT.lt Nat _ a s1.heap.objs.size:=pl.lt;have lb:@LT.lt Nat _ b s1.heap.objs.size:=pl'.lt;refine T8 pl pl' λh' Z hz' hk'=>?_;have D:ZipApart (s1.heap.objs.size+4) (s1.heap.objs.size+2) (s1.heap.objs.size+3) s1.heap.objs.size (s1.heap.objs.size+1) a b:=by
   constructor<;>first|exact eM (by lia)|exact jS (by lia)
  refine wpAny_pyIter_zip Z.hz ⟨s1.heap.objs.size+4,_,_,_,H1,rfl,I1.kept (t':=s1.toks) hk',BN D,Z,λb hb=>?_,q1⟩;have hb':s1.heap.objs.size<=b:=by
   have:b=s1.heap.objs.size+4\/b=s1.heap.objs.size+2\/b=s1.heap.objs.size+3\/b=s1.heap.objs.size\/b=s1.heap.objs.size+1:=by simpa using hb
   rcases this with z|z|z|z|z<;>subst z<;>first|exact lH _ _|exact dR _
  exact I1.fpOk hb' (I1.hok.fresh hb')
 ·exact uz (by rw[fT,n2];rfl)
end
def OF:D->Option (List D)
 |.lst ds=>some ds
 |_=>none
def s9(g:En->Res):En->ResL:=λδ=>match g δ with
 | .ok d => (match OF d with
  |some ds=>.ok (m4 0 ds)
  |none=>.st)
 |.er c=>.er c
 |.st=>.st
section
variable{X:Cx}{B:Hp}{E:EK}{e:Expr}{g:En->Res}{pos p tp:Pos}{tes:List Expr}{k1:Nat}
def RI(q:ResLP E G H (s9 g δ) P):ResP E G H (g δ) λd=>∃ds,d=.lst ds/\P (m4 0 ds):=by
 unfold s9 at q;cases e:g δ with
 |ok d=>
  rw[e]at q;dsimp only at q;cases d with
  |lst ds=>exact⟨ds,rfl,q⟩
  |_=>exact q.elim
 |er c=>rw[e]at q;exact q
 |st=>rw[e]at q;exact q
def FK(hg:Gl X "enumerate")(hm:X.mg "enumerate"=none)(h:KY X B E e g)(he:eE [e] X.env=(false,eval e X.env)::eE [] X.env):
  IL X B E (.Tuple tes k1 tp) (.Call (.Name "enumerate" p) [e] [] pos) (s9 g):=by
 intro pins s U H R I ⟨G,δ,Rr,q⟩;have ha:PA X [e] (JD (bW (kx X) B E g) PX):=vo h J3 he;refine Call_ (xt I hg hm (by decide+kernel:jR "enumerate"=some (.type "enumerate")) (jT (iz (ha pos pins s U H (λvs H1=>∃a,vs=[.ref a]/\(∃xs,SqL X.K H1 a xs)/\R (YH X.K a) H1) I ⟨G,δ,Rr,(RI q).mono λd _ ⟨ds,ed,q⟩ v G1 H1 e1 ax=>?_⟩) λus s1 ⟨vs,H1,I1,r1,a,e1,hq,q1⟩=>?_) he rfl))
 ·have bh:Same B H1:=Rr.bh.trans e1.hh;subst ed;rcases ax with ⟨a,vs,rfl,s,dl⟩|⟨ds2,a,vs,z,rfl,s,dl⟩|⟨t,kvs,a,z,_⟩
  ·exact⟨a,rfl,⟨vs,SqL.mono e1.gh s⟩,q _ G1 H1 e1 (X3 (λG2 H2 ⟨x1,x2⟩ sg=>⟨SqL.mono (x1.trans sg) s,x1⟩) dl)⟩
  ·cases z;exact⟨a,rfl,⟨vs,SqL.mono bh s⟩,q _ G1 H1 e1 (X3 (λG2 H2 ⟨x1,x2⟩ sg=>⟨SqL.mono x2 s,x1⟩) dl)⟩
  ·cases z
 ·subst e1;obtain⟨u,rfl,ru⟩:=l9 r1;cases ru;have fps:∀b∈[s1.heap.objs.size+1,s1.heap.objs.size],B7 X pins H1 b:=λb hb=>by
   rcases List.mem_cons.mp hb with rfl|hb
   ·exact I1.fpOk (oX _) (I1.hok.fresh (oX _))
   ·have z:b=s1.heap.objs.size:=by simpa using hb
    subst z;exact I1.fpOk (dR _) (I1.hok.fresh (dR _))
  obtain⟨xs,hq⟩:=hq;obtain⟨its,rv,pl,_⟩:=I1.list hq;refine call_enumerate_list pl.isList λh' he' hi' hz' hk'=>?_;exact wpAny_pyIter_enum he' ⟨s1.heap.objs.size+1,[s1.heap.objs.size+1,s1.heap.objs.size],_,_,H1,rfl,I1.kept (t':=s1.toks) hk',V2 a _ _ (Nat.succ_ne_self _),⟨⟨_,he'⟩,hi'⟩,fps,q1⟩
end
def T1(a v:dG):argsOk "max" ⟨[a],[(iJ "default",v)]⟩:=by unfold argsOk;kernel_rfl
section
variable{prog:eS}{w:fI}{A:fV}{R:Result->dP->Prop}{I:Addr}{fp wr:List Addr}{n:Nat}{P:Nat->dG->Prop}{St:Nat->Heap->Prop}{kw:List (Str×dG)}
def U4(W:Walks prog w A.in1 I fp wr n P St)(bt:Nat->Nat->Bool)(hcmp:CmpOf prog w A.in1 .Gt P bt)(S:Addr)(hSf:S∉fp):
  ∀(k j:Nat)(s:dP)(vb:dG)(c:Nat),n - (j+1)=k->j+1<=n->St (j+1) s.heap->P (oJ bt j) vb->
  s.heap.get? S=some {cls:=.type "list",dict:=none,data:=.seq #[vb,vb] c,slots:=#[]}->
  (∀v h' tk,P (oJ bt (n - 1)) v->(∀b o,b∉wr->b≠S->s.heap.get? b=some o->h'.get? b=some o)->R (.ok (.ret v)) {s with heap:=h',toks:=tk})->
  lM (eJ prog w) A (.builtin "max.loop" ⟨[.ref I,.none,.ref S],kw⟩) R s:=by
 have hSw:S∉wr:=λh=>hSf (W.sub _ h);have hname:(rZ "max"++rZ ".loop":String)="max.loop":=by decide
 intro k;induction k with
 |zero=>
  intro j s vb c hk hj hst hPb hS hR;have hin:j+1=n:=by lia
  refine jE rG ?_;rw[iG kC _];show dX _ A.in1 (pU (.ref S)>>=_) _ _ s;refine dA (fU hS rfl ?_);show dX _ A.in1 (tryCatch (kZ (.ref I)) _>>=_) _ _ s;refine dA (mJ (W.done s _ _ (hin▸hst) λh' tk hk'=>?_));have hS':=hk' S _ hSw hS;show dX _ A.in1 (updateSeq S (λ_=>#[])>>=_) _ _ _;refine dA ?_;refine nI hS' rfl (dA (nV (dB ?_)));refine hR vb _ tk (by rw[<-hin];exact hPb) λb o hbw hbS e=>(fS _ _ (jJ hbS)).trans (hk' b o hbw e)
 |succ k ih=>
  intro j s vb c hk hj hst hPb hS hR;have hlt:j+1<n:=by lia
  refine jE rG ?_;rw[iG kC _];show dX _ A.in1 (pU (.ref S)>>=_) _ _ s;refine dA (fU hS rfl ?_);show dX _ A.in1 (tryCatch (kZ (.ref I)) _>>=_) _ _ s;refine dA (mJ (W.item (j+1) s _ _ hlt hst λv h' tk hP hst' hk'=>?_));have hS':=hk' S _ hSw hS;show dX _ A.in1 (tryCatch (sG [v,v] (richCompare .Gt v vb>>=_)) _>>=_) _ _ _;refine dA (mJ (gW (dA (hcmp (j+1) (oJ bt j) v vb _ _ _ hP hPb ?_))));refine dA (gW (gX ?_));refine dA (nV (dB ?_));cases hb:bt (j+1) (oJ bt j)with
  |true=>
   simp only[if_true];refine dA ?_;refine nI hS' rfl (dA (nV ?_));rw[hname];refine dB ⟨jZ kC _,ih (j+1) _ v _ (by lia) hlt (W.frame _ _ _ hst' λb hbf o e=>?_) (by simp only[oJ,hb,if_true];exact hP) (gF _ hS' rfl) λv' h'' tk'' hP' hk''=>?_⟩
   ·exact(fS _ _ (λh:S=b=>hSf (by rw[h];exact hbf))).trans e
   ·exact hR v' h'' tk'' hP' λb o hbw hbS e=>hk'' b o hbw hbS ((fS _ _ (jJ hbS)).trans (hk' b o hbw e))
  |false=>
   simp only[Bool.false_eq_true,if_false];refine dA (nV ?_);rw[hname];refine dB ⟨jZ kC _,ih (j+1) _ vb c (by lia) hlt hst' (by simp only[oJ,hb,Bool.false_eq_true,if_false];exact hPb) hS' λv' h'' tk'' hP' hk''=>?_⟩;exact hR v' h'' tk'' hP' λb o hbw hbS e=>hk'' b o hbw hbS (hk' b o hbw e)
def Po(W:Walks prog w A.in1 I fp wr n P St)(bt:Nat->Nat->Bool)(hcmp:CmpOf prog w A.in1 .Gt P bt)(S:Addr)(hSf:S∉fp){s:dP}(hst:St 0 s.heap)
  (hS:s.heap.get? S=some {cls:=.type "list",dict:=none,data:=.seq #[] c,slots:=#[]})
  (hR:∀v h' tk,(0<n->P (oJ bt (n - 1)) v)->(n=0->v=dv)->(∀b o,b∉wr->b≠S->s.heap.get? b=some o->h'.get? b=some o)->R (.ok (.ret v)) {s with heap:=h',toks:=tk}):
  lM (eJ prog w) A (.builtin "max.loop" ⟨[.ref I,.none,.ref S],[(dk,dv)]⟩) R s:=by
 have hSw:S∉wr:=λh=>hSf (W.sub _ h);have hname:(rZ "max"++rZ ".loop":String)="max.loop":=by decide
 refine jE rG ?_;rw[iG kC _];show dX _ A.in1 (pU (.ref S)>>=_) _ _ s;refine dA (fU hS rfl ?_);show dX _ A.in1 (tryCatch (kZ (.ref I)) _>>=_) _ _ s;rcases Nat.eq_zero_or_pos n with hn|hn
 ·subst hn;refine dA (mJ (W.done s _ _ hst λh' tk hk'=>?_));refine dA (lJ (dB ?_));exact hR dv h' tk (λz=>absurd z (fR 0)) (λ_=>rfl) λb o hbw _ e=>hk' b o hbw e
 ·refine dA (mJ (W.item 0 s _ _ hn hst λv h' tk hP hst' hk'=>?_));have hS':=hk' S _ hSw hS;show dX _ A.in1 (updateSeq S (λ_=>#[v,v])>>=_) _ _ _;refine dA ?_;refine nI hS' rfl ?_;rw[hname];refine dB ⟨jZ kC _,U4 W bt hcmp S hSf _ 0 _ v _ rfl hn (W.frame _ _ _ hst' λb hbf o e=>?_) hP (gF _ hS' rfl) λv' h'' tk'' hP' hk''=>?_⟩
  ·exact(fS _ _ (λh:S=b=>hSf (by rw[h];exact hbf))).trans e
  ·exact hR v' h'' tk'' (λ_=>hP') (λz=>absurd hn (by lia)) λb o hbw hbS e=>hk'' b o hbw hbS ((fS _ _ (jJ hbS)).trans (hk' b o hbw e))
end
section
variable{prog:eS}{w:fI}{A:fV}{E:dG->dP->Prop}{s:dP}
def T5
   (h:dX (eJ prog w) A.in1 (pyIter x) (λit s₂=>∃I fp wr n P St bt,it=.ref I/\Walks prog w A.in1 I fp wr n P St/\St 0 s₂.heap/\(∀b∈fp,b<s₂.heap.objs.size)/\CmpOf prog w A.in1 .Gt P bt/\
   ∀v h' tk,(0<n->P (oJ bt (n - 1)) v)->(n=0->v=dv)->(∀b o,b∉wr->s₂.heap.get? b=some o->h'.get? b=some o)->Q v {s₂ with heap:=h',toks:=tk}) E s):
  dX (eJ prog w) A (call (.builtin "max") [x] [(iJ "default",dv)]) Q E s:=by
 have hname:(rZ "max"++rZ ".loop":String)="max.loop":=by decide
 refine kmk_tree PySem.F.kind_max PySem.F.plain_max PySem.F.entry_max (T1 _ _) ?_;show dX _ A.in1 (pT "max" ["key","default"] 0 ⟨[],[(iJ "default",dv)]⟩>>=_) _ _ s;refine dA (oZ (show pT "max" ["key","default"] 0 ⟨[],[(iJ "default",dv)]⟩=pure [none,some dv]from rfl) ?_);refine dA (dB ?_);refine dA (fL h (λit s₂ h₂=>?_) λ_ _ e=>e);obtain⟨I,fp,wr,n,P,St,bt,rfl,W,hst,hfp,hcmp,hQ⟩:=h₂;refine dA (fO ?_);have hSf:s₂.heap.objs.size∉fp:=λhm=>fR _ (hfp _ hm);rw[hname];refine dB ⟨jZ kC _,Po W bt hcmp s₂.heap.objs.size hSf (W.frame _ _ _ hst λb _ o e=>dE _ e) (eD _ rfl) λv h' tk hP hz hk=>?_⟩;exact hQ v h' tk hP hz λb o hbw e=>hk b o hbw (eM (dY e)) (dE _ e)
end
end Pu
end
section
namespace Pu
open PySem PySem.Spec PyProof.Rows L2 PySem.SeqAt PySem.W
def yu:List D->Option (List Int)
 |[]=>some []
 |.int i::r=>(yu r).map (i::·)
 |_=>none
def Ar(c:Int):List Int->Int
 |[]=>c
 |i::r=>r.foldl max i
def ya(c:Int):D->Option D
 |.lst ds=>(yu ds).map λis=>.int (Ar c is)
 |_=>none
def U5:∀{l:List Int},l≠[]->Ar c (l++[x])=max (Ar c l) x
 |[],h=>absurd rfl h
 |i::r,_=>by simp[Ar,List.foldl_append]
theorem Kx{is:List Int}:∀k,k<is.length->is.getD (oJ (λi j=>decide (is.getD i 0>is.getD j 0)) k) 0=Ar c (is.take (k+1))
 |0,h=>by
  cases is with
  |nil=>simp at h
  |cons i r=>simp[oJ,Ar]
 |k+1,h=>by
  have ih:=Kx (c:=c) (is:=is) k (by lia);have e:is.take (k+1+1)=is.take (k+1)++[is.getD (k+1) 0]:=by
   rw[List.take_add_one (i:=k+1),fJ,eR h];rfl
  rw[e,U5 (by intro z;have:=congrArg kS z;rw[hV,jD]at this;lia),<-ih];simp only[oJ];generalize oJ (λi j=>decide (is.getD i 0>is.getD j 0)) k=b
  by_cases hb:is.getD (k+1) 0>is.getD b 0
  ·simp only[hb,decide_true,if_true];lia
  ·simp only[hb,decide_false,Bool.false_eq_true,if_false];lia
theorem Hg:∀{ds:List D}{is:List Int},yu ds=some is->ds=is.map D.int
 |[],is,h=>by cases h;rfl
 |d::r,is,h=>by
  cases d with
  |int i=>
   unfold yu at h;cases e:yu r with
   |none=>rw[e]at h;cases h
   |some js=>rw[e]at h;cases h;rw[Hg e];rfl
  |_=>cases h
section
variable{X:Cx}{B:Hp}{E:EK}{e:Expr}{g:En->Res}{pos p cp kp:Pos}{c:Int}{kd:Nat}
def GM(hc:X.calm=true)(ha:jc X B E e g)(hg:Gl X "max")(hm:X.mg "max"=none)(hn:iy e=true):fq X B E (.Call (.Name "max" p) [e] [⟨some "default",.Constant (.int c) kd cp,kp⟩] pos) (g1 (ya c) g):=by
 intro pins s U H Q I ⟨G,δ,R,q⟩;unfold g1 at q;refine kE (xt I hg hm (by decide+kernel:jR "max"=some (.builtin "max")) ?_ (by decide) (by decide));have he:eE [e] X.env=(false,eval e X.env)::eE [] X.env:=a8 hn;have PA1:=fe ha ik he;refine callWith_kw (iz (PA1 pos pins s U H (λvs H1=>∃d v G1,vs=[v]/\Ext G H G1 H1/\Arg (kx X) G1 H1 d v/\g δ=.ok d) I ⟨G,δ,R,?_⟩) λus s1 ⟨vs,H1,I1,r1,d,v,G1,hv,e1,ad,eg⟩=>?_) (by rw[he];rfl) (by rw[he];rfl)
 ·unfold af ao;cases eg:g δ with
  |er c=>rw[eg]at q;exact q
  |st=>rw[eg]at q;exact q
  |ok d=>
   intro vs G' H' e1 al;obtain⟨v,rfl,ad⟩:=ArgsM.one al;exact⟨d,v,G',rfl,e1,ad,rfl⟩
 subst hv;obtain⟨u,rfl,ru⟩:=l9 r1;rw[eg]at q;obtain⟨d',ed,q⟩:=ResP.of (show ResP E G H (Res.of (ya c d)) _ from q);refine kws_cons (iz (Zc (X:=X) (i:=c) (j:=kd) (pos:=cp) pins s1 U H1 (λv H2=>v=.int c/\H2=H1) I1 ⟨rfl,rfl⟩) λf s2 ⟨fv,H2,I2,r2,z1,z2⟩=>kws_nil ?_);subst z1 z2;obtain⟨ct,rfl⟩:=r2;unfold ya at ed;cases d with
 |lst ds=>
  dsimp only at ed;cases ei:yu ds with
  |none=>rw[ei]at ed;cases ed
  |some is=>
   rw[ei]at ed;cases ed;have eds:=Hg ei;obtain⟨a,vs,rfl,sq,dl⟩:=ad.lst e1.gh;cases ru;obtain⟨its,rv,pl,hz⟩:=I2.list sq;have al:=dY (show s2.heap.get? a=some _ from(pl.isList).choose_spec.1);have hne:a≠s2.heap.objs.size:=eM al;have len:its.length=is.length:=by rw[<-rv.length,<-dl.length,eds,dD]
   have val:∀i v,its.toArray[i]?=some v->∃t,v=mO (is.getD i 0) t:=λi v hv=>by
    have hv:its[i]?=some v:=by simpa using hv
    have hi:i<is.length:=by rw[<-len];exact(List.getElem?_eq_some_iff.mp hv).1
    have hd:ds[i]?=some (D.int (is.getD i 0)):=by rw[eds,eP,eR hi,fJ,eR hi];rfl
    obtain⟨w,hw,dw⟩:=dl.get hd;obtain⟨u,hu,ru⟩:=rv.get hw;rw[hv]at hu;cases hu;rw[show w=V.int (is.getD i 0)from dw]at ru;exact ru
   refine T5 (lW pl.isList ⟨_,_,_,_,_,_,_,rfl,Walks.list (A:=X.A.in1) (I2.ok.hd hc) _ a hne its.toArray,⟨⟨_,eD _ rfl,rfl,rfl⟩,pl.isList.push _⟩,λb hb=>?_,CmpOf.ints_gt (λi=>is.getD i 0) val,λv h' tk hP hZ hk=>?_⟩)
   ·show b<(s2.heap.push _).objs.size;rw[iR];rcases List.mem_cons.mp hb with rfl|hb
    ·exact rF _
    ·rcases List.mem_cons.mp hb with rfl|hb
     ·exact oG al
     ·cases hb
   ·have key:∃t,v=mO (Ar c is) t:=by
     cases hl:is with
     |nil=>
      have:v=mO c ct:=hZ (by rw[eF,len,hl];rfl);exact⟨ct,this⟩
     |cons i r=>
      have h0:0<its.toArray.size:=by rw[eF,len,hl];exact Nat.succ_pos _
      obtain⟨t,rfl⟩:=val _ _ (hP h0);have bm:=Kx (c:=c) (is:=is) (its.toArray.size - 1) (by rw[eF,len]at h0⊢;lia);rw[bm,show its.toArray.size - 1+1=is.length by rw[eF,len]at h0⊢;lia,List.take_length,hl];exact⟨t,rfl⟩
    have kp':∀b o,s2.heap.get? b=some o->h'.get? b=some o:=λb o e=>by
     refine hk b o (λhm=>?_) (dE _ e);rcases List.mem_cons.mp hm with z|hm
     ·exact absurd (z▸dY e) (fR _)
     ·cases hm
    exact⟨.int (Ar c is),_,I2.kept (t':=tk) kp',key,q (.int (Ar c is)) G1 _ e1 rfl⟩
 |_=>cases ed
end
end Pu
end
section
namespace Pu
open PySem PySem.Spec PyProof.Rows L2
noncomputable def CU:Operator->Option (D->D->Option D)
 |.Add=>some bf
 |.Sub=>some w8
 |.Mult=>some lg
 |.Mod=>some Bz
 |.FloorDiv=>some P5
 |.Pow=>some Na
 |_=>none
def NN(hf:CU op=some f)(ha:jc X B E a g)(hb:jc X B E b h):fq X B E (.BinOp a op b pos) (g2 f g h):=by
 cases op<;>cases hf
 ·exact NQ ha hb
 ·exact OY ha hb
 ·exact NF ha hb
 ·exact NG ha hb
 ·exact NA ha hb
 ·exact GR ha hb
noncomputable def AO:List Bool->List ((En->Res)×(En->Res))->En->ResL
 |[],[]=>ao
 |m::ms,p::ps=>af (if m then p.1 else p.2) (AO ms ps)
 |_,_=>LR
theorem Tg:∀{ms:List Bool}{es:List Expr},AO ms (es.map λe=>(lr ev C e,ev C e))=LS ev C ms es
 |[],[]=>rfl
 |[],_::_=>rfl
 |_::_,[]=>rfl
 |m::ms,e::es=>by
  show af (if m then lr ev C e else ev C e) (AO ms (es.map λe=>(lr ev C e,ev C e)))=af (if m then lr ev C e else ev C e) (LS ev C ms es);rw[Tg]
noncomputable def Dy(T:GT)(i:Nat)(ps:List ((En->Res)×(En->Res))):En->Res:=λδ=>match ah i δ with
 | .ok (.fn y) => (match T.fns y with
  |some s=>aq s.f (AO s.ms ps) δ
  |none=>.st)
 |_=>.st
def O1(T:GT)(ev:Ev)(C:SC)(i:Nat)(args:List Expr):En->Res:=Dy T i (args.map λe=>(lr ev C e,ev C e))
section
variable{T:GT}{ev tv:Ev}{X:Cx}{C:SC}{B:Hp}{E:XK}{pos p:Pos}{x:Str}{e a:Expr}{es:List Expr}
def Ww(h:jd T ev)(O:XOk X C T E)(hs:slot C x=some i)(hn:(e::es).all iy=true):fq X B (ek (kx X) E) (.Call (.Name x p) (e::es) [] pos) (O1 T ev C i (e::es)):=by
 intro pins s U H Q I ⟨G,δ,R,q⟩;unfold O1 Dy at q;cases ea:ah i δ with
 |er c=>rw[ea]at q;exact q.elim
 |st=>rw[ea]at q;exact q.elim
 |ok d=>
  rw[ea]at q;cases d with
  |fn y=>
   dsimp only at q;cases ef:T.fns y with
   |none=>rw[ef]at q;exact q.elim
   |some sp=>
    rw[ef]at q;dsimp only at q;rw[Tg]at q;obtain⟨k,f,fd,ps,hr,hm,hk,hb,F⟩:=O.fns y sp ef;obtain⟨v,q1,q2⟩:=R.arg ea;have ev':v=.ref f:=by rw[q2.fn];show V.ref (Fs X.mg y)=_;rw[mq hm]
    subst ev';have hn':=hn;rw[fT,dQ]at hn';refine kE (iz (O.var hs pins s U H (λv H1=>v=.ref f/\H1=H) I ⟨_,q1,rfl,rfl⟩) λu s1 ⟨v,H1,I1,r1,e1,e2⟩=>?_);subst e1 e2;cases r1;refine PySem.W.callWith_K (h₀:=X.base) I.ok.mod.kin hk (iz (Gf (B:=B) (E:=E) h O (ms:=sp.ms) hn pos pins s1 U H1 (λvs H2=>Qm (kx X) sp.ms sp.f vs H2 Q E) I1 ⟨G,δ,R,(IG q).mono λds _ q vs G1 H2 e1 al=>
     ⟨al.length.2,R.gb.same (R.bh.trans e1.hh),G1,ds,e1.gh,al,(q.ext e1).mono λd _ q v G' H' e2 dn=>q v G' H' (e1.trans e2) dn⟩⟩) λus s2 ⟨vs,H2,I2,r,q2⟩=>⟨I2.kIn,?_⟩) (a8 hn'.1) (uz hn'.2)
    exact P9 (dvs:=[]) F hr hb .nil O.goes I2 r (by rw[gZ];exact q2)
  |_=>exact q.elim
end
noncomputable def WY(x:Str):Option (D->Option D):=
 if x="len" then some bu else if x="list" then some iw else if x="tuple" then some c9 else if x="int" then some M9 else if x="all" then some Bw else if x="sorted" then some nq else if x="dict" then some r9 else none
section
variable{X:Cx}{B:Hp}{E:EK}{e a b:Expr}{es:List Expr}{g h:En->Res}{pos p:Pos}{x:Str}
def KI(O:XOk X C T E')(hf:WY x=some f)(hg:Gl X x)(hn:iy e=true)(ha:jc X B E e g):fq X B E (.Call (.Name x p) [e] [] pos) (g1 f g):=by
 unfold WY at hf
 by_cases h1:x="len"
 ·rw[dJ h1]at hf;cases hf;subst h1;exact NI hg (O.bl _ (by decide)) ha (a8 hn) rfl
 rw[dM h1]at hf
 by_cases h1:x="list"
 ·rw[dJ h1]at hf;cases hf;subst h1;exact Y6 (Mx O.calm hg (O.bl _ (by decide)) ha hn) Ut
 rw[dM h1]at hf
 by_cases h1:x="tuple"
 ·rw[dJ h1]at hf;cases hf;subst h1;exact Zz hg (O.bl _ (by decide)) ha (a8 hn) rfl
 rw[dM h1]at hf
 by_cases h1:x="int"
 ·rw[dJ h1]at hf;cases hf;subst h1;exact GO hg (O.bl _ (by decide)) ha (a8 hn) rfl
 rw[dM h1]at hf
 by_cases h1:x="all"
 ·rw[dJ h1]at hf;cases hf;subst h1;exact NP O.calm hg (O.bl _ (by decide)) ha (a8 hn)
 rw[dM h1]at hf
 by_cases h1:x="sorted"
 ·rw[dJ h1]at hf;cases hf;subst h1;exact Vk (by have:=O.units;lia) O.calm hg (O.bl _ (by decide)) ha (a8 hn)
 rw[dM h1]at hf
 by_cases h1:x="dict"
 ·rw[dJ h1]at hf;cases hf;subst h1;exact Zw O.calm hg (O.bl _ (by decide)) ha (a8 hn)
 rw[dM h1]at hf;cases hf
noncomputable def Se(x:Str):Option String:=
 if x="int" then some "int" else if x="bool" then some "bool" else if x="str" then some "str" else if x="list" then some "list" else if x="tuple" then some "tuple" else none
def DH(O:XOk X C T E')(hf:Se y=some c)(hg:Gl X "isinstance")(hg2:Gl X y)(hn:iy e=true)(ha:jc X B E e g):fq X B E (.Call (.Name "isinstance" p) [e,.Name y p2] [] pos) (g1 (bb c) g):=by
 have he:eE [e,.Name y p2] X.env=(false,eval e X.env)::eE [.Name y p2] X.env:=a8 hn;unfold Se at hf
 by_cases h1:y="int"
 ·rw[dJ h1]at hf;cases hf;subst h1;exact Ez DG hg (O.bl _ (by decide)) hg2 (O.bl _ (by decide)) PyProof.Rows.boot_int ha (by decide) (by decide) he rfl rfl
 rw[dM h1]at hf
 by_cases h1:y="bool"
 ·rw[dJ h1]at hf;cases hf;subst h1;exact Ez Yc hg (O.bl _ (by decide)) hg2 (O.bl _ (by decide)) PyProof.Rows.boot_bool ha (by decide) (by decide) he rfl rfl
 rw[dM h1]at hf
 by_cases h1:y="str"
 ·rw[dJ h1]at hf;cases hf;subst h1;exact Ez DF hg (O.bl _ (by decide)) hg2 (O.bl _ (by decide)) PyProof.Rows.boot_str ha (by decide) (by decide) he rfl rfl
 rw[dM h1]at hf
 by_cases h1:y="list"
 ·rw[dJ h1]at hf;cases hf;subst h1;exact Ez Yd hg (O.bl _ (by decide)) hg2 (O.bl _ (by decide)) PyProof.Rows.boot_list ha (by decide) (by decide) he rfl rfl
 rw[dM h1]at hf
 by_cases h1:y="tuple"
 ·rw[dJ h1]at hf;cases hf;subst h1;exact Ez Uz hg (O.bl _ (by decide)) hg2 (O.bl _ (by decide)) PyProof.Rows.boot_tuple ha (by decide) (by decide) he rfl rfl
 rw[dM h1]at hf;cases hf
end
noncomputable def J9(C:SC)(n:Str)(a:Expr):Option Expr:=match a with
 |.Call (.Name y _) [e] [] _=>if decide (y=n) && decide (slot C y=none) && Kp C y && iy e then some e else none
 |_=>none
noncomputable def Qn(ev:Ev)(C:SC)(x:Str)(args:List Expr):En->Res:=match args with
 | [a] => (match J9 C "set" a with
  |some e=>if x="sorted" then g1 sa (lr ev C e)else jq
  | none => (match WY x with
    |some f=>if iy a then g1 f (lr ev C a)else jq
    |none=>jq))
 | [a, .Name y _] => if x = "isinstance" then (match Se y with
   |some c=>if iy a && Kp C y then g1 (bb c) (lr ev C a)else jq
   |none=>jq)else jq
 |[a,b]=>if iy a && iy b then(if x="min" then g2 E3 (lr ev C a) (lr ev C b)else if x="max" then g2 Z5 (lr ev C a) (lr ev C b)else jq)else jq
 |_=>jq
noncomputable def ze(T:GT)(ev:Ev)(C:SC)(x:Str)(args:List Expr):En->Res:=match slot C x with
 | some i => (match args with
  |[]=>jq
  |e::es=>if(e::es).all iy then O1 T ev C i (e::es)else jq)
 | none => if Kp C x then (match T.fns x with
  | some s => (match args with
   |[]=>if s.ms=[]then(λ_=>s.f [])else jq
   |e::es=>if(e::es).all iy then aq s.f (LS ev C s.ms (e::es))else jq)
  |none=>Qn ev C x args)else jq
section
variable{T:GT}{ev tv:Ev}{X:Cx}{C:SC}{B:Hp}{E:XK}{pos p:Pos}{x:Str}{e a:Expr}{es:List Expr}
def Vv(O:XOk X C T E)(h:J9 C n a=some e):∃p pos,a=.Call (.Name n p) [e] [] pos/\Gl X n/\iy e=true:=by
 unfold J9 at h;split at h
 ·rename_i y p e' pos;split at h
  ·rename_i c;cases h;simp only[dQ,decide_eq_true_eq]at c;obtain⟨⟨⟨rfl,_⟩,h3⟩,h4⟩:=c;exact⟨p,pos,rfl,(O.gl h3).1,h4⟩
  ·cases h
 ·cases h
def RP(h:jd T ev)(O:XOk X C T E)(hg:Gl X x):fq X B (ek (kx X) E) (.Call (.Name x p) args [] pos) (Qn ev C x args):=by
 unfold Qn;split
 ·rename_i a;cases hs:J9 C "set" a with
  |some e=>
   dsimp only;obtain⟨p2,pos2,rfl,hg2,hn⟩:=Vv O hs
   by_cases h1:x="sorted"
   ·subst h1;rw[dJ rfl];exact Vj (by have:=O.units;lia) O.calm hg (O.bl _ (by decide)) hg2 (O.bl _ (by decide)) (cy h O e) (a8 hn)
   ·rw[dM h1];exact ck
  |none=>
   dsimp only;cases hf:WY x with
   |none=>exact ck
   |some f=>
    dsimp only
    by_cases hn:iy a=true
    ·rw[dJ hn];exact KI O hf hg hn (cy h O a)
    ·rw[dM hn];exact ck
 ·rename_i a y p2
  by_cases hx:x="isinstance"
  ·subst hx;rw[dJ rfl];cases hf:Se y with
   |none=>exact ck
   |some c=>
    dsimp only
    by_cases hn:(iy a && Kp C y)=true
    ·rw[dJ hn];rw[dQ]at hn;exact DH O hf hg (O.gl hn.2).1 hn.1 (cy h O a)
    ·rw[dM hn];exact ck
  ·rw[dM hx];exact ck
 ·rename_i a b _
  by_cases hn:(iy a && iy b)=true
  ·rw[dJ hn];rw[dQ]at hn
   by_cases h1:x="min"
   ·subst h1;rw[dJ rfl];exact GL O.calm hg (O.bl _ (by decide)) (cy h O a) (cy h O b) (a8 hn.1) (a8 hn.2)
   ·rw[dM h1]
    by_cases h2:x="max"
    ·subst h2;rw[dJ rfl];exact GN O.calm hg (O.bl _ (by decide)) (cy h O a) (cy h O b) (a8 hn.1) (a8 hn.2)
    ·rw[dM h2];exact ck
  ·rw[dM hn];exact ck
 ·exact ck
def rj(h:jd T ev)(O:XOk X C T E):fq X B (ek (kx X) E) (.Call (.Name x p) args [] pos) (ze T ev C x args):=by
 unfold ze;cases hs:slot C x with
 |some i=>
  cases args with
  |nil=>exact ck
  |cons e es=>
   dsimp only
   by_cases hn:(e::es).all iy=true
   ·rw[dJ hn];exact Ww h O hs hn
   ·rw[dM hn];exact ck
 |none=>
  dsimp only
  by_cases hg:Kp C x=true
  ·rw[dJ hg];obtain⟨g1,g2⟩:=O.gl hg;cases ef:T.fns x with
   |none=>exact RP h O g1
   |some s=>
    obtain⟨k,f,fd,ps,hr,hm,hk,hb,F⟩:=O.fns x s ef;cases args with
    |nil=>
     dsimp only
     by_cases hms:s.ms=[]
     ·rw[dJ hms];rw[hms]at F;exact Zu F hr g1 hm hk hb O.goes g2
     ·rw[dM hms];exact ck
    |cons e es=>
     dsimp only
     by_cases hn:(e::es).all iy=true
     ·rw[dJ hn];have hn':=hn;rw[fT,dQ]at hn';exact GU F hr g1 hm hk hb O.goes (Gf h O hn) g2 (a8 hn'.1) (uz hn'.2)
     ·rw[dM hn];exact ck
  ·rw[dM hg];exact ck
end
def SX:Expr->Option (Arguments×Expr×jW×Pos)
 |.Lambda a b c p=>some (a,b,c,p)
 |_=>none
def DS:Expr->Option Int
 |.Constant (.int i) _ _=>some i
 |_=>none
def DR(h:DS e=some i):∃kd cp,e=.Constant (.int i) kd cp:=by
 unfold DS at h;split at h
 ·cases h;exact⟨_,_,rfl⟩
 ·cases h
noncomputable def Cz(T:GT)(ev:Ev)(C:SC)(x:Str)(args:List Expr)(kw:lP):En->Res:=match args with
 | [e] => (match SX kw.value with
  |some _=>jq
  | none => (match DS kw.value with
   |some c=>if decide (x="max") && Kp C x && decide (kw.arg=some "default") && iy e then g1 (ya c) (lr ev C e)else jq
   |none=>jq))
 |_=>jq
def LC(h:jd T ev)(O:XOk X C T E):fq X B (ek (kx X) E) (.Call (.Name x p) args [kw] pos) (Cz T ev C x args kw):=by
 unfold Cz;split
 ·rename_i e;cases hl:SX kw.value with
  |none=>
   dsimp only;cases hi:DS kw.value with
   |none=>exact ck
   |some c=>
    dsimp only
    by_cases hc:(decide (x="max") && Kp C x && decide (kw.arg=some "default") && iy e)=true
    ·rw[dJ hc];simp only[dQ,decide_eq_true_eq]at hc;obtain⟨⟨⟨rfl,h2⟩,h3⟩,h4⟩:=hc;obtain⟨ka,kv,kp⟩:=kw;dsimp only at hi h3;subst h3;obtain⟨kd,cp,rfl⟩:=DR hi;exact GM O.calm (cy h O e) (O.gl h2).1 (O.bl _ (by decide)) h4
    ·rw[dM hc];exact ck
  |some q=>exact ck
 ·exact ck
def vk(C:SC)(x:Str):Bool:=decide (x="range") && decide (slot C x=none) && Kp C x
noncomputable def Kg(ev:Ev)(C:SC)(iter:Expr):En->ResL:=match iter with
 |.Call (.Name x _) [a] [] _=>if vk C x && iy a then je (LS ev C [true] [a])else a5 (lr ev C iter)
 |_=>a5 (lr ev C iter)
def DY(ev:Ev)(C:SC)(e:Expr):En->Res:=match e with
 | .Name x _ => (match slot C x with
  |some i=>vz i
  |none=>ev C e)
 |_=>ev C e
noncomputable def AG(ev:Ev)(C:SC)(iter:Expr):En->ResL:=match iter with
 |.Call (.Name x _) [a] [] _=>if vk C x && iy a then je (LS ev C [true] [a])else a5 (DY ev C iter)
 |_=>a5 (DY ev C iter)
section
variable{T:GT}{ev tv:Ev}{X:Cx}{C:SC}{B:Hp}{E:XK}{pos p:Pos}{x:Str}{e a tg:Expr}{es:List Expr}
def Wt(h:jd T ev)(O:XOk X C T E)(e:Expr):KY X B (ek (kx X) E) e (DY ev C e):=by
 have d:KY X B (ek (kx X) E) e (ev C e):=RO (h X C B E e O);cases e with
 |Name x p=>
  show KY X B _ _ (match slot C x with
   |some i=>vz i
   |none=>ev C (.Name x p))
  cases es:slot C x with
  |none=>exact d
  |some i=>exact KF i (O.var es)
 |_=>exact d
def Nb(O:XOk X C T E)(h:vk C x=true):x="range"/\Gl X "range"/\X.mg "range"=none:=by
 unfold vk at h;simp only[dQ,decide_eq_true_eq]at h;obtain⟨⟨h1,h2⟩,h3⟩:=h;subst h1;exact⟨rfl,(O.gl h3).1,O.bl _ (by decide)⟩
def ZQ(h:jd T ev)(O:XOk X C T E)(e:Expr):IL X B (ek (kx X) E) tg e (AG ev C e):=by
 unfold AG;split
 ·rename_i x _ a _
  by_cases hc:(vk C x && iy a)=true
  ·rw[dJ hc];rw[dQ]at hc;obtain⟨rfl,g1,g2⟩:=Nb O hc.1;exact S4 g1 g2 (Gf h O (by rw[fT,hc.2];rfl)) (a8 hc.2)
  ·rw[dM hc];exact Zf (Wt h O _)
 ·exact Zf (Wt h O _)
noncomputable def Jj(C:SC)(tg iter:Expr):Option Expr:=match tg,iter with
 |.Tuple _ _ _,.Call (.Name y _) [e] [] _=>if decide (y="enumerate") && decide (slot C y=none) && Kp C y && iy e then some e else none
 |_,_=>none
noncomputable def Q5(C:SC)(tg iter:Expr):Option (Expr×Expr):=match tg,iter with
 |.Tuple _ _ _,.Call (.Name y _) [a,b] [] _=>if decide (y="zip") && decide (slot C y=none) && Kp C y && iy a && iy b then some (a,b)else none
 |_,_=>none
def Fk(ev:Ev)(C:SC)(tg iter:Expr):En->ResL:=match Jj C tg iter with
 |some e=>s9 (DY ev C e)
 | none => (match Q5 C tg iter with
  |some p=>O4 (af (lr ev C p.1) (af (lr ev C p.2) ao))
  |none=>AG ev C iter)
def JX(h:jd T ev)(O:XOk X C T E)(e:Expr):IL X B (ek (kx X) E) tg e (Fk ev C tg e):=by
 unfold Fk;cases he:Jj C tg e with
 |none=>
  dsimp only;cases hz:Q5 C tg e with
  |none=>exact ZQ h O e
  |some p=>
   obtain⟨a,b⟩:=p;dsimp only;unfold Q5 at hz;split at hz
   ·rename_i y p a' b' pos;split at hz
    ·rename_i c;cases hz;simp only[dQ,decide_eq_true_eq]at c;obtain⟨⟨⟨⟨rfl,_⟩,h3⟩,h4⟩,h5⟩:=c;exact NY (O.gl h3).1 (O.bl _ (by decide)) (cy h O a) (cy h O b) h4 h5
    ·cases hz
   ·cases hz
 |some a=>
  dsimp only;unfold Jj at he;split at he
  ·rename_i y p a' pos;split at he
   ·rename_i c;cases he;simp only[dQ,decide_eq_true_eq]at c;obtain⟨⟨⟨rfl,_⟩,h3⟩,h4⟩:=c;exact FK (O.gl h3).1 (O.bl _ (by decide)) (Wt h O a) (a8 h4)
   ·cases he
  ·cases he
def JY(h:jd T ev)(O:XOk X C T E)(e:Expr):Tw X B (ek (kx X) E) tg e (Kg ev C e):=by
 unfold Kg;split
 ·rename_i x _ a _
  by_cases hc:(vk C x && iy a)=true
  ·rw[dJ hc];rw[dQ]at hc;obtain⟨rfl,g1,g2⟩:=Nb O hc.1;exact Zg (S4 g1 g2 (Gf h O (by rw[fT,hc.2];rfl)) (a8 hc.2))
  ·rw[dM hc];exact S6 (cy h O _)
 ·exact S6 (cy h O _)
end
noncomputable def Tn(ev:Ev)(C:SC)(o:Expr)(m:Str)(args:List Expr):En->Res:=match args with
 |[a]=>if Au o && iy a then(if m="index" then gM o8 (lr ev C o) (lr ev C a)else jq)else jq
 |[a,b]=>if Au o && iy a && iy b then(if m="get" then iu (lr ev C o) (lr ev C a) (ev C b)else jq)else jq
 |_=>jq
def ZN(h:jd T ev)(O:XOk X C T E){ap cp:Pos}(hl:(ap.endLine==cp.line)=true):fq X B (ek (kx X) E) (.Call (.Attribute o m ap) args [] cp) (Tn ev C o m args):=by
 unfold Tn;split
 ·rename_i a
  by_cases hc:(Au o && iy a)=true
  ·rw[dJ hc];rw[dQ]at hc
   by_cases hm:m="index"
   ·subst hm;rw[dJ rfl];exact Zx O.units (cy h O o) (cy h O a) hc.1 hc.2 hl
   ·rw[dM hm];exact ck
  ·rw[dM hc];exact ck
 ·rename_i a b
  by_cases hc:(Au o && iy a && iy b)=true
  ·rw[dJ hc];rw[dQ,dQ]at hc;obtain⟨⟨h1,h2⟩,h3⟩:=hc
   by_cases hm:m="get"
   ·subst hm;rw[dJ rfl];have hu:X.A.units+5<gQ:=by have:=O.units;lia
    exact GQ hu (cy h O o) (cy h O a) (h X C B E b O) ⟨Br h1,by rw[uy (by rw[fT,fT,h2,h3];rfl)];rfl,hl,Nl h2 h3⟩
   ·rw[dM hm];exact ck
  ·rw[dM hc];exact ck
 ·exact ck
noncomputable def ny(ev tv:Ev)(C:SC)(elt:Expr)(gens:List Comprehension)(scope:jW):En->Res:=match gens with
 | [⟨.Name x _, iter, ifs, 0⟩] => if uc C scope [x] && l7 iter then (match slots C (gi scope.names) with
  | some ix => (match ifs with
   |[]=>cb (Kg ev C iter) ix (gC (.bl true)) (ev (rm C scope [x]) elt)
   |[c]=>cb (Kg ev C iter) ix (tv (rm C scope [x]) c) (ev (rm C scope [x]) elt)
   |_=>jq)
  |none=>jq)else jq
 | [⟨.Tuple [.Name x px, .Name y py] k tp, iter, [], 0⟩] => if uc C scope [x, y] && l7 iter then (match slots C (gi scope.names) with
  |some ix=>m5 (Fk ev C (.Tuple [.Name x px,.Name y py] k tp) iter) (B5 ix (ev (rm C scope [x,y]) elt))
  |none=>jq)else jq
 |_=>jq
inductive CompV(X:Cx)(B:Hp)(E:EK)(elt:Expr)(gens:List Comprehension)(scope:jW)(G:En->Res):Prop
 |st (h:G=jq)
 |ok {tg iter:Expr} {ifs:List Expr} {xs M:List Str} {ix:List Nat} {td:D->Option (List D)} {t g:En->Res} {r:En->ResL} {f:En->D->Option (Option D)} (eg:gens=[⟨tg,iter,ifs,0⟩]) (eG:G=m5 r f)
  (st:X.Ok->∃cl,CompOk X scope cl xs M ix/\BlockOk X B E scope cl xs M tg td elt ifs t g) (hF:∀δ,C6 td (mr ix δ) t g (f δ)) (hi:Tw X B E tg iter r) (hs:∀x,kQ iter X.env x=pure x)
section
variable{T:GT}{ev tv:Ev}{X:Cx}{C:SC}{B:Hp}{E:XK}{pos p:Pos}{elt:Expr}
def ID(h:jd T ev)(ht:Fv T tv)(O:XOk X C T E):CompV X B (ek (kx X) E) elt gens scope (ny ev tv C elt gens scope):=by
 unfold ny;split
 ·rename_i x px iter ifs
  by_cases hc:(uc C scope [x] && l7 iter)=true
  ·rw[dJ hc];rw[dQ]at hc;obtain⟨hc,hset⟩:=hc;cases hx:slots C (gi scope.names)with
   |none=>exact .st rfl
   |some ix=>
    dsimp only;cases ifs with
    |nil=>
     refine .ok (tg:=.Name x px) (td:=WT) (ifs:=[]) (xs:=[x]) (M:=gi scope.names) (ix:=ix) (t:=gC (.bl true)) (g:=ev (rm C scope [x]) elt) rfl rfl (λok=>?_) (λδ=>BP) (JY h O iter) (ro hset);obtain⟨cl,O2⟩:=ud O ok hc hx;exact⟨cl,O2,Tq O2,.inl ⟨rfl,rfl⟩,λCc s₀ H₀ ex pn=>h _ _ B E0 elt (yk O hc Cc s₀ H₀ ex pn)⟩
    |cons c r=>
     cases r with
     |nil=>
      refine .ok (tg:=.Name x px) (td:=WT) (ifs:=[c]) (xs:=[x]) (M:=gi scope.names) (ix:=ix) (t:=tv (rm C scope [x]) c) (g:=ev (rm C scope [x]) elt) rfl rfl (λok=>?_) (λδ=>BP) (JY h O iter) (ro hset);obtain⟨cl,O2⟩:=ud O ok hc hx;exact⟨cl,O2,Tq O2,.inr ⟨c,rfl,λCc s₀ H₀ ex pn=>ht _ _ B E0 c (yk O hc Cc s₀ H₀ ex pn)⟩,λCc s₀ H₀ ex pn=>h _ _ B E0 elt (yk O hc Cc s₀ H₀ ex pn)⟩
     |cons _ _=>exact .st rfl
  ·rw[dM hc];exact .st rfl
 ·rename_i x px y py k tp iter
  by_cases hc:(uc C scope [x,y] && l7 iter)=true
  ·rw[dJ hc];rw[dQ]at hc;obtain⟨hc,hset⟩:=hc;cases hx:slots C (gi scope.names)with
   |none=>exact .st rfl
   |some ix=>
    dsimp only;refine .ok (tg:=.Tuple [.Name x px,.Name y py] k tp) (td:=QM) (ifs:=[]) (xs:=[x,y]) (M:=gi scope.names) (ix:=ix) (t:=gC (.bl true)) (g:=ev (rm C scope [x,y]) elt) rfl rfl (λok=>?_) (λδ=>PN) (Zg (JX h O iter)) (ro hset);obtain⟨cl,O2⟩:=ud O ok hc hx;exact⟨cl,O2,BV O2 O.calm,.inl ⟨rfl,rfl⟩,λCc s₀ H₀ ex pn=>h _ _ B E0 elt (yk O hc Cc s₀ H₀ ex pn)⟩
  ·rw[dM hc];exact .st rfl
 ·exact .st rfl
def Dj(h:jd T ev)(ht:Fv T tv)(O:XOk X C T E):CY X B (ek (kx X) E) (.ListComp elt gens scope pos) (ny ev tv C elt gens scope)/\IsL (ny ev tv C elt gens scope):=by
 cases ID (B:=B) (elt:=elt) (gens:=gens) (scope:=scope) h ht O with
 |st e=>rw[e];exact⟨SE,λδ d h=>by cases h⟩
 |ok eg eG st hF hi hs=>
  rw[eG];subst eg;refine⟨λpins s U H Q I q=>?_,Us⟩;obtain⟨cl,O2,Bk⟩:=st I.ok;exact FU O2 O.calm Bk hF hi hs pins s U H Q I q
end
end Pu
end
section
namespace Pu
open PySem PySem.Spec PyProof.Rows L2 HT
section
variable{prog:eS}{w:fI}{A:fV}{E:dG->dP->Prop}{s:dP}
def F8{t sl:Addr}{items:Array dG}{vl vu:dG}{lo hi:Option Int}{Q:dG->dP->Prop}(ht:nW s.heap t items)(hs:s.heap.IsSliceOf sl vl vu .none)(pl:rM vl lo)(pu:rM vu hi)
  (hw:HT.jl items.size 0 lo=0/\HT.jl items.size items.size hi=items.size)(h:Q (.ref t) s):dX (eJ prog w) A (rN (.ref t) (.ref sl)) Q E s:=by
 obtain⟨os,hos,hcs,hds⟩:=id hs;have hTs:s.TypeIs (.ref sl) "slice":=⟨os,hos,hcs⟩;unfold rN
 try with_reducible refine gW ?_
 first|refine dA (dB ?_)|skip
 refine dA (wpAny_sequenceKey ht.typeIs (by decide) ?_);refine dA (fW (name:=iJ "__getitem__") ht.typeIs jF (fP jF ht.typeIs entry_tuple_getitem ?_ (args_tuple_getitem _ _)));show dX _ _ (mC (.ref t)>>=_) _ _ s;refine dA (tupleItemsOf_ ht ?_);refine dA (lO hTs ?_);rw[dJ (by decide)];refine dA (HT.q9 hs pl pu ?_);show dX _ _ (if(((HT.jl items.size 0 lo:Nat):Int)==0 && (1:Int)==1 && (HT.jl items.size items.size hi - HT.jl items.size 0 lo)==items.size)=true then _ else _) _ _ s;rw[dJ (by rw[hw.1,hw.2];simp)];unfold Builtin.Tuple.tupleIsExact;refine dA (dA (lO ht.typeIs (dB ?_)));rw[dJ (by decide)];exact dA (lJ (dB ⟨_,rfl,dB h⟩))
end
section
variable{X:Cx}
def ZF(K:eB):V->Option Int->Option Int->Hp->VK->Prop:=λx lo hi H Q=>∃a xs,x=.ref a/\SqT K H a xs/\(HT.jl xs.length 0 lo=0/\HT.jl xs.length xs.length hi=xs.length)/\Q (.ref a) H
def AK:SlR X (ZF X.K):=by
 intro pins s U H x v vl vu lo hi sl Q I rx hs pl pu h;obtain⟨a,xs,rfl,hx,hw,q⟩:=h;cases rx;obtain⟨its,r,ht,hz⟩:=I.tuple hx;have hlen:its.toArray.size=xs.length:=by rw[eF];exact r.length.symm
 exact⟨"tuple",_,PyProof.Rows.slot_tuple_getitem.lookup,ht.typeIs,F8 ht hs pl pu (by rw[hlen];exact hw) ⟨.ref a,H,I,rfl,q⟩⟩
end
end Pu
end
section
namespace Pu
open PySem PySem.Spec PyProof.Rows L2
def Dl(xs:List D)(lo hi:Option Int):List D:=(xs.drop (HT.jl xs.length 0 lo)).take (HT.jl xs.length xs.length hi - HT.jl xs.length 0 lo)
def vp(d:D)(lo hi:Option Int):Option D:=match d with
 |.lst xs=>some (.lst (Dl xs lo hi))
 |.tup xs=>some (.tup (Dl xs lo hi))
 |_=>none
def Lr(ev:Ev)(C:SC)(o:Option Expr)(δ:En):Option (Option Int):=match o with
 |none=>some none
 | some e => (match ev C e δ with
  |.ok (.int i)=>some (some i)
  |_=>none)
def JZ(o:Option (En->Res))(δ:En):Option (Option Int):=match o with
 |none=>some none
 | some g => (match g δ with
  |.ok (.int i)=>some (some i)
  |_=>none)
def N6(g:En->Res)(lo hi:Option (En->Res)):En->Res:=λδ=>(g δ).bind λd=>match JZ lo δ,JZ hi δ with
 |some l,some h=>Res.of (vp d l h)
 |_,_=>.st
def O3(ev:Ev)(C:SC)(a:Expr)(lo hi:Option Expr):En->Res:=N6 (lr ev C a) (lo.map (ev C)) (hi.map (ev C))
def Xp{o:Option Expr}:JZ (o.map (ev C)) δ=Lr ev C o δ:=by cases o<;>rfl
def DenL.cut{K:KA}{G:Hp}{ds:List D}{vs:List V}(dl:DenL K G ds vs)(lo hi:Option Int):DenL K G (Dl ds lo hi) (B9 vs lo hi):=by
 unfold Dl B9;rw[dl.length];exact(dl.drop _).take _
section
variable{T:GT}{ev tv:Ev}{X:Cx}{C:SC}{B:Hp}{E:XK}{pos p:Pos}{a:Expr}
def Sx(h:jd T ev)(O:XOk X C T E):∃t:TO,PO X o t/\∀G δ U H l (Q:Option Int->Hp->Prop),EnvR (kx X) B G H U δ->Lr ev C o δ=some l->(∀G' H',Ext G H G' H'->Q l H')->t U H Q:=by
 cases o with
 |none=>
  refine⟨_,FH,λG δ U H l Q R e q=>?_⟩;cases e;exact q G H (Ext.refl R.gh)
 |some e=>
  refine⟨_,FG (h X C B E0 e O.none),λG δ U H l Q R ee q=>?_⟩;unfold Lr at ee;dsimp only at ee;cases eg:ev C e δ with
  |ok d=>
   rw[eg]at ee;cases d with
   |int i=>
    cases ee;refine⟨G,δ,R,?_⟩;rw[eg];exact λv G' H' x dn=>⟨i,dn,q G' H' x⟩
   |_=>cases ee
  |er c=>rw[eg]at ee;cases ee
  |st=>rw[eg]at ee;cases ee
def AJ(h:jd T ev)(O:XOk X C T E){lo hi:Option Expr}{p2:Pos}:fq X B (ek (kx X) E) (.Subscript a (.Slice lo hi none p2) pos) (O3 ev C a lo hi):=by
 obtain⟨tl,hl,ql⟩:=Sx (B:=B) h O (o:=lo);obtain⟨th,hh,qh⟩:=Sx (B:=B) h O (o:=hi);refine PE.imp (Zd (SlR.or HQ (SlR.or OC AK)) (cy (B:=B) (E:=E) h O a) hl hh) λU H Q ⟨G,δ,R,q⟩=>⟨G,δ,R,(ResP.bind q).mono λd _ q v G1 H1 e1 av=>?_⟩;rw[Xp,Xp]at q;cases el:Lr ev C lo δ with
 |none=>rw[el]at q;exact q.elim
 |some l=>
  cases eh:Lr ev C hi δ with
  |none=>rw[el,eh]at q;exact q.elim
  |some hh=>
   rw[el,eh]at q;obtain⟨d',ed,q⟩:=ResP.of q;refine ql G1 δ U H1 l _ (R.ext e1) el λG2 H2 e2=>qh G2 δ U H2 hh _ (R.ext (e1.trans e2)) eh λG3 H3 e3=>?_;have e13:=(e1.trans e2).trans e3;have av':=(av.ext e2).ext e3;unfold vp at ed;split at ed
   ·rename_i xs;cases ed;obtain⟨l',vs,rfl,sq,dl⟩:=av'.lst e3.gh;exact .inl ⟨l',vs,rfl,sq,λp hp=>q _ (upd G3 p (.lst (B9 vs l hh))) _ (e13.trans (Ext.new e3.gh _ hp)) (uf e3.gh hp (dl.cut l hh))⟩
   ·rename_i xs;cases ed;rcases av' with ⟨l',vs,rfl,s2,dl⟩|⟨_,_,_,z,_⟩|⟨_,_,_,z,_⟩
    case inr.inl=>cases z
    case inr.inr=>cases z
    have sq:SqT (kx X) H3 l' vs:=.inl (.inl (e3.gh _ _ s2))
    by_cases hw:HT.jl vs.length 0 l=0/\HT.jl vs.length vs.length hh=vs.length
    ·have ec:B9 vs l hh=vs:=by unfold B9;rw[hw.1,hw.2,mM,Nat.sub_zero,List.take_length]
     have dc:=dl.cut l hh;rw[ec]at dc;exact .inr (.inr ⟨l',vs,rfl,sq,hw,q _ G3 H3 e13 ⟨l',vs,rfl,s2,dc⟩⟩)
    ·refine .inr ((.inl ⟨l',vs,rfl,sq,hw,λp hp=>q _ (upd G3 p (.tup (B9 vs l hh))) _ (e13.trans (Ext.new e3.gh _ hp)) (qi e3.gh hp (dl.cut l hh))⟩))
   ·cases ed
end
def Ke(ev:Ev)(C:SC)(a:Expr)(op:Operator)(b:Expr):En->Res:=(match CU op with
  |some f=>g2 f (lr ev C a) (lr ev C b)
  |none=>jq)
def KG(h:jd T ev)(O:XOk X C T E):fq X B (ek (kx X) E) (.BinOp a op b pos) (Ke ev C a op b):=by
 have gen:fq X B (ek (kx X) E) (.BinOp a op b pos) (match CU op with
  |some f=>g2 f (lr ev C a) (lr ev C b)
  |none=>jq):=by
  cases hf:CU op with
  |none=>exact ck
  |some f=>exact NN hf (cy h O a) (cy h O b)
 unfold Ke;exact gen
def Gy(ev:Ev)(C:SC):List (Option Expr)->List Expr->List ((En->Res)×(En->Res))
 |some k::ks,v::vs=>(ev C k,ev C v)::Gy ev C ks vs
 |_,_=>[]
def Jf(ks:List (Option Expr))(vs:List Expr):Bool:=ks.all (·.isSome) && decide (ks.length=vs.length) && decide (ks.length<=15) && !ks.isEmpty
theorem K7(h:jd T ev)(O:XOk X C T E):∀{ks:List (Option Expr)}{vs:List Expr},ks.all (·.isSome)=true->ks.length=vs.length->
  QX X pos ks vs ((Gy ev C ks vs).map λp=>(Vy (kx X) B (ek (kx X) E) p.1,Vy (kx X) B (ek (kx X) E) p.2))/\(Gy ev C ks vs).length=ks.length
 |[],[],_,_=>⟨FF,rfl⟩
 |[],_::_,_,e=>by cases e
 |some k::ks,[],_,e=>by cases e
 |none::ks,_,a,_=>by cases a
 |some k::ks,v::vs,a,e=>by
  obtain⟨i1,i2⟩:=K7 h (pos:=pos) (B:=B) O (ks:=ks) (vs:=vs) (by simpa using a) (by simpa using e);exact⟨Zk (h X C B E k O) (h X C B E v O) i1,by rw[Gy,dI,dI,i2]⟩
noncomputable def JI(T:GT)(ev tv:Ev)(C:SC)(e:Expr):En->Res:=match e with
 | .Constant c _ _ => (match c with
  |.none=>gC .non
  |.bool b=>gC (.bl b)
  |.int i=>gC (.int i)
  |.str x=>gC (.str x)
  |_=>jq)
 |.Name x _=>Fl T C x
 |.BinOp a op b _=>Ke ev C a op b
 | .UnaryOp op a _ => (match op with
  |.Not=>gw (ev C a)
  |.USub=>g1 H8 (lr ev C a)
  |_=>jq)
 | .BoolOp op vs _ => (match op with
  |.And=>Lq (ev C) vs
  |.Or=>Xo (ev C) vs)
 |.IfExp c a b _=>Rz (tv C c) (ev C a) (ev C b)
 |.Compare l ops rs _=>zg ev C l ops rs
 |.Tuple es _ _=>if es.all iy then gz (wm ev C es)else jq
 |.List es _=>if es.all iy then gj (wm ev C es)else jq
 | .Subscript a i _ => (match i with
  |.Slice lo hi none _=>O3 ev C a lo hi
  |i=>if x9 i then g2 aj (lr ev C a) (lr ev C i)else jq)
 |.ListComp elt gens scope _=>ny ev tv C elt gens scope
 | .Dict ks vs _ => (match ks, vs with
  |[],[]=>gC (.dct false [])
  |ks,vs=>if Jf ks vs then uh (Gy ev C ks vs)else jq)
 | .Call f args kws cp => (match f, kws with
  |.Name x _,[]=>ze T ev C x args
  |.Name x _,[kw]=>Cz T ev C x args kw
  |.Attribute o m ap,[]=>if ap.endLine==cp.line then Tn ev C o m args else jq
  |_,_=>jq)
 |_=>jq
def fc(g:En->Res):En->Res:=g1 (λd=>bD (Fq d)) g
noncomputable def JG(T:GT)(ev tv:Ev)(C:SC)(e:Expr):En->Res:=match e with
 | .UnaryOp op a _ => (match op with
  |.Not=>gw (tv C a)
  |_=>g1 (λd=>bD (Fq d)) (lr ev C e))
 | .BoolOp op vs _ => (match op with
  |.And=>Lq (tv C) vs
  |.Or=>Xo (tv C) vs)
 |.Compare l ops rs _=>zg ev C l ops rs
 |e=>if J4 e then g1 (λd=>bD (Fq d)) (lr ev C e)else jq
section
variable{T:GT}{ev tv:Ev}
def AH(h:jd T ev)(ht:Fv T tv):jd T (JI T ev tv):=by
 intro X C B E e O;cases e with
 |Constant c k p=>
  cases c with
  |none=>exact NC
  |bool b=>exact TQ
  |int i=>exact NJ
  |str x=>exact OZ
  |_=>exact ck
 |Name x p=>exact ER O
 |BinOp a op b p=>
  exact KG h O
 |UnaryOp op a p=>
  cases op with
  |Not=>exact NB (h X C B E a O)
  |USub=>exact ND (cy h O a)
  |_=>exact ck
 |BoolOp op vs p=>
  cases op with
  |And=>exact Q8 λe=>h X C B E e O
  |Or=>exact Yy λe=>h X C B E e O
 |IfExp c a b p=>exact TM (ht X C B E c O) (h X C B E a O) (h X C B E b O)
 |Compare l ops rs p=>exact(W3 h O).1
 |Tuple es k p=>
  show fq X B _ _ (if es.all iy then gz (wm ev C es)else jq)
  by_cases hn:es.all iy=true
  ·rw[dJ hn];exact OX yg (ym h O hn)
  ·rw[dM hn];exact ck
 |List es p=>
  show fq X B _ _ (if es.all iy then gj (wm ev C es)else jq)
  by_cases hn:es.all iy=true
  ·rw[dJ hn];exact NH yg (ym h O hn)
  ·rw[dM hn];exact ck
 |Subscript a i p=>
  show fq X B _ _ (match i with
   |.Slice lo hi none _=>O3 ev C a lo hi
   |i=>if x9 i then g2 aj (lr ev C a) (lr ev C i)else jq)
  split
  ·exact AJ h O
  ·skip
   by_cases hp:x9 i=true
   ·rw[dJ hp];exact TL (by have:=O.units;lia) (cy h O a) (cy h O i) (Vg hp)
   ·rw[dM hp];exact ck
 |Dict ks vs p=>
  have gen:fq X B (ek (kx X) E) (.Dict ks vs p) (if Jf ks vs then uh (Gy ev C ks vs)else jq):=by
   by_cases hd:Jf ks vs=true
   ·rw[dJ hd];unfold Jf at hd;simp only[dQ,decide_eq_true_eq]at hd;obtain⟨⟨⟨d1,d2⟩,d3⟩,d4⟩:=hd;obtain⟨i1,i2⟩:=K7 h (pos:=p) (B:=B) O d1 d2;exact GS i1 d1 d2 (by intro z;rw[z]at d4;cases d4) d3 (by rw[i2];exact d3)
   ·rw[dM hd];exact ck
  cases ks with
  |nil=>
   cases vs with
   |nil=>exact TN
   |cons _ _=>exact gen
  |cons _ _=>exact gen
 |ListComp elt gens scope p=>exact Y6 (Dj h ht O).1 (Dj (X:=X) (B:=B) (E:=E) (pos:=p) h ht O).2
 |Call f args kws p=>
  show fq X B _ _ (match f,kws with
   |.Name x _,[]=>ze T ev C x args
   |.Name x _,[kw]=>Cz T ev C x args kw
   |.Attribute o m ap,[]=>if ap.endLine==p.line then Tn ev C o m args else jq
   |_,_=>jq)
  split
  ·exact rj h O
  ·exact LC h O
  ·rename_i o m ap
   by_cases hl:(ap.endLine==p.line)=true
   ·rw[dJ hl];exact ZN h O hl
   ·rw[dM hl];exact ck
  ·exact ck
 |_=>exact ck
def AD(h:jd T ev)(ht:Fv T tv):Fv T (JG T ev tv):=by
 intro X C B E e O;have pl:∀{e:Expr},Fu X B (ek (kx X) E) e (if J4 e then g1 (λd=>bD (Fq d)) (lr ev C e)else jq):=λ{e}=>by
  by_cases hp:J4 e=true
  ·rw[dJ hp];exact Zs (cy h O e) (Hy hp)
  ·rw[dM hp];exact Bu
 cases e with
 |UnaryOp op a p=>
  cases op with
  |Not=>exact GV (ht X C B E a O)
  |_=>exact Zs (cy h O _) (Hy rfl)
 |BoolOp op vs p=>
  cases op with
  |And=>exact TU (Q9 λe=>ht X C B E e O)
  |Or=>exact TU (Yz λe=>ht X C B E e O)
 |Compare l ops rs p=>exact(W3 h O).2
 |_=>exact pl
end
def gP(T:GT):Nat->Bool->Ev
 |0,_=>λ_ _=>jq
 |n+1,false=>JI T (gP T n false) (gP T n true)
 |n+1,true=>JG T (gP T n false) (gP T n true)
theorem He(T:GT):∀n,jd T (gP T n false)/\Fv T (gP T n true)
 |0=>⟨λ_ _ _ _ _ _=>ck,λ_ _ _ _ _ _=>Bu⟩
 |n+1=>⟨AH (He T n).1 (He T n).2,AD (He T n).1 (He T n).2⟩
noncomputable def frz(i:Nat)(δ:En):En:=match δ[i]? with
 |some (.ow ds)=>δ.set i (.pu (.lst ds))
 |some (.od t kvs)=>δ.set i (.pu (.dct t kvs))
 |_=>δ
def frzs(is:List Nat)(δ:En):En:=is.foldl (λδ i=>frz i δ) δ
section
variable{K:KA}{B G0 G H:Hp}{U:St}{δ:En}
def SlOk.gmono(e:Same G G')(h:SlOk K B G H s o):SlOk K B G' H s o:=by
 cases s with
 |no=>trivial
 |pu d=>obtain⟨v,h1,h2⟩:=h;exact⟨v,h1,h2.mono e⟩
 |bo d=>obtain⟨v,h1,h2⟩:=h;exact⟨v,h1,RU e h2⟩
 |ow ds=>obtain⟨a,vs,h1,h2,h3⟩:=h;exact⟨a,vs,h1,h2,h3.mono e⟩
 |od t kvs=>
  cases t with
  |false=>obtain⟨a,vs,h1,h2,h3⟩:=h;exact⟨a,vs,h1,h2,h3.mono e⟩
  |true=>obtain⟨a,vs,h1,h2,h3⟩:=h;exact⟨a,vs,h1,h2,h3.mono e⟩
def Ext.frzO(e:Ext G0 B G H)(bn:B a=none)(gn:G a=none)(h:H a=some o):Ext G0 B (upd G a o) H:=by
 refine⟨e.gg.trans (di gn _),e.hh,λb u q=>?_,λb u q g z=>?_⟩
 ·by_cases z:b=a
  ·subst z;rw[bj]at q;rw[h];exact q
  ·rw[a6 z]at q;exact e.gh b u q
 ·rw[a6 (b0 q bn)];exact e.fr b u q g z
def EnvR.frzAt(R:EnvR K B G H U δ){s:Sl}(hi:δ[i]?=some s)(ho:s.own=true)(hs:U[i]?=some (some (V.ref a)))(ha:H a=some o)(hd:Den K (upd G a o) d (.ref a)):
  EnvR K B (upd G a o) H U (δ.set i (.pu d)):=by
 obtain⟨gn,bn⟩:=R.own i s a hi ho hs;have hl:i<δ.length:=(List.getElem?_eq_some_iff.mp hi).1;have sm:Same G (upd G a o):=di gn _;refine⟨R.bh,λb u q=>?_,by rw[fE];exact R.len,λj t q=>?_,λj t b q1 q2 q3=>?_,λj k t u b q1 q2 q3 q4 q5 q6=>?_,R.gb⟩
 ·by_cases z:b=a
  ·subst z;rw[bj]at q;rw[ha];exact q
  ·rw[a6 z]at q;exact R.gh b u q
 ·by_cases z:i=j
  ·subst z;rw[dW hl]at q;cases q;exact⟨_,hs,_,rfl,hd⟩
  ·rw[dZ z]at q;obtain⟨o',z1,z2⟩:=R.sl j t q;exact⟨o',z1,z2.gmono sm⟩
 ·by_cases z:i=j
  ·subst z;rw[dW hl]at q1;cases q1;cases q2
  ·rw[dZ z]at q1;obtain⟨g,b'⟩:=R.own j t b q1 q2 q3;refine⟨?_,b'⟩;have nb:b≠a:=by
    rintro rfl
    exact z (R.dis i j _ _ b hi q1 ho q2 hs q3)
   rw[a6 nb];exact g
 ·have hj:i≠j:=by
   rintro rfl
   rw[dW hl]at q1;cases q1;cases q3
  have hk:i≠k:=by
   rintro rfl
   rw[dW hl]at q2;cases q2;cases q4
  rw[dZ hj]at q1;rw[dZ hk]at q2;exact R.dis j k t u b q1 q2 q3 q4 q5 q6
theorem EnvR.frz(R:EnvR K B G H U δ)(e:Ext G0 B G H)(i:Nat):∃G',Same G G'/\EnvR K B G' H U (frz i δ)/\Ext G0 B G' H:=by
 unfold Pu.frz;cases ed:δ[i]? with
 |none=>exact⟨G,Same.refl G,R,e⟩
 |some s=>
  cases s with
  |ow ds=>
   obtain⟨a,vs,q1,q2,q3,gn,bn⟩:=R.owAt ed;exact⟨_,di gn _,R.frzAt ed rfl q1 q2 ⟨a,vs,rfl,SqL.of bj,q3.mono (di gn _)⟩,e.frzO bn gn q2⟩
  |od t kvs=>
   obtain⟨o,q1,q2⟩:=R.sl i _ ed;cases t with
   |false=>
    obtain⟨a,es,rfl,q3,q4⟩:=q2;obtain⟨gn,bn⟩:=R.own i _ a ed rfl q1;exact⟨_,di gn _,R.frzAt ed rfl q1 q3 ⟨a,rfl,.inl ⟨rfl,es,bj,q4.mono (di gn _)⟩⟩,e.frzO bn gn q3⟩
   |true=>
    obtain⟨a,es,rfl,q3,q4⟩:=q2;obtain⟨gn,bn⟩:=R.own i _ a ed rfl q1;exact⟨_,di gn _,R.frzAt ed rfl q1 q3 ⟨a,rfl,.inr ⟨rfl,es,bj,q4.mono (di gn _)⟩⟩,e.frzO bn gn q3⟩
  |no=>exact⟨G,Same.refl G,R,e⟩
  |pu _=>exact⟨G,Same.refl G,R,e⟩
  |bo _=>exact⟨G,Same.refl G,R,e⟩
theorem EnvR.frzs:∀(is:List Nat){G:Hp}{δ:En},EnvR K B G H U δ->Ext G0 B G H->∃G',Same G G'/\EnvR K B G' H U (frzs is δ)/\Ext G0 B G' H
 |[],G,δ,R,e=>⟨G,Same.refl G,R,e⟩
 |i::is,G,δ,R,e=>by
  obtain⟨G1,s1,R1,e1⟩:=R.frz e i;obtain⟨G2,s2,R2,e2⟩:=EnvR.frzs is R1 e1;exact⟨G2,s1.trans s2,R2,e2⟩
end
section
variable{X:Cx}{G0 B:Hp}{E:EK}{st:Stmt}{F:En->Out}
def UL(is:List Nat)(h:su X G0 B E st F):su X G0 B E st (λδ=>F (frzs is δ)):=PS.imp h λD U H ⟨G,δ,R,e,q⟩=>by
 obtain⟨G',s,R',e'⟩:=EnvR.frzs is R e;exact⟨G',_,R',e',OutP.same s q⟩
end
section
variable{X:Cx}{G0 B:Hp}{E:EK}{scope:jW}{cl:List (Str×Addr)}{xs:List Str}{y:Str}{M:List Str}{ix:List Nat}{elt iter tg:Expr}{ifs:List Expr}{pos pos' lpos:Pos}{r:En->ResL}{t g:En->Res}{i:Nat}{td:D->Option (List D)}{f:En->D->Option (Option D)}
def OI(O:CompOk X scope cl xs M ix)(hc:X.calm=true)(Bk:BlockOk X B E scope cl xs M tg td elt ifs t g)(hF:∀δ,C6 td (mr ix δ) t g (f δ))(hi:Tw X B E tg iter r)(hN:X.N.Nodup)(hy:X.N[i]?=some y)(hl:L2.IP X.env.scope y)(hf:X.fn y=true)
  (hs:∀x,kQ iter X.env x=pure x)(hsw:kB (.ListComp elt [⟨tg,iter,ifs,0⟩] scope lpos) (some (.Name y pos')) pos.line X.env=pure true):
  su X G0 B E (.Assign [.Name y pos'] (.ListComp elt [⟨tg,iter,ifs,0⟩] scope lpos) pos) (ie i (m5 r f)):=by
 intro pins s U H D I ⟨G,δ,R,ex,q⟩;have q:=rg ex q;rw[exec_Assign_Name_used _ _ _ _ hsw,arm_evalThenUse_ListComp];refine dA (wpAny_standAt ?_);refine dA (dA ?_);refine wpAny_comprehension_free (use:=some (assign (.Name y pos') X.env)) (Q:=λ_ s'=>dX (eJ X.prog X.w) X.A (pure PUnit.unit:Sem PUnit) (λ_ s'=>dX (eJ X.prog X.w) X.A (pure Flow.next:Sem Flow) (SP X pins D) X.xe s') X.xe s') rfl hs (wj O.clos) O.kind O.names ?_;refine fL (hi pins s U H (λJ H1=>∃G1 ds ys,Ext G H G1 H1/\B8 (kx X) J ds (λG2 H2=>Ext G1 H1 G2 H2)/\ds.length<=dN/\k9 (f δ) ds=some ys/\OutP (kx X) G0 B E G (.nx (δ.set i (.ow ys))) D) I
  ⟨G,δ,R,(IE q).mono λds _ ⟨hl,ys,ey,q⟩ J G1 H1 e1 ok=>⟨G1,ds,ys,e1,ok,hl,ey,q⟩⟩) (λv s1 h1=>fL h1 (λitv s2 h2=>?_) λ_ _ e=>e) λ_ _ e=>e
 obtain⟨it,fp,tn,J,H1,rfl,I1,T,st,hfp,G1,ds,ys,e1,ok,hl',ey,q⟩:=h2;refine K4 (RR:=λacc C=>compPost (eJ X.prog X.w) X.A X.xe (some (assign (.Name y pos') X.env)) (λ_ s'=>dX (eJ X.prog X.w) X.A (pure PUnit.unit:Sem PUnit) (λ_ s'=>dX (eJ X.prog X.w) X.A (pure Flow.next:Sem Flow) (SP X pins D) X.xe s') X.xe s') acc C) O hc Bk I1 T st hfp (R.ext e1) ok hl' (hF δ) ey ?_;intro s3 H3 G3 vs m I3 hm hC e3 g3 h3 dl;have hsz:s2.heap.objs.size<=s2.heap.objs.size+1:=oX _;have ltL:X.env.locals<s2.heap.objs.size:=I1.lt;have ltc:∀y c,X.env.cells.lookup y=some c->c<s2.heap.objs.size:=λy c e=>by
  obtain⟨v',q'⟩:=I1.cell y c e;exact q'.lt
 refine wpAny_assign_Name (Ic (v:=.ref s2.heap.objs.size) I3 hN hy hl rfl (λs4 I4 ⟨a,hsb,ha⟩=>?_) (.inl hf));have la:a<s2.heap.objs.size:=by
  rcases ha with z|z
  ·rw[z];exact ltL
  ·exact ltc _ _ z
 have na:s2.heap.objs.size+1≠a:=(vn la).symm;refine⟨m,hm.sameBut hsb na,λh' hs'=>dB (dB ⟨U.set i (some (V.ref s2.heap.objs.size)),H3,?_,?_⟩)⟩
 ·refine I4.turned (t':=s4.toks) (it:=s2.heap.objs.size+1) (λb o hb e=>hs'.extBut b o hb e) hC ?_ (.inr (fF I1.sz hsz)) ?_ ?_
  ·exact(vn ltL).symm
  ·intro z c hc';exact vn (ltc z c hc')
  ·intro p hp z;exact absurd (eW (dY (I1.pin p hp).1) (fF hsz (lQ z.symm))) (fR _)
 ·exact q _ G3 H3 (e1.trans e3).gg (R.setO (e1.trans e3) (de e1.hh (I1.hok.fresh (dR _))) g3 h3 dl) (ex.trans (e1.trans e3))
end
structure SOk(X:Cx)(C:SC)(T:GT)(E:XK):Prop extends XOk X C T E where
 fn:∀x,x∉vm->X.fn x=true
 pass:PassesOwn (eJ X.prog X.w) X.A X.env X.xe
 stk:X.stack=X.env::X.outer
 frm:X.env.frame=some X.env.locals
 ex0:X.ex=[]
def wx(C:SC)(x:Str):Option Nat:=if Lu C.sc x && pv x && decide (x∉vm)then X6 x C.N 0 else none
def El{C:SC}(h:wx C x=some i):C.N[i]?=some x/\Lu C.sc x=true/\x∉vm:=by
 unfold wx at h
 by_cases e:(Lu C.sc x && pv x && decide (x∉vm))=true
 ·rw[dJ e]at h;rw[dQ,dQ]at e;obtain⟨_,q⟩:=Jt h;exact⟨by simpa using q,e.1.1,of_decide_eq_true e.2⟩
 ·rw[dM e]at h;cases h
section
variable{X:Cx}{C:SC}{T:GT}{x:Str}{i:Nat}{pos:Pos}
def SOk.tg(O:SOk X C T E)(h:wx C x=some i):PG X (.Name x pos) (tf i):=by
 obtain⟨h1,h2,h3⟩:=El h;exact Ct (by rw[O.n];exact O.nd) (by rw[O.n];exact h1) (by rw[O.s];exact D8 h2) (.inl (O.fn x h3))
def SOk.st(O:SOk X C T E)(h:wx C x=some i)(he:PE X e te)(hs:kB e (some (.Name x pos')) pos.line X.env=pure false):PS X (.Assign [.Name x pos'] e pos) (Nr te (tf i)):=by
 obtain⟨h1,h2,h3⟩:=El h;exact NS (by rw[O.n];exact O.nd) (by rw[O.n];exact h1) (by rw[O.s];exact D8 h2) he hs (.inl (O.fn x h3))
end
def E8:List Nat->List D->En->Option En
 |[],[],δ=>some δ
 |i::is,d::ds,δ=>E8 is ds (δ.set i (.pu d))
 |_,_,_=>none
noncomputable def sj(C:SC):List Expr->Option (List Nat)
 |[]=>some []
 |e::r=>match e with
  | .Name x _ => (match wx C x, sj C r with
   |some i,some is=>some (i::is)
   |_,_=>none)
  |_=>none
def ti(is:List Nat):D->En->Option En:=λd δ=>match d with
 |.tup ds=>E8 is ds δ
 |_=>none
theorem E9:∀{is:List Nat}{ds:List D}{δ δ':En},E8 is ds δ=some δ'->ds.length=is.length
 |[],[],_,_,_=>rfl
 |[],_::_,_,_,h=>by cases h
 |_::_,[],_,_,h=>by cases h
 |i::is,d::ds,δ,δ',h=>by
  have:=E9 (is:=is) (ds:=ds) h;rw[dI,dI,this]
section
variable{X:Cx}{C:SC}{T:GT}{B:Hp}
theorem Mm(O:SOk X C T E):∀{es:List Expr}{is:List Nat},sj C es=some is->(∃t:QW,RX X es t/\∀{G H:Hp}{U:St}{δ δ':En}{ds:List D}{vs:List V}{Q:St->Hp->Prop},EnvR (kx X) B G H U δ->DenL (kx X) G ds vs->E8 is ds δ=some δ'->
  (∀σ',EnvR (kx X) B G H σ' δ'->Q σ' H)->t vs U H Q)/\(mF es X.env).length=is.length/\(mF es X.env).findIdx? (·.1)=none
 |[],is,h=>by
  cases h;refine⟨⟨_,S3,λ{G H U δ δ' ds vs Q} R dl e q=>?_⟩,rfl,rfl⟩;cases ds with
  |nil=>
   cases e;exact⟨dl,q U R⟩
  |cons _ _=>cases e
 |e::r,is,h=>by
  unfold sj at h;cases e with
  |Name x p=>
   dsimp only at h;cases e1:wx C x with
   |none=>rw[e1]at h;cases h
   |some i=>
    cases e2:sj C r with
    |none=>rw[e1,e2]at h;cases h
    |some is'=>
     rw[e1,e2]at h;cases h;obtain⟨⟨t,p1,p2⟩,p3,p4⟩:=Mm O e2;refine⟨⟨_,Et (O.tg e1) p1 rfl,λ{G H U δ δ' ds vs Q} R dl e q=>?_⟩,?_,?_⟩
     ·cases ds with
      |nil=>cases e
      |cons d ds=>
       obtain⟨v,vr,rfl,dv,dr⟩:=dl;exact⟨v,vr,rfl,p2 (R.set dv) dr e q⟩
     ·show(mF r X.env).length+1=is'.length+1;rw[p3]
     ·show List.findIdx? _ ((false,_)::mF r X.env)=none;rw[List.findIdx?_cons];simp[p4]
  |_=>cases h
def PU(O:SOk X C T E)(h:sj C es=some is):∃gl,TgOk X B (.Tuple es k p) gl (ti is):=by
 obtain⟨⟨t,p1,p2⟩,p3,p4⟩:=Mm (B:=B) O h;refine⟨_,Ze O.calm p1 p3 p4,λ{G H U δ δ' d v Q} R dn e q=>?_⟩;cases d with
 |tup ds=>
  obtain⟨a,vs,rfl,sq,dl⟩:=dn;have hl:=E9 (show E8 is ds δ=some δ' from e);exact⟨a,vs,rfl,SqT.of (R.gh _ _ sq),by rw[<-dl.length,hl],p2 R dl e q⟩
 |_=>cases e
end
noncomputable def BW(C:SC)(tg:Expr):Option (D->En->Option En):=match tg with
 |.Name x _=>(wx C x).map a0
 |.Tuple es _ _=>(sj C es).map ti
 |_=>none
def HE(O:SOk X C T E)(h:BW C tg=some f):∃gl,TgOk X B tg gl f:=by
 unfold BW at h;split at h
 ·rename_i x p;cases e:wx C x with
  |none=>rw[e]at h;cases h
  |some i=>rw[e]at h;cases h;exact⟨_,HD (O.tg e)⟩
 ·rename_i es k p;cases e:sj C es with
  |none=>rw[e]at h;cases h
  |some is=>rw[e]at h;cases h;exact PU O e
 ·cases h
section
variable{X:Cx}{G0 B:Hp}{E:EK}{e a k:Expr}{g h:En->Res}{pos:Pos}{st:Stmt}{F F':En->Out}
def za(g:En->Res):En->Out:=λδ=>(g δ).then λ_=>.nx δ
def OK(ha:fq X B E e g)(hs:kB e none pos.line X.env=pure false):su X G0 B E (.Expr e pos) (za g):=PS.imp (Cu ha hs) λD U H ⟨G,δ,R,ex,q⟩=>
 ⟨G,δ,R,(rg ex q).mono λd _ q v G' H' e1 dn=>q U G' H' e1.gg (R.ext e1) (ex.trans e1)⟩
def JK:En->Out:=λ_=>.rt .non
def OJ:su X G0 B E (.Return none pos) JK:=PS.imp GZ λD U H ⟨G,δ,R,ex,q⟩=>q .non G H ex rfl
def Ie:kB a (some (.Subscript o i p)) n env=pure false:=by
 cases a<;>rfl
end
section
variable{T:GT}{ev:Ev}{X:Cx}{C:SC}{G0 B:Hp}{E:XK}
def nt(c:Str)(r:En->ResL):En->Out:=λδ=>match r δ with
 |.ok _=>.er c
 |.er c'=>.er c'
 |.st=>.st
def HX(h:jd T ev)(O:XOk X C T E)(hx:T.xs.exc x=true)(hg:Kp C x=true)(hn:(e::es).all iy=true)(hl:(e::es).length<=1000):
  su X G0 B (ek (kx X) E) (.Raise (some (.Call (.Name x np) (e::es) [] cpos)) none pos) (nt x (wm ev C (e::es))):=by
 obtain⟨Cc,bm,nid,hm,hxx,HB⟩:=O.exc x hx;obtain⟨g1,g2⟩:=O.gl hg;have hn':=hn;rw[fT,dQ]at hn';refine PS.imp (Zp O.calm g1 hm hxx HB O.goes (ym (B:=B) h O hn) g2 (a8 hn'.1) (uz hn'.2)) λD U H ⟨G,δ,R,ex,q⟩=>⟨G,δ,R,?_⟩;unfold nt at q;cases er:wm ev C (e::es) δ with
 |ok ds=>
  rw[er]at q;intro vs G' H' e1 al;refine⟨?_,?_⟩
  ·have:=al.length.2;rw[dD]at this;rw[this];exact fF hl (by decide)
  ·have z:=q G' H' (ex.trans e1);have z':E (.ref (Fs X.mg x)) none H':=z;rw[mq hm]at z';exact z'
 |er c=>rw[er]at q;exact λG' H' e1=>q G' H' (ex.trans e1)
 |st=>rw[er]at q;exact q
def IH:Expr->Option (Expr×List Expr×List lP×Pos)
 |.Call f a k p=>some (f,a,k,p)
 |_=>none
def Wv(h:IH e=some (f,a,k,p)):e=.Call f a k p:=by
 cases e<;>first|(cases h;rfl)|cases h
def JS:Expr->Option (Str×Pos)
 |.Name x p=>some (x,p)
 |_=>none
def Ym(h:JS e=some (x,p)):e=.Name x p:=by
 cases e<;>first|(cases h;rfl)|cases h
def Z8:Stmt->Option (Option Expr×Option Expr×Pos)
 |.Raise e c p=>some (e,c,p)
 |_=>none
def Vr{st:Stmt}{e c:Option Expr}{p:Pos}(h:Z8 st=some (e,c,p)):st=.Raise e c p:=by
 cases st<;>first|(cases h;rfl)|cases h
noncomputable def J6(st:Stmt):Option (Str×Expr×List Expr):=(Z8 st).bind λq=>q.1.bind λw=>(IH w).bind λc=>(JS c.1).bind λx=>match c.2.1,c.2.2.1,q.2.1 with
 |e::es,[],none=>some (x.1,e,es)
 |_,_,_=>none
def Vq{st:Stmt}{x:Str}{e:Expr}{es:List Expr}(h:J6 st=some (x,e,es)):∃np cpos pos,st=.Raise (some (.Call (.Name x np) (e::es) [] cpos)) none pos:=by
 unfold J6 at h;simp only[Option.bind_eq_some_iff]at h;obtain⟨⟨q1,q2,q3⟩,h1,w,h0,⟨c1,c2,c3,c4⟩,h2,⟨y1,y2⟩,h3,h4⟩:=h;dsimp only at h0 h2 h3 h4;split at h4
 ·cases h4;exact⟨_,_,_,by rw[Vr h1,h0,Wv h2,Ym h3]⟩
 ·cases h4
noncomputable def A0(T:GT)(ev:Ev)(C:SC)(st:Stmt):En->Out:=match J6 st with
 |some (x,e,es)=>if T.xs.exc x && Kp C x && (e::es).all iy && decide ((e::es).length<=1000)then nt x (wm ev C (e::es))else vt
 |none=>vt
def Z9(h:jd T ev)(O:XOk X C T E){st:Stmt}:su X G0 B (ek (kx X) E) st (A0 T ev C st):=by
 unfold A0;cases hp:J6 st with
 |none=>exact qz
 |some t=>
  obtain⟨x,e,es⟩:=t;obtain⟨np,cpos,pos,rfl⟩:=Vq hp;dsimp only
  by_cases hc:(T.xs.exc x && Kp C x && (e::es).all iy && decide ((e::es).length<=1000))=true
  ·rw[dJ hc];simp only[dQ]at hc;exact HX h O hc.1.1.1 hc.1.1.2 hc.1.2 (of_decide_eq_true hc.2)
  ·rw[dM hc];exact qz
end
mutual
def Oo:Nat->GT->Expr->List Str
 |0,_,_=>[]
 |n+1,T,e=>match e with
  |.Name x _=>[x]
  |.IfExp c a b _=>Dr n T c++Oo n T a++Oo n T b
  |.BoolOp _ vs _=>vs.flatMap (Oo n T)
  |e=>Dr n T e
def Dr:Nat->GT->Expr->List Str
 |0,_,_=>[]
 |n+1,T,e=>match e with
  |.BinOp a _ b _=>Dr n T a++Dr n T b
  |.UnaryOp _ a _=>Dr n T a
  |.BoolOp _ vs _=>vs.flatMap (Dr n T)
  |.IfExp c a b _=>Dr n T c++Oo n T a++Oo n T b
  |.Compare l _ rs _=>Dr n T l++rs.flatMap (Dr n T)
  |.Tuple es _ _=>es.flatMap (Oo n T)
  |.List es _=>es.flatMap (Oo n T)
  |.Subscript a i _=>Dr n T a++Dr n T i
  |.ListComp elt gens _ _=>Oo n T elt++gens.flatMap λg=>Dr n T g.iter++g.ifs.flatMap (Dr n T)
  | .Call (.Name f _) args _ _ => (match T.fns f with
   |some s=>(s.ms.zip args).flatMap λp=>if p.1 then Dr n T p.2 else Oo n T p.2
   |none=>args.flatMap (Dr n T))
  |.Call (.Attribute o _ _) args _ _=>Dr n T o++args.flatMap (Oo n T)
  |_=>[]
end
noncomputable def cU(T:GT)(st:Stmt):List Str:=match st with
 |.Return (some e) _=>Oo 30 T e
 |.Assign [.Name _ _] e _=>Oo 30 T e
 |.Assign [.Subscript _ k _] e _=>Oo 30 T e++Dr 30 T k
 |.AugAssign _ _ e _=>Dr 30 T e
 |.Expr (.Call (.Attribute (.Name _ _) m _) args _ _) _=>if m="extend" then args.flatMap (Dr 30 T)else args.flatMap (Oo 30 T)
 |.Expr e _=>Dr 30 T e
 |.If c _ _ _=>Dr 30 T c
 |.For _ iter _ _ _=>Oo 30 T iter
 |.Try [.Expr e _] _ _ _ _=>Dr 30 T e
 |.Try [.Assign [.Name _ _] e _] _ _ _ _=>Dr 30 T e
 |_=>[]
def HP(C:SC)(xs:List Str):List Nat:=xs.filterMap (slot C)
noncomputable def Ur(T:GT)(C:SC)(x y:Str):Bool:=decide (x=y) && decide (slot C x=none) && Kp C x && (T.fns x).isNone
def Sa(O:XOk X C T E)(h:Ur T C x y=true):x=y/\Gl X x:=by
 unfold Ur at h;simp only[dQ,decide_eq_true_eq]at h;exact⟨h.1.1.1,(O.gl h.1.2).1⟩
noncomputable def Nn(T:GT)(ev:Ev)(C:SC)(e:Expr):Option (En->Res):=match e with
 |.List es _=>if es.all iy then some (gj (wm ev C es))else none
 |.Call (.Name x _) [a] [] _=>if Ur T C x "list" then(if iy a then some (g1 iw (lr ev C a))else none)else none
 |_=>none
noncomputable def kq(ev:Ev)(C:SC)(e:Expr):Option (En->ResE):=match e with
 |.Call (.Attribute (.Name x _) m ap) [k,v] [] cp=>if m="setdefault" && iy k && iy v && (ap.endLine==cp.line)then(slot C x).map λi=>jn i (lr ev C k) (ev C v)else none
 |_=>none
noncomputable def Nm(ev tv:Ev)(C:SC)(e:Expr):Option (En->ResE):=match e with
 | .IfExp c a b _ => (match kq ev C a, kq ev C b with
  |some f,none=>some (Ce (tv C c) f (D3 (ev C b)))
  |none,some f=>some (Ce (tv C c) (D3 (ev C a)) f)
  |some f,some f'=>some (Ce (tv C c) f f')
  |none,none=>none)
 |e=>kq ev C e
noncomputable def Fj(ev:Ev)(C:SC)(e:Expr):Option (En->ResE):=match e with
 | .Compare l [op] [r] _ => (match kq ev C l, I9 op with
  |some f,some p=>if l7 r then some (Dz p f (lr ev C r))else none
  |_,_=>none)
 |_=>none
section
variable{T:GT}{ev tv:Ev}{X:Cx}{C:SC}{G0 B:Hp}{E:XK}
def Dw(h:jd T ev)(O:XOk X C T E)(hf:kq ev C e=some f):BC X G0 B (ek (kx X) E) e f:=by
 unfold kq at hf;split at hf
 ·rename_i x p m ap k v cp
  by_cases hc:(decide (m="setdefault") && iy k && iy v && (ap.endLine==cp.line))=true
  ·rw[dJ hc]at hf;simp only[dQ,decide_eq_true_eq]at hc;obtain⟨⟨⟨rfl,h2⟩,h3⟩,h4⟩:=hc;cases hs:slot C x with
   |none=>rw[hs]at hf;cases hf
   |some i=>
    rw[hs]at hf;cases hf;dsimp only;exact Uj (O.var hs) (cy h O k) (h X C B E v O) h2 h3 h4
  ·rw[dM hc]at hf;cases hf
 ·cases hf
def ZT(h:jd T ev)(ht:Fv T tv)(O:XOk X C T E)(hf:Nm ev tv C e=some f):BC X G0 B (ek (kx X) E) e f:=by
 unfold Nm at hf;split at hf
 ·rename_i c a b p;cases h1:kq ev C a with
  |none=>
   cases h2:kq ev C b with
   |none=>rw[h1,h2]at hf;cases hf
   |some f'=>rw[h1,h2]at hf;cases hf;exact Xd (ht X C B E c O) (Ro (h X C B E a O)) (Dw h O h2)
  |some f'=>
   cases h2:kq ev C b with
   |none=>rw[h1,h2]at hf;cases hf;exact Xd (ht X C B E c O) (Dw h O h1) (Ro (h X C B E b O))
   |some f''=>rw[h1,h2]at hf;cases hf;exact Xd (ht X C B E c O) (Dw h O h1) (Dw h O h2)
 ·exact Dw h O hf
def RD(h:jd T ev)(O:XOk X C T E)(hf:Fj ev C e=some f):YI X G0 B (ek (kx X) E) e f:=by
 unfold Fj at hf;split at hf
 ·rename_i l op r p;cases h1:kq ev C l with
  |none=>rw[h1]at hf;cases hf
  |some f'=>
   cases h2:I9 op with
   |none=>rw[h1,h2]at hf;cases hf
   |some q=>
    rw[h1,h2]at hf;dsimp only at hf
    by_cases hs:l7 r=true
    ·rw[dJ hs]at hf;cases hf;obtain⟨rr,g1,g2,g3⟩:=Cj (X:=X) h2 O.units;exact LV g1 g2 g3 (Dw h O h1) (cy h O r) (o7 hs)
    ·rw[dM hs]at hf;cases hf
 ·cases hf
end
noncomputable def Fi(T:GT)(ev:Ev)(C:SC)(e:Expr):Option (En->Res):=match e with
 |.Call (.Name x _) [a] [] _=>if Ur T C x "dict" && iy a then some (lr ev C a)else none
 |_=>none
noncomputable def Cw(T:GT)(ev tv:Ev)(C:SC)(x:Str)(e:Expr):En->Out:=match wx C x with
 |none=>vt
 | some i => (match e with
  | .Dict ks vs _ => (match ks, vs with
   |[],[]=>if C.td.contains x then E6 i else xa i
   |_,_=>if km e then b9 i (ev C e)else vt)
  |.ListComp elt gens scope _=>ie i (ny ev tv C elt gens scope)
  | e => (match Nn T ev C e with
   |some g=>if km e then ie i g else vt
   | none => if km e then (match Nm ev tv C e with
    |some f=>uw i f
    | none => (match Fi T ev C e with
     |some g=>Az i g
     |none=>b9 i (ev C e)))else vt))
noncomputable def Kh(ev:Ev)(C:SC)(x m:Str)(args:List Expr):En->Out:=match slot C x,args with
 |some i,[a]=>if m="append" then(if iy a then qu i (ev C a)else vt)
  else if m="extend" then(if iy a then zb i (lr ev C a)else vt)
  else vt
 |_,_=>vt
def fz(is:List Nat)(F:En->Out):En->Out:=λδ=>F (frzs is δ)
def X0(i:Nat)(δ:En):Bool:=match δ[i]? with
 |some (.ow _)=>true
 |_=>false
def yd(i:Nat)(gk gv:En->Res):En->Out:=w9 i gk gv
abbrev Bv:=SC->List Stmt->En->Out
noncomputable def AF(T:GT)(ev tv:Ev)(bv:Bv)(C:SC)(st:Stmt):En->Out:=match st with
 | .Return o _ => (match o with
  |some e=>br (ev C e)
  |none=>JK)
 | .Assign tgs e _ => (match tgs with
  |[.Name x _]=>Cw T ev tv C x e
  | [.Subscript (.Name x _) k _] => (match slot C x with
   |some i=>if x9 k then(if C.td.contains x then yc i (lr ev C k) (ev C e)else w9 i (lr ev C k) (ev C e))else vt
   |none=>vt)
  |_=>vt)
 | .Expr e _ => (match e with
  |.Constant (.str _) _ _=>Te
  | .Call (.Attribute (.Name x xp) m ap) args kws cp => (match kws with
   |[]=>if ap.endLine==cp.line then(match kq ev C (.Call (.Attribute (.Name x xp) m ap) args [] cp)with
    |some f=>J8 f
    |none=>Kh ev C x m args)else vt
   |_=>vt)
  |e=>if km e then za (ev C e)else vt)
 | .If c a b _ => (match Fj ev C c with
  |some f=>Nc f (bv C a) (bv C b)
  |none=>ic (tv C c) (bv C a) (bv C b))
 | .For tg iter body els _ => (match els, BW C tg with
  |[],some f=>if l7 iter then c8 f (Fk ev C tg iter) (bv C body)else vt
  |_,_=>vt)
 |.Raise exc cause rp=>A0 T ev C (.Raise exc cause rp)
 |_=>vt
def JH(T:GT)(ev tv:Ev)(bv:Bv)(C:SC)(st:Stmt):En->Out:=fz (HP C (cU T st)) (AF T ev tv bv C st)
def Qb(f:Stmt->En->Out):List Stmt->En->Out
 |[]=>cf
 |[s]=>f s
 |s::r=>ar (f s) (Qb f r)
def KW(T:GT)(bv:Bv):Prop:=∀X C G0 B (E:XK) ss,SOk X C T E->zw X G0 B (ek (kx X) E) ss (bv C ss)
section
variable{T:GT}{ev tv:Ev}{bv:Bv}{X:Cx}{C:SC}{G0 B:Hp}{E:XK}{pos pos':Pos}
def SF(h:jd T ev)(O:XOk X C T E)(hg:Nn T ev C e=some g):CY X B (ek (kx X) E) e g:=by
 unfold Nn at hg;split at hg
 ·rename_i es _
  by_cases hn:es.all iy=true
  ·rw[dJ hn]at hg;cases hg;exact Y5 yg (ym h O hn)
  ·rw[dM hn]at hg;cases hg
 ·rename_i x p a pos
  by_cases hb:Ur T C x "list"=true
  ·rw[dJ hb]at hg;obtain⟨rfl,hgl⟩:=Sa O hb
   by_cases hn:iy a=true
   ·rw[dJ hn]at hg;cases hg;exact Mx O.calm hgl (O.bl _ (by decide)) (cy h O a) hn
   ·rw[dM hn]at hg;cases hg
  ·rw[dM hb]at hg;cases hg
 ·cases hg
def RK(O:XOk X C T E)(hg:Fi T ev C e=some g):∃p a q,e=.Call (.Name "dict" p) [a] [] q/\g=lr ev C a/\Gl X "dict"/\iy a=true:=by
 unfold Fi at hg;split at hg
 ·rename_i x p a q
  by_cases hc:(Ur T C x "dict" && iy a)=true
  ·rw[dJ hc]at hg;rw[dQ]at hc;obtain⟨rfl,hg'⟩:=Sa O hc.1;cases hg;exact⟨p,a,q,rfl,rfl,hg',hc.2⟩
  ·rw[dM hc]at hg;cases hg
 ·cases hg
def KM(h:jd T ev)(ht:Fv T tv)(O:SOk X C T E):su X G0 B (ek (kx X) E) (.Assign [.Name x pos'] e pos) (Cw T ev tv C x e):=by
 unfold Cw;cases hs:wx C x with
 |none=>exact qz
 |some i=>
  dsimp only;have gen:su X G0 B (ek (kx X) E) (.Assign [.Name x pos'] e pos) (match Nn T ev C e with
   |some g=>if km e then ie i g else vt
   | none => if km e then (match Nm ev tv C e with
    |some f=>uw i f
    | none => (match Fi T ev C e with
     |some g=>Az i g
     |none=>b9 i (ev C e)))else vt):=by
   cases ho:Nn T ev C e with
   |none=>
    dsimp only
    by_cases hn:km e=true
    ·rw[dJ hn];cases hf:Nm ev tv C e with
     |none=>
      cases hd:Fi T ev C e with
      |none=>
       have he:=h X C B E e O.toXOk;exact JJ he (O.st hs he (f9 hn))
      |some g=>
       obtain⟨p,a,q,rfl,rfl,hg,na⟩:=RK O.toXOk hd;have he:=EH (X:=X) (B:=B) (E:=ek (kx X) E) (p:=p) (pos:=q) hg (O.bl _ (by decide)) (cy h O.toXOk a) na;exact HV (O.st hs he (f9 hn))
     |some f=>
      have he:BC X G0 B (ek (kx X) E) e f:=ZT h ht O.toXOk hf;exact OG (O.st hs he (f9 hn))
    ·rw[dM hn];exact qz
   |some g=>
    dsimp only
    by_cases hn:km e=true
    ·rw[dJ hn];have he:CY X B (ek (kx X) E) e g:=SF h O.toXOk ho;exact AR he (O.st hs he (f9 hn))
    ·rw[dM hn];exact qz
  cases e with
  |Dict ks vs p=>
   have gd:su X G0 B (ek (kx X) E) (.Assign [.Name x pos'] (.Dict ks vs p) pos) (if km (.Dict ks vs p)then b9 i (ev C (.Dict ks vs p))else vt):=by
    by_cases hn:km (.Dict ks vs p)=true
    ·rw[dJ hn];have he:=h X C B E (.Dict ks vs p) O.toXOk;exact JJ he (O.st hs he (f9 hn))
    ·rw[dM hn];exact qz
   cases ks with
   |nil=>
    cases vs with
    |nil=>
     dsimp only
     by_cases ht:C.td.contains x=true
     ·rw[dJ ht];exact HW (O.st hs Zb (f9 rfl))
     ·rw[dM ht];exact OH (O.st hs M0 (f9 rfl))
    |cons _ _=>exact gd
   |cons _ _=>exact gd
  |ListComp elt gens scope lp=>
   have hw:=Dj (X:=X) (B:=B) (E:=E) (pos:=lp) (elt:=elt) (gens:=gens) (scope:=scope) h ht O.toXOk;have sw:∃b,kB (.ListComp elt gens scope lp) (some (.Name x pos')) pos.line X.env=pure b:=⟨_,rfl⟩;obtain⟨b,sw⟩:=sw;cases b with
   |false=>exact AR hw.1 (O.st hs hw.1 sw)
   |true=>
    show su X G0 B _ _ (ie i (ny ev tv C elt gens scope));obtain⟨l1,l2,l3⟩:=El hs;have hy:X.N[i]?=some x:=by rw[O.n];exact l1
    have hl:L2.IP X.env.scope x:=by rw[O.s];exact D8 l2
    have hN:X.N.Nodup:=by rw[O.n];exact O.nd
    clear hw;cases ID (B:=B) (elt:=elt) (gens:=gens) (scope:=scope) h ht O.toXOk with
    |st e=>rw[e];exact λpins s U H D I ⟨G,δ,R,ex,q⟩=>q.elim
    |ok eg eG st hF hi hs=>
     rw[eG];subst eg;intro pins s U H D I q;obtain⟨cl,O2,Bk⟩:=st I.ok;exact OI O2 O.calm Bk hF hi hN hy hl (O.fn x l3) hs sw pins s U H D I q
  |_=>exact gen
def Rq(hn:iy a=true):((iY cpos (eE [a] env)).all (λx=> !x.1) && (rA cpos (nR [] env)).all (λx=>x.1.isSome)
   && decide (([a]:List Expr).length+([]:List lP).length+(if([]:List lP).isEmpty then 0 else 1)<30))=true:=by
 rw[uy (by rw[fT,hn];rfl)];rfl
def SR(h:jd T ev)(O:SOk X C T E){p ap cp:Pos}(hl:(ap.endLine==cp.line)=true):su X G0 B (ek (kx X) E) (.Expr (.Call (.Attribute (.Name x p) m ap) args [] cp) pos) (Kh ev C x m args):=by
 unfold Kh;split
 ·rename_i i a hs
  by_cases hm:m="append"
  ·subst hm;rw[dJ rfl]
   by_cases hn:iy a=true
   ·rw[dJ hn];exact AU (O.var hs) (h X C B E a O.toXOk) rfl (Rq hn) hl (a8 hn) rfl rfl
   ·rw[dM hn];exact qz
  ·rw[dM hm]
   by_cases hm:m="extend"
   ·subst hm;rw[dJ rfl]
    by_cases hn:iy a=true
    ·rw[dJ hn];exact AS (O.var hs) (cy h O.toXOk a) rfl (Rq hn) hl (a8 hn) rfl rfl
    ·rw[dM hn];exact qz
   ·rw[dM hm];exact qz
 ·exact qz
def UP(h:jd T ev)(ht:Fv T tv)(hb:KW T bv)(O:SOk X C T E){st:Stmt}:su X G0 B (ek (kx X) E) st (AF T ev tv bv C st):=by
 have hu:X.A.units+5<gQ:=by have:=O.units;lia
 cases st with
 |Return o p=>
  cases o with
  |none=>exact OJ
  |some e=>exact UJ (h X C B E e O.toXOk)
 |Assign tgs e p=>
  show su X G0 B _ _ (match tgs with
   |[.Name x _]=>Cw T ev tv C x e
   | [.Subscript (.Name x _) k _] => (match slot C x with
    |some i=>if x9 k then(if C.td.contains x then yc i (lr ev C k) (ev C e)else w9 i (lr ev C k) (ev C e))else vt
    |none=>vt)
   |_=>vt)
  split
  ·exact KM h ht O
  ·rename_i x _ k _;cases hs:slot C x with
   |none=>exact qz
   |some i=>
    dsimp only
    by_cases hp:x9 k=true
    ·rw[dJ hp]
     by_cases htd:C.td.contains x=true
     ·rw[dJ htd];exact HZ hu (O.var hs) (cy h O.toXOk k) (h X C B E e O.toXOk) Ie
     rw[dM htd];exact OL hu (O.var hs) (cy h O.toXOk k) (h X C B E e O.toXOk) Ie
    ·rw[dM hp];exact qz
  ·exact qz
 |Expr e p=>
  show su X G0 B _ _ (match e with
   |.Constant (.str _) _ _=>Te
   | .Call (.Attribute (.Name x xp) m ap) args kws cp => (match kws with
    |[]=>if ap.endLine==cp.line then(match kq ev C (.Call (.Attribute (.Name x xp) m ap) args [] cp)with
     |some f=>J8 f
     |none=>Kh ev C x m args)else vt
    |_=>vt)
   |e=>if km e then za (ev C e)else vt)
  split
  ·exact UN
  ·rename_i x _ m ap args kws cp;cases kws with
   |nil=>
    dsimp only
    by_cases hl:(ap.endLine==cp.line)=true
    ·rw[dJ hl];cases hf:kq ev C _ with
     |none=>exact SR h O hl
     |some f=>exact HY (Dw h O.toXOk hf) rfl
    ·rw[dM hl];exact qz
   |cons _ _=>exact qz
  ·by_cases hn:km e=true
   ·rw[dJ hn];exact OK (h X C B E e O.toXOk) (f9 hn)
   ·rw[dM hn];exact qz
 |If c a b p=>
  show su X G0 B _ _ (match Fj ev C c with
   |some f=>Nc f (bv C a) (bv C b)
   |none=>ic (tv C c) (bv C a) (bv C b))
  cases hf:Fj ev C c with
  |none=>exact ZE (ht X C B E c O.toXOk) (hb X C G0 B E a O) (hb X C G0 B E b O)
  |some f=>exact UK (RD h O.toXOk hf) (hb X C G0 B E a O) (hb X C G0 B E b O)
 |For tg iter body els p=>
  show su X G0 B _ _ (match els,BW C tg with
   |[],some f=>if l7 iter then c8 f (Fk ev C tg iter) (bv C body)else vt
   |_,_=>vt)
  cases els with
  |cons _ _=>exact qz
  |nil=>
   cases hf:BW C tg with
   |none=>exact qz
   |some f=>
    dsimp only
    by_cases hn:l7 iter=true
    ·rw[dJ hn];obtain⟨gl,G⟩:=HE (B:=B) O hf;exact UM O.pass O.calm (JX h O.toXOk iter) G (hb X C G0 B E body O) (ro hn)
    ·rw[dM hn];exact qz
 |Raise exc cause p=>exact Z9 h O.toXOk
 |_=>exact qz
def AE(h:jd T ev)(ht:Fv T tv)(hb:KW T bv)(O:SOk X C T E){st:Stmt}:su X G0 B (ek (kx X) E) st (JH T ev tv bv C st):=UL _ (UP h ht hb O)
theorem AN{E:EK}(h:∀st,su X G0 B E st (f st)):∀{ss:List Stmt},zw X G0 B E ss (Qb f ss)
 |[]=>OA
 |[s]=>PZ (h s)
 |s::t::r=>HI (h s) (AN h (ss:=t::r))
end
def Rn:Nat:=40
def gB(T:GT):Nat->Bv
 |0=>λ_ _=>vt
 |n+1=>λC ss=>Qb (JH T (gP T Rn false) (gP T Rn true) (gB T n) C) ss
def UG:zw X G0 B E ss vt:=λpins s U H D I ⟨G,δ,R,x,q⟩=>q.elim
theorem Xn(T:GT):∀n,KW T (gB T n)
 |0=>λX C G0 B E ss O=>UG
 |n+1=>λX C G0 B E ss O=>AN λst=>AE (He T Rn).1 (He T Rn).2 (Xn T n) O
structure TabIs(P:eS)(w:fI)(K:eB)(mg:Str->Option dG)(base:Heap)(T:GT)(k:Nat):Prop where
 fns:∀x s,T.fns x=some s->∃f fd ps,mg x=some (.ref f)/\gO K (.ref f)=true/\Binds K fd ps []/\FnOk P w K mg base (Ge P w) k f fd ps (Qm ⟨K,Fs mg⟩ s.ms s.f)
 gstr:∀x y,T.gstr x=some y->∃t,mg x=some (.str y t)
 bl:∀x∈xf,mg x=none
 exc:∀x,T.xs.exc x=true->∃C bm newId,mg x=some (.ref C)/\jY K C bm newId=true/\ExBase bm newId
 sub:∀c y,T.xs.sub c y=true->∃Cy,mg y=some (.ref Cy)/\iS K (.ref (Fs mg c)) (.ref Cy)=some true
 ve:∀c,T.xs.ve c=true->PySem.W.kitCls K (.ref (Fs mg c)) (.type "ValueError")=some true
 nsub:∀c y,T.xs.nsub c y=true->∃Cy,mg y=some (.ref Cy)/\iS K (.ref (Fs mg c)) (.ref Cy)=some false
 lams:∀e fs ds d,T.lam e fs ds=.ok d->Wi P w K mg base k e fs ds d
 own:∀x s,T.own x=true->T.fns x=some s->∃f fd ps,mg x=some (.ref f)/\gO K (.ref f)=true/\Binds K fd ps []/\FnOk P w K mg base (Ge P w) k f fd ps (UH ⟨K,Fs mg⟩ s.ms s.f)
def Room.u65{A:fV}(r:Room k A):A.units+65<gQ:=by have:=r.un;lia
def TabIs.xok{X:Cx}{C:SC}(t:TabIs X.prog X.w X.K X.mg X.base T k)(hr:Room k X.A)(n:X.N=C.N)(s:X.env.scope=C.sc)(nd:C.N.Nodup)(calm:X.calm=true)(goes:pj (Ge X.prog X.w) X E)(lamc:C.lam=true->Wh X):XOk X C T E:=
 ⟨n,s,nd,calm,Room.u65 hr,λx s h=>by
  obtain⟨f,fd,ps,h1,h2,h3,h4⟩:=t.fns x s h;exact⟨k,f,fd,ps,hr,h1,h2,h3,h4⟩,t.gstr,t.bl,t.exc,t.sub,t.ve,t.nsub,goes,lamc,λe fs ds d h=>⟨k,hr,t.lams e fs ds d h⟩,λx s h h'=>by
  obtain⟨f,fd,ps,h1,h2,h3,h4⟩:=t.own x s h h';exact⟨k,f,fd,ps,hr,h1,h2,h3,h4⟩⟩
structure DefR where
 x:Str
 st:Stmt
 ms:List Bool
 lm:Bool
def Ci(st:Stmt):List Str:=(jm st).args.map (·.arg)
noncomputable def Eh(ps:List Str):List (Str×lE)->List Str
 |[]=>[]
 |(n,k)::r=>if(k=.local\/k=.cell)/\n∉ps then n::Eh ps r else Eh ps r
def JT(st:Stmt):List Str:=Ci st++Eh (Ci st) (bz st).names
def QU(st:Stmt)(lm:Bool):SC:=⟨JT st,bz st,Qu 20 (f6 st),lm⟩
noncomputable def Er(d:DefR):Bool:=
 decide ((bz d.st).kind=.function) && decide ((bz d.st).isCoroutine=false) && decide ((bz d.st).isGenerator=false) && decide ((JT d.st).Nodup) && decide ((JT d.st).take (Ci d.st).length=Ci d.st) &&
 ((Ci d.st).all λx=>decide ((bz d.st).names.lookup x=some .local)||decide ((bz d.st).names.lookup x=some .cell)) && ((bz d.st).names.all λy=>decide (y.2≠.free)) && decide (d.ms.length=(Ci d.st).length)
def Bs{d:DefR}(h:Er d=true):FnScope (JT d.st) (Ci d.st) (bz d.st)/\d.ms.length=(Ci d.st).length:=by
 unfold Er at h;simp only[dQ,decide_eq_true_eq]at h;obtain⟨⟨⟨⟨⟨⟨⟨h1,h2⟩,h3⟩,h4⟩,h5⟩,h6⟩,h7⟩,h8⟩:=h;refine⟨⟨h1,h2,h3,h4,h5,λx hx=>?_,λy hy=>?_⟩,h8⟩
 ·have q:=List.all_eq_true.mp h6 x hx;rw[jO,decide_eq_true_eq,decide_eq_true_eq]at q;exact q
 ·exact of_decide_eq_true (List.all_eq_true.mp h7 y hy)
def Im(st:Stmt)(x:Str):Prop:=∀(kV doc pm:dG)(an:Option Addr)(cdv ct:dG)(us:List dG),us.length=(Ci st).length->bindArgs (iU x x (jm st) (f6 st) (bz st) .none kV doc pm an cdv ct) ⟨us,[]⟩=pure ((Ci st).zip us)
structure DefIn(K:eB)(mg:Str->Option dG)(d:DefR):Prop where
 ok:Er d=true
 bd:Im d.st d.x
 at_:∃f fd,mg d.x=some (.ref f)/\Fun K d.x d.x d.st f fd/\(d.lm=true->∃c P,fd.code=.ref c/\(c,P,d.x++".<locals>."++"<lambda>")∈Qs/\rH K c P=true)
def LZ{K:eB}{h:Heap}{mg:Str->Option dG}{d:DefR}(X:K.In h)(G:h.Ns gA mg)(ok:Er d=true)(bd:Im d.st d.x){f:Addr}{oc kV doc pm cdv ct:dG}{od an:Option Addr}{osl:Array (Option dG)}
  (a:kX K gA d.x=some (some (.ref f)))(l:K.lookup f=some ⟨oc,od,.func (iU d.x d.x (jm d.st) (f6 d.st) (bz d.st) .none kV doc pm an cdv ct),osl⟩)(c:lF K cdv d.x=true)(k:gO K (.ref f)=true)(m:d.lm=true->∃c P,cdv=.ref c/\(c,P,d.x++".<locals>."++"<lambda>")∈Qs/\rH K c P=true):DefIn K mg d:=
 ⟨ok,bd,f,_,fX X G a,Xm l c k,m⟩
def look(ds:List DefR)(x:Str):Option DefR:=match ds with
 |[]=>none
 |d::r=>if d.x=x then some d else look r x
theorem Md{d:DefR}:∀{ds:List DefR},look ds x=some d->d∈ds/\d.x=x
 |[],h=>by cases h
 |e::r,h=>by
  unfold look at h
  by_cases z:e.x=x
  ·rw[dJ z]at h;cases h;exact⟨dH,z⟩
  ·rw[dM z]at h;obtain⟨q1,q2⟩:=Md h;exact⟨dF _ q1,q2⟩
def Wr:Nat:=20
def ai(T:GT)(d:DefR):List D->Res:=ZS d.ms (JT d.st).length (gB T Wr (QU d.st d.lm) (f6 d.st))
noncomputable def tm(ds:List DefR)(gs:Str->Option Str)(xs:XT):Nat->GT
 |0=>⟨λ_=>none,gs,xs,λ_ _ _=>.st,λ_=>false⟩
 |n+1=>⟨λx=>match look ds x with
  |some d=>some ⟨d.ms,ai (tm ds gs xs n) d⟩
  |none=>none,gs,xs,λ_ _ _=>.st,λ_=>false⟩
structure XsIn(K:eB)(mg:Str->Option dG)(xs:XT):Prop where
 exc:∀x,xs.exc x=true->∃C bm newId,mg x=some (.ref C)/\jY K C bm newId=true/\ExBase bm newId
 sub:∀c y,xs.sub c y=true->∃Cy,mg y=some (.ref Cy)/\iS K (.ref (Fs mg c)) (.ref Cy)=some true
 ve:∀c,xs.ve c=true->PySem.W.kitCls K (.ref (Fs mg c)) (.type "ValueError")=some true
 nsub:∀c y,xs.nsub c y=true->∃Cy,mg y=some (.ref Cy)/\iS K (.ref (Fs mg c)) (.ref Cy)=some false
section
variable{P:eS}{w:fI}{K:eB}{mg:Str->Option dG}{base:Heap}{ds:List DefR}{gs:Str->Option Str}{xs:XT}
def BZ{d:DefR}(n:Nat)(h:look ds x=some d):(tm ds gs xs (n+1)).fns x=some ⟨d.ms,ai (tm ds gs xs n) d⟩:=by
 show(match look ds x with
  |some d=>some (FS.mk d.ms (ai (tm ds gs xs n) d))
  |none=>none)=_
 rw[h]
def Bm(mg:Str->Option dG)(base:Heap):Prop:=∃bm o,mg "__builtins__"=some (.ref bm)/\bm≠oQ/\bm≠gA/\base.get? bm=some o/\o.cls=.type "module"/\o.dict=some oQ/\o.data=.plain
theorem rl{lo:Nat}:∀(names:List (Str×lE))(n:Nat)(acc:List (Str×Addr)),lo<=n->(∀p∈acc,lo<=p.2)->∀p∈sH n names acc,lo<=p.2
 |[],_,acc,_,h,p,hp=>h p hp
 |(nm,kd)::r,n,acc,hl,h,p,hp=>by
  unfold sH at hp;split at hp
  ·refine rl r (n+1) _ (Nat.le_succ_of_le hl) (λq hq=>?_) p hp;rcases List.mem_cons.mp hq with rfl|hq
   ·exact hl
   ·exact h q hq
  ·exact rl r n _ hl h p hp
def Sf{d:DefR}{fd:lS}(kb:K.In base)(bm:Bm mg base)(hc:fd.code=cdv)(hl:d.lm=true->∃c P,fd.code=.ref c/\(c,P,d.x++".<locals>."++"<lambda>")∈Qs/\rH K c P=true):
  (QU d.st d.lm).lam=true->Wh (Ca (Ge P w) P w K mg base N d.x (bz d.st) f cdv A outer s H E):=λz=>by
 obtain⟨c,Pl,h1,h2,h3⟩:=hl z;refine⟨c,Pl,h2,hc.symm.trans h1,PySem.W.codeHd_of_K kb h3,bm,λy c hy=>?_,λy hy=>decide_eq_false λz=>z hy⟩;exact rl _ _ _ (oX _) (λp hp=>by simp at hp) _ (jQ hy)
theorem BY(kb:K.In base)(bm:Bm mg base)(hd:∀d∈ds,DefIn K mg d)(hs:∀x y,gs x=some y->∃t,mg x=some (.str y t))(hb:∀x∈xf,mg x=none)(hX:XsIn K mg xs):∀n,TabIs P w K mg base (tm ds gs xs n) n
 |0=>⟨λx s h=>(by cases h),hs,hb,hX.exc,hX.sub,hX.ve,hX.nsub,λe fs ds d h=>(by cases h),λx s h=>(by cases h)⟩
 |n+1=>by
  have ih:=BY kb bm hd hs hb hX n;refine⟨λx s h=>?_,hs,hb,hX.exc,hX.sub,hX.ve,hX.nsub,λe fs ds' d h=>(by cases h),λx s h h'=>(by cases h)⟩;unfold tm at h;dsimp only at h;cases e:look ds x with
  |none=>rw[e]at h;cases h
  |some d=>
   rw[e]at h;cases h;obtain⟨m1,m2⟩:=Md e;subst m2;obtain⟨ok,bd,f,fd,q1,F,hl⟩:=hd d m1;obtain⟨S,hm⟩:=Bs ok;refine⟨f,fd,Ci d.st,q1,F.kp,F.binds bd,Xl F S hm λcdv A outer s H G0 E hc hr=>?_⟩;exact Xn _ _ _ (QU d.st d.lm) G0 H E _ ⟨TabIs.xok (X:=Ca (Ge P w) P w K mg base (JT d.st) d.x (bz d.st) f cdv A outer s H E) ih hr rfl rfl S.nd rfl Hw (Sf kb bm hc hl),λy hy=>decide_eq_true hy,PassesOwn.leaving,rfl,rfl,rfl⟩
def Tj(K:eB):Sp:=λvs H Q _=>GOk H/\∃(a:Addr) (ns:List Int),vs=[.ref a]/\SqL K H a (ns.map V.int)/\ns.length<=63/\∀H',Q (.bl true) H'
theorem Gv{K:KA}{G:Hp}:∀ns:List Int,DenL K G (ns.map D.int) (ns.map V.int)
 |[]=>rfl
 |n::ns=>⟨.int n,ns.map V.int,rfl,rfl,Gv ns⟩
def MZ{d:DefR}{f:Addr}{oc kV doc pm cdv ct:dG}{od an:Option Addr}{osl:Array (Option dG)}(ok:Er d=true)(nl:d.lm=false)
  (a:kX K gA d.x=some (some (.ref f)))(l:K.lookup f=some ⟨oc,od,.func (iU d.x d.x (jm d.st) (f6 d.st) (bz d.st) .none kV doc pm an cdv ct),osl⟩)(c:lF K cdv d.x=true)(k:gO K (.ref f)=true)
  (kb:K.In base) (bm:Bm mg base) (hd:∀d∈ds,DefIn K mg d) (hs:∀x y,gs x=some y->∃t,mg x=some (.str y t)) (hb:∀x∈xf,mg x=none) (hX:XsIn K mg xs) {n:Nat} {s:FS} (hl:(tm ds gs xs n).fns "law"=some s) (hm:s.ms=[false])
  (law:∀ns:List Int,ns.length<=63->s.f [.lst (ns.map D.int)]=.ok (.bl true)) (hx:look ds "law"=some d:=by rfl) (hp:Ci d.st=[("_law_script":Str)]:=by rfl):
  FnOk P w K mg base QC n f (iU d.x d.x (jm d.st) (f6 d.st) (bz d.st) .none kV doc pm an cdv ct) ["_law_script"] (Tj K):=by
 cases n with
 |zero=>cases hl
 |succ n=>
  unfold tm at hl;dsimp only at hl;rw[hx]at hl;cases hl;obtain⟨S,hm'⟩:=Bs ok;have F:=Xl (P:=P) (w:=w) (base:=base) (mg:=mg) (k:=n) (ms:=d.ms) (Fb:=gB (tm ds gs xs n) Wr (QU d.st d.lm) (f6 d.st)) (Xm l c k) S hm' λcdv' A outer s H G0 E hc hr=>by
   exact Xn _ _ _ (QU d.st d.lm) G0 H E _ ⟨TabIs.xok (X:=Ca (Ge P w) P w K mg base (JT d.st) d.x (bz d.st) f cdv' A outer s H E) (BY kb bm hd hs hb hX n) hr rfl rfl S.nd rfl Hw (Sf kb bm hc λz=>by rw[nl]at z;cases z),λy hy=>decide_eq_true hy,PassesOwn.leaving,rfl,rfl,rfl⟩
  rw[hp]at F;refine F.calm.imp λvs H Q E ⟨gb,a,ns,e,sq,hn,q⟩=>?_;subst e;have hm:d.ms=[false]:=hm;have e:ai (tm ds gs xs n) d [.lst (ns.map D.int)]=.ok (.bl true):=law ns hn;show Qm _ d.ms (ai (tm ds gs xs n) d) _ H Q E0;refine⟨by rw[hm];rfl,gb,H,[.lst (ns.map D.int)],Same.refl H,by rw[hm];exact⟨_,[],_,[],rfl,rfl,⟨a,_,rfl,sq,Gv ns⟩,rfl,rfl⟩,?_⟩;rw[e];intro v G' H' _ dn;rw[show v=.bl true from dn];exact q H'
end
def B3(b:Addr):Option HO:=(Qs.find? λp=>p.2.1==b).map λp=>.tbl p.2.2
def Fm(h:B3 b=some o):∃p∈Qs,p.2.1=b/\o=.tbl p.2.2:=by
 unfold B3 at h;cases e:Qs.find? λp=>p.2.1==b with
 |none=>rw[e]at h;cases h
 |some p=>
  rw[e]at h;cases h;exact⟨p,List.mem_of_find?_eq_some e,by simpa using List.find?_some e,rfl⟩
theorem Rv{f:α->Addr}:∀{l:List α}{p:α},(l.map f).Nodup->p∈l->l.find? (λq=>f q==f p)=some p
 |[],_,_,h=>by simp at h
 |a::r,p,nd,h=>by
  rw[dC,List.nodup_cons]at nd;rw[kL]
  by_cases e:f a=f p
  ·have hb:(f a==f p)=true:=by simpa using e
   rw[hb];rcases List.mem_cons.mp h with rfl|h
   ·rfl
   ·exact absurd (e▸mU h) nd.1
  ·have hb:(f a==f p)=false:=by simpa using e
   rw[hb];rcases List.mem_cons.mp h with rfl|h
   ·exact absurd rfl e
   ·exact Rv nd.2 h
def Vz(nd:(Qs.map (·.2.1)).Nodup){p:Addr×Addr×Str}(hp:p∈Qs):B3 p.2.1=some (.tbl p.2.2):=by
 unfold B3;rw[Rv (f:=λp:Addr×Addr×Str=>p.2.1) nd hp];rfl
def Wj(h:Heap):Prop:=∀p∈Qs,PySem.W.CodeHd h p.1 p.2.1/\h.get? p.2.1=some (qC #[])
def U0{P:eS}{w:fI}{K:eB}{mg mb:Str->Option dG}{k:Nat}{fa a:Addr}{fd:lS}{x:Str}{s₁:dP}{vs:List dG}{ns:List Int}
  (KX:K.In s₁.heap)(nK:PySem.W.noTabs K=true)(nd:(Qs.map (·.2.1)).Nodup)(tb:Wj s₁.heap)(bm:Bm mg s₁.heap)(hns:s₁.heap.Ns gA mg)(hb:s₁.heap.Ns oQ mb)(hbb:∀x:Str,x≠"__name__"->mb x=jR x)(hlim:s₁.heap.NoLimit)(hg:s₁.gens=#[])
  (ha:s₁.heap.get? a=some {cls:=.type "list",data:=.seq vs.toArray}) (hi:IntsAre vs ns) (hl:ns.length<=dN) (hl2:ns.length<=63) (hr:Room k sJ)
  (F:∀base:Heap,K.In base->base.Ns gA mg->Bm mg base->FnOk P w K mg base QC k fa fd [x] (Tj K)) (hbind:∀(s:dP)(u:dG),BindsTo s fd ⟨[u],[]⟩ [(x,u)]):
  lM (eJ P w) sJ (.call (.ref fa) ⟨[.ref a],[]⟩) (λr s'=>r=.ok (.ret (.bool true))/\OldK s₁.heap s'.heap/\s'.os=s₁.os/\pO s'.gens) s₁:=by
 have rv:=Ii hi;have lenV:=hi.length;have tne:∀{b:Addr}{u:HO},B3 b=some u->s₁.heap.get? b=some (qC #[]):=λ{b u} e=>by
  obtain⟨p,hp,rfl,_⟩:=Fm e;exact(tb p hp).2
 have core:∀S:Option HO,(S=none\/S=some (.frz {cls:=.type "list",data:=.seq vs.toArray} (.lst (ns.map V.int))))->(S≠none->K.lookup a=none)->SqL K (λb=>if b=a then S else B3 b) a (ns.map V.int)->
   lM (eJ P w) sJ (.call (.ref fa) ⟨[.ref a],[]⟩) (λr s'=>r=.ok (.ret (.bool true))/\OldK s₁.heap s'.heap/\s'.os=s₁.os/\pO s'.gens) s₁:=by
  intro S hS hSK sq;generalize hH:(λb=>if b=a then S else B3 b)=H at sq;have Ha:H a=S:=by rw[<-hH];exact dJ rfl
  have Hb:∀b,b≠a->H b=B3 b:=λb hb=>by rw[<-hH];exact dM hb
  have kind:∀{b:Addr}{u:HO},H b=some u->(b=a/\u=.frz {cls:=.type "list",data:=.seq vs.toArray} (.lst (ns.map V.int))/\K.lookup a=none)\/∃p∈Qs,p.2.1=b/\u=.tbl p.2.2:=λ{b u} e=>by
   by_cases z:b=a
   ·rw[z,Ha]at e;rcases hS with y|y
    ·rw[y]at e;cases e
    ·rw[y]at e;cases e;exact .inl ⟨z,rfl,hSK (by rw[y];simp)⟩
   ·rw[Hb b z]at e;exact .inr (Fm e)
  have hok:HOk P w H s₁.heap:=λb u e=>by
   rcases kind e with ⟨rfl,rfl,_⟩|⟨p,hp,rfl,rfl⟩
   ·exact⟨ha,by rw[dD];exact hl,vs,_,rv,ha⟩
   ·exact⟨#[],(tb p hp).2,trivial⟩
  have base_of:∀{b:Addr}{o:Obj},s₁.heap.get? b=some o->H b=none->(F9 s₁.heap H).get? b=some o:=λe n=>Xt e n;have free:∀{b:Addr}{o:Obj},s₁.heap.get? b=some o->(∀n,o.data≠.seq vs.toArray n)->o≠qC #[]->H b=none:=λ{b o} e h1 h2=>by
   cases q:H b with
   |none=>rfl
   |some u=>
    rcases kind q with ⟨rfl,_⟩|⟨p,hp,rfl,_⟩
    ·rw[ha]at e;cases e;exact absurd rfl (h1 _)
    ·rw[(tb p hp).2]at e;cases e;exact absurd rfl h2
  have nsK:∀{b:Addr}{m:Str->Option dG},s₁.heap.Ns b m->(F9 s₁.heap H).Ns b m:=λ{b m} ⟨o,es,ep,e,d,r⟩=>⟨o,es,ep,base_of e (free e (λn z=>by rw[d]at z;cases z) λz=>by rw[z]at d;cases d),d,r⟩;have hKb:K.In (F9 s₁.heap H):=λb o e=>base_of (KX b o e) (by
   cases q:H b with
   |none=>rfl
   |some u=>
    rcases kind q with ⟨rfl,_,z⟩|⟨p,hp,rfl,_⟩
    ·rw[z]at e;cases e
    ·have e2:=KX _ _ e;rw[(tb p hp).2]at e2;have h2:=List.all_eq_true.mp nK _ (PySem.W.mem_of_lookupK e);cases e2;exact absurd (show false=true from h2) Bool.false_ne_true)
  have bmK:Bm mg (F9 s₁.heap H):=by
   obtain⟨m,o,b1,b2,b3,b4,b5,b6,b7⟩:=bm;exact⟨m,o,b1,b2,b3,base_of b4 (free b4 (λn z=>by rw[b7]at z;cases z) λz=>by rw[z]at b5;cases b5),b5,b6,b7⟩
  have hM:Mod K mg (F9 s₁.heap H):=⟨hKb,nsK hns,⟨mb,nsK hb,hbb⟩,let ⟨mc,h1,h2⟩:=hlim;⟨mc,nsK h1,h2⟩⟩;have e0:Env0 P w K mg (F9 s₁.heap H) sJ [] s₁ H:=⟨rfl,hM,λb o e=>EG e,lQ (Up _ _),trivial,λb hb=>absurd (show b∈([]:List Addr)from hb) (by simp),hok,.of_eq hg⟩;have gb:GOk H:=λp hp=>by
   have:p.2.1≠a:=λz=>by
    have:=(tb p hp).2;rw[z,ha]at this;cases this
   rw[Hb _ this];exact Vz nd hp
  refine nX ((F _ hKb (nsK hns) bmK).run sJ [] s₁ H ⟨[.ref a],[]⟩ [.ref a] [.ref a] (λv _=>v=.bl true) E0 hr e0 (hbind s₁ (.ref a)) (.cons rfl .nil) ⟨gb,a,ns,rfl,sq,hl2,λ_=>rfl⟩) λr s' h=>?_;cases r with
  |error e=>exact lN h
  |ok fl=>
   cases fl with
   |next=>exact lN h
   |brk=>exact lN h
   |cont=>exact lN h
   |ret u=>
    obtain⟨v,H',os,bare,un,hok',r',q⟩:=h;have q':v=.bl true:=q;subst q';obtain rfl:u=nL true:=r';have keep:∀b o,s₁.heap.get? b=some o->(s'.heap.get? b=some o)\/∃p∈Qs,p.2.1=b/\∃ps,s'.heap.get? b=some (qC ps):=λb o e=>by
     cases q:H b with
     |none=>exact .inl (un.keep b o e q (by intro z;exact absurd (show b∈([]:List Addr)from z) (by simp)) (by simp))
     |some u=>
      rcases kind q with ⟨rfl,rfl,_⟩|⟨p,hp,rfl,rfl⟩
      ·obtain⟨e1,_⟩:=hok b _ q;obtain⟨e2,_⟩:=hok' b _ (un.frzs b _ _ q);rw[e]at e1;cases e1;exact .inl e2
      ·obtain⟨ps,e2,_⟩:=hok' _ _ (un.tbls _ _ q);exact .inr ⟨p,hp,rfl,ps,e2⟩
    refine⟨rfl,⟨λb o e=>?_,λb o e=>?_⟩,os,bare⟩
    ·rcases keep b o e with z|⟨p,hp,rfl,ps,z⟩
     ·exact .inl z
     ·obtain⟨c1,c2⟩:=tb p hp;rw[c2]at e;cases e;exact .inr (.inl ⟨(c1.tab c2).isCodeTable,rfl,#[],ps,rfl,by rw[Array.empty_append];exact z⟩)
    ·rcases keep b o e with z|⟨p,hp,rfl,ps,z⟩
     ·exact⟨_,z⟩
     ·exact⟨_,z⟩
 cases hk:K.lookup a with
 |some o=>
  have e:=KX a o hk;rw[ha]at e;cases e;exact core none (.inl rfl) (λz=>absurd rfl z) (.inr ⟨_,vs.toArray,_,hk,rfl,rfl,rfl,by rw[eF,lenV];exact hl,by simpa using rv⟩)
 |none=>exact core _ (.inr rfl) (λ_=>hk) (.inl (.inr ⟨{cls:=.type "list",data:=.seq vs.toArray},dJ rfl⟩))
def VG{l:PySem.W.OpenLaw}{d:DefRec}{K:Params->eB}(hn:l.most=some 63)(hdf:d.params.defaults=[])(hr:Room k sJ)(nd:(Qs.map (·.2.1)).Nodup)
  (hY:∀(w:fI)(h:Heap),YP w h->(K w.params).In h)(nK:∀w:fI,PySem.W.noTabs (K w.params)=true)
  (tb:∀(w:fI)(h:Heap),YP w h->Wj h)
  (F:∀(w:fI)(mg:Str->Option dG)(fa:Addr)(h:Heap),(K w.params).In h->h.Ns gA mg->mg d.name=some (.ref fa)->
   ∃fd:lS,(∀(s:dP)(u:dG),BindsTo s fd ⟨[u],[]⟩ [("_law_script",u)])/\∀base:Heap,(K w.params).In base->base.Ns gA mg->Bm mg base->FnOk l.prog w (K w.params) mg base QC k fa fd ["_law_script"] (Tj (K w.params))):
  PySem.W.WalkO q loose XP YP l.row.toRowW d [] (λf vs=>PySem.call f vs):=by
 refine Att.Ku hn hdf λw s₀ s₁ mg mb fa o pm cd doc a vs ns G Y ho hd hcd hmg hobj hints hlen hg=>?_;have KX:=hY w _ Y;obtain⟨fd,hb,hF⟩:=F w mg fa _ KX G.T.g hmg;obtain⟨bm,ob,b1,b2,b3,b4,b5,b6⟩:=G.T.bmain;have bG:bm≠gA:=λz=>by
  obtain⟨o,es,ep,e,hd,_⟩:=G.T.g;rw[z,e]at b3;cases b3;rw[hd]at b6;cases b6
 exact U0 KX (nK w) nd (tb w _ Y) ⟨bm,ob,b1,b2,bG,b3,b4,b5,b6⟩ G.T.g G.T.b G.T.builtins G.T.nolimit hg hobj hints (fF hlen (by decide)) hlen hr hF hb
end Pu
end
section
namespace LK
open PySem PySem.Spec PyProof.Rows L2 Pu
def p7(i:Nat):Stmt:=PySem.Challenge.pw_askbook_k04_whole_within.main.body.getD i (.Pass ⟨0,0,0,0⟩)
def ji:DefR:=⟨"put_in",p7 5,[true,true],false⟩
def cu:DefR:=⟨"put_further",p7 6,[true,true,true],false⟩
def oq:DefR:=⟨"is_number",p7 9,[true],false⟩
def mf:DefR:=⟨"is_word",p7 10,[true],false⟩
def qc:DefR:=⟨"is_term",p7 11,[true],false⟩
def ig:DefR:=⟨"is_tuple_of",p7 12,[true,true,true,true],false⟩
def me:DefR:=⟨"is_pair",p7 13,[true],false⟩
def vf:DefR:=⟨"is_atom",p7 14,[true],false⟩
def gm:DefR:=⟨"are_of_one_length",p7 15,[true],false⟩
def d7:DefR:=⟨"stand_ins",p7 16,[true],false⟩
def dj:DefR:=⟨"terms_of",p7 17,[true],false⟩
def j6:DefR:=⟨"are_standing",p7 18,[true,true],false⟩
def fm:DefR:=⟨"checked_asking",p7 19,[false],false⟩
def d5:DefR:=⟨"found_way",p7 21,[true,true,false],false⟩
def qg:DefR:=⟨"way_put",p7 22,[true,true],false⟩
def fh:DefR:=⟨"numbers_of",p7 23,[true],false⟩
def cc:DefR:=⟨"numbers_for_stand_ins",p7 24,[true,true],false⟩
def gq:DefR:=⟨"book_against",p7 25,[true,true],false⟩
def gu:DefR:=⟨"within",p7 26,[false,false],false⟩
def vd:DefR:=⟨"alike",p7 27,[false,false],false⟩
def k7:DefR:=⟨"_law_cell_at",p7 29,[true,true],false⟩
def az:DefR:=⟨"_law_mixed",p7 30,[true,true,true],false⟩
def mz:DefR:=⟨"_law_term",p7 31,[true,true],false⟩
def i5:DefR:=⟨"_law_atom",p7 32,[true,true],false⟩
def ff:DefR:=⟨"_law_asking",p7 33,[true,true,true],false⟩
def cx:DefR:=⟨"_law_stand_ins",p7 34,[true],false⟩
def j0:DefR:=⟨"_law_other",p7 35,[true,true],false⟩
def i6:DefR:=⟨"_law_sent",p7 36,[true,true],false⟩
def md:DefR:=⟨"_law_is_way",p7 37,[true,true,true],false⟩
def mh:DefR:=⟨"_law_fit",p7 38,[true,true,true],false⟩
def mw:DefR:=⟨"_law_fits",p7 39,[true,true],false⟩
def qf:DefR:=⟨"_law_put",p7 40,[true,true],false⟩
def jg:DefR:=⟨"_law_answers",p7 41,[true,true],false⟩
def j3:DefR:=⟨"_law_whole",p7 42,[true],false⟩
def my:DefR:=⟨"_law_name",p7 43,[true],false⟩
def k8:DefR:=⟨"_law_is_book",p7 44,[true],false⟩
def fk:DefR:=⟨"_law_shown",p7 45,[true,true,true],false⟩
def fj:DefR:=⟨"_law_changed",p7 46,[true,true],false⟩
def jh:DefR:=⟨"_law_numbers",p7 47,[true],false⟩
def gr:DefR:=⟨"_law_lengthened",p7 48,[true],false⟩
def jz:DefR:=⟨"_law_again",p7 49,[true,false,true,true],false⟩
def ue:DefR:=⟨"law",p7 50,[false],false⟩
def Jc:List DefR:=[ji,cu,oq,mf,qc,ig,me,vf,gm,d7,dj,j6,fm,d5,qg,fh,cc,gq,gu,vd,k7,az,mz,i5,ff,cx,j0,i6,md,mh,mw,qf,jg,j3,my,k8,fk,fj,jh,gr,jz,ue]
def xs:XT:=⟨λx=>decide (x="AskError")||(decide (x="NoAsking")||(decide (x="Unlike")||(false))),λc y=>(decide (c="AskError") && decide (y="AskError"))||((decide (c="NoAsking") && decide (y="NoAsking"))||((decide (c="NoAsking") && decide (y="AskError"))||((decide (c="Unlike") && decide (y="Unlike"))||((decide (c="Unlike") && decide (y="AskError"))||(false))))),λc=>decide (c="AskError")||(decide (c="NoAsking")||(decide (c="Unlike")||(false))),λc y=>false⟩
def gs(x:Str):Option Str:=if x="LETTERS" then some "abcdefghijklmnopqrstuvwxyz" else none
def MX:Er ue=true:=by decide+kernel
def tab(n:Nat):GT:=tm Jc gs xs n
def cB:List dG:=[.type "ValueError",.type "Exception",.type "BaseException",.type "object"]
def Q3:ExBase cB "ValueError.__new__":=⟨"ValueError",_,_,_,_,_,PySem.F.excBase_ValueError,by decide+kernel,PySem.F.excBase_ValueError⟩
end LK
end
section
namespace Pu
open PySem PySem.Spec PyProof.Rows L2
def cz{d:DefR}(h:gB T Wr (QU d.st d.lm) (f6 d.st)=F)(hn:(JT d.st).length=k)(hm:d.ms=ms)(ds:List D):ai T d ds=df (F (bp ms ds++eA (k - ds.length) .no)):=by
 unfold ai ZS;rw[h,hn,hm]
def cm(h:r δ=.ok ds):c8 tg r F δ=turns tg F ds δ:=by
 unfold c8;rw[h]
def bx(h:tg d δ=some δ1):turns tg F (d::r) δ=(match F δ1 with
  |.nx δ'=>turns tg F r δ'
  |.ct δ'=>turns tg F r δ'
  |.bk δ'=>.nx δ'
  |.rt d=>.rt d
  |.er c=>.er c
  |.st=>.st):=by
 show(match tg d δ with
  |none=>Out.st
  |some δ1=>match F δ1 with
   |.nx δ'=>turns tg F r δ'
   |.ct δ'=>turns tg F r δ'
   |.bk δ'=>.nx δ'
   |.rt d=>.rt d
   |.er c=>.er c
   |.st=>.st)=_
 rw[h]
theorem Gu:∀{ds:List D},(∀d∈ds,f d=some (g d))->k9 f ds=some (ds.filterMap g)
 |[],_=>rfl
 |d::r,h=>by
  unfold k9;rw[h d dH];dsimp only;rw[Gu λd hd=>h d (dF _ hd),gI];cases g d<;>rfl
def D0{ds:List D}(hr:r δ=.ok ds)(hl:ds.length<=dN)(hf:∀d∈ds,B6 ix t g δ d=some (h d)):cb r ix t g δ=.ok (.lst (ds.filterMap h)):=by
 unfold cb;rw[hr];dsimp only;rw[dJ hl,Gu hf]
def BO(h:g (b8 ix δ (.pu d))=.ok y):B6 ix (gC (.bl true)) g δ d=some (some y):=by
 unfold B6 gC;dsimp only;rw[h]
def zr(ht:t (b8 ix δ (.pu d))=.ok (.bl b))(h:b=true->g (b8 ix δ (.pu d))=.ok y):B6 ix t g δ d=some (if b then some y else none):=by
 unfold B6;rw[ht];cases b with
 |true=>dsimp only;rw[h rfl];rfl
 |false=>rfl
section
variable(δ:En)(d e:D)(i j:Nat)(g h k c:En->Res)(F F':En->Out)(r:En->ResL)(f:D->Option D)(f2 f3:D->D->Option D)
@[simp] theorem Nt(ms:List Bool):bp ms []=[]:=by cases ms<;>rfl
@[simp] theorem V7(ms:List Bool)(ds:List D):bp (true::ms) (d::ds)=.bo d::bp ms ds:=rfl
@[simp] theorem QJ(ms:List Bool)(ds:List D):bp (false::ms) (d::ds)=.pu d::bp ms ds:=rfl
@[simp] theorem o9:ar F F' δ=match F δ with
 |.nx δ'=>F' δ'
 |o=>o:=rfl
@[simp] theorem Nu:cf δ=.nx δ:=rfl
@[simp] theorem aP:Te δ=.nx δ:=rfl
@[simp] theorem cC:vt δ=.st:=rfl
@[simp] theorem bE:jq δ=.st:=rfl
@[simp] theorem JA:br g δ=(g δ).then .rt:=rfl
@[simp] theorem Q1:ic c F F' δ=(c δ).then λd=>match d with
 |.bl true=>F δ
 |.bl false=>F' δ
 |_=>.st:=rfl
@[simp] theorem BK:b9 i g δ=(g δ).then λd=>.nx (δ.set i (.pu d)):=rfl
@[simp] theorem BJ:ie i g δ=(g δ).then λd=>match d with
 |.lst ds=>.nx (δ.set i (.ow ds))
 |_=>.st:=rfl
@[simp] theorem aO:xa i δ=.nx (δ.set i (.od false [])):=rfl
@[simp] theorem YV:Az i g δ=(g δ).then λd=>match d with
 |.dct false kvs=>.nx (δ.set i (.od false kvs))
 |_=>.st:=rfl
@[simp] theorem ij(f:D->Out):(Res.ok d).then f=f d:=rfl
@[simp] theorem QF(f:D->Out):Res.st.then f=.st:=rfl
@[simp] theorem QG(f:D->Out)(c:Str):(Res.er c).then f=.er c:=rfl
@[simp] theorem V6(f:D->Res):(Res.ok d).bind f=f d:=rfl
@[simp] theorem QK(f:D->Res):Res.st.bind f=.st:=rfl
@[simp] theorem QL(f:D->Res)(c:Str):(Res.er c).bind f=.er c:=rfl
@[simp] theorem V9:Res.of (some d)=.ok d:=rfl
@[simp] theorem QH:Res.of none=.st:=rfl
@[simp] theorem VN:df (.rt d)=.ok d:=rfl
@[simp] theorem VO:df (.nx δ)=.ok .non:=rfl
@[simp] theorem VM:df .st=.st:=rfl
@[simp] theorem VP(c:Str):df (.er c)=.er c:=rfl
@[simp] theorem cX:bc i δ=match δ[i]? with
 |some (.pu d)=>.ok d
 |_=>.st:=rfl
@[simp] theorem bI:ah i δ=match δ[i]? with
 |some (.pu d)=>.ok d
 |some (.bo d)=>.ok d
 |some (.ow ds)=>.ok (.lst ds)
 |some (.od t kvs)=>.ok (.dct t kvs)
 |_=>.st:=rfl
@[simp] theorem cI:vz i δ=match δ[i]? with
 |some (.pu d)=>.ok d
 |some (.bo d)=>.ok d
 |_=>.st:=rfl
@[simp] theorem cA:gC d δ=.ok d:=rfl
@[simp] theorem IW:g1 f g δ=(g δ).bind λx=>Res.of (f x):=rfl
@[simp] theorem IV:g2 f2 g h δ=(g δ).bind λx=>(h δ).bind λy=>Res.of (f2 x y):=rfl
@[simp] theorem bF:Rz c g h δ=(c δ).bind λd=>match d with
 |.bl true=>g δ
 |.bl false=>h δ
 |_=>.st:=rfl
@[simp] theorem bA:gw c δ=(c δ).bind λd=>match d with
 |.bl b=>.ok (.bl !b)
 |_=>.st:=rfl
@[simp] theorem bL:jv g h δ=(g δ).bind λd=>match d with
 |.bl true=>h δ
 |.bl false=>.ok (.bl false)
 |_=>.st:=rfl
@[simp] theorem aQ:vi g h δ=(g δ).bind λd=>match d with
 |.bl true=>.ok (.bl true)
 |.bl false=>h δ
 |_=>.st:=rfl
@[simp] theorem cY:fc g δ=(g δ).bind λx=>Res.of (bD (Fq x)):=rfl
@[simp] theorem VL(b:Bool):bD (Fq (.bl b))=some (.bl b):=rfl
@[simp] theorem WR:xn f2 f3 g h k δ=(g δ).bind λx=>(h δ).bind λy=>(Res.of (f2 x y)).bind λz=>match z with
 |.bl true=>(k δ).bind λw=>Res.of (f3 y w)
 |.bl false=>.ok (.bl false)
 |_=>.st:=rfl
@[simp] theorem Q0:af g r δ=match g δ with
 | .ok d => (match r δ with
  |.ok ds=>.ok (d::ds)
  |.er c=>.er c
  |.st=>.st)
 |.er c=>.er c
 |.st=>.st:=rfl
@[simp] theorem PH:ao δ=.ok []:=rfl
@[simp] theorem aR(fn:List D->Res):aq fn r δ=match r δ with
 |.ok ds=>fn ds
 |.er c=>.er c
 |.st=>.st:=rfl
@[simp] theorem VQ:gj r δ=match r δ with
 |.ok ds=>if ds.length<=16777216 then .ok (.lst ds)else .st
 |.er c=>.er c
 |.st=>.st:=rfl
@[simp] theorem VJ:gz r δ=match r δ with
 |.ok ds=>if ds.length<=16777216 then .ok (.tup ds)else .st
 |.er c=>.er c
 |.st=>.st:=rfl
@[simp] theorem QZ:a5 g δ=match g δ with
 | .ok d => (match Ij d with
  |some ds=>.ok ds
  |none=>.st)
 |.er c=>.er c
 |.st=>.st:=rfl
@[simp] theorem VI(ds:List D):Ij (.lst ds)=some ds:=rfl
@[simp] theorem VH(ds:List D):Ij (.tup ds)=some ds:=rfl
@[simp] theorem BL:fz [] F δ=F δ:=rfl
@[simp] theorem PJ(is:List Nat):fz (i::is) F δ=fz is F (frz i δ):=rfl
@[simp] theorem VT:frz i δ=match δ[i]? with
 |some (.ow ds)=>δ.set i (.pu (.lst ds))
 |some (.od t kvs)=>δ.set i (.pu (.dct t kvs))
 |_=>δ:=rfl
@[simp] theorem VS:a0 i d δ=some (δ.set i (.pu d)):=rfl
@[simp] theorem bJ:qu i g δ=match δ[i]? with
 |some (.ow ds)=>(g δ).then λd=>if ds.length<16777216 then .nx (δ.set i (.ow (ds++[d])))else .st
 |_=>.st:=rfl
@[simp] theorem VU:zb i g δ=match δ[i]? with
 |some (.ow ds)=>(g δ).then λd=>match xo d with
  |some es=>if ds.length+es.length<=16777216 then .nx (δ.set i (.ow (ds++es)))else .st
  |none=>.st
 |_=>.st:=rfl
@[simp] theorem V8(ds:List D):xo (.lst ds)=some ds:=rfl
@[simp] theorem QI(ds:List D):xo (.tup ds)=some ds:=rfl
@[simp] theorem YX(ds:List D):bu (.lst ds)=some (.int ds.length):=rfl
@[simp] theorem YW(ds:List D):bu (.tup ds)=some (.int ds.length):=rfl
@[simp] theorem WQ(d:D)(xs:List D):tj d (.lst xs)=Ga d (.lst xs):=rfl
@[simp] theorem WN(d:D)(xs:List D):tj d (.tup xs)=Ga d (.tup xs):=rfl
@[simp] theorem WO(d:D)(x:Str):tj d (.str x)=Ga d (.str x):=rfl
@[simp] theorem PF(d:D)(xs:List D):c7 d (.lst xs)=ja d (.lst xs):=rfl
@[simp] theorem PB(d:D)(xs:List D):c7 d (.tup xs)=ja d (.tup xs):=rfl
@[simp] theorem PC(d:D)(x:Str):c7 d (.str x)=ja d (.str x):=rfl
@[simp] theorem cD(a b:Int):By (.int a) (.int b)=some (.bl (decide (a<b))):=rfl
@[simp] theorem cE(a b:Int):uu (.int a) (.int b)=some (.bl (decide (a<=b))):=rfl
@[simp] theorem cF(a b:Int):Ax (.int a) (.int b)=some (.bl (decide (b<a))):=rfl
@[simp] theorem cG(a b:Int):TC (.int a) (.int b)=some (.bl (decide (b<=a))):=rfl
@[simp] theorem bH(a b:Int):dh (.int a) (.int b)=some (.bl (a==b)):=rfl
@[simp] theorem bB(a b:Int):ib (.int a) (.int b)=some (.bl (!(a==b))):=rfl
@[simp] theorem bM(a b:Int):bf (.int a) (.int b)=some (.int (a+b)):=rfl
@[simp] theorem cZ(a b:Int):w8 (.int a) (.int b)=some (.int (a - b)):=rfl
@[simp] theorem bC:l8 d .non=some (.bl (j7 d)):=rfl
@[simp] theorem VR:i8 d .non=some (.bl (!j7 d)):=rfl
@[simp] theorem Wa(ds:List D):c9 (.lst ds)=some (.tup ds):=rfl
@[simp] theorem QE(ds:List D):c9 (.tup ds)=some (.tup ds):=rfl
@[simp] theorem cH:gM f2 g h δ=(g δ).bind λx=>match x with
 |.lst xs=>(h δ).bind λy=>Res.of (f2 (.lst xs) y)
 |_=>.st:=rfl
@[simp] theorem XM(x:Str):bb "str" (.str x)=some (.bl true):=by kernel_rfl
@[simp] theorem XQ(x:Int):bb "str" (.int x)=some (.bl false):=by kernel_rfl
@[simp] theorem XR(x:Bool):bb "str" (.bl x)=some (.bl false):=by kernel_rfl
@[simp] theorem XN:bb "str" .non=some (.bl false):=by kernel_rfl
@[simp] theorem XJ(x:List D):bb "str" (.tup x)=some (.bl false):=by kernel_rfl
@[simp] theorem XO(x:List D):bb "str" (.lst x)=some (.bl false):=by kernel_rfl
@[simp] theorem WB(x:Str):bb "int" (.str x)=some (.bl false):=by kernel_rfl
@[simp] theorem WE(x:Int):bb "int" (.int x)=some (.bl true):=by kernel_rfl
@[simp] theorem WG(x:Bool):bb "int" (.bl x)=some (.bl true):=by kernel_rfl
@[simp] theorem WC:bb "int" .non=some (.bl false):=by kernel_rfl
@[simp] theorem WA(x:List D):bb "int" (.tup x)=some (.bl false):=by kernel_rfl
@[simp] theorem WD(x:List D):bb "int" (.lst x)=some (.bl false):=by kernel_rfl
@[simp] theorem WI(x:Str):bb "bool" (.str x)=some (.bl false):=by kernel_rfl
@[simp] theorem WK(x:Int):bb "bool" (.int x)=some (.bl false):=by kernel_rfl
@[simp] theorem WL(x:Bool):bb "bool" (.bl x)=some (.bl true):=by kernel_rfl
@[simp] theorem WJ:bb "bool" .non=some (.bl false):=by kernel_rfl
@[simp] theorem WH(x:List D):bb "bool" (.tup x)=some (.bl false):=by kernel_rfl
@[simp] theorem WM(x:List D):bb "bool" (.lst x)=some (.bl false):=by kernel_rfl
@[simp] theorem XE(x:Str):bb "tuple" (.str x)=some (.bl false):=by kernel_rfl
@[simp] theorem XH(x:Int):bb "tuple" (.int x)=some (.bl false):=by kernel_rfl
@[simp] theorem XI(x:Bool):bb "tuple" (.bl x)=some (.bl false):=by kernel_rfl
@[simp] theorem XF:bb "tuple" .non=some (.bl false):=by kernel_rfl
@[simp] theorem XD(x:List D):bb "tuple" (.tup x)=some (.bl true):=by kernel_rfl
@[simp] theorem XG(x:List D):bb "tuple" (.lst x)=some (.bl false):=by kernel_rfl
@[simp] theorem XU(x:Str):bb "list" (.str x)=some (.bl false):=by kernel_rfl
@[simp] theorem XY(x:Int):bb "list" (.int x)=some (.bl false):=by kernel_rfl
@[simp] theorem XZ(x:Bool):bb "list" (.bl x)=some (.bl false):=by kernel_rfl
@[simp] theorem XW:bb "list" .non=some (.bl false):=by kernel_rfl
@[simp] theorem XS(x:List D):bb "list" (.tup x)=some (.bl false):=by kernel_rfl
@[simp] theorem XX(x:List D):bb "list" (.lst x)=some (.bl true):=by kernel_rfl
@[simp] theorem XC(a b:D):aj (.tup [a,b]) (.int 0)=some a:=rfl
@[simp] theorem XB(a b:D):aj (.tup [a,b]) (.int 1)=some b:=rfl
@[simp] theorem XA(a b c:D):aj (.tup [a,b,c]) (.int 0)=some a:=rfl
@[simp] theorem YZ(a b c:D):aj (.tup [a,b,c]) (.int 1)=some b:=rfl
@[simp] theorem YY(a b c:D):aj (.tup [a,b,c]) (.int 2)=some c:=rfl
def VA(d:D):Prop:=∃p,cg d=some p/\fM p=true/\p.depth<=8
def HM(i:Int):VA (.int i):=⟨.int i,rfl,rfl,fZ _⟩
def HL(h:eK x=true):VA (.str x):=⟨.str x,rfl,h,fZ _⟩
def KQ(ds:List D):Prop:=∃ps,cn ds=some ps/\dO ps=true/\eU ps<=8
theorem HN:∀{ds:List D},(∀d∈ds,VA d)->KQ ds
 |[],_=>⟨[],rfl,rfl,fZ _⟩
 |d::r,h=>by
  obtain⟨p,e1,e2,e3⟩:=h d dH;obtain⟨ps,f1,f2,f3⟩:=HN (ds:=r) λd hd=>h d (dF _ hd);refine⟨p::ps,by unfold cn;rw[e1,f1],?_,Nat.max_le.mpr ⟨e3,f3⟩⟩;show(fM p && dO ps)=true;rw[e2,f2];rfl
def nu{p:iW}(h1:fM p=true)(h2:p.depth<=63):eX p=true:=by
 unfold eX;rw[h1,decide_eq_true (by lia)];rfl
def Jl{d e:D}{p q:iW}(h1:cg d=some p)(h2:cg e=some q)(a1:fM p=true)(a2:p.depth<=63)(b1:fM q=true)(b2:q.depth<=63):Rp d e=some (eL p q):=by
 unfold Rp;rw[h1,h2];dsimp only;rw[nu a1 a2,nu b1 b2];rfl
def Jk{ds:List D}(h:KQ ds):dh (.lst ds) (.lst [])=some (.bl ds.isEmpty)/\ib (.lst ds) (.lst [])=some (.bl (!ds.isEmpty)):=by
 obtain⟨ps,e1,e2,e3⟩:=h;have q:Rp (.lst ds) (.lst [])=some (eL (.list ps) (.list [])):=Jl (by unfold cg;rw[e1]) rfl e2 (show eU ps+1<=63 by lia) rfl (show 0+1<=63 by lia);have e:eL (.list ps) (.list [])=ds.isEmpty:=by
  cases ds with
  |nil=>cases e1;rfl
  |cons d r=>
   unfold cn at e1;cases h1:cg d with
   |none=>rw[h1]at e1;cases e1
   |some p=>
    cases h2:cn r with
    |none=>rw[h1,h2]at e1;cases e1
    |some ps'=>rw[h1,h2]at e1;cases e1;rfl
 unfold dh ib;rw[q,e];exact⟨rfl,rfl⟩
def Ts(a b:Int)(h:0<b):Bz (.int a) (.int b)=some (.int (a % b)):=dJ h
def Ih(a b:Int)(h:(-(2 ^ 64)<a/\a<2 ^ 64)\/(-(2 ^ 64)<b/\b<2 ^ 64)):lg (.int a) (.int b)=some (.int (a * b)):=dJ h
def u9(hr:r δ=.ok [.int j'])(h:-(2 ^ 62)<=j'/\j'<2 ^ 62):je r δ=.ok (ir 0 j'.toNat):=by
 unfold je;rw[hr];exact dJ h
end
end Pu
end
section
namespace LK
open PySem PySem.Spec PyProof.Rows L2 Pu
def Kv(n:Nat):En->Out:=(br (g1 c9 (cb (a5 (ah 0)) [1] (gC (.bl true)) (Rz (fc (g1 (bb "str") (ah 0))) (g2 aj (ah 1) (ah 0)) (bc 0)))))
def Xc(n:Nat)(ds:List D):ai (tab (n+1)) ji ds=df (Kv n (bp [true,true] ds++eA (2 - ds.length) .no)):=cz (by kernel_rfl) (by decide+kernel) rfl ds
def k6(n:Nat):En->Out:=(ar (ic (g2 ib (g1 bu (ah 1)) (g1 bu (ah 2))) (br (gC .non)) cf)
 (ar (Az 3 (ah 0))
 (ar (c8 (ti [4,5]) (O4 (af (ah 1) (af (ah 2) ao))) (ar (fz [4,5,4] (uw 6 (Ce (fc (g1 (bb "str") (ah 4))) (jn 3 (ah 4) (bc 5)) (D3 (bc 4)))))
 (ic (g2 ib (ah 6) (ah 5)) (br (gC .non)) cf)))
 (fz [3] (br (bc 3))))))
def F6(n:Nat)(ds:List D):ai (tab (n+1)) cu ds=df (k6 n (bp [true,true,true] ds++eA (7 - ds.length) .no)):=cz (by kernel_rfl) (by decide+kernel) rfl ds
def A8(n:Nat):En->Out:=(br (jv (g1 (bb "int") (ah 0)) (gw (g1 (bb "bool") (ah 0)))))
def Lb(n:Nat)(ds:List D):ai (tab (n+1)) oq ds=df (A8 n (bp [true] ds++eA (1 - ds.length) .no)):=cz (by kernel_rfl) (by decide+kernel) rfl ds
def Gi(n:Nat):En->Out:=(br (jv (g1 (bb "str") (ah 0)) (jv (xn uu uu (gC (.int 1)) (g1 bu (ah 0)) (gC (.int 8))) (g1 Bw (cb (a5 (ah 0)) [] (gC (.bl true)) (g2 tj (ah 0) (gC (.str "abcdefghijklmnopqrstuvwxyz"))))))))
def G7(n:Nat)(ds:List D):ai (tab (n+1)) mf ds=df (Gi n (bp [true] ds++eA (1 - ds.length) .no)):=cz (by kernel_rfl) (by decide+kernel) rfl ds
def Aa(n:Nat):En->Out:=(br (vi (aq (ai (tab n) mf) (af (ah 0) ao)) (aq (ai (tab n) oq) (af (ah 0) ao))))
def Ue(n:Nat)(ds:List D):ai (tab (n+1)) qc ds=df (Aa n (bp [true] ds++eA (1 - ds.length) .no)):=cz (by kernel_rfl) (by decide+kernel) rfl ds
def wb(n:Nat):En->Out:=(ar (ic (vi (gw (fc (g1 (bb "tuple") (ah 0)))) (gw (xn uu uu (ah 1) (g1 bu (ah 0)) (ah 2)))) (br (gC (.bl false))) cf)
 (br (g1 Bw (cb (a5 (ah 0)) [3] (gC (.bl true)) (Dy (tab (n+1)) 1 [((ah 0),(bc 0))])))))
def Fy(n:Nat)(ds:List D):ai (tab (n+1)) ig ds=df (wb n (bp [true,true,true,true] ds++eA (4 - ds.length) .no)):=cz (by kernel_rfl) (by decide+kernel) rfl ds
def z9(n:Nat):En->Out:=(br (jv (g1 (bb "tuple") (ah 0)) (g2 dh (g1 bu (ah 0)) (gC (.int 2)))))
def Gz(n:Nat)(ds:List D):ai (tab (n+1)) me ds=df (z9 n (bp [true] ds++eA (1 - ds.length) .no)):=cz (by kernel_rfl) (by decide+kernel) rfl ds
def Gh(n:Nat):En->Out:=(br (jv (aq (ai (tab n) me) (af (ah 0) ao)) (jv (aq (ai (tab n) mf) (af (g2 aj (ah 0) (gC (.int 0))) ao)) (aq (ai (tab n) ig) (af (g2 aj (ah 0) (gC (.int 1))) (af (gC (.int 1)) (af (gC (.int 4)) (af (gC (.fn "is_term")) ao))))))))
def Ud(n:Nat)(ds:List D):ai (tab (n+1)) vf ds=df (Gh n (bp [true] ds++eA (1 - ds.length) .no)):=cz (by kernel_rfl) (by decide+kernel) rfl ds
def l6(n:Nat):En->Out:=(ar (xa 1)
 (ar (fz [0] (c8 (a0 2) (a5 (vz 0)) (Nc (Dz ib (jn 1 (g2 aj (ah 2) (gC (.int 0))) (g1 bu (g2 aj (ah 2) (gC (.int 1))))) (g1 bu (g2 aj (ah 2) (gC (.int 1))))) (br (gC (.bl false))) cf)))
 (br (gC (.bl true)))))
def vw(n:Nat)(ds:List D):ai (tab (n+1)) gm ds=df (l6 n (bp [true] ds++eA (3 - ds.length) .no)):=cz (by kernel_rfl) (by decide+kernel) rfl ds
def t7(n:Nat):En->Out:=(ar (xa 1)
 (ar (fz [0] (c8 (a0 2) (a5 (vz 0)) (ic (fc (g1 (bb "str") (ah 2))) (yd 1 (ah 2) (gC (.bl true))) cf)))
 (br (g1 iw (ah 1)))))
def Lh(n:Nat)(ds:List D):ai (tab (n+1)) d7 ds=df (t7 n (bp [true] ds++eA (3 - ds.length) .no)):=cz (by kernel_rfl) (by decide+kernel) rfl ds
def xc(n:Nat):En->Out:=(ar (ie 1 (gj ao))
 (ar (fz [0] (c8 (a0 2) (a5 (vz 0)) (zb 1 (g2 aj (ah 2) (gC (.int 1))))))
 (fz [1] (br (bc 1)))))
def Ow(n:Nat)(ds:List D):ai (tab (n+1)) dj ds=df (xc n (bp [true] ds++eA (3 - ds.length) .no)):=cz (by kernel_rfl) (by decide+kernel) rfl ds
def tq(n:Nat):En->Out:=(ar (b9 2 (aq (ai (tab n) d7) (af (aq (ai (tab n) dj) (af (ah 1) ao)) ao)))
 (br (g1 Bw (cb (a5 (aq (ai (tab n) d7) (af (ah 0) ao))) [2] (gC (.bl true)) (g2 tj (ah 0) (ah 1))))))
def Ds(n:Nat)(ds:List D):ai (tab (n+1)) j6 ds=df (tq n (bp [true,true] ds++eA (3 - ds.length) .no)):=cz (by kernel_rfl) (by decide+kernel) rfl ds
def p8(n:Nat):En->Out:=(ar (ic (gw (fc (aq (ai (tab n) me) (af (ah 0) ao)))) (nt "NoAsking" (af (gC (.str "an asking is a tuple of a head and atoms")) ao)) cf)
 (ar (b9 1 (g2 aj (ah 0) (gC (.int 0))))
 (ar (b9 2 (g2 aj (ah 0) (gC (.int 1))))
 (ar (ic (gw (fc (aq (ai (tab n) ig) (af (ah 1) (af (gC (.int 0)) (af (gC (.int 4)) (af (gC (.fn "is_term")) ao))))))) (nt "NoAsking" (af (gC (.str "a head is a tuple of at most 4 terms")) ao)) cf)
 (ar (ic (gw (fc (aq (ai (tab n) ig) (af (ah 2) (af (gC (.int 1)) (af (gC (.int 6)) (af (gC (.fn "is_atom")) ao))))))) (nt "NoAsking" (af (gC (.str "an asking has a tuple of 1 to 6 atoms")) ao)) cf)
 (ar (ic (gw (fc (aq (ai (tab n) gm) (af (ah 2) ao)))) (nt "NoAsking" (af (gC (.str "atoms of one name have equally many terms")) ao)) cf)
 (ar (ic (gw (fc (aq (ai (tab n) j6) (af (ah 1) (af (ah 2) ao))))) (nt "NoAsking" (af (gC (.str "each stand-in of the head stands in an atom")) ao)) cf)
 (fz [0] (br (bc 0))))))))))
def Af(n:Nat)(ds:List D):ai (tab (n+1)) fm ds=df (p8 n (bp [false] ds++eA (3 - ds.length) .no)):=cz (by kernel_rfl) (by decide+kernel) rfl ds
def t6(n:Nat):En->Out:=(ar (ic (gw (fc (ah 0))) (fz [2] (br (bc 2))) cf)
 (ar (b9 3 (g2 aj (g2 aj (ah 0) (gC (.int 0))) (gC (.int 0))))
 (ar (fz [1] (c8 (a0 4) (a5 (vz 1)) (ar (b9 5 (Rz (g2 dh (g2 aj (ah 4) (gC (.int 0))) (ah 3)) (aq (ai (tab n) cu) (af (ah 2) (af (g2 aj (g2 aj (ah 0) (gC (.int 0))) (gC (.int 1))) (af (g2 aj (ah 4) (gC (.int 1))) ao)))) (gC .non)))
 (ar (fz [5] (b9 6 (Rz (g2 l8 (ah 5) (gC .non)) (gC .non) (aq (ai (tab n) d5) (af (N6 (ah 0) (some (gC (.int 1))) none) (af (ah 1) (af (bc 5) ao)))))))
 (ic (g2 i8 (ah 6) (gC .non)) (fz [6] (br (bc 6))) cf)))))
 (br (gC .non)))))
def Bf(n:Nat)(ds:List D):ai (tab (n+1)) d5 ds=df (t6 n (bp [true,true,false] ds++eA (7 - ds.length) .no)):=cz (by kernel_rfl) (by decide+kernel) rfl ds
def Gk(n:Nat):En->Out:=(ar (b9 2 (aq (ai (tab n) cu) (af (gC (.dct false [])) (af (g2 aj (ah 1) (gC (.int 0))) (af (g2 aj (ah 0) (gC (.int 0))) ao)))))
 (fz [2] (br (Rz (g2 l8 (ah 2) (gC .non)) (gC .non) (aq (ai (tab n) d5) (af (g2 aj (ah 1) (gC (.int 1))) (af (g2 aj (ah 0) (gC (.int 1))) (af (bc 2) ao))))))))
def Ui(n:Nat)(ds:List D):ai (tab (n+1)) qg ds=df (Gk n (bp [true,true] ds++eA (3 - ds.length) .no)):=cz (by kernel_rfl) (by decide+kernel) rfl ds
def Iy(n:Nat):En->Out:=(br (cb (a5 (g2 bf (g1 iw (g2 aj (ah 0) (gC (.int 0)))) (aq (ai (tab n) dj) (af (g2 aj (ah 0) (gC (.int 1))) ao)))) [] (gw (fc (g1 (bb "str") (ah 0)))) (bc 0)))
def Ji(n:Nat)(ds:List D):ai (tab (n+1)) fh ds=df (Iy n (bp [true] ds++eA (1 - ds.length) .no)):=cz (by kernel_rfl) (by decide+kernel) rfl ds
def qa(n:Nat):En->Out:=(ar (b9 2 (g2 bf (g1 (ya 0) (g2 bf (aq (ai (tab n) fh) (af (ah 0) ao)) (aq (ai (tab n) fh) (af (ah 1) ao)))) (gC (.int 1))))
 (br (g1 r9 (m5 (s9 (aq (ai (tab n) d7) (af (aq (ai (tab n) dj) (af (g2 aj (ah 0) (gC (.int 1))) ao)) ao))) (B5 [2] (gz (af (bc 1) (af (g2 bf (ah 2) (ah 0)) ao))))))))
def qj(n:Nat)(ds:List D):ai (tab (n+1)) cc ds=df (qa n (bp [true,true] ds++eA (3 - ds.length) .no)):=cz (by kernel_rfl) (by decide+kernel) rfl ds
def tu(n:Nat):En->Out:=(ar (b9 2 (aq (ai (tab n) cc) (af (ah 0) (af (ah 1) ao))))
 (ar (E6 3)
 (ar (c8 (a0 4) (a5 (g2 aj (ah 0) (gC (.int 1)))) (yc 3 (gz (af (g2 aj (ah 4) (gC (.int 0))) (af (aq (ai (tab n) ji) (af (g2 aj (ah 4) (gC (.int 1))) (af (ah 2) ao))) ao))) (gC (.bl true))))
 (br (gz (af (gC (.str "book")) (af (g1 nq (ah 3)) (af (aq (ai (tab n) ji) (af (g2 aj (ah 0) (gC (.int 0))) (af (ah 2) ao))) ao))))))))
def Dt(n:Nat)(ds:List D):ai (tab (n+1)) gq ds=df (tu n (bp [true,true] ds++eA (5 - ds.length) .no)):=cz (by kernel_rfl) (by decide+kernel) rfl ds
def Kw(n:Nat):En->Out:=(ar (fz [0] (za (aq (ai (tab n) fm) (af (bc 0) ao))))
 (ar (fz [1] (za (aq (ai (tab n) fm) (af (bc 1) ao))))
 (ar (ic (g2 ib (g1 bu (g2 aj (ah 0) (gC (.int 0)))) (g1 bu (g2 aj (ah 1) (gC (.int 0))))) (nt "Unlike" (af (gC (.str "the heads have unlike many terms")) ao)) cf)
 (ar (b9 2 (aq (ai (tab n) qg) (af (ah 0) (af (ah 1) ao))))
 (ar (ic (g2 l8 (ah 2) (gC .non)) (br (aq (ai (tab n) gq) (af (ah 0) (af (ah 1) ao)))) cf)
 (br (gz (af (gC (.str "way")) (af (cb (a5 (aq (ai (tab n) d7) (af (aq (ai (tab n) dj) (af (g2 aj (ah 1) (gC (.int 1))) ao)) ao))) [2] (gC (.bl true)) (gz (af (bc 0) (af (g2 aj (ah 1) (ah 0)) ao)))) ao)))))))))
def Li(n:Nat)(ds:List D):ai (tab (n+1)) gu ds=df (Kw n (bp [false,false] ds++eA (3 - ds.length) .no)):=cz (by kernel_rfl) (by decide+kernel) rfl ds
def Iw(n:Nat):En->Out:=(fz [0,1,1,0] (br (jv (g2 dh (g2 aj (aq (ai (tab n) gu) (af (bc 0) (af (bc 1) ao))) (gC (.int 0))) (gC (.str "way"))) (g2 dh (g2 aj (aq (ai (tab n) gu) (af (bc 1) (af (bc 0) ao))) (gC (.int 0))) (gC (.str "way"))))))
def CI(n:Nat)(ds:List D):ai (tab (n+1)) vd ds=df (Iw n (bp [false,false] ds++eA (2 - ds.length) .no)):=cz (by kernel_rfl) (by decide+kernel) rfl ds
def ky(n:Nat):En->Out:=(ar (ic (g2 By (ah 1) (g1 bu (ah 0))) (br (g2 aj (ah 0) (ah 1))) cf)
 (ar (ic (g2 dh (ah 0) (gj ao)) (br (gC (.int 0))) cf)
 (br (g2 bf (g2 lg (g2 aj (ah 0) (g2 Bz (ah 1) (g1 bu (ah 0)))) (gC (.int 31))) (ah 1)))))
def F0(n:Nat)(ds:List D):ai (tab (n+1)) k7 ds=df (ky n (bp [true,true] ds++eA (2 - ds.length) .no)):=cz (by kernel_rfl) (by decide+kernel) rfl ds
def A9(n:Nat):En->Out:=(ar (b9 3 (g2 Bz (g2 lg (g2 bf (g2 bf (aq (ai (tab n) k7) (af (ah 0) (af (ah 1) ao))) (g2 lg (gC (.int 7919)) (ah 1))) (gC (.int 1))) (gC (.int 48271))) (gC (.int 2147483647))))
 (br (g2 Bz (g2 Bz (g2 bf (g2 bf (g2 lg (ah 3) (ah 3)) (g2 lg (gC (.int 7)) (ah 3))) (ah 1)) (gC (.int 2147483629))) (ah 2))))
def Ld(n:Nat)(ds:List D):ai (tab (n+1)) az ds=df (A9 n (bp [true,true,true] ds++eA (4 - ds.length) .no)):=cz (by kernel_rfl) (by decide+kernel) rfl ds
def Dg(n:Nat):En->Out:=(ar (b9 2 (aq (ai (tab n) az) (af (ah 0) (af (ah 1) (af (gC (.int 12)) ao)))))
 (ar (ic (g2 By (ah 2) (gC (.int 10))) (br (g2 lg (g2 aj (gC (.str "xyzuv")) (g2 Bz (ah 2) (gC (.int 5)))) (g2 bf (gC (.int 1)) (g2 P5 (ah 2) (gC (.int 9)))))) cf)
 (br (g2 w8 (ah 2) (gC (.int 11))))))
def Ov(n:Nat)(ds:List D):ai (tab (n+1)) mz ds=df (Dg n (bp [true,true] ds++eA (3 - ds.length) .no)):=cz (by kernel_rfl) (by decide+kernel) rfl ds
def ri(n:Nat):En->Out:=(ar (b9 2 (g2 aj (gj (af (gC (.str "r")) (af (gC (.str "s")) (af (gC (.str "t")) ao)))) (aq (ai (tab n) az) (af (ah 0) (af (ah 1) (af (gC (.int 3)) ao))))))
 (ar (fz [2] (b9 3 (g2 bf (gM o8 (gj (af (gC (.str "t")) (af (gC (.str "r")) (af (gC (.str "s")) ao)))) (ah 2)) (gC (.int 1)))))
 (fz [2] (br (gz (af (bc 2) (af (g1 c9 (cb (je (af (ah 3) ao)) [1,0] (gC (.bl true)) (aq (ai (tab n) mz) (af (ah 2) (af (g2 bf (g2 bf (ah 1) (gC (.int 1))) (ah 0)) ao))))) ao)))))))
def Oq(n:Nat)(ds:List D):ai (tab (n+1)) i5 ds=df (ri n (bp [true,true] ds++eA (4 - ds.length) .no)):=cz (by kernel_rfl) (by decide+kernel) rfl ds
def yh(n:Nat):En->Out:=(ar (b9 4 (g1 c9 (cb (je (af (g2 bf (gC (.int 1)) (aq (ai (tab n) az) (af (ah 0) (af (g2 bf (ah 1) (gC (.int 30))) (af (ah 2) ao))))) ao)) [1,0] (gC (.bl true)) (aq (ai (tab n) i5) (af (ah 2) (af (g2 bf (ah 1) (g2 lg (gC (.int 4)) (ah 0))) ao))))))
 (ar (ie 5 (gj ao))
 (ar (fz [4] (c8 (a0 6) (a5 (vz 4)) (zb 5 (cb (a5 (g2 aj (ah 6) (gC (.int 1)))) [] (fc (g1 (bb "str") (ah 0))) (bc 0)))))
 (ar (ie 7 (gj ao))
 (ar (c8 (a0 3) (je (af (aq (ai (tab n) az) (af (ah 0) (af (g2 bf (ah 1) (gC (.int 31))) (af (gC (.int 3)) ao)))) ao)) (ic (vi (g2 dh (ah 5) (gj ao)) (g2 dh (aq (ai (tab n) az) (af (ah 0) (af (g2 bf (g2 bf (ah 1) (gC (.int 32))) (ah 3)) (af (gC (.int 8)) ao)))) (gC (.int 0)))) (qu 7 (aq (ai (tab n) az) (af (ah 0) (af (g2 bf (g2 bf (ah 1) (gC (.int 34))) (ah 3)) (af (gC (.int 2)) ao))))) (qu 7 (g2 aj (ah 5) (aq (ai (tab n) az) (af (ah 0) (af (g2 bf (g2 bf (ah 1) (gC (.int 34))) (ah 3)) (af (g1 bu (ah 5)) ao))))))))
 (fz [4] (br (gz (af (g1 c9 (ah 7)) (af (bc 4) ao))))))))))
def Jg(n:Nat)(ds:List D):ai (tab (n+1)) ff ds=df (yh n (bp [true,true,true] ds++eA (8 - ds.length) .no)):=cz (by kernel_rfl) (by decide+kernel) rfl ds
def lq(n:Nat):En->Out:=(ar (ie 1 (gj ao))
 (ar (fz [0] (c8 (a0 2) (a5 (vz 0)) (c8 (a0 3) (a5 (g2 aj (ah 2) (gC (.int 1)))) (ic (jv (fc (g1 (bb "str") (ah 3))) (g2 c7 (ah 3) (ah 1))) (fz [3] (qu 1 (bc 3))) cf))))
 (fz [1] (br (bc 1)))))
def Cb(n:Nat)(ds:List D):ai (tab (n+1)) cx ds=df (lq n (bp [true] ds++eA (4 - ds.length) .no)):=cz (by kernel_rfl) (by decide+kernel) rfl ds
def Ba(n:Nat):En->Out:=(ar (b9 2 (aq (ai (tab n) az) (af (ah 0) (af (gC (.int 80)) (af (gC (.int 4)) ao)))))
 (ar (ic (g2 dh (ah 2) (gC (.int 0))) (ar (b9 3 (aq (ai (tab n) ff) (af (ah 0) (af (gC (.int 40)) (af (gC (.int 3)) ao)))))
 (br (gz (af (N6 (g2 bf (g2 aj (ah 3) (gC (.int 0))) (gz (af (gC (.int 0)) (af (gC (.int 0)) ao)))) none (some (g1 bu (g2 aj (ah 1) (gC (.int 0)))))) (af (g2 aj (ah 3) (gC (.int 1))) ao))))) cf)
 (ar (xa 4)
 (ar (c8 (ti [5,6]) (s9 (aq (ai (tab n) cx) (af (g2 aj (ah 1) (gC (.int 1))) ao))) (fz [6] (yd 4 (ah 6) (g2 aj (gj (af (bc 6) (af (g2 lg (gC (.str "w")) (g2 bf (gC (.int 1)) (ah 5))) (af (gC (.str "x")) (af (gC (.int 0)) ao))))) (aq (ai (tab n) az) (af (ah 0) (af (g2 bf (gC (.int 81)) (ah 5)) (af (g2 E3 (gC (.int 4)) (g2 bf (gC (.int 2)) (ah 2))) ao))))))))
 (ar (fz [6,6] (ie 7 (cb (a5 (g2 aj (ah 1) (gC (.int 1)))) [4] (gC (.bl true)) (gz (af (g2 aj (ah 0) (gC (.int 0))) (af (g1 c9 (cb (a5 (g2 aj (ah 0) (gC (.int 1)))) [1] (gC (.bl true)) (iu (ah 1) (ah 0) (bc 0)))) ao))))))
 (ar (ic (g2 dh (ah 2) (gC (.int 2))) (b9 7 (g2 bf (ah 7) (gj (af (aq (ai (tab n) i5) (af (ah 0) (af (gC (.int 90)) ao))) ao)))) cf)
 (ar (ic (jv (g2 dh (ah 2) (gC (.int 3))) (g2 Ax (g1 bu (ah 7)) (gC (.int 1)))) (b9 7 (N6 (ah 7) (some (gC (.int 1))) none)) cf)
 (ar (b9 8 (aq (ai (tab n) cx) (af (ah 7) ao)))
 (ar (ie 9 (gj ao))
 (ar (c8 (a0 6) (a5 (g2 aj (ah 1) (gC (.int 0)))) (ar (fz [6,6] (b9 10 (iu (ah 4) (ah 6) (bc 6))))
 (ar (ic (jv (fc (g1 (bb "str") (ah 10))) (g2 c7 (ah 10) (ah 8))) (b9 10 (g2 aj (g2 bf (ah 8) (gj (af (gC (.int 0)) ao))) (gC (.int 0)))) cf)
 (fz [10] (qu 9 (bc 10))))))
 (br (gz (af (g1 c9 (ah 9)) (af (g1 c9 (ah 7)) ao))))))))))))))
def Lf(n:Nat)(ds:List D):ai (tab (n+1)) j0 ds=df (Ba n (bp [true,true] ds++eA (11 - ds.length) .no)):=cz (by kernel_rfl) (by decide+kernel) rfl ds
def Df(n:Nat):En->Out:=(ar (xa 2)
 (ar (fz [0] (c8 (a0 3) (a5 (vz 0)) (yd 2 (g2 aj (ah 3) (gC (.int 0))) (g2 aj (ah 3) (gC (.int 1))))))
 (br (g1 c9 (cb (a5 (ah 1)) [2] (gC (.bl true)) (iu (ah 1) (ah 0) (bc 0)))))))
def Ou(n:Nat)(ds:List D):ai (tab (n+1)) i6 ds=df (Df n (bp [true,true] ds++eA (4 - ds.length) .no)):=cz (by kernel_rfl) (by decide+kernel) rfl ds
def yi(n:Nat):En->Out:=(ar (ic (gw (fc (g1 (bb "list") (ah 0)))) (br (gC (.bl false))) cf)
 (ar (fz [0] (c8 (a0 3) (a5 (vz 0)) (ic (vi (gw (fc (g1 (bb "tuple") (ah 3)))) (g2 ib (g1 bu (ah 3)) (gC (.int 2)))) (br (gC (.bl false))) cf)))
 (ar (ic (g2 ib (cb (a5 (ah 0)) [] (gC (.bl true)) (g2 aj (ah 0) (gC (.int 0)))) (aq (ai (tab n) cx) (af (g2 aj (ah 2) (gC (.int 1))) ao))) (br (gC (.bl false))) cf)
 (ar (c8 (a0 4) (a5 (g2 aj (ah 2) (gC (.int 1)))) (ic (g2 c7 (gz (af (g2 aj (ah 4) (gC (.int 0))) (af (aq (ai (tab n) i6) (af (ah 0) (af (g2 aj (ah 4) (gC (.int 1))) ao))) ao))) (g2 aj (ah 1) (gC (.int 1)))) (br (gC (.bl false))) cf))
 (br (g2 dh (aq (ai (tab n) i6) (af (ah 0) (af (g2 aj (ah 2) (gC (.int 0))) ao))) (g2 aj (ah 1) (gC (.int 0)))))))))
def Jh(n:Nat)(ds:List D):ai (tab (n+1)) md ds=df (yi n (bp [true,true,true] ds++eA (5 - ds.length) .no)):=cz (by kernel_rfl) (by decide+kernel) rfl ds
def Ab(n:Nat):En->Out:=(ar (Az 3 (ah 0))
 (ar (c8 (a0 4) (je (af (g1 bu (ah 1)) ao)) (ic (gw (fc (g1 (bb "str") (g2 aj (ah 1) (ah 4))))) (ic (g2 ib (g2 aj (ah 1) (ah 4)) (g2 aj (ah 2) (ah 4))) (br (gC .non)) cf) (ic (g2 c7 (g2 aj (ah 1) (ah 4)) (ah 3)) (yd 3 (g2 aj (ah 1) (ah 4)) (g2 aj (ah 2) (ah 4))) (ic (g2 ib (g2 aj (ah 3) (g2 aj (ah 1) (ah 4))) (g2 aj (ah 2) (ah 4))) (br (gC .non)) cf))))
 (fz [3] (br (bc 3)))))
def Ug(n:Nat)(ds:List D):ai (tab (n+1)) mh ds=df (Ab n (bp [true,true,true] ds++eA (5 - ds.length) .no)):=cz (by kernel_rfl) (by decide+kernel) rfl ds
def xb(n:Nat):En->Out:=(ar (ie 2 (gj (af (gC (.dct false [])) ao)))
 (ar (fz [0] (c8 (a0 3) (a5 (vz 0)) (ar (ie 4 (gj ao))
 (ar (fz [2] (c8 (a0 5) (a5 (vz 2)) (fz [1] (c8 (a0 6) (a5 (vz 1)) (ar (b9 7 (gC .non))
 (ar (ic (jv (g2 dh (g2 aj (ah 6) (gC (.int 0))) (g2 aj (ah 3) (gC (.int 0)))) (g2 dh (g1 bu (g2 aj (ah 6) (gC (.int 1)))) (g1 bu (g2 aj (ah 3) (gC (.int 1)))))) (b9 7 (aq (ai (tab n) mh) (af (ah 5) (af (g2 aj (ah 3) (gC (.int 1))) (af (g2 aj (ah 6) (gC (.int 1))) ao))))) cf)
 (ic (g2 i8 (ah 7) (gC .non)) (fz [7] (qu 4 (bc 7))) cf)))))))
 (fz [4] (b9 2 (bc 4)))))))
 (fz [2] (br (bc 2)))))
def Os(n:Nat)(ds:List D):ai (tab (n+1)) mw ds=df (xb n (bp [true,true] ds++eA (8 - ds.length) .no)):=cz (by kernel_rfl) (by decide+kernel) rfl ds
def Gj(n:Nat):En->Out:=(ar (ie 2 (gj ao))
 (ar (fz [1] (c8 (a0 3) (a5 (vz 1)) (ic (fc (g1 (bb "str") (ah 3))) (qu 2 (g2 aj (ah 0) (ah 3))) (fz [3] (qu 2 (bc 3))))))
 (br (g1 c9 (ah 2)))))
def Uh(n:Nat)(ds:List D):ai (tab (n+1)) qf ds=df (Gj n (bp [true,true] ds++eA (4 - ds.length) .no)):=cz (by kernel_rfl) (by decide+kernel) rfl ds
def wc(n:Nat):En->Out:=(br (g1 sa (cb (a5 (aq (ai (tab n) mw) (af (g2 aj (ah 0) (gC (.int 1))) (af (ah 1) ao)))) [0] (gC (.bl true)) (aq (ai (tab n) qf) (af (ah 0) (af (g2 aj (ah 1) (gC (.int 0))) ao))))))
def Fz(n:Nat)(ds:List D):ai (tab (n+1)) jg ds=df (wc n (bp [true,true] ds++eA (2 - ds.length) .no)):=cz (by kernel_rfl) (by decide+kernel) rfl ds
def Bb(n:Nat):En->Out:=(br (jv (g1 (bb "int") (ah 0)) (gw (g1 (bb "bool") (ah 0)))))
def Lg(n:Nat)(ds:List D):ai (tab (n+1)) j3 ds=df (Bb n (bp [true] ds++eA (1 - ds.length) .no)):=cz (by kernel_rfl) (by decide+kernel) rfl ds
def Oc(n:Nat):En->Out:=(ar (ic (vi (gw (fc (g1 (bb "str") (ah 0)))) (vi (g2 By (g1 bu (ah 0)) (gC (.int 1))) (g2 Ax (g1 bu (ah 0)) (gC (.int 8))))) (br (gC (.bl false))) cf)
 (br (g2 dh (cb (a5 (ah 0)) [] (g2 c7 (ah 0) (gC (.str "abcdefghijklmnopqrstuvwxyz"))) (bc 0)) (gj ao))))
def Ot(n:Nat)(ds:List D):ai (tab (n+1)) my ds=df (Oc n (bp [true] ds++eA (1 - ds.length) .no)):=cz (by kernel_rfl) (by decide+kernel) rfl ds
def we(n:Nat):En->Out:=(ar (ic (gw (fc (g1 (bb "list") (ah 0)))) (br (gC (.bl false))) cf)
 (ar (xa 1)
 (ar (c8 (a0 2) (je (af (g1 bu (ah 0)) ao)) (ar (b9 3 (g2 aj (ah 0) (ah 2)))
 (ar (ic (vi (gw (fc (g1 (bb "tuple") (ah 3)))) (vi (g2 ib (g1 bu (ah 3)) (gC (.int 2))) (vi (gw (fc (aq (ai (tab n) my) (af (g2 aj (ah 3) (gC (.int 0))) ao)))) (gw (fc (g1 (bb "tuple") (g2 aj (ah 3) (gC (.int 1))))))))) (br (gC (.bl false))) cf)
 (ar (ic (vi (g2 By (g1 bu (g2 aj (ah 3) (gC (.int 1)))) (gC (.int 1))) (vi (g2 Ax (g1 bu (g2 aj (ah 3) (gC (.int 1)))) (gC (.int 4))) (g2 ib (cb (a5 (g2 aj (ah 3) (gC (.int 1)))) [] (gw (fc (aq (ai (tab n) j3) (af (ah 0) ao)))) (bc 0)) (gj ao)))) (br (gC (.bl false))) cf)
 (ar (ic (vi (jv (g2 Ax (ah 2) (gC (.int 0))) (g2 uu (ah 3) (g2 aj (ah 0) (g2 w8 (ah 2) (gC (.int 1)))))) (g2 ib (iu (ah 1) (g2 aj (ah 3) (gC (.int 0))) (g1 bu (g2 aj (ah 3) (gC (.int 1))))) (g1 bu (g2 aj (ah 3) (gC (.int 1)))))) (br (gC (.bl false))) cf)
 (yd 1 (g2 aj (ah 3) (gC (.int 0))) (g1 bu (g2 aj (ah 3) (gC (.int 1))))))))))
 (br (gC (.bl true))))))
def F4(n:Nat)(ds:List D):ai (tab (n+1)) k8 ds=df (we n (bp [true] ds++eA (4 - ds.length) .no)):=cz (by kernel_rfl) (by decide+kernel) rfl ds
def om(n:Nat):En->Out:=(ar (ic (vi (gw (fc (g1 (bb "tuple") (ah 2)))) (g2 By (g1 bu (ah 2)) (gC (.int 2)))) (br (gC .non)) cf)
 (ar (ic (g2 dh (g2 aj (ah 2) (gC (.int 0))) (gC (.str "way"))) (br (g2 aj (gj (af (gC .non) (af (gC (.bl true)) ao))) (g1 M9 (jv (g2 dh (g1 bu (ah 2)) (gC (.int 2))) (aq (ai (tab n) md) (af (g2 aj (ah 2) (gC (.int 1))) (af (ah 0) (af (ah 1) ao)))))))) cf)
 (ar (ic (vi (g2 ib (g2 aj (ah 2) (gC (.int 0))) (gC (.str "book"))) (vi (g2 ib (g1 bu (ah 2)) (gC (.int 3))) (gw (fc (aq (ai (tab n) k8) (af (g2 aj (ah 2) (gC (.int 1))) ao)))))) (br (gC .non)) cf)
 (ar (ic (vi (g2 c7 (g2 aj (ah 2) (gC (.int 2))) (aq (ai (tab n) jg) (af (ah 0) (af (g2 aj (ah 2) (gC (.int 1))) ao)))) (g2 tj (g2 aj (ah 2) (gC (.int 2))) (aq (ai (tab n) jg) (af (ah 1) (af (g2 aj (ah 2) (gC (.int 1))) ao))))) (br (gC .non)) cf)
 (br (gC (.bl false)))))))
def Bg(n:Nat)(ds:List D):ai (tab (n+1)) fk ds=df (om n (bp [true,true,true] ds++eA (3 - ds.length) .no)):=cz (by kernel_rfl) (by decide+kernel) rfl ds
def wd(n:Nat):En->Out:=(ar (ie 2 (cb (a5 (g2 aj (ah 0) (gC (.int 1)))) [1] (gC (.bl true)) (gz (af (g2 aj (ah 0) (gC (.int 0))) (af (g1 c9 (cb (a5 (g2 aj (ah 0) (gC (.int 1)))) [1] (gC (.bl true)) (iu (ah 1) (ah 0) (bc 0)))) ao)))))
 (br (gz (af (g1 c9 (cb (a5 (g2 aj (ah 0) (gC (.int 0)))) [1] (gC (.bl true)) (iu (ah 1) (ah 0) (bc 0)))) (af (g1 c9 (ah 2)) ao)))))
def F3(n:Nat)(ds:List D):ai (tab (n+1)) fj ds=df (wd n (bp [true,true] ds++eA (3 - ds.length) .no)):=cz (by kernel_rfl) (by decide+kernel) rfl ds
def wg(n:Nat):En->Out:=(ar (ie 1 (cb (a5 (g2 aj (ah 0) (gC (.int 0)))) [] (gw (fc (g1 (bb "str") (ah 0)))) (bc 0)))
 (ar (c8 (a0 2) (a5 (g2 aj (ah 0) (gC (.int 1)))) (zb 1 (cb (a5 (g2 aj (ah 2) (gC (.int 1)))) [] (gw (fc (g1 (bb "str") (ah 0)))) (bc 0))))
 (fz [1] (br (bc 1)))))
def F5(n:Nat)(ds:List D):ai (tab (n+1)) jh ds=df (wg n (bp [true] ds++eA (3 - ds.length) .no)):=cz (by kernel_rfl) (by decide+kernel) rfl ds
def p9(n:Nat):En->Out:=(ar (ie 1 (gj ao))
 (ar (c8 (ti [2,3]) (a5 (g2 aj (ah 0) (gC (.int 1)))) (ar (ic (g2 dh (ah 2) (gC (.str "r"))) (b9 3 (g2 bf (ah 3) (N6 (ah 3) none (some (gC (.int 1)))))) cf)
 (fz [2,3] (qu 1 (gz (af (bc 2) (af (bc 3) ao)))))))
 (br (gz (af (g2 aj (ah 0) (gC (.int 0))) (af (g1 c9 (ah 1)) ao))))))
def Ag(n:Nat)(ds:List D):ai (tab (n+1)) gr ds=df (p9 n (bp [true] ds++eA (4 - ds.length) .no)):=cz (by kernel_rfl) (by decide+kernel) rfl ds
def oj(n:Nat):En->Out:=(ar (b9 4 (aq (ai (tab n) jh) (af (ah 2) ao)))
 (ar (ic (vi (g2 ib (g2 aj (ah 3) (gC (.int 0))) (gC (.str "book"))) (vi (g2 dh (g2 aj (ah 3) (gC (.int 1))) (gj ao)) (g2 dh (ah 4) (gj ao)))) (br (gC (.bl true))) cf)
 (ar (b9 5 (g2 aj (g2 aj (ah 3) (gC (.int 1))) (aq (ai (tab n) az) (af (ah 0) (af (gC (.int 72)) (af (g1 bu (g2 aj (ah 3) (gC (.int 1)))) ao))))))
 (ar (b9 6 (g2 aj (ah 4) (aq (ai (tab n) az) (af (ah 0) (af (gC (.int 73)) (af (g1 bu (ah 4)) ao))))))
 (ar (b9 7 (aq (ai (tab n) fj) (af (ah 2) (af (uh [((bc 6),(g2 aj (g2 aj (ah 5) (gC (.int 1))) (aq (ai (tab n) az) (af (ah 0) (af (gC (.int 74)) (af (g1 bu (g2 aj (ah 5) (gC (.int 1)))) ao))))))]) ao))))
 (fz [1,7] (br (g2 i8 (aq (ai (tab n) fk) (af (ah 1) (af (ah 7) (af (aq (ai (tab n) gu) (af (bc 1) (af (bc 7) ao))) ao)))) (gC .non)))))))))
def Lc(n:Nat)(ds:List D):ai (tab (n+1)) jz ds=df (oj n (bp [true,false,true,true] ds++eA (8 - ds.length) .no)):=cz (by kernel_rfl) (by decide+kernel) rfl ds
def II(n:Nat):En->Out:=(ar (b9 1 (aq (ai (tab n) ff) (af (ah 0) (af (gC (.int 0)) (af (gC (.int 4)) ao)))))
 (ar (b9 2 (aq (ai (tab n) j0) (af (ah 0) (af (ah 1) ao))))
 (ar (ic (g2 dh (aq (ai (tab n) az) (af (ah 0) (af (gC (.int 70)) (af (gC (.int 8)) ao)))) (gC (.int 0))) (b9 2 (aq (ai (tab n) gr) (af (ah 2) ao))) cf)
 (ar (b9 3 (g2 aj (gj (af (gC (.int 0)) (af (gC (.int 0)) (af (aq (ai (tab n) az) (af (ah 0) (af (gC (.int 71)) (af (gC (.int 2100)) ao)))) (af (g2 Na (gC (.int 10)) (gC (.int 20))) ao))))) (aq (ai (tab n) az) (af (ah 0) (af (gC (.int 75)) (af (gC (.int 4)) ao))))))
 (ar (b9 4 (uh [((g1 H8 (gC (.int 1))),(g2 w8 (ah 3) (gC (.int 1)))),((gC (.int 0)),(bc 3)),((gC (.int 1)),(g2 bf (ah 3) (gC (.int 1))))]))
 (ar (b9 1 (aq (ai (tab n) fj) (af (ah 1) (af (ah 4) ao))))
 (ar (b9 2 (aq (ai (tab n) fj) (af (ah 2) (af (ah 4) ao))))
 (ar (fz [1,2] (b9 5 (aq (ai (tab n) gu) (af (bc 1) (af (bc 2) ao)))))
 (ar (b9 6 (aq (ai (tab n) fk) (af (ah 1) (af (ah 2) (af (ah 5) ao)))))
 (ar (fz [2,1] (b9 7 (aq (ai (tab n) fk) (af (ah 2) (af (ah 1) (af (aq (ai (tab n) gu) (af (bc 2) (af (bc 1) ao))) ao))))))
 (ar (fz [1] (ic (vi (g2 l8 (ah 6) (gC .non)) (vi (g2 l8 (ah 7) (gC .non)) (gw (fc (aq (ai (tab n) jz) (af (ah 0) (af (bc 1) (af (ah 2) (af (ah 5) ao))))))))) (br (gC (.bl false))) cf))
 (ar (fz [1,2] (b9 8 (aq (ai (tab n) vd) (af (bc 1) (af (bc 2) ao)))))
 (br (jv (g1 (bb "bool") (ah 8)) (g2 dh (ah 8) (jv (bc 6) (bc 7)))))))))))))))))
def RJ(n:Nat)(ds:List D):ai (tab (n+1)) ue ds=df (II n (bp [false] ds++eA (9 - ds.length) .no)):=cz (by kernel_rfl) (by decide+kernel) rfl ds
end LK
end
section
namespace LK
open PySem PySem.Spec PyProof.Rows Pu
abbrev j8(ns:List Int):D:=.lst (ns.map D.int)
def W0(ns:List Int)(k:Int):Int:=if k<ns.length then(ns[k.toNat]?).getD 0 else if ns=[]then 0 else(ns[(k % ns.length).toNat]?).getD 0 * 31+k
theorem n6:∀ns:List Int,cn (ns.map D.int)=some (ns.map gK)
 |[]=>rfl
 |n::ns=>by show(match cg (.int n)with|some p=>(match cn (ns.map D.int)with|some ps=>some (p::ps)|none=>none)|none=>none)=_;rw[n6 ns];rfl
theorem fy:∀ns:List Int,dO (ns.map gK)=true
 |[]=>rfl
 |n::ns=>by show(fM (.int n) && dO (ns.map gK))=true;rw[fy ns];rfl
theorem xj:∀ns:List Int,eU (ns.map gK)<=1
 |[]=>by decide
 |n::ns=>by
  show max (iK (.int n)) (eU (ns.map gK))<=1;have:=xj ns;have h:iK (.int n)<=1:=fZ _
  lia
def Ng(ns:List Int):eX (.list (ns.map gK))=true:=by
 unfold eX;have h1:fM (.list (ns.map gK))=true:=fy ns;have h2:iK (.list (ns.map gK))<=2:=by
  have:=xj ns;show eU (ns.map gK)+1<=2
  lia
 rw[h1];simp only[Bool.true_and,decide_eq_true_eq]
 lia
def Xg(ns:List Int):dh (j8 ns) (.lst [])=some (.bl (decide (ns=[]))):=by
 unfold dh Rp j8;have e1:cg (.lst (ns.map D.int))=some (.list (ns.map gK)):=by unfold cg;rw[n6]
 have e2:cg (.lst [])=some (.list []):=rfl;rw[e1,e2];dsimp only;rw[Ng,show eX (.list [])=true from by decide];cases ns<;>rfl
def X7(ns:List Int)(k:Int)(h0:0<=k)(h1:k<ns.length):aj (j8 ns) (.int k)=some (.int ((ns[k.toNat]?).getD 0)):=by
 show L2.atI (ns.map D.int) k=_;have hk:k=((k.toNat:Nat):Int):=by lia
 have hl:k.toNat<ns.length:=by lia
 rw[hk];refine(L2.rh (j:=k.toNat) (v:=D.int ((ns[k.toNat]?).getD 0)) ?_).trans (by rw[<-hk]);rw[eP,eR hl];rfl
def CO(n:Nat)(ns:List Int)(k:Int)(hk:0<=k):ai (tab (n+1)) k7 [j8 ns,.int k]=.ok (.int (W0 ns k)):=by
 rw[F0];unfold W0
 by_cases h1:k<ns.length
 ·have e1:=X7 ns k hk h1;simp[ky,h1,e1]
 ·by_cases h2:ns=[]
  ·subst h2;have e2:=Xg [];have h3:¬k<0:=by lia
   simp[ky,h3,e2]
  ·have hp:0<ns.length:=by cases ns<;>simp_all
   have hm1:0<=k % (ns.length:Int):=rV _ (by lia);have hm2:k % (ns.length:Int)<ns.length:=qA _ (by lia);have e1:=X7 ns (k % ns.length) hm1 hm2;have e2:=Xg ns;have e3:=Ts k ns.length (by lia);have e4:=λa=>Ih a 31 (.inr (by decide));simp[ky,h1,h2,e1,e2,e3,e4]
def jx(ns:List Int)(k m:Int):Int:=
 let x:=(W0 ns k+7919 * k+1) * 48271 % 2147483647
 (x * x+7 * x+k) % 2147483629 % m
def jk(n:Nat)(ns:List Int)(k m:Int)(hk:0<=k)(hm:0<m):ai (tab (n+2)) az [j8 ns,.int k,.int m]=.ok (.int (jx ns k m)):=by
 rw[Ld];have e0:=CO n ns k hk;have e1:=Ih 7919 k (.inl (by decide));have e2:=λa=>Ih a 48271 (.inr (by decide));have e3:=λa=>Ts a 2147483647 (by decide);have e4:=λa=>Ts a 2147483629 (by decide);have e5:=λa=>Ts a m hm;have e6:=λa=>Ih 7 a (.inl (by decide));have e7:∀a:Int,lg (.int (a % 2147483647)) (.int (a % 2147483647))=some (.int (a % 2147483647 * (a % 2147483647))):=λa=>Ih _ _ (.inl (by lia));simp[A9,e0,e1,e2,e3,e4,e5,e6,e7,jx]
def dq(ns:List Int)(k m:Int)(hm:0<m):0<=jx ns k m/\jx ns k m<m:=⟨rV _ (by lia),qA _ hm⟩
inductive Tm where
 |s (x:Str)
 |i (z:Int)
 deriving DecidableEq
def Tm.D:Tm->Pu.D
 |.s x=>.str x
 |.i z=>.int z
def zu:List Str:=["x","y","z","u","v","vv"]
def Tm.ok:Tm->Prop
 |.s x=>x∈zu
 |.i z=>z=-1\/z=0
def BU(r:Int):Tm:=if r=0\/r=5 then .s "x" else if r=1\/r=6 then .s "y" else if r=2\/r=7 then .s "z" else if r=3\/r=8 then .s "u" else if r=4 then .s "v" else if r=9 then .s "vv" else if r=10 then .i (-1)else .i 0
def HF(n:Nat)(ns:List Int)(k:Int)(hk:0<=k):ai (tab (n+3)) mz [j8 ns,.int k]=.ok (BU (jx ns k 12)).D:=by
 rw[Ov];have e0:=jk n ns k 12 hk (by decide);obtain⟨h0,h1⟩:=dq ns k 12 (by decide);generalize jx ns k 12=r at e0 h0 h1⊢;have:r=0\/r=1\/r=2\/r=3\/r=4\/r=5\/r=6\/r=7\/r=8\/r=9\/r=10\/r=11:=by lia
 rcases this with rfl|rfl|rfl|rfl|rfl|rfl|rfl|rfl|rfl|rfl|rfl|rfl
 all_goals simp[Dg,e0]
 all_goals rfl
structure At where
 nm:Str
 ts:List Tm
 deriving DecidableEq
def At.D(a:At):Pu.D:=.tup [.str a.nm,.tup (a.ts.map Tm.D)]
theorem yq:∀(l:List Nat),(∀j∈l,h (.int (0+(j:Int)))=some (f j))->(l.map λ(i:Nat)=>Pu.D.int (0+(i:Int))).filterMap h=l.map f
 |[],_=>rfl
 |a::l,hf=>by
  rw[dC,gI,hf a dH];dsimp only;rw[yq l λj hj=>hf j (dF _ hj),dC]
def Cd(n:Nat)(hf:∀j:Nat,j<n->h (.int (0+(j:Int)))=some (f j)):(ir 0 n).filterMap h=(eY n).map f:=
 yq _ λj hj=>hf j (List.mem_range.mp hj)
def P8(n:Nat):(ir 0 n).length=n:=by unfold ir;simp
def Pq(h:d∈ir 0 n):∃j:Nat,j<n/\d=.int (0+(j:Int)):=by
 unfold ir at h;obtain⟨j,hj,e⟩:=List.mem_map.mp h;exact⟨j,List.mem_range.mp hj,e.symm⟩
def Dk(hr:r δ=.ok (ir 0 m))(hm:m<=16777216)(hf:∀j:Nat,j<m->g (b8 ix δ (.pu (.int (0+(j:Int)))))=.ok (f j)):
  cb r ix (gC (.bl true)) g δ=.ok (.lst ((eY m).map f)):=by
 let h:Pu.D->Option Pu.D:=λd=>match d with
  |.int k=>some (f k.toNat)
  |_=>none
 have:=D0 (r:=r) (ix:=ix) (t:=gC (.bl true)) (g:=g) (δ:=δ) (h:=h) hr (by rw[P8];exact hm) λd hd=>by
  obtain⟨j,hj,rfl⟩:=Pq hd;rw[BO (hf j hj)];show some (some (f j))=some (some (f (0+(j:Int)).toNat));have:(0+(j:Int)).toNat=j:=by lia
  rw[this]
 rw[this,Cd m (f:=f)];intro j hj;show some (f (0+(j:Int)).toNat)=some (f j);have:(0+(j:Int)).toNat=j:=by lia
 rw[this]
def CW(r:Int):Str:=if r=0 then "r" else if r=1 then "s" else "t"
def CV(r:Int):Nat:=if r=0 then 2 else if r=1 then 3 else 1
def Dd(ns:List Int)(k:Int):At:=⟨CW (jx ns k 3),(eY (CV (jx ns k 3))).map λ(j:Nat)=>BU (jx ns (k+1+(j:Int)) 12)⟩
def Rc(n:Nat)(ns:List Int)(k:Int)(hk:0<=k):ai (tab (n+4)) i5 [j8 ns,.int k]=.ok (Dd ns k).D:=by
 rw[Oq];have e0:=jk (n+1) ns k 3 hk (by decide);obtain⟨h0,h1⟩:=dq ns k 3 (by decide);unfold Dd;generalize jx ns k 3=r at e0 h0 h1⊢;have key:∀(m:Nat)(nm:Pu.D),m<=3->cb (je (af (ah 3) ao)) [1,0] (gC (.bl true)) (aq (ai (tab (n+3)) mz) (af (ah 2) (af (g2 bf (g2 bf (ah 1) (gC (.int 1))) (ah 0)) ao))) [.bo (j8 ns),.bo (.int k),.pu nm,.pu (.int (m:Nat))]
   =.ok (.lst ((eY m).map λ(j:Nat)=>(BU (jx ns (k+1+(j:Int)) 12)).D)):=λm nm hm=>by
  refine Dk (u9 _ _ (j':=(m:Int)) (by simp) (by lia)) (by lia) λj hj=>?_;have e:=HF n ns (k+1+(j:Int)) (by lia);simp[b8,e]
 have:r=0\/r=1\/r=2:=by lia
 have x1:o8 (.lst [.str "t",.str "r",.str "s"]) (.str "r")=some (.int 1):=by kernel_rfl
 have x2:o8 (.lst [.str "t",.str "r",.str "s"]) (.str "s")=some (.int 2):=by kernel_rfl
 have x3:o8 (.lst [.str "t",.str "r",.str "s"]) (.str "t")=some (.int 0):=by kernel_rfl
 have y1:aj (.lst [.str "r",.str "s",.str "t"]) (.int 0)=some (.str "r"):=rfl;have y2:aj (.lst [.str "r",.str "s",.str "t"]) (.int 1)=some (.str "s"):=rfl;have y3:aj (.lst [.str "r",.str "s",.str "t"]) (.int 2)=some (.str "t"):=rfl;rcases this with rfl|rfl|rfl
 ·have k2:=key 2 (.str "r") (by decide);simp only[qD]at k2;simp[ri,e0,x1,y1,k2,At.D,CW,CV]
 ·have k2:=key 3 (.str "s") (by decide);simp only[qD]at k2;simp[ri,e0,x2,y2,k2,At.D,CW,CV]
 ·have k2:=key 1 (.str "t") (by decide);simp only[qD]at k2;simp[ri,e0,x3,y3,k2,At.D,CW,CV]
def BF(h:x∈zu):eK x=true:=by
 unfold zu at h;simp only[gD,mP,or_false]at h;rcases h with rfl|rfl|rfl|rfl|rfl|rfl<;>decide+kernel
def HC(r:Int):(BU r).ok:=by
 unfold BU
 repeat' split
 all_goals first
  |exact Or.inl rfl
  |exact Or.inr rfl
  |(show _∈zu;decide+kernel)
def At.ok(a:At):Prop:=((a.nm="r"/\a.ts.length=2)\/(a.nm="s"/\a.ts.length=3)\/(a.nm="t"/\a.ts.length=1))/\∀t∈a.ts,t.ok
def Ra(ns:List Int)(k:Int):(Dd ns k).ok:=by
 obtain⟨h0,h1⟩:=dq ns k 3 (by decide);unfold Dd At.ok;dsimp only;refine⟨?_,λt ht=>?_⟩
 ·rw[dD,lV];have:jx ns k 3=0\/jx ns k 3=1\/jx ns k 3=2:=by lia
  rcases this with e|e|e<;>rw[e]
  ·exact .inl ⟨rfl,rfl⟩
  ·exact .inr (.inl ⟨rfl,rfl⟩)
  ·exact .inr (.inr ⟨rfl,rfl⟩)
 ·obtain⟨j,_,e⟩:=List.mem_map.mp ht;rw[<-e];exact HC _
def p5(ts:List Tm):List Str:=ts.filterMap λt=>match t with
 |.s x=>some x
 |.i _=>none
def a7(as:List At):List Str:=as.flatMap λa=>p5 a.ts
def cv(hd:List Tm)(as:List At):Pu.D:=.tup [.tup (hd.map Tm.D),.tup (as.map At.D)]
def Ki:Pu.D->Option Pu.D
 |.str x=>some (.str x)
 |_=>none
theorem Qq:∀ts:List Tm,(ts.map Tm.D).filterMap Ki=(p5 ts).map Pu.D.str
 |[]=>rfl
 |.s x::ts=>by
  rw[dC,gI];show Pu.D.str x::(ts.map Tm.D).filterMap Ki=Pu.D.str x::(p5 ts).map Pu.D.str;rw[Qq ts]
 |.i z::ts=>by
  rw[dC,gI];exact Qq ts
def Ua{ts:List Tm}(hr:r δ=.ok (ts.map Tm.D))(hl:ts.length<=1000):cb r [] (fc (g1 (bb "str") (ah 0))) (bc 0) δ=.ok (.lst ((p5 ts).map Pu.D.str)):=by
 rw[D0 (h:=Ki) hr (by rw[dD];show _<=16777216;lia) λd hd=>by
  obtain⟨t,_,rfl⟩:=List.mem_map.mp hd;cases t with
  |s x=>rw[zr (b:=true) (y:=.str x) (by simp[b8,Tm.D]) (by simp[b8,Tm.D])];rfl
  |i z=>rw[zr (b:=false) (y:=.non) (by simp[b8,Tm.D]) (by simp)];rfl,Qq]
structure Drawn(hd:List Tm)(as:List At):Prop where
 len:1<=as.length/\as.length<=4
 ok:∀a∈as,a.ok
 hl:hd.length<=2
 ho:∀t∈hd,(∃z,t=.i z/\(z=0\/z=1))\/∃x,t=.s x/\x∈a7 as
def Qo(h:∀t∈ts,t.ok):∀x∈p5 ts,x∈zu:=λx hx=>by
 unfold p5 at hx;obtain⟨t,ht,e⟩:=List.mem_filterMap.mp hx;cases t with
 |s y=>cases e;exact h _ ht
 |i z=>cases e
def B2(h:∀a∈as,a.ok):∀x∈a7 as,x∈zu:=λx hx=>by
 obtain⟨a,ha,hx⟩:=List.mem_flatMap.mp hx;exact Qo (h a ha).2 x hx
def zh(ts:List Tm):(p5 ts).length<=ts.length:=iB ..
def Wp{a:At}(h:a.ok):1<=a.ts.length/\a.ts.length<=3:=by
 rcases h.1 with ⟨_,e⟩|⟨_,e⟩|⟨_,e⟩<;>lia
def Pf(as:List At)(h:∀a∈as,a.ok)(hl:as.length<=1000)(v0 v1 v2 v3 v4 v6 v7:Sl):
  ∃w6,turns (a0 6) (zb 5 (cb (a5 (g2 aj (ah 6) (gC (.int 1)))) [] (fc (g1 (bb "str") (ah 0))) (bc 0))) (as.map At.D) [v0,v1,v2,v3,v4,.ow [],v6,v7]=.nx [v0,v1,v2,v3,v4,.ow ((a7 as).map Pu.D.str),w6,v7]:=by
 have key:∀(l:List At)(pre:List Str)(w6:Sl),(∀a∈l,a.ok)->pre.length+3 * l.length<=4000->∃w6',turns (a0 6) (zb 5 (cb (a5 (g2 aj (ah 6) (gC (.int 1)))) [] (fc (g1 (bb "str") (ah 0))) (bc 0))) (l.map At.D) [v0,v1,v2,v3,v4,.ow (pre.map Pu.D.str),w6,v7]
   =.nx [v0,v1,v2,v3,v4,.ow ((pre++a7 l).map Pu.D.str),w6',v7]:=by
  intro l;induction l with
  |nil=>intro pre w6 _ _;exact⟨w6,by simp[turns,a7]⟩
  |cons a l ih=>
   intro pre w6 hok hlen;have ha:=Wp (hok a dH);have hs:=zh a.ts;rw[dI]at hlen;obtain⟨w6',e⟩:=ih (pre++p5 a.ts) (.pu a.D) (λb hb=>hok b (dF _ hb)) (by rw[dU];lia);refine⟨w6',?_⟩;rw[dC,bx (δ1:=[v0,v1,v2,v3,v4,.ow (pre.map Pu.D.str),.pu a.D,v7]) rfl];have hc:=Ua (r:=a5 (g2 aj (ah 6) (gC (.int 1)))) (δ:=[v0,v1,v2,v3,v4,.ow (pre.map Pu.D.str),.pu a.D,v7]) (ts:=a.ts) (by simp[At.D]) (by lia);have hle:pre.length+(p5 a.ts).length<=16777216:=by lia
   simp only[VU,hc,iF,lG,ij,V8,dD,hle,if_true,qF,qG];rw[<-fQ,e]
   congr 3
   simp[a7,kY]
 obtain⟨w,e⟩:=key as [] v6 h (by simp;lia);exact⟨w,by simpa using e⟩
def Ju{xs:List Pu.D}{k:Int}(h0:0<=k)(h1:k<xs.length):∃d,d∈xs/\aj (.lst xs) (.int k)=some d:=by
 have hl:k.toNat<xs.length:=by lia
 refine⟨xs[k.toNat],mR hl,?_⟩;show L2.atI xs k=_;have hk:((k.toNat:Nat):Int)=k:=by lia
 have e:=L2.rh (eR hl);rwa [hk]at e
def Hf(n:Nat):En->Out:=(ic (vi (g2 dh (ah 5) (gj ao)) (g2 dh (aq (ai (tab n) az) (af (ah 0) (af (g2 bf (g2 bf (ah 1) (gC (.int 32))) (ah 3)) (af (gC (.int 8)) ao)))) (gC (.int 0)))) (qu 7 (aq (ai (tab n) az) (af (ah 0) (af (g2 bf (g2 bf (ah 1) (gC (.int 34))) (ah 3)) (af (gC (.int 2)) ao))))) (qu 7 (g2 aj (ah 5) (aq (ai (tab n) az) (af (ah 0) (af (g2 bf (g2 bf (ah 1) (gC (.int 34))) (ah 3)) (af (g1 bu (ah 5)) ao)))))))
def Io(kn:List Str)(t:Tm):Prop:=(∃z,t=.i z/\(z=0\/z=1))\/∃x,t=.s x/\x∈kn
def Uo(n:Nat)(ns:List Int)(k:Int)(hk:0<=k)(kn:List Str)(hkn:∀x∈kn,x∈zu)(v2 v4 v6:Sl):∀(l:List Int)(v3:Sl)(hd:List Tm),(∀i∈l,0<=i)->(∀t∈hd,Io kn t)->hd.length+l.length<=1000->
  ∃(w3:Sl) (hd':List Tm),(∀t∈hd',Io kn t)/\hd'.length=hd.length+l.length/\turns (a0 3) (Hf (n+2)) (l.map Pu.D.int) [.bo (j8 ns),.bo (.int k),v2,v3,v4,.ow (kn.map Pu.D.str),v6,.ow (hd.map Tm.D)]=.nx [.bo (j8 ns),.bo (.int k),v2,w3,v4,.ow (kn.map Pu.D.str),v6,.ow (hd'.map Tm.D)]:=by
 intro l;induction l with
 |nil=>intro v3 hd _ h _;exact⟨v3,hd,h,by simp,rfl⟩
 |cons i l ih=>
  intro v3 hd hnn h hlen;have hi:0<=i:=hnn i dH;rw[dI]at hlen;have step:∃t,Io kn t/\Hf (n+2) [.bo (j8 ns),.bo (.int k),v2,.pu (.int i),v4,.ow (kn.map Pu.D.str),v6,.ow (hd.map Tm.D)]=.nx [.bo (j8 ns),.bo (.int k),v2,.pu (.int i),v4,.ow (kn.map Pu.D.str),v6,.ow (hd.map Tm.D++[t.D])]:=by
   have hsm:KQ (kn.map Pu.D.str):=HN λd hd=>by
    obtain⟨x,hx,rfl⟩:=List.mem_map.mp hd;exact HL (BF (hkn x hx))
   have e1:=(Jk hsm).1;have hlt:hd.length<16777216:=by lia
   have m8:=jk n ns (k+32+i) 8 (by lia) (by decide);have m2:=jk n ns (k+34+i) 2 (by lia) (by decide);obtain⟨r0,r1⟩:=dq ns (k+34+i) 2 (by decide);have t2:Io kn (.i (jx ns (k+34+i) 2)):=.inl ⟨_,rfl,by lia⟩;cases hn:kn with
   |nil=>
    subst hn;refine⟨_,t2,?_⟩;simp only[kU,List.isEmpty_nil]at e1;simp[Hf,e1,m2,hlt,Tm.D]
   |cons x r=>
    rw[<-hn];have hne:(kn.map Pu.D.str).isEmpty=false:=by rw[hn];rfl
    rw[hne]at e1
    by_cases h8:jx ns (k+32+i) 8=0
    ·refine⟨_,t2,?_⟩;rw[h8]at m8;simp[Hf,e1,m2,m8,hlt,Tm.D]
    ·have hpos:0<(kn.length:Int):=by rw[hn];simp
     have mk:=jk n ns (k+34+i) kn.length (by lia) hpos;obtain⟨q0,q1⟩:=dq ns (k+34+i) kn.length hpos;obtain⟨d,hd1,hd2⟩:=Ju (xs:=kn.map Pu.D.str) q0 (by rw[dD];exact q1);obtain⟨y,hy,rfl⟩:=List.mem_map.mp hd1;refine⟨.s y,.inr ⟨y,rfl,hy⟩,?_⟩;have h8':(jx ns (k+32+i) 8==0)=false:=by simpa using h8
     simp[Hf,e1,m8,mk,hd2,hlt,Tm.D,h8']
  obtain⟨t,ht,e⟩:=step;obtain⟨w3,hd',a1,a2,a3⟩:=ih (.pu (.int i)) (hd++[t]) (λj hj=>hnn j (dF _ hj)) (λs hs=>by
   rcases List.mem_append.mp hs with hs|hs
   ·exact h s hs
   ·rw[List.mem_singleton.mp hs];exact ht) (by rw[dU];simp;lia)
  refine⟨w3,hd',a1,by rw[a2];simp;lia,?_⟩;rw[dC,bx (δ1:=[.bo (j8 ns),.bo (.int k),v2,.pu (.int i),v4,.ow (kn.map Pu.D.str),v6,.ow (hd.map Tm.D)]) rfl,e];dsimp only;rw[<-a3];simp
def yb(m:Nat):List Int:=(eY m).map λ(i:Nat)=>0+(i:Int)
def AZ(m:Nat):ir 0 m=(yb m).map Pu.D.int:=by unfold ir yb;rw[eQ];rfl
def Vs(h:i∈yb m):0<=i/\i<m:=by
 unfold yb at h;obtain⟨j,hj,rfl⟩:=List.mem_map.mp h;have:=List.mem_range.mp hj
 lia
def Gg(n:Nat)(ns:List Int)(k m:Int)(hk:0<=k)(hm:0<m)(hm5:m<=4):∃hd as,Drawn hd as/\ai (tab (n+5)) ff [j8 ns,.int k,.int m]=.ok (cv hd as):=by
 rw[Jg];have e0:=jk (n+2) ns (k+30) m (by lia) hm;obtain⟨r0,r1⟩:=dq ns (k+30) m hm;have e1:=jk (n+2) ns (k+31) 3 (by lia) (by decide);obtain⟨q0,q1⟩:=dq ns (k+31) 3 (by decide);generalize jx ns (k+30) m=r at e0 r0 r1;generalize jx ns (k+31) 3=q at e1 q0 q1;have hat:cb (je (af (g2 bf (gC (.int 1)) (aq (ai (tab (n+4)) az) (af (ah 0) (af (g2 bf (ah 1) (gC (.int 30))) (af (ah 2) ao))))) ao)) [1,0] (gC (.bl true)) (aq (ai (tab (n+4)) i5) (af (ah 2) (af (g2 bf (ah 1) (g2 lg (gC (.int 4)) (ah 0))) ao)))
   [.bo (j8 ns),.bo (.int k),.bo (.int m),.no,.no,.no,.no,.no]=.ok (.lst ((eY (1+r).toNat).map λ(j:Nat)=>(Dd ns (k+4 * (0+(j:Int)))).D)):=by
  refine Dk (u9 _ _ (j':=1+r) (by simp[e0]) (by lia)) (by lia) λj hj=>?_;have ea:=Rc n ns (k+4 * (0+(j:Int))) (by lia);have em:=λa=>Ih 4 a (.inl (by decide));generalize (0+(j:Int))=z at ea⊢;simp[b8,em,ea]
 have hmap:((eY (1+r).toNat).map λ(j:Nat)=>(Dd ns (k+4 * (0+(j:Int)))).D)=((eY (1+r).toNat).map λ(j:Nat)=>Dd ns (k+4 * (0+(j:Int)))).map At.D:=by rw[eQ];rfl
 rw[hmap]at hat;have hasl:((eY (1+r).toNat).map λ(j:Nat)=>Dd ns (k+4 * (0+(j:Int)))).length=(1+r).toNat:=by simp
 have haso:∀a∈((eY (1+r).toNat).map λ(j:Nat)=>Dd ns (k+4 * (0+(j:Int)))),a.ok:=λa ha=>by
  obtain⟨j,_,rfl⟩:=List.mem_map.mp ha;exact Ra _ _
 generalize ((eY (1+r).toNat).map λ(j:Nat)=>Dd ns (k+4 * (0+(j:Int))))=as at hat hasl haso;obtain⟨w6,ek⟩:=Pf as haso (by lia) (.bo (j8 ns)) (.bo (.int k)) (.bo (.int m)) .no (.pu (.tup (as.map At.D))) .no .no;obtain⟨w3,hd,h1,h2,h3⟩:=Uo (n+2) ns k hk (a7 as) (B2 haso) (.bo (.int m)) (.pu (.tup (as.map At.D))) w6 (yb q.toNat) .no [] (λi hi=>(Vs hi).1) (by simp) (by simp[yb];lia);have hr:=u9 [.bo (j8 ns),.bo (.int k),.bo (.int m),.no,.pu (.tup (as.map At.D)),.ow ((a7 as).map Pu.D.str),w6,.ow []] (af (aq (ai (tab (n+4)) az) (af (ah 0) (af (g2 bf (ah 1) (gC (.int 31))) (af (gC (.int 3)) ao)))) ao) (j':=q) (by simp[e1]) (by lia);rw[AZ]at hr;refine⟨hd,as,⟨by lia,haso,by rw[h2];simp[yb];lia,h1⟩,?_⟩;unfold Hf at h3;simp only[kU]at h3;simp only[yh,V7,Nt,oS,kN,dI,jD,eA,o9,BK,IW,hat,V6,Wa,V9,ij,qF,qG,BJ,VQ,PH,fZ,if_true,PJ,BL,VT,iF,lG];rw[cm (ds:=as.map At.D) (by simp),ek];simp only[qF,qG];rw[cm hr,h3];simp[cv]
end LK
end
section
namespace Pu
open PySem PySem.Spec PyProof.Rows
theorem K2:∀(l:List α),(∀a∈l,F (f a)=some (if b a then some (f' a)else none))->k9 F (l.map f)=some ((l.filter b).map f')
 |[],_=>rfl
 |a::l,h=>by
  rw[dC];unfold k9;rw[h a dH,K2 l λc hc=>h c (dF _ hc),List.filter_cons];cases b a<;>rfl
def Rj{l:List α}(hr:r δ=.ok (l.map f))(hl:l.length<=16777216)(ht:∀a∈l,t (b8 ix δ (.pu (f a)))=.ok (.bl (b a)))(hg:∀a∈l,g (b8 ix δ (.pu (f a)))=.ok (f' a)):
  cb r ix t g δ=.ok (.lst ((l.filter b).map f')):=by
 unfold cb;rw[hr];dsimp only;rw[dJ (by rw[dD];exact hl),K2 (b:=b) (f':=f') l λa ha=>by
  rw[zr (b:=b a) (y:=f' a) (ht a ha) λ_=>hg a ha]]
def K3{l:List α}(hr:r δ=.ok (l.map f))(hl:l.length<=16777216)(ht:∀a∈l,t (b8 ix δ (.pu (f a)))=.ok (.bl (b a))):
  cb r ix t (bc 0) δ=.ok (.lst ((l.filter b).map f)):=Rj hr hl ht λa _=>rfl
def i4{l:List α}(hr:r δ=.ok (l.map f))(hl:l.length<=16777216)(hg:∀a∈l,g (b8 ix δ (.pu (f a)))=.ok (f' a)):
  cb r ix (gC (.bl true)) g δ=.ok (.lst (l.map f')):=by
 have:=Rj (b:=λ_=>true) (t:=gC (.bl true)) hr hl (λ_ _=>rfl) hg;rwa [List.filter_eq_self.mpr (λ_ _=>rfl)]at this
theorem Bd(b:α->Bool):∀l:List α,ma (l.map λa=>D.bl (b a))=some (l.map b)
 |[]=>rfl
 |a::l=>by
  show(ma (l.map λa=>D.bl (b a))).map (b a::·)=_;rw[Bd b l];rfl
def Q7(b:α->Bool)(l:List α):Bw (.lst (l.map λa=>D.bl (b a)))=some (.bl (l.all b)):=by
 unfold Bw;dsimp only;rw[Bd];show some (D.bl ((l.map b).all id))=_;rw[List.all_map];rfl
end Pu
end
section
namespace LK
open PySem PySem.Spec PyProof.Rows Pu
def good:List Str:=["x","y","z","u","v","vv","r","s","t","w","ww","www","wwww","wwwww","wwwwww"]
def Kq(x:Str):Bool:=decide (x∈good)
def Pw{x:Str}(h:Kq x=true):x="x"\/x="y"\/x="z"\/x="u"\/x="v"\/x="vv"\/x="r"\/x="s"\/x="t"\/x="w"\/x="ww"\/x="www"\/x="wwww"\/x="wwwww"\/x="wwwwww":=by
 have:=of_decide_eq_true h;unfold good at this;simpa only[gD,mP,or_false]using this
def Tv(n:Nat)(h:Kq x=true):ai (tab (n+1)) mf [.str x]=.ok (.bl true):=by
 rw[G7];rcases Pw h with rfl|rfl|rfl|rfl|rfl|rfl|rfl|rfl|rfl|rfl|rfl|rfl|rfl|rfl|rfl<;>kernel_rfl
def ES(n:Nat)(h:Kq x=true):ai (tab (n+1)) my [.str x]=.ok (.bl true):=by
 rw[Ot];rcases Pw h with rfl|rfl|rfl|rfl|rfl|rfl|rfl|rfl|rfl|rfl|rfl|rfl|rfl|rfl|rfl<;>kernel_rfl
def ku{x:Str}(h:Kq x=true):eK x=true:=by
 rcases Pw h with rfl|rfl|rfl|rfl|rfl|rfl|rfl|rfl|rfl|rfl|rfl|rfl|rfl|rfl|rfl<;>decide+kernel
def Tm.good:Tm->Prop
 |.s x=>Kq x=true
 |.i _=>True
def At.good(a:At):Prop:=Kq a.nm=true/\1<=a.ts.length/\a.ts.length<=4/\∀t∈a.ts,t.good
def Hh(n:Nat){t:Tm}(h:t.good):ai (tab (n+2)) qc [t.D]=.ok (.bl true):=by
 rw[Ue];cases t with
 |s x=>simp[Aa,Tm.D,Tv n h]
 |i z=>
  have h1:ai (tab (n+1)) mf [.int z]=.ok (.bl false):=by rw[G7];simp[Gi]
  have h2:ai (tab (n+1)) oq [.int z]=.ok (.bl true):=by rw[Lb];simp[A8]
  simp[Aa,Tm.D,h1,h2]
def u0(n:Nat){α:Type}{l:List α}{f:α->Pu.D}{lo hi:Int}{y:Str}{d:DefR}(hd:look Jc y=some d)(hms:d.ms=[true])(h1:lo<=(l.length:Int))(h2:(l.length:Int)<=hi)(hl:l.length<=1000)(h:∀x∈l,ai (tab n) d [f x]=.ok (.bl true)):
  ai (tab (n+1)) ig [.tup (l.map f),.int lo,.int hi,.fn y]=.ok (.bl true):=by
 rw[Fy];have hc:cb (a5 (ah 0)) [3] (gC (.bl true)) (Dy (tab (n+1)) 1 [((ah 0),(bc 0))]) [.bo (.tup (l.map f)),.bo (.int lo),.bo (.int hi),.bo (.fn y)]=.ok (.lst (l.map λ_=>Pu.D.bl true)):=
  i4 (f:=f) (by simp) (by lia) λx hx'=>by
   have ht:(tab (n+1)).fns y=some ⟨d.ms,ai (tab n) d⟩:=BZ n hd;unfold Dy;simp[b8,ht,hms,AO,h x hx']
 have ha:=Q7 (λ_:α=>true) l;rw[List.all_eq_true.mpr λ_ _=>rfl]at ha;simp[wb,h1,h2,hc,ha,-List.map_const']
def Uv(n:Nat){a:At}(h:a.good):ai (tab (n+4)) vf [a.D]=.ok (.bl true):=by
 rw[Ud];obtain⟨h1,h2,h3,h4⟩:=h;have e0:ai (tab (n+3)) me [a.D]=.ok (.bl true):=by rw[Gz];simp[z9,At.D]
 have e1:=Tv (n+2) h1;have e2:=u0 (n+2) (l:=a.ts) (f:=Tm.D) (lo:=1) (hi:=4) (y:="is_term") (d:=qc) (by kernel_rfl) rfl (by lia) (by lia) (by lia) λt ht=>Hh n (h4 t ht);unfold At.D at *;simp[Gh,e0,e1,e2]
theorem vj:∀{kvs:List (Pu.D×Pu.D)}{j:L2.fo},Um kvs j=(bq kvs j).isSome
 |[],_=>rfl
 |(k,d)::r,j=>by
  unfold bq
  by_cases h:bw k=some j
  ·rw[dJ h];simp[Um,h]
  ·rw[dM h,<-vj];simp[Um,h]
theorem Ap:∀{kvs:List (Pu.D×Pu.D)}{j j':L2.fo}{v:Pu.D},bq kvs j=none->bq (kvs++[(kD j,v)]) j'=if j'=j then some v else bq kvs j'
 |[],j,j',v,_=>by
  show(if bw (kD j)=some j' then some v else none)=_;rw[uj]
  by_cases h:j'=j
  ·subst h;rw[dJ rfl,dJ rfl]
  ·rw[dM (λz=>h (eI z).symm),dM h];rfl
 |(k,d)::r,j,j',v,hn=>by
  unfold bq at hn
  by_cases hk:bw k=some j
  ·rw[dJ hk]at hn;cases hn
  ·rw[dM hk]at hn;show(if bw k=some j' then some d else bq (r++[(kD j,v)]) j')=_;rw[Ap hn]
   by_cases h:j'=j
   ·subst h;rw[dM hk,dJ rfl,dJ rfl]
   ·rw[dM h,dM h];rfl
def J5(h:bq kvs j=none):pz kvs j v=kvs++[(kD j,v)]:=by
 unfold pz;rw[vj,h];rfl
def Pj:En->Out:=(Nc (Dz ib (jn 1 (g2 aj (ah 2) (gC (.int 0))) (g1 bu (g2 aj (ah 2) (gC (.int 1))))) (g1 bu (g2 aj (ah 2) (gC (.int 1))))) (br (gC (.bl false))) cf)
theorem Es(v0:Sl):∀(as:List At)(kvs:List (Pu.D×Pu.D))(v2:Sl),(∀a∈as,∀b∈as,a.nm=b.nm->a.ts.length=b.ts.length)->(∀a∈as,∀d,bq kvs (.inr a.nm)=some d->d=.int (a.ts.length:Nat))->kvs.length+as.length<=1000->
  ∃kvs' w2,turns (a0 2) Pj (as.map At.D) [v0,.od false kvs,v2]=.nx [v0,.od false kvs',w2]
 |[],kvs,v2,_,_,_=>⟨kvs,v2,rfl⟩
 |a::as,kvs,v2,h,k,hl=>by
  rw[dI]at hl;rw[dC,bx (δ1:=[v0,.od false kvs,.pu a.D]) rfl];have hlt:kvs.length<dN:=by show _<16777216;lia
  have h':∀b∈as,∀c∈as,b.nm=c.nm->b.ts.length=c.ts.length:=λb hb c hc=>h b (dF _ hb) c (dF _ hc);cases e:bq kvs (.inr a.nm)with
  |some d=>
   have:=k a dH d e;subst this;have eb:Pj [v0,.od false kvs,.pu a.D]=.nx [v0,.od false kvs,.pu a.D]:=by
    unfold Pj Nc Dz jn;simp[At.D,bw,hlt,e,Res.ef]
   rw[eb];exact Es v0 as kvs (.pu a.D) h' (λb hb=>k b (dF _ hb)) (by lia)
  |none=>
   have eb:Pj [v0,.od false kvs,.pu a.D]=.nx [v0,.od false (kvs++[(kD (.inr a.nm),.int (a.ts.length:Nat))]),.pu a.D]:=by
    unfold Pj Nc Dz jn;simp[At.D,bw,hlt,e,J5 e,Res.ef]
   rw[eb];refine Es v0 as _ (.pu a.D) h' (λb hb d hd=>?_) (by rw[dU];simp;lia);rw[Ap e]at hd;split at hd
   ·rename_i z;cases hd;rw[h b (dF _ hb) a dH (Sum.inr.inj z)]
   ·exact k b (dF _ hb) d hd
def U9(n:Nat){as:List At}(hl:as.length<=900)(h:∀a∈as,∀b∈as,a.nm=b.nm->a.ts.length=b.ts.length):ai (tab (n+1)) gm [.tup (as.map At.D)]=.ok (.bl true):=by
 rw[vw];obtain⟨kvs,w2,e⟩:=Es (.bo (.tup (as.map At.D))) as [] .no h (λa _ d e=>by cases e) (by simp;lia);have hs0:c8 (a0 2) (a5 (vz 0)) Pj [.bo (.tup (as.map At.D)),.od false [],.no]=_:=(cm (by simp)).trans e;unfold Pj at hs0;simp[l6,hs0]
def mj(k d:Pu.D)(r:List (Pu.D×Pu.D))(j:L2.fo):bq ((k,d)::r) j=if bw k=some j then some d else bq r j:=rfl
theorem Mc(j j':L2.fo)(v:Pu.D):∀kvs:List (Pu.D×Pu.D),bq (kvs.map λp=>if bw p.1=some j then(p.1,v)else p) j'=if j'=j then(bq kvs j).map (λ_=>v)else bq kvs j'
 |[]=>by split<;>rfl
 |(k,d)::r=>by
  have ih:=Mc j j' v r;rw[dC]
  by_cases hk:bw k=some j
  ·rw[dJ hk,mj,ih,mj,mj,dJ hk]
   by_cases hj:j'=j
   ·subst hj;rw[dJ hk,dJ rfl];rfl
   ·rw[dM hj,dM hj,hk];have:¬(some j=some j'):=λz=>hj (eI z).symm;rw[dM this,dM this]
  ·rw[dM hk,mj,ih,mj,mj,dM hk]
   by_cases hj:j'=j
   ·subst hj;rw[dM hk,dJ rfl,dJ rfl]
   ·rw[dM hj,dM hj]
def Ei(kvs:List (Pu.D×Pu.D))(j j':L2.fo)(v:Pu.D):bq (pz kvs j v) j'=if j'=j then some v else bq kvs j':=by
 unfold pz;rw[vj];cases e:bq kvs j with
 |none=>
  rw[dM (by decide)];exact Ap e
 |some d=>
  rw[dJ (show(some d).isSome=true from rfl),Mc,e];rfl
def GJ(kvs:List (Pu.D×Pu.D))(j:L2.fo)(v:Pu.D):(pz kvs j v).length<=kvs.length+1:=by
 unfold pz;split
 ·rw[dD];lia
 ·rw[dU];simp
theorem ye:∀l:List Str,cn (l.map Pu.D.str)=some (l.map kH)
 |[]=>rfl
 |x::l=>by
  show(match cg (.str x)with|some p=>(match cn (l.map Pu.D.str)with|some ps=>some (p::ps)|none=>none)|none=>none)=_;rw[ye l];rfl
theorem t9:∀{l:List Str},(∀x∈l,eK x=true)->dO (l.map kH)=true
 |[],_=>rfl
 |x::l,h=>by
  show(eK x && dO (l.map kH))=true;rw[h x dH,t9 λy hy=>h y (dF _ hy)];rfl
def Wn(l:List Str)(x:Str):((l.map kH).any λy=>eL y (.str x))=decide (x∈l):=by
 induction l with
 |nil=>rfl
 |cons y l ih=>
  rw[dC,iX,ih];show((y==x)||decide (x∈l))=_
  by_cases h:y=x
  ·subst h;simp
  ·have h':¬x=y:=λz=>h z.symm;have:(y==x)=false:=by simpa using h
   rw[this];simp[h']
def Jp{l:List Str}(hl:∀y∈l,eK y=true)(hx:eK x=true):Ga (.str x) (.lst (l.map Pu.D.str))=some (.bl (decide (x∈l)))/\ja (.str x) (.lst (l.map Pu.D.str))=some (.bl (!decide (x∈l))):=by
 have e:Bx (.str x) (.lst (l.map Pu.D.str))=some (decide (x∈l)):=by
  show(match cn (l.map Pu.D.str),cg (.str x)with
   |some ps,some q=>if dO ps && eX q then some (ps.any λy=>eL y q)else none
   |_,_=>none)=_
  rw[ye];show(if dO (l.map kH) && eX (.str x)then some ((l.map kH).any λy=>eL y (.str x))else none)=_;rw[t9 hl,nu (p:=.str x) hx (fZ _),Wn];rfl
 unfold Ga ja;rw[e];exact⟨rfl,rfl⟩
def fb(acc:List Str):List Str->List Str
 |[]=>acc
 |x::r=>if x∈acc then fb acc r else fb (acc++[x]) r
def jj(l:List Str):List (Pu.D×Pu.D):=l.map λx=>(.str x,.bl true)
def Yk(l:List Str)(x:Str):bq (jj l) (.inr x)=if x∈l then some (.bl true)else none:=by
 induction l with
 |nil=>rfl
 |cons y l ih=>
  show(if bw (.str y)=some (.inr x)then some (Pu.D.bl true)else bq (jj l) (.inr x))=_;rw[ih]
  by_cases h:y=x
  ·subst h;simp[bw]
  ·have h':¬x=y:=λz=>h z.symm;have hk:¬bw (.str y)=some (.inr x):=by simp[bw,h]
   rw[dM hk];simp[h']
def GK(l:List Str)(x:Str):pz (jj l) (.inr x) (.bl true)=jj (if x∈l then l else l++[x]):=by
 have h:=Yk l x
 by_cases hx:x∈l
 ·rw[dJ hx]at h⊢;unfold pz;rw[vj,h];show(jj l).map _=jj l;unfold jj;rw[eQ];apply gJ;intro y _;show(if bw (.str y)=some (.inr x)then(Pu.D.str y,Pu.D.bl true)else(.str y,.bl true))=_;split<;>rfl
 ·rw[dM hx]at h⊢;rw[J5 h];unfold jj;rw[fQ];rfl
def HR:En->Out:=(ic (fc (g1 (bb "str") (ah 2))) (yd 1 (ah 2) (gC (.bl true))) cf)
def Ti(v0:Sl):∀(ts:List Tm)(acc:List Str)(v2:Sl),acc.length+ts.length<=1000->∃w2,turns (a0 2) HR (ts.map Tm.D) [v0,.od false (jj acc),v2]=.nx [v0,.od false (jj (fb acc (p5 ts))),w2]:=by
 intro ts;induction ts with
 |nil=>intro acc v2 _;exact⟨v2,rfl⟩
 |cons t ts ih=>
  intro acc v2 hl;rw[dI]at hl;rw[dC,bx (δ1:=[v0,.od false (jj acc),.pu t.D]) rfl];cases t with
  |i z=>
   have eb:HR [v0,.od false (jj acc),.pu (Tm.i z).D]=.nx [v0,.od false (jj acc),.pu (Tm.i z).D]:=by simp[HR,Tm.D]
   rw[eb];exact ih acc _ (by lia)
  |s x=>
   have hlt:(jj acc).length<dN:=by unfold jj;rw[dD];show _<16777216;lia
   have eb:HR [v0,.od false (jj acc),.pu (Tm.s x).D]=.nx [v0,.od false (jj (if x∈acc then acc else acc++[x])),.pu (Tm.s x).D]:=by
    simp[HR,Tm.D,yd,X0,w9,bw,hlt,GK]
   rw[eb];have hde:fb acc (p5 (.s x::ts))=fb (if x∈acc then acc else acc++[x]) (p5 ts):=by
    show(if x∈acc then fb acc (p5 ts)else fb (acc++[x]) (p5 ts))=_
    by_cases h:x∈acc<;>simp[h]
   rw[hde];refine ih _ _ ?_;split
   ·lia
   ·rw[dU];simp;lia
def L1(l:List Str):Sd (jj l)=l.map Pu.D.str:=by unfold Sd jj;rw[eQ];rfl
def zd(n:Nat)(ts:List Tm)(hl:ts.length<=1000)(b:Bool):ai (tab (n+1)) d7 [if b then .tup (ts.map Tm.D)else .lst (ts.map Tm.D)]=.ok (.lst ((fb [] (p5 ts)).map Pu.D.str)):=by
 rw[Lh];cases b with
 |true=>
  obtain⟨w2,e⟩:=Ti (.bo (.tup (ts.map Tm.D))) ts [] .no (by simpa using hl);have hs:c8 (a0 2) (a5 (vz 0)) HR [.bo (.tup (ts.map Tm.D)),.od false [],.no]=.nx [.bo (.tup (ts.map Tm.D)),.od false (jj (fb [] (p5 ts))),w2]:=by
   rw[cm (ds:=ts.map Tm.D) (by simp)];exact e
  unfold HR at hs;simp[t7,hs,iw,L1]
 |false=>
  obtain⟨w2,e⟩:=Ti (.bo (.lst (ts.map Tm.D))) ts [] .no (by simpa using hl);have hs:c8 (a0 2) (a5 (vz 0)) HR [.bo (.lst (ts.map Tm.D)),.od false [],.no]=.nx [.bo (.lst (ts.map Tm.D)),.od false (jj (fb [] (p5 ts))),w2]:=by
   rw[cm (ds:=ts.map Tm.D) (by simp)];exact e
  unfold HR at hs;simp[t7,hs,iw,L1]
theorem ia(x:Str):∀(l acc:List Str),x∈fb acc l↔x∈acc\/x∈l
 |[],acc=>by simp[fb]
 |y::l,acc=>by
  unfold fb
  by_cases h:y∈acc
  ·rw[dJ h,ia x l acc,gD];constructor
   ·rintro (z|z)
    ·exact .inl z
    ·exact .inr (.inr z)
   ·rintro (z|z|z)
    ·exact .inl z
    ·subst z;exact .inl h
    ·exact .inr z
  ·rw[dM h,ia x l,nJ,qH,gD];constructor
   ·rintro ((z|z)|z)
    ·exact .inl z
    ·exact .inr (.inl z)
    ·exact .inr (.inr z)
   ·rintro (z|z|z)
    ·exact .inl (.inl z)
    ·exact .inl (.inr z)
    ·exact .inr z
def kr(as:List At):List Tm:=as.flatMap At.ts
def Fo(v0:Sl):∀(as:List At)(pre:List Tm)(v2:Sl),(∀a∈as,a.good)->pre.length+4 * as.length<=4000->
  ∃w2,turns (a0 2) (zb 1 (g2 aj (ah 2) (gC (.int 1)))) (as.map At.D) [v0,.ow (pre.map Tm.D),v2]=.nx [v0,.ow ((pre++kr as).map Tm.D),w2]:=by
 intro as;induction as with
 |nil=>intro pre v2 _ _;exact⟨v2,by simp[turns,kr]⟩
 |cons a as ih=>
  intro pre v2 hok hl;have ha:=(hok a dH).2;rw[dI]at hl;obtain⟨w2,e⟩:=ih (pre++a.ts) (.pu a.D) (λb hb=>hok b (dF _ hb)) (by rw[dU];lia);refine⟨w2,?_⟩;rw[dC,bx (δ1:=[v0,.ow (pre.map Tm.D),.pu a.D]) rfl];have hle:pre.length+a.ts.length<=16777216:=by lia
  have eb:zb 1 (g2 aj (ah 2) (gC (.int 1))) [v0,.ow (pre.map Tm.D),.pu a.D]=.nx [v0,.ow ((pre++a.ts).map Tm.D),.pu a.D]:=by simp[At.D,hle]
  rw[eb];dsimp only;rw[e];simp[kr]
def zi(n:Nat){as:List At}(h:∀a∈as,a.good)(hl:as.length<=900)(b:Bool):ai (tab (n+1)) dj [if b then .tup (as.map At.D)else .lst (as.map At.D)]=.ok (.lst ((kr as).map Tm.D)):=by
 rw[Ow];cases b with
 |true=>
  obtain⟨w2,e⟩:=Fo (.bo (.tup (as.map At.D))) as [] .no h (by simp;lia);have hs:c8 (a0 2) (a5 (vz 0)) (zb 1 (g2 aj (ah 2) (gC (.int 1)))) [.bo (.tup (as.map At.D)),.ow [],.no]=.nx [.bo (.tup (as.map At.D)),.ow ((kr as).map Tm.D),w2]:=by
   rw[cm (ds:=as.map At.D) (by simp)];simpa using e
  simp[xc,hs]
 |false=>
  obtain⟨w2,e⟩:=Fo (.bo (.lst (as.map At.D))) as [] .no h (by simp;lia);have hs:c8 (a0 2) (a5 (vz 0)) (zb 1 (g2 aj (ah 2) (gC (.int 1)))) [.bo (.lst (as.map At.D)),.ow [],.no]=.nx [.bo (.lst (as.map At.D)),.ow ((kr as).map Tm.D),w2]:=by
   rw[cm (ds:=as.map At.D) (by simp)];simpa using e
  simp[xc,hs]
def Qp(a b:List Tm):p5 (a++b)=p5 a++p5 b:=List.filterMap_append ..
def C3(as:List At):p5 (kr as)=a7 as:=by
 induction as with
 |nil=>rfl
 |cons a as ih=>
  have:kr (a::as)=a.ts++kr as:=by simp[kr]
  rw[this,Qp,ih];simp[a7]
def IZ{as:List At}(h:∀a∈as,a.good):(kr as).length<=4 * as.length:=by
 induction as with
 |nil=>simp[kr]
 |cons a as ih=>
  have h2:=(h a dH).2.2.1;have h3:=ih λb hb=>h b (dF _ hb);unfold kr at h3⊢;rw[kY,dU,dI]
  lia
def To(h:∀t∈ts,t.good):∀x∈p5 ts,Kq x=true:=λx hx=>by
 unfold p5 at hx;obtain⟨t,ht,e⟩:=List.mem_filterMap.mp hx;cases t with
 |s y=>cases e;exact h _ ht
 |i z=>cases e
def A4(h:∀a∈as,a.good):∀x∈a7 as,Kq x=true:=λx hx=>by
 obtain⟨a,ha,hx⟩:=List.mem_flatMap.mp hx;exact To (h a ha).2.2.2 x hx
def vg:∀(l acc:List Str),(fb acc l).length<=acc.length+l.length:=by
 intro l;induction l with
 |nil=>intro acc;simp[fb]
 |cons x l ih=>
  intro acc;unfold fb;split
  ·have:=ih acc;simp;lia
  ·have:=ih (acc++[x]);simp at this⊢;lia
def Cr{ts:List Tm}{x:Str}:x∈p5 ts↔Tm.s x∈ts:=by
 unfold p5;rw[List.mem_filterMap];constructor
 ·rintro ⟨t,ht,e⟩
  cases t with
  |s y=>cases e;exact ht
  |i z=>cases e
 ·exact λh=>⟨_,h,rfl⟩
def gy{as:List At}{x:Str}:x∈a7 as↔∃a∈as,Tm.s x∈a.ts:=by
 unfold a7;rw[List.mem_flatMap];exact⟨λ⟨a,ha,h⟩=>⟨a,ha,Cr.mp h⟩,λ⟨a,ha,h⟩=>⟨a,ha,Cr.mpr h⟩⟩
def Nk(n:Nat){hd:List Tm}{as:List At}(hh:∀t∈hd,t.good)(ha:∀a∈as,a.good)(hl1:hd.length<=900)(hl2:as.length<=200)(hi:∀x,Tm.s x∈hd->∃b∈as,Tm.s x∈b.ts):ai (tab (n+2)) j6 [.tup (hd.map Tm.D),.tup (as.map At.D)]=.ok (.bl true):=by
 rw[Ds];have hl3:=IZ ha;have e1:=zi n ha (by lia) true;have e2:=zd n (kr as) (by lia) false;have e3:=zd n hd (by lia) true;simp only[if_true,Bool.false_eq_true,if_false]at e1 e2 e3;rw[C3]at e2;have hw:=A4 ha;have hw2:=To hh;have hdl:(fb [] (p5 hd)).length<=1000:=by
  have h1:=vg (p5 hd) [];have h2:=zh hd;simp at h1
  lia
 have hc:cb (a5 (aq (ai (tab (n+1)) d7) (af (ah 0) ao))) [2] (gC (.bl true)) (g2 tj (ah 0) (ah 1)) [.bo (.tup (hd.map Tm.D)),.bo (.tup (as.map At.D)),.pu (.lst ((fb [] (a7 as)).map Pu.D.str))]=.ok (.lst ((fb [] (p5 hd)).map λx=>Pu.D.bl (decide (x∈fb [] (a7 as))))):=
  i4 (f:=Pu.D.str) (by simp[e3]) (by lia) λy hy=>by
   have hy':y∈p5 hd:=by simpa using(ia y (p5 hd) []).mp hy
   have:=(Jp (l:=fb [] (a7 as)) (x:=y) (λz hz=>ku (hw z (by simpa using(ia z _ []).mp hz))) (ku (hw2 y hy'))).1;simp[b8,this]
 have hall:=Q7 (λx=>decide (x∈fb [] (a7 as))) (fb [] (p5 hd));rw[List.all_eq_true.mpr λx hx=>decide_eq_true ((ia x _ []).mpr (.inr (gy.mpr (hi x (Cr.mp (by simpa using(ia x (p5 hd) []).mp hx))))))]at hall;simp[tq,e1,e2,hc,hall,-eQ]
end LK
end
section
namespace LK
open PySem Pu
abbrev l0:=List Tm×List At
abbrev Sub:=List (Str×Tm)
def lk:Sub->Str->Option Tm
 |[],_=>none
 |(y,v)::r,x=>if y=x then some v else lk r x
theorem yz(x:Str)(w:Tm):∀(s:Sub)(y:Str),lk (s++[(x,w)]) y=match lk s y with
  |some v=>some v
  |none=>if x=y then some w else none
 |[],y=>rfl
 |(z,v)::r,y=>by
  show(if z=y then some v else lk (r++[(x,w)]) y)=match (if z=y then some v else lk r y)with
   |some v=>some v
   |none=>if x=y then some w else none
  by_cases e:z=y
  ·rw[dJ e,dJ e]
  ·rw[dM e,dM e];exact yz x w r y
def ap(φ:Str->Tm):Tm->Tm
 |.i i=>.i i
 |.s x=>φ x
def N5(s:Sub):Tm->Option Tm
 |.i i=>some (.i i)
 |.s x=>lk s x
def pf:Sub->List Tm->List Tm->Option Sub
 |s,[],[]=>some s
 |s,.i i::ts,w::ws=>if(Tm.i i)=w then pf s ts ws else none
 | s, .s x :: ts, w :: ws => (match lk s x with
  |some v=>if v=w then pf s ts ws else none
  |none=>pf (s++[(x,w)]) ts ws)
 |_,_,_=>none
def Le(s s':Sub):Prop:=∀x v,lk s x=some v->lk s' x=some v
def Le.refl(s:Sub):Le s s:=λ_ _ h=>h
def Le.trans(h:Le a b)(k:Le b c):Le a c:=λx v e=>k x v (h x v e)
def Le.snoc:Le s (s++[(x,w)]):=λy v e=>by rw[yz,e]
def Dv(h:Le s s')(e:N5 s t=some w):N5 s' t=some w:=by
 cases t with
 |i i=>exact e
 |s x=>exact h x w e
theorem qq:∀{ts ws:List Tm}{s s':Sub},pf s ts ws=some s'->Le s s'/\ts.map (N5 s')=ws.map some
 |[],[],s,s',h=>by cases h;exact⟨Le.refl _,rfl⟩
 |[],_::_,s,s',h=>by cases h
 |.i _::_,[],s,s',h=>by cases h
 |.s _::_,[],s,s',h=>by cases h
 |.i i::ts,w::ws,s,s',h=>by
  unfold pf at h;split at h
  ·rename_i e;obtain⟨a,b⟩:=qq h;exact⟨a,by rw[dC,dC,b,<-e];rfl⟩
  ·cases h
 |.s x::ts,w::ws,s,s',h=>by
  unfold pf at h;split at h
  ·rename_i v e;split at h
   ·rename_i e2;obtain⟨a,b⟩:=qq h;exact⟨a,by rw[dC,dC,b,<-e2];show lk s' x::_=_;rw[a x v e]⟩
   ·cases h
  ·rename_i e;obtain⟨a,b⟩:=qq h;refine⟨Le.snoc.trans a,?_⟩;rw[dC,dC,b];show lk s' x::_=_;rw[a x w (by rw[yz,e];exact dJ rfl)]
def QB(φ:Str->Tm)(s:Sub):Prop:=∀x v,lk s x=some v->φ x=v
theorem j4:∀(ts:List Tm){s:Sub},QB φ s->∃s',pf s ts (ts.map (ap φ))=some s'/\QB φ s'
 |[],s,h=>⟨s,rfl,h⟩
 |.i i::ts,s,h=>by
  obtain⟨s',a,b⟩:=j4 ts h;exact⟨s',by rw[dC,pf];show(if(Tm.i i)=Tm.i i then _ else _)=_;rw[dJ rfl];exact a,b⟩
 |.s x::ts,s,h=>by
  rw[dC,pf];cases e:lk s x with
  |some v=>
   dsimp only;rw[dJ (show v=ap φ (Tm.s x)from(h x v e).symm)];exact j4 ts h
  |none=>
   dsimp only;refine j4 ts λy v q=>?_;rw[yz]at q;cases e2:lk s y with
   |some u=>rw[e2]at q;cases q;exact h y v e2
   |none=>
    rw[e2]at q;dsimp only at q;split at q
    ·rename_i z;cases q;rw[<-z];rfl
    ·cases q
def fw:List At->List At->Sub->Option Sub
 |[],_,s=>some s
 |a::A,T,s=>T.findSome? λt=>if t.1=a.1 then(pf s a.2 t.2).bind (fw A T)else none
theorem Lp:∀{A:List At}{s s':Sub},fw A T s=some s'->Le s s'/\∀a∈A,∃t∈T,t.1=a.1/\a.2.map (N5 s')=t.2.map some
 |[],s,s',h=>by cases h;exact⟨Le.refl _,λa ha=>by simp at ha⟩
 |a::A,s,s',h=>by
  unfold fw at h;obtain⟨t,ht,e⟩:=List.exists_of_findSome?_eq_some h;split at e
  ·rename_i en;cases e1:pf s a.2 t.2 with
   |none=>rw[e1]at e;cases e
   |some s1=>
    rw[e1]at e;obtain⟨l1,b1⟩:=qq e1;obtain⟨l2,b2⟩:=Lp (show fw A T s1=some s' from e);refine⟨l1.trans l2,λc hc=>?_⟩;rcases List.mem_cons.mp hc with rfl|hc
    ·refine⟨t,ht,en,?_⟩;refine lY λi=>?_;have q:=congrArg (λl=>l[i]?) b1;simp only[eP]at q⊢;cases z:c.2[i]? with
     |none=>rw[z]at q;exact q
     |some u=>
      rw[z]at q;cases z2:t.2[i]? with
      |none=>rw[z2]at q;cases q
      |some w=>
       rw[z2]at q;simp only[kM,oC]at q⊢;exact Dv l2 q
    ·exact b2 c hc
  ·cases e
theorem Bh:∀{A:List At}{s:Sub},QB φ s->(∀a∈A,(At.mk a.1 (a.2.map (ap φ)))∈T)->(fw A T s).isSome
 |[],s,_,_=>rfl
 |a::A,s,h,m=>by
  unfold fw;rw[List.findSome?_isSome_iff];refine⟨_,m a dH,?_⟩;dsimp only;rw[dJ rfl];obtain⟨s1,e,f⟩:=j4 a.2 h;rw[e];exact Bh f λb hb=>m b (dF _ hb)
def Ko(one other:l0):Option Sub:=(pf [] other.1 one.1).bind (fw other.2 one.2)
def aK(φ:Str->Tm)(other one:l0):Prop:=other.1.map (ap φ)=one.1/\∀a∈other.2,(At.mk a.1 (a.2.map (ap φ)))∈one.2
def N1{one other:l0}(h:aK φ other one):(Ko one other).isSome:=by
 unfold Ko;obtain⟨s1,e,f⟩:=j4 (φ:=φ) other.1 (s:=[]) (λx v q=>by cases q);rw[h.1]at e;rw[e];exact Bh f h.2
def N2{one other:l0}{s:Sub}(h:Ko one other=some s):other.1.map (N5 s)=one.1.map some/\∀a∈other.2,∃t∈one.2,t.1=a.1/\a.2.map (N5 s)=t.2.map some:=by
 unfold Ko at h;cases e:pf [] other.1 one.1 with
 |none=>rw[e]at h;cases h
 |some s1=>
  rw[e]at h;obtain⟨_,b1⟩:=qq e;obtain⟨l2,b2⟩:=Lp (show fw other.2 one.2 s1=some s from h);refine⟨?_,b2⟩;refine lY λi=>?_;have q:=congrArg (λl=>l[i]?) b1;simp only[eP]at q⊢;cases z:other.1[i]? with
  |none=>rw[z]at q;exact q
  |some u=>
   rw[z]at q;cases z2:one.1[i]? with
   |none=>rw[z2]at q;cases q
   |some w=>
    rw[z2]at q;simp only[kM,oC]at q⊢;exact Dv l2 q
def bZ(s:Sub):Str->Tm:=λx=>(lk s x).getD (.s x)
theorem Sq:∀{ts ws:List Tm},ts.map (N5 s)=ws.map some->ts.map (ap (bZ s))=ws
 |[],[],_=>rfl
 |[],_::_,h=>by cases h
 |_::_,[],h=>by cases h
 |t::ts,w::ws,h=>by
  rw[dC,dC]at h;injection h with h1 h2
  rw[dC,Sq h2]
  congr 1
  cases t with
  |i i=>exact eI h1
  |s x=>show(lk s x).getD _=w;rw[show lk s x=some w from h1];rfl
def yf(a:l0):Prop:=a.2≠[]/\∀x:Str,(Tm.s x)∈a.1->∃b∈a.2,(Tm.s x)∈b.2
end LK
end
section
namespace LK
open PySem PySem.Spec PyProof.Rows Pu
def Tm.P:Tm->iW
 |.s x=>.str x
 |.i z=>.int z
def Tm.w(t:Tm):Prop:=match t with
 |.s x=>eK x=true
 |.i _=>True
theorem Tm.good.w{t:Tm}(h:t.good):t.w:=by
 cases t with
 |s x=>exact ku h
 |i z=>trivial
def Km(t:Tm):cg t.D=some t.P:=by cases t<;>rfl
theorem A5:∀ts:List Tm,cn (ts.map Tm.D)=some (ts.map Tm.P)
 |[]=>rfl
 |t::ts=>by rw[dC,cn,Km,A5 ts];rfl
def Ph{t:Tm}(h:t.w):t.P.canLay0=true:=by cases t<;>first|exact h|rfl
theorem Co:∀{ts:List Tm},(∀t∈ts,t.w)->dO (ts.map Tm.P)=true
 |[],_=>rfl
 |t::ts,h=>by rw[dC,dO,Ph (h t dH),Co λu hu=>h u (dF _ hu)];rfl
theorem Je:∀ts:List Tm,eU (ts.map Tm.P)<=0
 |[]=>dR 0
 |t::ts=>by
  rw[dC,eU];have:=Je ts;have h:t.P.depth<=0:=by cases t<;>exact dR 0
  lia
def Oz:∀a b:Tm,a.P.eqv b.P=decide (a=b)
 |.s x,.s y=>by rw[Tm.P,Tm.P,eL];by_cases e:x=y<;>simp[e]
 |.s x,.i y=>by rw[Tm.P,Tm.P];simp[eL]
 |.i x,.s y=>by rw[Tm.P,Tm.P];simp[eL]
 |.i x,.i y=>by rw[Tm.P,Tm.P,eL];by_cases e:x=y<;>simp[e]
theorem yp[DecidableEq α](h:∀a b,(f a).eqv (f b)=decide (a=b)):∀a b:List α,iH (a.map f) (b.map f)=decide (a=b)
 |[],[]=>by simp[iH]
 |[],_::_=>by simp[iH]
 |_::_,[]=>by simp[iH]
 |x::xs,y::ys=>by
  rw[dC,dC,iH,h,yp h xs ys]
  by_cases h1:x=y<;>by_cases h2:xs=ys<;>simp[h1,h2]
def Xf{a b:Tm}(ha:a.w)(hb:b.w):Rp a.D b.D=some (decide (a=b)):=by
 have q:∀t:Tm,t.P.depth<=63:=λt=>by cases t<;>exact fZ _
 rw[Jl (Km a) (Km b) (Ph ha) (q a) (Ph hb) (q b),Oz]
def Mn{a b:Tm}(ha:a.w)(hb:b.w):ib a.D b.D=some (.bl (!decide (a=b))):=by unfold ib;rw[Xf ha hb];rfl
def Oy(hx:eK x=true)(hy:eK y=true):dh (.str x) (.str y)=some (.bl (decide (x=y))):=by
 have:=Xf (a:=.s x) (b:=.s y) hx hy;unfold dh;rw[show Rp (.str x) (.str y)=_ from this]
 by_cases e:x=y<;>simp[e]
def CH{a b:List Tm}(ha:∀t∈a,t.w)(hb:∀t∈b,t.w):Rp (.tup (a.map Tm.D)) (.tup (b.map Tm.D))=some (decide (a=b)):=by
 have q:∀ts:List Tm,(PyData.tuple (ts.map Tm.P)).depth<=63:=λts=>by have:=Je ts;rw[iK];lia
 have e:∀ts:List Tm,cg (.tup (ts.map Tm.D))=some (.tuple (ts.map Tm.P)):=λts=>by rw[cg,A5]
 rw[Jl (e a) (e b) (by rw[fM];exact Co ha) (q a) (by rw[fM];exact Co hb) (q b),eL,yp Oz]
def At.P(a:At):iW:=.tuple [.str a.nm,.tuple (a.ts.map Tm.P)]
def At.w(a:At):Prop:=eK a.nm=true/\∀t∈a.ts,t.w
theorem At.good.w{a:At}(h:a.good):a.w:=⟨ku h.1,λt ht=>(h.2.2.2 t ht).w⟩
def Kl(a:At):cg a.D=some a.P:=by rw[At.D,cg,cn,cn,cn,cg,cg,A5];rfl
theorem Ig:∀as:List At,cn (as.map At.D)=some (as.map At.P)
 |[]=>rfl
 |a::as=>by rw[dC,cn,Kl,Ig as];rfl
def Pg{a:At}(h:a.w):a.P.canLay0=true:=by
 rw[At.P,fM,dO,dO,dO,fM,fM,Co h.2,h.1];rfl
theorem Sg:∀{as:List At},(∀a∈as,a.w)->dO (as.map At.P)=true
 |[],_=>rfl
 |t::ts,h=>by rw[dC,dO,Pg (h t dH),Sg λu hu=>h u (dF _ hu)];rfl
def Xa(a:At):a.P.depth<=2:=by
 have:=Je a.ts;rw[At.P,iK,eU,eU,eU,iK,iK]
 lia
def LW(a b:At):a.P.eqv b.P=decide (a=b):=by
 obtain⟨an,ats⟩:=a;obtain⟨bn,bts⟩:=b;have h1:eL (.str an) (.str bn)=decide (an=bn):=by rw[eL];by_cases e:an=bn<;>simp[e]
 have h2:eL (.tuple (ats.map Tm.P)) (.tuple (bts.map Tm.P))=decide (ats=bts):=by rw[eL];exact yp Oz ats bts
 rw[At.P,At.P,eL,iH,iH,iH,h1,h2]
 by_cases e1:an=bn<;>by_cases e2:ats=bts<;>simp[e1,e2]
def Xw{a:At}{as:List At}(ha:a.w)(h:∀b∈as,b.w):ja a.D (.tup (as.map At.D))=some (.bl (!decide (a∈as))):=by
 have e:Bx a.D (.tup (as.map At.D))=some (decide (a∈as)):=by
  show(match cn (as.map At.D),cg a.D with
   |some ps,some q=>if dO ps && eX q then some (ps.any λy=>eL y q)else none
   |_,_=>none)=_
  rw[Ig,Kl];dsimp only;have:=Xa a;rw[Sg h,nu (Pg ha) (by lia)];show some _=_
  congr 1
  clear h;induction as with
  |nil=>rfl
  |cons b as ih=>
   rw[dC,iX,ih,LW]
   by_cases q:a=b
   ·simp[q]
   ·have q':¬b=a:=λz=>q z.symm;simp[q,q']
 unfold ja;rw[e];rfl
abbrev aD(a:l0):Pu.D:=cv a.1 a.2
def sD(s:Sub):List (Pu.D×Pu.D):=s.map λp=>(.str p.1,p.2.D)
theorem o5(x:Str):∀s:Sub,bq (sD s) (.inr x)=(lk s x).map Tm.D
 |[]=>rfl
 |(y,v)::r=>by
  show(if bw (.str y)=some (.inr x)then some v.D else bq (sD r) (.inr x))=((if y=x then some v else lk r x)).map Tm.D;rw[o5 x r]
  by_cases h:y=x
  ·rw[dJ h,dJ (by rw[h];rfl)];rfl
  ·rw[dM h,dM (by simp[bw,h])]
def E1(w:Tm)(h:lk s x=none):pz (sD s) (.inr x) w.D=sD (s++[(x,w)]):=by
 rw[J5 (by rw[o5,h];rfl)];unfold sD;rw[fQ];rfl
def J7(s:Sub):(sD s).length=s.length:=by unfold sD;rw[dD]
def FN:En->Out:=(ar (fz [4,5,4] (uw 6 (Ce (fc (g1 (bb "str") (ah 4))) (jn 3 (ah 4) (bc 5)) (D3 (bc 4)))))
 (ic (g2 ib (ah 6) (ah 5)) (br (gC .non)) cf))
def FM{t w:Tm}{s:Sub}(ht:t.w)(hw:w.w)(hs:∀p∈s,p.2.w)(hl:s.length<16777216):
  FN [v0,v1,v2,.od false (sD s),.pu t.D,.pu w.D,w6]=match pf s [t] [w]with
   |some s'=>.nx [v0,v1,v2,.od false (sD s'),.pu t.D,.pu w.D,.pu w.D]
   |none=>.rt .non:=by
 have hlt:(sD s).length<dN:=by rw[J7];exact hl
 cases t with
 |i z=>
  have ez:(Tm.i z).D=.int z:=rfl;have e:=Mn (a:=.i z) (b:=w) ht hw;have e':ib (.int z) w.D=some (.bl (!decide (Tm.i z=w))):=e
  by_cases q:Tm.i z=w
  ·subst q;simp[FN,uw,Ce,D3,Res.ef,ez,pf]
  ·have e2:pf s [.i z] [w]=none:=by simp[pf,q]
   rw[e2];simp[FN,uw,Ce,D3,Res.ef,ez,e',q]
 |s x=>
  have hk:bw (.str x)=some (.inr x):=rfl;have ex:(Tm.s x).D=.str x:=rfl;have hlk:=o5 x s;cases e1:lk s x with
  |some v=>
   rw[e1]at hlk;have hv:v.w:=by
    have:∀(s:Sub),(∀p∈s,p.2.w)->lk s x=some v->v.w:=λs=>by
     induction s with
     |nil=>intro _ h;cases h
     |cons p r ih=>
      intro hp h;obtain⟨y,u⟩:=p;unfold lk at h;split at h
      ·cases h;exact hp (y,v) dH
      ·exact ih (λq hq=>hp q (dF _ hq)) h
    exact this s hs e1
   have e:=Mn hv hw;have hlk':bq (sD s) (.inr x)=some v.D:=hlk
   by_cases q:v=w
   ·subst q;have e2:pf s [.s x] [v]=some s:=by simp[pf,e1]
    rw[e2];simp[FN,uw,Ce,jn,ex,hk,hlt,hlk',e]
   ·have e2:pf s [.s x] [w]=none:=by simp[pf,e1,q]
    rw[e2];simp[FN,uw,Ce,jn,ex,hk,hlt,hlk',e,q]
  |none=>
   rw[e1]at hlk;have hlk':bq (sD s) (.inr x)=none:=hlk;have e:=Mn hw hw;have e2:pf s [.s x] [w]=some (s++[(x,w)]):=by simp[pf,e1]
   rw[e2];simp[FN,uw,Ce,jn,ex,hk,hlt,hlk',e,E1 w e1]
def rj(h1:r δ=.ok ds)(h2:fn ds=x):aq fn r δ=x:=by
 unfold aq;rw[h1];exact h2
def Sub.w(s:Sub):Prop:=∀p∈s,p.2.w
def Sub.w.snoc{s:Sub}{w:Tm}(h:s.w)(hw:w.w):(s++[(x,w)]:Sub).w:=λp hp=>by
 rcases List.mem_append.mp hp with hp|hp
 ·exact h p hp
 ·rw[List.mem_singleton.mp hp];exact hw
def x8(s:Sub):pf s [] []=some s:=by rw[pf]
def MA(s:Sub)(z:Int)(w:Tm)(ts ws:List Tm):pf s (.i z::ts) (w::ws)=if Tm.i z=w then pf s ts ws else none:=by rw[pf]
def NZ(s:Sub)(x:Str)(w:Tm)(ts ws:List Tm):pf s (.s x::ts) (w::ws)=match lk s x with
  |some v=>if v=w then pf s ts ws else none
  |none=>pf (s++[(x,w)]) ts ws:=by rw[pf]<;>cases lk s x<;>rfl
def Cs(s:Sub)(t w:Tm)(ts ws:List Tm):pf s (t::ts) (w::ws)=(pf s [t] [w]).bind λs'=>pf s' ts ws:=by
 cases t with
 |i z=>
  rw[MA,MA]
  by_cases q:Tm.i z=w
  ·rw[dJ q,dJ q,x8];rfl
  ·rw[dM q,dM q];rfl
 |s x=>
  rw[NZ,NZ];cases lk s x with
  |none=>dsimp only;rw[x8];rfl
  |some v=>
   dsimp only
   by_cases q:v=w
   ·rw[dJ q,dJ q,x8];rfl
   ·rw[dM q,dM q];rfl
def P0{s s':Sub}{t w:Tm}(hs:s.w)(hw:w.w)(h:pf s [t] [w]=some s'):s'.w/\s'.length<=s.length+1:=by
 cases t with
 |i z=>
  unfold pf at h;split at h
  ·cases h;exact⟨hs,by lia⟩
  ·cases h
 |s x=>
  unfold pf at h;split at h
  ·split at h
   ·cases h;exact⟨hs,by lia⟩
   ·cases h
  ·cases h;exact⟨hs.snoc hw,by simp⟩
theorem S0(v0 v1 v2:Sl):∀(ts ws:List Tm)(s:Sub)(v4 v5 v6:Sl),ts.length=ws.length->(∀t∈ts,t.w)->(∀t∈ws,t.w)->s.w->s.length+ts.length<=1000->
  ∃w4 w5 w6,turns (ti [4,5]) FN (wa (ts.map Tm.D) (ws.map Tm.D)) [v0,v1,v2,.od false (sD s),v4,v5,v6]=match pf s ts ws with
   |some s'=>.nx [v0,v1,v2,.od false (sD s'),w4,w5,w6]
   |none=>.rt .non
 |[],[],s,v4,v5,v6,_,_,_,_,_=>⟨v4,v5,v6,rfl⟩
 |[],_::_,s,v4,v5,v6,h,_,_,_,_=>by cases h
 |_::_,[],s,v4,v5,v6,h,_,_,_,_=>by cases h
 |t::ts,w::ws,s,v4,v5,v6,h,ht,hw,hs,hl=>by
  rw[dI]at hl;have e:=FM (v0:=v0) (v1:=v1) (v2:=v2) (w6:=v6) (ht t dH) (hw w dH) hs (by lia);rw[dC,dC,wa,bx (δ1:=[v0,v1,v2,.od false (sD s),.pu t.D,.pu w.D,v6]) rfl,e,Cs s t w ts ws];cases e1:pf s [t] [w]with
  |none=>exact⟨v4,v5,v6,rfl⟩
  |some s1=>
   obtain⟨a1,a2⟩:=P0 hs (hw w dH) e1;exact S0 v0 v1 v2 ts ws s1 _ _ _ (by simpa using h) (λu hu=>ht u (dF _ hu)) (λu hu=>hw u (dF _ hu)) a1 (by lia)
theorem Pz:∀{ts ws:List Tm}{s:Sub},ts.length≠ws.length->pf s ts ws=none
 |[],[],s,h=>absurd rfl h
 |[],_::_,s,h=>rfl
 |.i _::_,[],s,h=>rfl
 |.s _::_,[],s,h=>rfl
 |t::ts,w::ws,s,h=>by
  rw[Cs s t w ts ws];cases pf s [t] [w]with
  |none=>rfl
  |some s'=>exact Pz (by simpa using h)
theorem FL:∀{ts ws:List Tm}{s s':Sub},s.w->(∀t∈ws,t.w)->pf s ts ws=some s'->s'.w/\s'.length<=s.length+ts.length
 |[],[],s,s',h,_,e=>by cases e;exact⟨h,by simp⟩
 |[],_::_,s,s',h,_,e=>by cases e
 |.i _::_,[],s,s',h,_,e=>by cases e
 |.s _::_,[],s,s',h,_,e=>by cases e
 |t::ts,w::ws,s,s',h,hw,e=>by
  rw[Cs s t w ts ws]at e;cases e1:pf s [t] [w]with
  |none=>rw[e1]at e;cases e
  |some s1=>
   rw[e1]at e;obtain⟨a1,a2⟩:=P0 h (hw w dH) e1;obtain⟨b1,b2⟩:=FL a1 (λu hu=>hw u (dF _ hu)) (show pf s1 ts ws=some s' from e);exact⟨b1,by rw[dI];lia⟩
def rD:Option Sub->Pu.D
 |some s=>.dct false (sD s)
 |none=>.non
def Dx(n:Nat){ts ws:List Tm}{s:Sub}(ht:∀t∈ts,t.w)(hw:∀t∈ws,t.w)(hs:s.w)(hl:s.length+ts.length<=1000):
  ai (tab (n+1)) cu [.dct false (sD s),.tup (ts.map Tm.D),.tup (ws.map Tm.D)]=.ok (rD (pf s ts ws)):=by
 rw[F6]
 by_cases h:ts.length=ws.length
 ·obtain⟨w4,w5,w6,e⟩:=S0 (.bo (.dct false (sD s))) (.bo (.tup (ts.map Tm.D))) (.bo (.tup (ws.map Tm.D))) ts ws s .no .no .no h ht hw hs hl;have hf:c8 (ti [4,5]) (O4 (af (ah 1) (af (ah 2) ao))) FN [.bo (.dct false (sD s)),.bo (.tup (ts.map Tm.D)),.bo (.tup (ws.map Tm.D)),.od false (sD s),.no,.no,.no]=_:=(cm (ds:=wa (ts.map Tm.D) (ws.map Tm.D)) (by simp[O4])).trans e;unfold FN at hf;cases ep:pf s ts ws with
  |none=>rw[ep]at hf;simp[k6,h,hf,rD]
  |some s'=>rw[ep]at hf;simp[k6,h,hf,rD]
 ·rw[Pz h];have h':((ts.length:Int)==(ws.length:Int))=false:=beq_eq_false_iff_ne.mpr (by lia);simp[k6,h',rD]
def CA(p f:List Pu.D->Res):En->Out:=(ar (b9 5 (Rz (g2 dh (g2 aj (ah 4) (gC (.int 0))) (ah 3)) (aq p (af (ah 2) (af (g2 aj (g2 aj (ah 0) (gC (.int 0))) (gC (.int 1))) (af (g2 aj (ah 4) (gC (.int 1))) ao)))) (gC .non)))
 (ar (fz [5] (b9 6 (Rz (g2 l8 (ah 5) (gC .non)) (gC .non) (aq f (af (N6 (ah 0) (some (gC (.int 1))) none) (af (ah 1) (af (bc 5) ao)))))))
 (ic (g2 i8 (ah 6) (gC .non)) (fz [6] (br (bc 6))) cf)))
def RL(d:Pu.D)(ds:List Pu.D):vp (.tup (d::ds)) (some 1) none=some (.tup ds):=by
 show some (Pu.D.tup (Dl (d::ds) (some ((1:Nat):Int)) none))=_;unfold Dl;rw[HT.Nd,HT.Td]
 congr 2
 rw[Nat.min_eq_left (by simp)];simp
def aE(d:Pu.D)(ds:List Pu.D):aj (.tup (d::ds)) (.int 0)=some d:=by
 show L2.atI (d::ds) ((0:Nat):Int)=_;exact L2.rh rfl
def DZ{a t:At}(ha:eK a.nm=true)(ht:eK t.nm=true)(hp:p [.dct false (sD s),.tup (a.ts.map Tm.D),.tup (t.ts.map Tm.D)]=.ok (rD (pf s a.ts t.ts)))
  (hf:∀s1,pf s a.ts t.ts=some s1->f [.tup (A.map At.D),.tup (T.map At.D),.dct false (sD s1)]=.ok (rD (fw A T s1)))(v5 v6:Sl):
  ∃w5 w6,CA p f [.bo (.tup ((a::A).map At.D)),.bo (.tup (T.map At.D)),.pu (.dct false (sD s)),.pu (.str a.nm),.pu t.D,v5,v6]=match (if t.nm=a.nm then(pf s a.ts t.ts).bind (fw A T)else none)with
   |some s'=>.rt (.dct false (sD s'))
   |none=>.nx [.bo (.tup ((a::A).map At.D)),.bo (.tup (T.map At.D)),.pu (.dct false (sD s)),.pu (.str a.nm),.pu t.D,w5,w6]:=by
 have e0:=Oy ht ha;have i0:aj (.tup (.tup [.str a.nm,.tup (a.ts.map Tm.D)]::A.map At.D)) (.int 0)=some (.tup [.str a.nm,.tup (a.ts.map Tm.D)]):=aE _ _;have c1:=RL (.tup [.str a.nm,.tup (a.ts.map Tm.D)]) (A.map At.D)
 by_cases hn:t.nm=a.nm
 ·rw[dJ hn];rw[decide_eq_true hn]at e0;cases ep:pf s a.ts t.ts with
  |none=>
   rw[ep]at hp;have hp':p [.dct false (sD s),.tup (a.ts.map Tm.D),.tup (t.ts.map Tm.D)]=.ok .non:=hp;exact⟨.pu .non,.pu .non,by simp[CA,At.D,e0,i0,hp',j7]⟩
  |some s1=>
   rw[ep]at hp;have hp':p [.dct false (sD s),.tup (a.ts.map Tm.D),.tup (t.ts.map Tm.D)]=.ok (.dct false (sD s1)):=hp;have hf1:=hf s1 ep;rw[show(some s1).bind (fw A T)=fw A T s1 from rfl];cases ef:fw A T s1 with
   |none=>
    rw[ef]at hf1;have hf':f [.tup (A.map At.D),.tup (T.map At.D),.dct false (sD s1)]=.ok .non:=hf1;exact⟨.pu (.dct false (sD s1)),.pu .non,by simp[CA,At.D,e0,i0,hp',hf',j7,N6,JZ,c1]⟩
   |some s2=>
    rw[ef]at hf1;have hf':f [.tup (A.map At.D),.tup (T.map At.D),.dct false (sD s1)]=.ok (.dct false (sD s2)):=hf1;exact⟨.no,.no,by simp[CA,At.D,e0,i0,hp',hf',j7,N6,JZ,c1]⟩
 ·rw[dM hn];rw[decide_eq_false hn]at e0;exact⟨.pu .non,.pu .non,by simp[CA,At.D,e0,j7]⟩
theorem Ry{a:At}(ha:eK a.nm=true)(hp:∀t∈T,p [.dct false (sD s),.tup (a.ts.map Tm.D),.tup (t.ts.map Tm.D)]=.ok (rD (pf s a.ts t.ts)))
  (hf:∀t∈T,∀s1,pf s a.ts t.ts=some s1->f [.tup (A.map At.D),.tup (T.map At.D),.dct false (sD s1)]=.ok (rD (fw A T s1))):∀(L:List At)(v4 v5 v6:Sl),(∀t∈L,t∈T/\eK t.nm=true)->
  ∃w4 w5 w6,turns (a0 4) (CA p f) (L.map At.D) [.bo (.tup ((a::A).map At.D)),.bo (.tup (T.map At.D)),.pu (.dct false (sD s)),.pu (.str a.nm),v4,v5,v6]=match L.findSome? (λt=>if t.nm=a.nm then(pf s a.ts t.ts).bind (fw A T)else none)with
   |some s'=>.rt (.dct false (sD s'))
   |none=>.nx [.bo (.tup ((a::A).map At.D)),.bo (.tup (T.map At.D)),.pu (.dct false (sD s)),.pu (.str a.nm),w4,w5,w6]
 |[],v4,v5,v6,_=>⟨v4,v5,v6,rfl⟩
 |t::L,v4,v5,v6,h=>by
  obtain⟨h1,h2⟩:=h t dH;obtain⟨w5,w6,e⟩:=DZ (A:=A) (T:=T) ha h2 (hp t h1) (hf t h1) v5 v6;rw[dC,bx (δ1:=[.bo (.tup ((a::A).map At.D)),.bo (.tup (T.map At.D)),.pu (.dct false (sD s)),.pu (.str a.nm),.pu t.D,v5,v6]) rfl,e,List.findSome?_cons];cases (if t.nm=a.nm then(pf s a.ts t.ts).bind (fw A T)else none)with
  |some s'=>exact⟨.no,.no,.no,rfl⟩
  |none=>exact Ry ha hp hf L (.pu t.D) w5 w6 λu hu=>h u (dF _ hu)
theorem Lo(T:List At)(hT:∀t∈T,t.w):∀(A:List At)(s:Sub)(n:Nat),(∀a∈A,a.w/\a.ts.length<=4)->s.w->s.length+4 * A.length<=900->
  ai (tab (n+A.length+2)) d5 [.tup (A.map At.D),.tup (T.map At.D),.dct false (sD s)]=.ok (rD (fw A T s))
 |[],s,n,_,_,_=>by
  show ai (tab (n+1+1)) _ _=_;rw[Bf];have tr:bD (Fq (.tup []))=some (.bl false):=rfl;simp[t6,tr,rD,fw]
 |a::A,s,n,hA,hs,hl=>by
  rw[dI]at hl;obtain⟨ha,hal⟩:=hA a dH;show ai (tab ((n+A.length+2)+1)) _ _=_;rw[Bf];obtain⟨w4,w5,w6,e⟩:=Ry (p:=ai (tab (n+A.length+2)) cu) (f:=ai (tab (n+A.length+2)) d5) (a:=a) (A:=A) (T:=T) (s:=s) ha.1
   (λt ht=>Dx (n+A.length+1) ha.2 (hT t ht).2 hs (by lia)) (λt ht s1 e1=>by
    obtain⟨b1,b2⟩:=FL hs (hT t ht).2 e1;exact Lo T hT A s1 n (λb hb=>hA b (dF _ hb)) b1 (by lia)) T .no .no .no λt ht=>⟨ht,(hT t ht).1⟩
  have hf:c8 (a0 4) (a5 (vz 1)) (CA (ai (tab (n+A.length+2)) cu) (ai (tab (n+A.length+2)) d5)) [.bo (.tup ((a::A).map At.D)),.bo (.tup (T.map At.D)),.pu (.dct false (sD s)),.pu (.str a.nm),.no,.no,.no]=_:=(cm (ds:=T.map At.D) (by simp)).trans e;have hb:t6 (n+A.length+2)=(ar (ic (gw (fc (ah 0))) (fz [2] (br (bc 2))) cf)
   (ar (b9 3 (g2 aj (g2 aj (ah 0) (gC (.int 0))) (gC (.int 0))))
   (ar (fz [1] (c8 (a0 4) (a5 (vz 1)) (CA (ai (tab (n+A.length+2)) cu) (ai (tab (n+A.length+2)) d5))))
   (br (gC .non))))):=rfl
  rw[hb];have tr:bD (Fq (.tup ((a::A).map At.D)))=some (.bl true):=rfl;have i0:aj (.tup ((a::A).map At.D)) (.int 0)=some (.tup [.str a.nm,.tup (a.ts.map Tm.D)]):=aE _ _;have ent:(bp [true,true,false] [Pu.D.tup ((a::A).map At.D),.tup (T.map At.D),.dct false (sD s)]++eA (7 - [Pu.D.tup ((a::A).map At.D),.tup (T.map At.D),.dct false (sD s)].length) .no)=[.bo (.tup ((a::A).map At.D)),.bo (.tup (T.map At.D)),.pu (.dct false (sD s)),.no,.no,.no,.no]:=rfl;rw[ent];generalize hA1:Pu.D.tup ((a::A).map At.D)=DA at *;generalize CA (ai (tab (n+A.length+2)) cu) (ai (tab (n+A.length+2)) d5)=FB at hf⊢;have hfw:fw (a::A) T s=T.findSome? λt=>if t.nm=a.nm then(pf s a.ts t.ts).bind (fw A T)else none:=rfl
  rw[hfw];cases er:T.findSome? (λt=>if t.nm=a.nm then(pf s a.ts t.ts).bind (fw A T)else none)with
  |some s'=>rw[er]at hf;simp[tr,i0,hf,rD]
  |none=>rw[er]at hf;simp[tr,i0,hf,rD]
def EV:En->Out:=(ic (jv (fc (g1 (bb "str") (ah 3))) (g2 c7 (ah 3) (ah 1))) (fz [3] (qu 1 (bc 3))) cf)
theorem Ej(v0 v2:Sl):∀(ts:List Tm)(acc:List Str)(v3:Sl),(∀t∈ts,t.w)->(∀x∈acc,eK x=true)->acc.length+ts.length<=1000->
  ∃w3,turns (a0 3) EV (ts.map Tm.D) [v0,.ow (acc.map Pu.D.str),v2,v3]=.nx [v0,.ow ((fb acc (p5 ts)).map Pu.D.str),v2,w3]/\(∀x∈fb acc (p5 ts),eK x=true)
 |[],acc,v3,_,ha,_=>⟨v3,rfl,ha⟩
 |t::ts,acc,v3,ht,ha,hl=>by
  rw[dI]at hl;rw[dC,bx (δ1:=[v0,.ow (acc.map Pu.D.str),v2,.pu t.D]) rfl];have ht':∀u∈ts,u.w:=λu hu=>ht u (dF _ hu);cases t with
  |i z=>
   have eb:EV [v0,.ow (acc.map Pu.D.str),v2,.pu (Tm.i z).D]=.nx [v0,.ow (acc.map Pu.D.str),v2,.pu (Tm.i z).D]:=by simp[EV,Tm.D]
   rw[eb];exact Ej v0 v2 ts acc _ ht' ha (by lia)
  |s x=>
   have hx:eK x=true:=ht _ dH;have hin:=(Jp ha hx).2;have hlt:acc.length<16777216:=by lia
   have eb:EV [v0,.ow (acc.map Pu.D.str),v2,.pu (Tm.s x).D]=.nx [v0,.ow ((if x∈acc then acc else acc++[x]).map Pu.D.str),v2,.pu (Tm.s x).D]:=by
    by_cases h:x∈acc
    ·simp[EV,Tm.D,hin,h]
    ·simp[EV,Tm.D,hin,h,hlt]
   rw[eb];have hde:fb acc (p5 (.s x::ts))=fb (if x∈acc then acc else acc++[x]) (p5 ts):=by
    show(if x∈acc then fb acc (p5 ts)else fb (acc++[x]) (p5 ts))=_
    by_cases h:x∈acc<;>simp[h]
   rw[hde];refine Ej v0 v2 ts _ _ ht' ?_ ?_
   ·split
    ·exact ha
    ·intro y hy;rcases List.mem_append.mp hy with hy|hy
     ·exact ha y hy
     ·rw[List.mem_singleton.mp hy];exact hx
   ·split
    ·lia
    ·rw[dU];simp;lia
def QN:En->Out:=c8 (a0 3) (a5 (g2 aj (ah 2) (gC (.int 1)))) EV
theorem xi:∀(a b acc:List Str),fb acc (a++b)=fb (fb acc a) b
 |[],_,_=>rfl
 |x::a,b,acc=>by
  show(if x∈acc then fb acc (a++b)else fb (acc++[x]) (a++b))=fb (if x∈acc then fb acc a else fb (acc++[x]) a) b
  by_cases h:x∈acc
  ·rw[dJ h,dJ h];exact xi a b acc
  ·rw[dM h,dM h];exact xi a b _
theorem Ek(v0:Sl):∀(as:List At)(acc:List Str)(v2 v3:Sl),(∀a∈as,a.w/\a.ts.length<=4)->(∀x∈acc,eK x=true)->acc.length+4 * as.length<=900->
  ∃w2 w3,turns (a0 2) QN (as.map At.D) [v0,.ow (acc.map Pu.D.str),v2,v3]=.nx [v0,.ow ((fb acc (a7 as)).map Pu.D.str),w2,w3]
 |[],acc,v2,v3,_,_,_=>⟨v2,v3,rfl⟩
 |a::as,acc,v2,v3,h,ha,hl=>by
  rw[dI]at hl;obtain⟨h1,h2⟩:=h a dH;obtain⟨w3,e,h3⟩:=Ej v0 (.pu a.D) a.ts acc v3 h1.2 ha (by lia);have eo:QN [v0,.ow (acc.map Pu.D.str),.pu a.D,v3]=.nx [v0,.ow ((fb acc (p5 a.ts)).map Pu.D.str),.pu a.D,w3]:=(cm (ds:=a.ts.map Tm.D) (by simp[At.D])).trans e;have hlen:(fb acc (p5 a.ts)).length<=acc.length+4:=by
   have q1:=vg (p5 a.ts) acc;have q2:=zh a.ts
   lia
  obtain⟨w2',w3',e'⟩:=Ek v0 as (fb acc (p5 a.ts)) (.pu a.D) w3 (λb hb=>h b (dF _ hb)) h3 (by lia);refine⟨w2',w3',?_⟩;rw[dC,bx (δ1:=[v0,.ow (acc.map Pu.D.str),.pu a.D,v3]) rfl,eo];dsimp only;rw[e'];have:a7 (a::as)=p5 a.ts++a7 as:=by simp[a7]
  rw[this,xi]
def Aq(n:Nat)(b:Bool){as:List At}(h:∀a∈as,a.w/\a.ts.length<=4)(hl:as.length<=200):ai (tab (n+1)) cx [if b then .tup (as.map At.D)else .lst (as.map At.D)]=.ok (.lst ((fb [] (a7 as)).map Pu.D.str)):=by
 rw[Cb];cases b with
 |true=>
  obtain⟨w2,w3,e⟩:=Ek (.bo (.tup (as.map At.D))) as [] .no .no h (by simp) (by simp;lia);have hf:c8 (a0 2) (a5 (vz 0)) QN [.bo (.tup (as.map At.D)),.ow [],.no,.no]=.nx [.bo (.tup (as.map At.D)),.ow ((fb [] (a7 as)).map Pu.D.str),w2,w3]:=(cm (ds:=as.map At.D) (by simp)).trans e;unfold QN EV at hf;simp[lq,hf]
 |false=>
  obtain⟨w2,w3,e⟩:=Ek (.bo (.lst (as.map At.D))) as [] .no .no h (by simp) (by simp;lia);have hf:c8 (a0 2) (a5 (vz 0)) QN [.bo (.lst (as.map At.D)),.ow [],.no,.no]=.nx [.bo (.lst (as.map At.D)),.ow ((fb [] (a7 as)).map Pu.D.str),w2,w3]:=(cm (ds:=as.map At.D) (by simp)).trans e;unfold QN EV at hf;simp[lq,hf]
def p6(s:Sub)(xs:List Str):List (Str×Tm):=xs.map λx=>(x,(lk s x).getD (.s x))
def vc(l:List (Str×Tm)):Pu.D:=.lst (l.map λp=>.tup [.str p.1,p.2.D])
theorem mi:∀(l acc:List Str),acc.Nodup->(fb acc l).Nodup
 |[],acc,h=>h
 |x::l,acc,h=>by
  unfold fb
  by_cases hx:x∈acc
  ·rw[dJ hx];exact mi l acc h
  ·rw[dM hx];refine mi l _ (List.nodup_append.mpr ⟨h,by simp,λa ha b hb=>?_⟩);rw[List.mem_singleton.mp hb];exact λz=>hx (z▸ha)
structure Askd(a:l0):Prop where
 h:∀t∈a.1,t.good
 g:∀x∈a.2,x.good
 hl:a.1.length<=4
 al:a.2.length<=6
def Askd.hw(A:Askd a):∀t∈a.1,t.w:=λt ht=>(A.h t ht).w
def Askd.aw(A:Askd a):∀x∈a.2,x.w:=λx hx=>(A.g x hx).w
def Askd.a4(A:Askd a):∀x∈a.2,x.w/\x.ts.length<=4:=λx hx=>⟨(A.g x hx).w,(A.g x hx).2.2.1⟩
def HH(h:∀a∈as,a.w):∀x∈fb [] (a7 as),eK x=true:=λx hx=>by
 obtain⟨a,ha,m⟩:=gy.mp (by simpa using(ia x (a7 as) []).mp hx);exact(h a ha).2 _ m
def sf{as:List At}(h:∀a∈as,a.ts.length<=4):(a7 as).length<=4 * as.length:=by
 induction as with
 |nil=>simp[a7]
 |cons a as ih=>
  have h1:=zh a.ts;have h2:=h a dH;have h3:=ih λb hb=>h b (dF _ hb);unfold a7 at h3⊢;rw[kY,dU,dI]
  lia
def i7(ts:List Tm):List Int:=ts.filterMap λt=>match t with
 |.s _=>none
 |.i z=>some z
def Jq:Pu.D->Option Pu.D
 |.int z=>some (.int z)
 |_=>none
theorem J0:∀ts:List Tm,(ts.map Tm.D).filterMap Jq=(i7 ts).map Pu.D.int
 |[]=>rfl
 |.i z::ts=>by
  rw[dC,gI];show Pu.D.int z::(ts.map Tm.D).filterMap Jq=Pu.D.int z::(i7 ts).map Pu.D.int;rw[J0 ts]
 |.s x::ts=>by
  rw[dC,gI];exact J0 ts
def Ae{ts:List Tm}(hr:r δ=.ok (ts.map Tm.D))(hl:ts.length<=1000):cb r [] (gw (fc (g1 (bb "str") (ah 0)))) (bc 0) δ=.ok (.lst ((i7 ts).map Pu.D.int)):=by
 rw[D0 (h:=Jq) hr (by rw[dD];show _<=16777216;lia) λd hd=>by
  obtain⟨t,_,rfl⟩:=List.mem_map.mp hd;cases t with
  |s x=>rw[zr (b:=false) (y:=.non) (by simp[b8,Tm.D]) (by simp)];rfl
  |i z=>rw[zr (b:=true) (y:=.int z) (by simp[b8,Tm.D]) (by simp[b8,Tm.D])];rfl,J0]
def zq{as:List At}(h:∀a∈as,a.ts.length<=4):(kr as).length<=4 * as.length:=by
 induction as with
 |nil=>simp[kr]
 |cons a as ih=>
  have h2:=h a dH;have h3:=ih λb hb=>h b (dF _ hb);unfold kr at h3⊢;rw[kY,dU,dI]
  lia
def Ep(n:Nat)(A:Askd a):ai (tab (n+2)) fh [aD a]=.ok (.lst ((i7 (a.1++kr a.2)).map Pu.D.int)):=by
 have hl:=A.hl;have al:=A.al;have tl:=zq λx hx=>(A.a4 x hx).2;have e1:=zi n A.g (by lia) true;simp only[if_true]at e1;have k:aq (ai (tab (n+1)) dj) (af (g2 aj (ah 0) (gC (.int 1))) ao) [.bo (aD a)]=.ok (.lst ((kr a.2).map Tm.D)):=rj (ds:=[.tup (a.2.map At.D)]) (by simp[aD,cv]) e1;have hz:(a.1.map Tm.D).length+((kr a.2).map Tm.D).length<=dN:=by rw[dD,dD];show _<=16777216;lia
 have ad:bf (.lst (a.1.map Tm.D)) (.lst ((kr a.2).map Tm.D))=some (.lst ((a.1++kr a.2).map Tm.D)):=by
  show(if _ then some (Pu.D.lst _)else none)=_;rw[dJ hz,fQ]
 have hr:a5 (g2 bf (g1 iw (g2 aj (ah 0) (gC (.int 0)))) (aq (ai (tab (n+1)) dj) (af (g2 aj (ah 0) (gC (.int 1))) ao))) [.bo (aD a)]=.ok ((a.1++kr a.2).map Tm.D):=by
  rw[QZ,IV,k];simp[aD,cv,iw,ad,-fQ]
 have hc:=Ae hr (by rw[dU];lia);rw[Ji];show df (br _ _)=_;rw[JA];exact(congrArg (λr=>df (r.then .rt)) hc).trans rfl
def j9(m:Int):Nat->List Str->Sub
 |_,[]=>[]
 |i,x::r=>(x,.i (m+(i:Int)))::j9 m (i+1) r
theorem Av(m:Int):∀(i:Nat)(xs:List Str),(j9 m i xs).map (·.1)=xs
 |_,[]=>rfl
 |i,x::r=>by rw[j9,dC,Av m (i+1) r]
theorem Jz(m:Int){x:Str}:∀(i:Nat){xs:List Str},x∈xs->∃j,xs[j]?=some x/\lk (j9 m i xs) x=some (.i (m+((i+j:Nat):Int)))
 |_,[],h=>by simp at h
 |i,y::r,h=>by
  unfold j9 lk
  by_cases e:y=x
  ·rw[dJ e];exact⟨0,congrArg some e,rfl⟩
  ·rw[dM e];rcases List.mem_cons.mp h with h|h
   ·exact absurd h.symm e
   ·obtain⟨j,h1,h2⟩:=Jz m (i+1) h;exact⟨j+1,h1,by rw[h2,show i+1+j=i+(j+1) by lia]⟩
def EU(c:Int):∀{l:List Int}{z:Int},z∈l->z<=Ar c l:=by
 have f:∀(l:List Int)(i z:Int),z<=i\/z∈l->z<=l.foldl max i:=λl=>by
  induction l with
  |nil=>intro i z h;rcases h with h|h;exact h;cases h
  |cons a l ih=>
   intro i z h;refine ih _ _ ?_;rcases h with h|h
   ·exact .inl (by lia)
   ·rcases List.mem_cons.mp h with rfl|h
    ·exact .inl (by lia)
    ·exact .inr h
 intro l z h;cases l with
 |nil=>cases h
 |cons i r=>
  refine f r i z ?_;rcases List.mem_cons.mp h with rfl|h
  ·exact .inl (Int.le_refl _)
  ·exact .inr h
theorem Hv(m:Int):∀(i:Nat)(xs:List Str),lx ((j9 m i xs).map λp=>Pu.D.tup [.str p.1,p.2.D])=some ((j9 m i xs).map λp=>(.inr p.1,p.2.D))
 |_,[]=>rfl
 |i,x::r=>by
  rw[j9,dC,dC];unfold lx;rw[Hv m (i+1) r];rfl
theorem Mi:∀(l acc:Sub),(acc.map (·.1)++l.map (·.1)).Nodup->gc (sD acc) (l.map λp=>(.inr p.1,p.2.D))=sD (acc++l)
 |[],acc,_=>by simp[gc]
 |(x,w)::l,acc,nd=>by
  have hno:lk acc x=none:=by
   have hx:x∉acc.map (·.1):=λhm=>(List.nodup_append.mp nd).2.2 x hm x (by simp) rfl;clear nd;induction acc with
   |nil=>rfl
   |cons p r ih=>
    obtain⟨y,u⟩:=p;simp only[dC,gD,not_or]at hx;show(if y=x then some u else lk r x)=none;rw[dM (λz=>hx.1 z.symm)];exact ih hx.2
  show gc (pz (sD acc) (.inr x) w.D) (l.map λp=>(.inr p.1,p.2.D))=_;rw[E1 w hno,Mi l (acc++[(x,w)]) (by simpa using nd)];simp
theorem Hc(m:Int)(v0 v1:Sl):∀(i:Nat)(xs:List Str),k9 (B5 [2] (gz (af (bc 1) (af (g2 bf (ah 2) (ah 0)) ao))) [v0,v1,.pu (.int m)]) (m4 i (xs.map Pu.D.str))=some ((j9 m i xs).map λp=>Pu.D.tup [.str p.1,p.2.D])
 |_,[]=>rfl
 |i,x::r=>by
  rw[dC,m4];unfold k9;have e:B5 [2] (gz (af (bc 1) (af (g2 bf (ah 2) (ah 0)) ao))) [v0,v1,.pu (.int m)] (.tup [.int (i:Int),.str x])=some (some (.tup [.str x,.int (m+(i:Int))])):=by
   simp[B5,QM]
  rw[e,Hc m v0 v1 (i+1) r];rfl
def Ms(n:Nat){one other:l0}(A1:Askd one)(A2:Askd other):∃m:Int,(∀z∈i7 (one.1++kr one.2)++i7 (other.1++kr other.2),z<m)/\ai (tab (n+3)) cc [aD one,aD other]=.ok (.dct false (sD (j9 m 0 (fb [] (a7 one.2))))):=by
 have n1:=Ep n A1;have n2:=Ep n A2;have hl1:=A1.hl;have hl2:=A2.hl;have al1:=A1.al;have al2:=A2.al;have tl1:=zq λx hx=>(A1.a4 x hx).2;have tl2:=zq λx hx=>(A2.a4 x hx).2;have e1:=zi (n+1) A1.g (by lia) true;simp only[if_true]at e1;have e2:=zd (n+1) (kr one.2) (by lia) false;simp only[Bool.false_eq_true,if_false]at e2;rw[C3]at e2;have nl:∀l:List Tm,(i7 l).length<=l.length:=λl=>iB ..;have q1:=nl (one.1++kr one.2);have q2:=nl (other.1++kr other.2);rw[dU]at q1 q2;have hz:((i7 (one.1++kr one.2)).map Pu.D.int).length+((i7 (other.1++kr other.2)).map Pu.D.int).length<=dN:=by rw[dD,dD];show _<=16777216;lia
 have ad:bf (.lst ((i7 (one.1++kr one.2)).map Pu.D.int)) (.lst ((i7 (other.1++kr other.2)).map Pu.D.int))=some (.lst ((i7 (one.1++kr one.2)++i7 (other.1++kr other.2)).map Pu.D.int)):=by
  show(if _ then some (Pu.D.lst _)else none)=_;rw[dJ hz,fQ]
 have iq:∀l:List Int,yu (l.map Pu.D.int)=some l:=λl=>by
  induction l with
  |nil=>rfl
  |cons i r ih=>rw[dC,yu,ih];rfl
 have mx:ya 0 (.lst ((i7 (one.1++kr one.2)++i7 (other.1++kr other.2)).map Pu.D.int))=some (.int (Ar 0 (i7 (one.1++kr one.2)++i7 (other.1++kr other.2)))):=by
  show(yu _).map _=_;rw[iq];rfl
 have mge:∀z∈i7 (one.1++kr one.2)++i7 (other.1++kr other.2),z<Ar 0 (i7 (one.1++kr one.2)++i7 (other.1++kr other.2))+1:=λz hz=>Int.lt_add_one_of_le (EU 0 hz);generalize Ar 0 (i7 (one.1++kr one.2)++i7 (other.1++kr other.2))=M at mx mge;have k1:aq (ai (tab (n+2)) fh) (af (ah 0) ao) [.bo (aD one),.bo (aD other),.no]=.ok (.lst ((i7 (one.1++kr one.2)).map Pu.D.int)):=rj (ds:=[aD one]) (by simp) n1;have k2:aq (ai (tab (n+2)) fh) (af (ah 1) ao) [.bo (aD one),.bo (aD other),.no]=.ok (.lst ((i7 (other.1++kr other.2)).map Pu.D.int)):=rj (ds:=[aD other]) (by simp) n2;have s1:b9 2 (g2 bf (g1 (ya 0) (g2 bf (aq (ai (tab (n+2)) fh) (af (ah 0) ao)) (aq (ai (tab (n+2)) fh) (af (ah 1) ao)))) (gC (.int 1))) [.bo (aD one),.bo (aD other),.no]=.nx [.bo (aD one),.bo (aD other),.pu (.int (M+1))]:=by
  rw[BK,IV,IW,IV,k1,k2];simp[ad,mx,-fQ]
 have k3:aq (ai (tab (n+2)) dj) (af (g2 aj (ah 0) (gC (.int 1))) ao) [.bo (aD one),.bo (aD other),.pu (.int (M+1))]=.ok (.lst ((kr one.2).map Tm.D)):=rj (ds:=[.tup (one.2.map At.D)]) (by simp[aD,cv]) e1;have k4:aq (ai (tab (n+2)) d7) (af (aq (ai (tab (n+2)) dj) (af (g2 aj (ah 0) (gC (.int 1))) ao)) ao) [.bo (aD one),.bo (aD other),.pu (.int (M+1))]=.ok (.lst ((fb [] (a7 one.2)).map Pu.D.str)):=rj (ds:=[.lst ((kr one.2).map Tm.D)]) (by rw[Q0,k3];rfl) e2;have xl:(fb [] (a7 one.2)).length<=24:=by
  have z1:=vg (a7 one.2) [];have z2:=sf λa ha=>(A1.a4 a ha).2;simp at z1
  lia
 have nd:(fb [] (a7 one.2)).Nodup:=mi _ _ iZ;have hc:m5 (s9 (aq (ai (tab (n+2)) d7) (af (aq (ai (tab (n+2)) dj) (af (g2 aj (ah 0) (gC (.int 1))) ao)) ao))) (B5 [2] (gz (af (bc 1) (af (g2 bf (ah 2) (ah 0)) ao)))) [.bo (aD one),.bo (aD other),.pu (.int (M+1))]=.ok (.lst ((j9 (M+1) 0 (fb [] (a7 one.2))).map λp=>Pu.D.tup [.str p.1,p.2.D])):=by
  unfold m5 s9;rw[k4];dsimp only[OF];rw[dJ (by rw[Ai,dD];show _<=16777216;lia),Hc]
 have hp:r9 (.lst ((j9 (M+1) 0 (fb [] (a7 one.2))).map λp=>Pu.D.tup [.str p.1,p.2.D]))=some (.dct false (sD (j9 (M+1) 0 (fb [] (a7 one.2))))):=by
  have nl:(j9 (M+1) 0 (fb [] (a7 one.2))).length<=24:=by
   have:=congrArg kS (Av (M+1) 0 (fb [] (a7 one.2)));rw[dD]at this
   lia
  show(if _ then(lx _).map _ else none)=_;rw[dJ (by rw[dD];show _<=16777216;lia),Hv];show some (Pu.D.dct false (gc (sD []) _))=_;rw[Mi _ [] (by rw[kU,kN,Av];exact nd),kN]
 refine⟨M+1,mge,?_⟩;rw[qj];show df (ar _ _ [.bo (aD one),.bo (aD other),.no])=_;rw[o9,s1];show df (br (g1 r9 _) _)=_;rw[JA,IW,hc];show df ((Res.of (r9 _)).then .rt)=_;rw[hp];rfl
def fi(s:Sub):Tm->Int
 |.i z=>z
 |.s x=>match lk s x with
  |some (.i z)=>z
  |_=>0
def M7(n:Nat){ts:List Tm}(hl:ts.length<=900)(h:∀x,Tm.s x∈ts->∃z,lk s x=some (.i z)):ai (tab (n+1)) ji [.tup (ts.map Tm.D),.dct false (sD s)]=.ok (.tup ((ts.map (fi s)).map Pu.D.int)):=by
 rw[Xc];have hc:cb (a5 (ah 0)) [1] (gC (.bl true)) (Rz (fc (g1 (bb "str") (ah 0))) (g2 aj (ah 1) (ah 0)) (bc 0)) [.bo (.tup (ts.map Tm.D)),.bo (.dct false (sD s))]=.ok (.lst (ts.map λt=>Pu.D.int (fi s t))):=
  i4 (f:=Tm.D) (by simp) (by lia) λt ht=>by
   cases t with
   |i z=>simp[b8,Tm.D,fi]
   |s x=>
    obtain⟨z,ez⟩:=h x ht;have hn:=o5 x s;rw[ez]at hn;have hn':bq (sD s) (.inr x)=some (.int z):=hn;have hi:aj (.dct false (sD s)) (.str x)=some (.int z):=hn';simp[b8,Tm.D,fi,hi,ez]
 have hm:(ts.map λt=>Pu.D.int (fi s t))=(ts.map (fi s)).map Pu.D.int:=by rw[eQ];rfl
 rw[hm]at hc;simp[Kv,hc]
abbrev Fc:=Str×List Int
def fD(f:Fc):Pu.D:=.tup [.str f.1,.tup (f.2.map Pu.D.int)]
def fK(f:Fc):L2.bg:=[.inl (.inr f.1),.inr (f.2.map kP)]
def JW(f:Fc):kT (fK f)=fD f:=by
 show Pu.D.tup [.str f.1,.tup ((f.2.map kP).map kD)]=_;rw[eQ];rfl
def Ho(f:Fc):jf (fD f)=some (fK f):=by rw[<-JW];exact qp _
def LU(h:fK f=fK g):f=g:=by
 obtain⟨x,a⟩:=f;obtain⟨y,b⟩:=g;unfold fK at h;simp only[List.cons.injEq,Sum.inl.injEq,Sum.inr.injEq,and_true]at h;obtain⟨h1,h2⟩:=h;have:a=b:=by
  clear h1;induction a generalizing b with
  |nil=>cases b with
   |nil=>rfl
   |cons _ _=>cases h2
  |cons i r ih=>cases b with
   |nil=>cases h2
   |cons j t=>
    rw[dC,dC]at h2;injection h2 with z1 z2
    rw[rX z1,ih t z2]
 rw[h1,this]
def L3(F:List Fc):List (Pu.D×Pu.D):=F.map λf=>(fD f,.bl true)
def Xs(F:List Fc)(f:Fc):D5 (L3 F) (fK f)=decide (f∈F):=by
 unfold D5 L3;induction F with
 |nil=>rfl
 |cons g F ih=>
  rw[dC,iX,ih,Ho]
  by_cases h:f=g
  ·subst h;simp
  ·have h':¬(some (fK g)=some (fK f)):=λe=>h (LU (eI e)).symm;rw[decide_eq_false h'];simp[h]
def Z3(F:List Fc)(f:Fc):Z0 (L3 F) (fK f) (.bl true)=L3 (if f∈F then F else F++[f]):=by
 unfold Z0;rw[Xs]
 by_cases h:f∈F
 ·rw[dJ (decide_eq_true h),dJ h];unfold L3;rw[eQ];refine gJ λg _=>?_;show(if jf (fD g)=some (fK f)then(fD g,Pu.D.bl true)else(fD g,.bl true))=_;split<;>rfl
 ·rw[dM (by simp[h]),dM h,JW];unfold L3;rw[fQ];rfl
def zx(F:List Fc):List Fc->List Fc
 |[]=>F
 |f::r=>zx (if f∈F then F else F++[f]) r
theorem C8:∀(l F:List Fc),F.Nodup->(zx F l).Nodup
 |[],F,h=>h
 |f::l,F,h=>by
  unfold zx;refine C8 l _ ?_;split
  ·exact h
  ·rename_i hf;refine List.nodup_append.mpr ⟨h,by simp,λa ha b hb=>?_⟩;rw[List.mem_singleton.mp hb];exact λz=>hf (z▸ha)
theorem C7:∀(l F:List Fc),(zx F l).length<=F.length+l.length
 |[],F=>by simp[zx]
 |f::l,F=>by
  unfold zx;have:=C7 l (if f∈F then F else F++[f]);split at this
  ·simp;rename_i h;rw[dJ h];lia
  ·rename_i h;rw[dM h];simp at this⊢;lia
theorem Mg:∀(l F:List Fc)(f:Fc),f∈zx F l↔f∈F\/f∈l
 |[],F,f=>by simp[zx]
 |g::l,F,f=>by
  rw[zx,Mg l,gD]
  by_cases h:g∈F
  ·rw[dJ h];constructor
   ·rintro (z|z)
    ·exact .inl z
    ·exact .inr (.inr z)
   ·rintro (z|rfl|z)
    ·exact .inl z
    ·exact .inl h
    ·exact .inr z
  ·rw[dM h,nJ,qH,or_assoc]
theorem Kr:∀(l F:List Fc),(∀f∈F,eK f.1=true)->(∀f∈l,eK f.1=true)->∀f∈zx F l,eK f.1=true
 |[],F,h,_=>h
 |g::l,F,h,k=>by
  unfold zx;refine Kr l _ ?_ λf hf=>k f (dF _ hf);split
  ·exact h
  ·intro f hf;rcases List.mem_append.mp hf with hf|hf
   ·exact h f hf
   ·rw[List.mem_singleton.mp hf];exact k g dH
def Ll(h:vy x c=vy y d):x=y/\c=d:=by
 have l1:=yo x.cps.toList y.cps.toList c d;have l2:=yo y.cps.toList x.cps.toList d c;have n1:¬(x.cps.toList.map iP++(-1)::c<y.cps.toList.map iP++(-1)::d):=λz=>by
  have h':x.cps.toList.map iP++(-1)::c=y.cps.toList.map iP++(-1)::d:=h;rw[h']at z;exact kF _ z
 have n2:¬(y.cps.toList.map iP++(-1)::d<x.cps.toList.map iP++(-1)::c):=λz=>by
  have h':x.cps.toList.map iP++(-1)::c=y.cps.toList.map iP++(-1)::d:=h;rw[h']at z;exact kF _ z
 have m1:=λz=>n1 (l1.mpr z);have m2:=λz=>n2 (l2.mpr z);have ex:x.cps.toList=y.cps.toList:=by
  by_cases q:x.cps.toList=y.cps.toList
  ·exact q
  ·exact absurd (.inl (nM (λz=>m1 (.inl z)) (jJ q))) m2
 refine⟨Kj ex,?_⟩
 by_cases q:c=d
 ·exact q
 ·exact absurd (.inr ⟨ex.symm,nM (λz=>m1 (.inr ⟨ex,z⟩)) (jJ q)⟩) m2
theorem Ly:∀{F:List Fc},(∀f∈F,eK f.1=true)->kh (F.map fD)=some (F.map λf=>vy f.1 f.2)
 |[],_=>rfl
 |f::F,h=>by
  have iL:∀l:List Int,qo (l.map Pu.D.int)=some l:=λl=>by
   induction l with
   |nil=>rfl
   |cons i r ih=>rw[dC,qo,ih];rfl
  have e:Pc (fD f)=some (vy f.1 f.2):=by
   show(if eK f.1 then(qo (f.2.map Pu.D.int)).map (vy f.1)else none)=_;rw[dJ (h f dH),iL];rfl
  rw[dC,kh,e,Ly λg hg=>h g (dF _ hg)];rfl
theorem Yv{α β:Type}(h:α->β):∀(l:List β)(F:List α),(∀d∈l,d∈F.map h)->∃G:List α,l=G.map h
 |[],F,_=>⟨[],rfl⟩
 |d::l,F,e=>by
  obtain⟨f,hf,rfl⟩:=List.mem_map.mp (e d dH);obtain⟨G,rfl⟩:=Yv h l F λd hd=>e d (dF _ hd);exact⟨f::G,rfl⟩
abbrev Ft(f:Fc):List Int:=vy f.1 f.2
def Kc{F:List Fc}(nd:F.Nodup)(hw:∀f∈F,eK f.1=true)(hl:F.length<64):∃G:List Fc,nq (.dct true (L3 F))=some (.lst (G.map fD))/\(∀f,f∈G↔f∈F)/\G.length=F.length/\G.Pairwise λf g=>Ft f<Ft g:=by
 have ek:(L3 F).map (·.1)=F.map fD:=by unfold L3;rw[eQ];rfl
 show∃G:List Fc,(i9 ((L3 F).map (·.1))).map Pu.D.lst=_/\_;rw[ek];unfold i9
 by_cases h2:(F.map fD).length<2
 ·rw[dJ h2];refine⟨F,rfl,λf=>Iff.rfl,rfl,?_⟩;rw[dD]at h2
  match F,h2 with
  |[],_=>exact .nil
  |[f],_=>exact List.pairwise_singleton ..
  |_::_::_,h=>simp at h;lia
 ·rw[dM h2,dJ (by rw[dD];exact hl)];have ka:kf (F.map fD)=none:=by
   cases F with
   |nil=>simp at h2
   |cons f r=>rw[dC];rfl
  have e:jw (F.map fD)=some (2,F.map λf=>vy f.1 f.2):=by
   unfold jw;rw[ka,Ly hw];rfl
  rw[e];dsimp only;have q:(F.map λf=>vy f.1 f.2).Nodup:=by
   rw[List.Nodup,lX];refine qR (λ{a b} hab he=>?_) nd;obtain⟨z1,z2⟩:=Ll he;exact hab (Prod.ext z1 z2)
  rw[dJ q];have zm:(F.map λf=>vy f.1 f.2).zip (F.map fD)=F.map λf=>(Ft f,fD f):=List.zip_map' ..;have pm:=jy ((F.map λf=>vy f.1 f.2).zip (F.map fD));have pw:=ux (l:=(F.map λf=>vy f.1 f.2).zip (F.map fD)) (by rw[zm,eQ];exact q);rw[zm]at pm pw⊢;obtain⟨G,e1⟩:=Yv (λf=>(Ft f,fD f)) _ F λd hd=>pm.mem_iff.mp hd;rw[e1]at pm pw⊢;have inj:∀{f g:Fc},((Ft f,fD f):List Int×Pu.D)=(Ft g,fD g)->f=g:=λ{f g} h=>by
   obtain⟨z1,z2⟩:=Ll (congrArg Prod.fst h);exact Prod.ext z1 z2
  refine⟨G,by rw[eQ];rfl,λf=>?_,by have:=pm.length_eq;rwa [dD,dD]at this,by rw[lX]at pw;exact pw⟩;have:=pm.mem_iff (a:=(Ft f,fD f));rw[oH,oH]at this;constructor
  ·intro h;obtain⟨g,hg,e⟩:=this.mp ⟨f,h,rfl⟩;rwa [<-inj e]
  ·intro h;obtain⟨g,hg,e⟩:=this.mpr ⟨f,h,rfl⟩;rwa [<-inj e]
def QV(p:List Pu.D->Res):En->Out:=(yc 3 (gz (af (g2 aj (ah 4) (gC (.int 0))) (af (aq p (af (g2 aj (ah 4) (gC (.int 1))) (af (ah 2) ao))) ao))) (gC (.bl true)))
theorem Rg(v0 v1:Sl):∀(as:List At)(F:List Fc)(v4:Sl),(∀a∈as,p [.tup (a.ts.map Tm.D),P]=.ok (.tup ((a.ts.map v).map Pu.D.int)))->F.length+as.length<=1000->
  ∃w4,turns (a0 4) (QV p) (as.map At.D) [v0,v1,.pu P,.od true (L3 F),v4]=.nx [v0,v1,.pu P,.od true (L3 (zx F (as.map λa=>(a.nm,a.ts.map v)))),w4]
 |[],F,v4,_,_=>⟨v4,rfl⟩
 |a::as,F,v4,h,hl=>by
  rw[dI]at hl;have h1:=h a dH;have hlt:(L3 F).length<dN:=by unfold L3;rw[dD];show _<16777216;lia
  have hk:=Ho (a.nm,a.ts.map v);have hk':jf (.tup [.str a.nm,.tup ((a.ts.map v).map Pu.D.int)])=some (fK (a.nm,a.ts.map v)):=hk;have eb:QV p [v0,v1,.pu P,.od true (L3 F),.pu a.D]=.nx [v0,v1,.pu P,.od true (L3 (if(a.nm,a.ts.map v)∈F then F else F++[(a.nm,a.ts.map v)])),.pu a.D]:=by
   rw[<-Z3];simp[QV,yc,At.D,h1,hk',hlt,-eQ]
  have hle:(if(a.nm,a.ts.map v)∈F then F else F++[(a.nm,a.ts.map v)]).length<=F.length+1:=by split<;>simp
  obtain⟨w4,e⟩:=Rg (P:=P) (v:=v) v0 v1 as (if(a.nm,a.ts.map v)∈F then F else F++[(a.nm,a.ts.map v)]) (.pu a.D) (λb hb=>h b (dF _ hb)) (by lia);refine⟨w4,?_⟩;rw[dC,bx (δ1:=[v0,v1,.pu P,.od true (L3 F),.pu a.D]) rfl,eb];exact e
def ZW(nf p:List Pu.D->Res):En->Out:=(ar (b9 2 (aq nf (af (ah 0) (af (ah 1) ao))))
 (ar (E6 3)
 (ar (c8 (a0 4) (a5 (g2 aj (ah 0) (gC (.int 1)))) (QV p))
 (br (gz (af (gC (.str "book")) (af (g1 nq (ah 3)) (af (aq p (af (g2 aj (ah 0) (gC (.int 0))) (af (ah 2) ao))) ao))))))))
def KJ(e1:nf [.tup [h1,a1],O]=.ok P)
  (e2:c8 (a0 4) (a5 (g2 aj (ah 0) (gC (.int 1)))) (QV p) [.bo (.tup [h1,a1]),.bo O,.pu P,.od true [],.no]=.nx [.bo (.tup [h1,a1]),.bo O,.pu P,.od true kvs,w4])(e3:nq (.dct true kvs)=some S)(e4:p [h1,P]=.ok R):
  ZW nf p [.bo (.tup [h1,a1]),.bo O,.no,.no,.no]=.rt (.tup [.str "book",S,R]):=by
 unfold ZW;simp[e1,E6,e2,e3,e4]
structure BkOf(one other:l0)(m:Int)(G:List Fc):Prop where
 hm:∀z∈i7 (one.1++kr one.2)++i7 (other.1++kr other.2),z<m
 f:∀f,f∈G↔f∈one.2.map λa=>(a.nm,a.ts.map (fi (j9 m 0 (fb [] (a7 one.2)))))
 l:G.length<=one.2.length
 w:G.Pairwise λf g=>Ft f<Ft g
def Gr(one:l0)(m:Int)(G:List Fc):Pu.D:=.tup [.str "book",.lst (G.map fD),.tup ((one.1.map (fi (j9 m 0 (fb [] (a7 one.2))))).map Pu.D.int)]
def CS(n:Nat){one other:l0}(A1:Askd one)(A2:Askd other)(hi:yf one):∃m G,BkOf one other m G/\ai (tab (n+4)) gq [aD one,aD other]=.ok (Gr one m G):=by
 obtain⟨m,mge,e1⟩:=Ms n A1 A2;have hl:=A1.hl;have al:=A1.al;have lks:∀{x:Str},x∈a7 one.2->∃z,lk (j9 m 0 (fb [] (a7 one.2))) x=some (.i z):=λ{x} hx=>by
  obtain⟨j,_,h⟩:=Jz m 0 ((ia x _ []).mpr (.inr hx));exact⟨_,h⟩
 have pa:∀a∈one.2,ai (tab (n+3)) ji [.tup (a.ts.map Tm.D),.dct false (sD (j9 m 0 (fb [] (a7 one.2))))]=.ok (.tup ((a.ts.map (fi (j9 m 0 (fb [] (a7 one.2))))).map Pu.D.int)):=λa ha=>M7 (n+2) (by have:=(A1.a4 a ha).2;lia) λx hx=>lks (gy.mpr ⟨a,ha,hx⟩);have ph:=M7 (n+2) (s:=j9 m 0 (fb [] (a7 one.2))) (ts:=one.1) (by lia) λx hx=>lks (gy.mpr (hi.2 x hx));obtain⟨w4,e⟩:=Rg (p:=ai (tab (n+3)) ji) (P:=.dct false (sD (j9 m 0 (fb [] (a7 one.2))))) (v:=fi (j9 m 0 (fb [] (a7 one.2)))) (.bo (aD one)) (.bo (aD other)) one.2 [] .no pa (by simp;lia);have e2:c8 (a0 4) (a5 (g2 aj (ah 0) (gC (.int 1)))) (QV (ai (tab (n+3)) ji)) [.bo (aD one),.bo (aD other),.pu (.dct false (sD (j9 m 0 (fb [] (a7 one.2))))),.od true [],.no]=_:=(cm (ds:=one.2.map At.D) (by simp[aD,cv])).trans e;obtain⟨G,e3,g1,g2,g3⟩:=Kc (F:=zx [] (one.2.map λa=>(a.nm,a.ts.map (fi (j9 m 0 (fb [] (a7 one.2))))))) (C8 _ _ iZ) (Kr _ _ (by simp) λf hf=>by
  obtain⟨a,ha,rfl⟩:=List.mem_map.mp hf;exact(A1.aw a ha).1) (by
   have:=C7 (one.2.map λa=>(a.nm,a.ts.map (fi (j9 m 0 (fb [] (a7 one.2)))))) [];rw[dD]at this;simp at this
   lia)
 refine⟨m,G,⟨mge,λf=>?_,?_,g3⟩,?_⟩
 ·rw[g1,Mg];exact⟨λh=>h.resolve_left (λz=>nomatch z),.inr⟩
 ·have:=C7 (one.2.map λa=>(a.nm,a.ts.map (fi (j9 m 0 (fb [] (a7 one.2)))))) [];rw[dD]at this;simp at this
  lia
 rw[Dt];have hb:tu (n+3)=ZW (ai (tab (n+3)) cc) (ai (tab (n+3)) ji):=rfl;rw[hb];exact congrArg df (KJ (nf:=ai (tab (n+3)) cc) (p:=ai (tab (n+3)) ji) (h1:=.tup (one.1.map Tm.D)) (a1:=.tup (one.2.map At.D)) (O:=aD other) e1 e2 e3 ph)
def YU(p f:List Pu.D->Res):En->Out:=(ar (b9 2 (aq p (af (gC (.dct false [])) (af (g2 aj (ah 1) (gC (.int 0))) (af (g2 aj (ah 0) (gC (.int 0))) ao)))))
 (fz [2] (br (Rz (g2 l8 (ah 2) (gC .non)) (gC .non) (aq f (af (g2 aj (ah 1) (gC (.int 1))) (af (g2 aj (ah 0) (gC (.int 1))) (af (bc 2) ao))))))))
def QY(e1:p [.dct false [],h2,h1]=.ok (rD r))(e2:∀s,r=some s->f [a2,a1,.dct false (sD s)]=.ok (rD (g s))):
  YU p f [.bo (.tup [h1,a1]),.bo (.tup [h2,a2]),.no]=.rt (rD (r.bind g)):=by
 cases r with
 |none=>
  have e1':p [.dct false [],h2,h1]=.ok .non:=e1;simp[YU,e1',j7,rD]
 |some s=>
  have e1':p [.dct false [],h2,h1]=.ok (.dct false (sD s)):=e1;have e2':=e2 s rfl;simp[YU,e1',j7,e2']
def Wc(n:Nat){one other:l0}(A1:Askd one)(A2:Askd other):ai (tab (n+9)) qg [aD one,aD other]=.ok (rD (Ko one other)):=by
 have hl:=A2.hl;have al:=A2.al;rw[Ui];have hb:Gk (n+8)=YU (ai (tab (n+8)) cu) (ai (tab (n+8)) d5):=rfl;rw[hb];refine congrArg df (QY (p:=ai (tab (n+8)) cu) (f:=ai (tab (n+8)) d5) (h1:=.tup (one.1.map Tm.D)) (a1:=.tup (one.2.map At.D)) (h2:=.tup (other.1.map Tm.D)) (a2:=.tup (other.2.map At.D)) (Dx (n+7) (s:=[]) A2.hw A1.hw (by intro p hp;cases hp) (by simp;lia)) λs es=>?_);obtain⟨b1,b2⟩:=FL (s:=[]) (by intro p hp;cases hp) A1.hw es;have q:=Lo one.2 A1.aw other.2 s (n+6 - other.2.length) A2.a4 b1 (by simp at b2;lia);rw[show n+6 - other.2.length+other.2.length+2=n+8 by lia]at q;exact q
def Sh(a:At):Prop:=(a.nm="r"/\a.ts.length=2)\/(a.nm="s"/\a.ts.length=3)\/(a.nm="t"/\a.ts.length=1)
def Sh.len{a b:At}(h:Sh a)(k:Sh b)(e:a.nm=b.nm):a.ts.length=b.ts.length:=by
 have n1:("r":Str)≠"s":=by decide+kernel
 have n2:("r":Str)≠"t":=by decide+kernel
 have n3:("s":Str)≠"t":=by decide+kernel
 rcases h with ⟨h1,h2⟩|⟨h1,h2⟩|⟨h1,h2⟩<;>rcases k with ⟨k1,k2⟩|⟨k1,k2⟩|⟨k1,k2⟩<;>rw[h1,k1]at e<;>
  first
  |exact h2.trans k2.symm
  |exact absurd e n1
  |exact absurd e n2
  |exact absurd e n3
  |exact absurd e.symm n1
  |exact absurd e.symm n2
  |exact absurd e.symm n3
structure GA(a:l0):Prop extends Askd a where
 sh:∀x∈a.2,∀y∈a.2,x.nm=y.nm->x.ts.length=y.ts.length
def W2(n:Nat)(A:GA a)(i:yf a):ai (tab (n+6)) fm [aD a]=.ok (aD a):=by
 have l2:1<=a.2.length:=List.length_pos_iff.mpr i.1;have l1:=A.hl;have l3:=A.al;have e1:ai (tab (n+5)) me [aD a]=.ok (.bl true):=by rw[Gz];simp[z9,aD,cv]
 have e2:=u0 (n+4) (l:=a.1) (f:=Tm.D) (lo:=0) (hi:=4) (y:="is_term") (d:=qc) (by kernel_rfl) rfl (by lia) (by lia) (by lia) λt ht=>Hh (n+2) (A.h t ht);have e3:=u0 (n+4) (l:=a.2) (f:=At.D) (lo:=1) (hi:=6) (y:="is_atom") (d:=vf) (by kernel_rfl) rfl (by lia) (by lia) (by lia) λt ht=>Uv n (A.g t ht);have e4:=U9 (n+4) (as:=a.2) (by lia) A.sh;have e5:=Nk (n+3) A.h A.g (by lia) (by lia) i.2;rw[Af];unfold aD cv at *;simp[p8,e1,e2,e3,e4,e5,nt]
def Tp(ds:List Pu.D)(p:Nat):vp (.tup ds) none (some (p:Int))=some (.tup (ds.take p)):=by
 show some (Pu.D.tup (Dl ds none (some (p:Int))))=_;unfold Dl;rw[HT.Nd,HT.Td,mM,Nat.sub_zero]
 congr 2
 rw[<-List.take_eq_take_min]
def bound{one other:l0}{s:Sub}(h:Ko one other=some s){x:Str}(hx:x∈a7 other.2):∃v,lk s x=some v:=by
 obtain⟨a,ha,m⟩:=gy.mp hx;obtain⟨t,_,_,e⟩:=(N2 h).2 a ha;obtain⟨i,hi⟩:=List.mem_iff_getElem?.mp m;have q:=congrArg (λl=>l[i]?) e;simp only[eP,hi,kM]at q;cases z:t.2[i]? with
 |none=>rw[z]at q;cases q
 |some w=>rw[z]at q;exact⟨w,(eI q:N5 s (Tm.s x)=some w)⟩
def VF(c w b si t:List Pu.D->Res):En->Out:=(ar (fz [0] (za (aq c (af (bc 0) ao))))
 (ar (fz [1] (za (aq c (af (bc 1) ao))))
 (ar (ic (g2 ib (g1 bu (g2 aj (ah 0) (gC (.int 0)))) (g1 bu (g2 aj (ah 1) (gC (.int 0))))) (nt "Unlike" (af (gC (.str "the heads have unlike many terms")) ao)) cf)
 (ar (b9 2 (aq w (af (ah 0) (af (ah 1) ao))))
 (ar (ic (g2 l8 (ah 2) (gC .non)) (br (aq b (af (ah 0) (af (ah 1) ao)))) cf)
 (br (gz (af (gC (.str "way")) (af (cb (a5 (aq si (af (aq t (af (g2 aj (ah 1) (gC (.int 1))) ao)) ao))) [2] (gC (.bl true)) (gz (af (bc 0) (af (g2 aj (ah 1) (ah 0)) ao)))) ao)))))))))
def IT{h1 h2:List Pu.D}(e1:c [.tup [.tup h1,a1]]=.ok (.tup [.tup h1,a1]))(e2:c [.tup [.tup h2,a2]]=.ok (.tup [.tup h2,a2]))(hl:h1.length=h2.length)
  (e3:w [.tup [.tup h1,a1],.tup [.tup h2,a2]]=.ok .non)(e4:b [.tup [.tup h1,a1],.tup [.tup h2,a2]]=.ok R):VF c w b si t [.pu (.tup [.tup h1,a1]),.pu (.tup [.tup h2,a2]),.no]=.rt R:=by
 unfold VF;simp[e1,e2,hl,e3,e4,za,j7]
def IS{c w b si t:List Pu.D->Res}{h1 h2:List Pu.D}{a1 a2 T:Pu.D}{kvs:List (Pu.D×Pu.D)}{xs:List Str}{f:Str->Pu.D}(e1:c [.tup [.tup h1,a1]]=.ok (.tup [.tup h1,a1]))(e2:c [.tup [.tup h2,a2]]=.ok (.tup [.tup h2,a2]))(hl:h1.length=h2.length)
  (e3:w [.tup [.tup h1,a1],.tup [.tup h2,a2]]=.ok (.dct false kvs))(e4:t [a2]=.ok T)(e5:si [T]=.ok (.lst (xs.map Pu.D.str)))(hx:xs.length<=1000)(e6:∀x∈xs,bq kvs (.inr x)=some (f x)):
  VF c w b si t [.pu (.tup [.tup h1,a1]),.pu (.tup [.tup h2,a2]),.no]=.rt (.tup [.str "way",.lst (xs.map λx=>.tup [.str x,f x])]):=by
 have hc:cb (a5 (aq si (af (aq t (af (g2 aj (ah 1) (gC (.int 1))) ao)) ao))) [2] (gC (.bl true)) (gz (af (bc 0) (af (g2 aj (ah 1) (ah 0)) ao))) [.pu (.tup [.tup h1,a1]),.pu (.tup [.tup h2,a2]),.pu (.dct false kvs)]=.ok (.lst (xs.map λx=>.tup [.str x,f x])):=
  i4 (f:=Pu.D.str) (by simp[e4,e5]) (by lia) λx hx'=>by
   have q:aj (.dct false kvs) (.str x)=some (f x):=e6 x hx';simp[b8,q]
 unfold VF;simp[e1,e2,hl,e3,za,j7,hc]
def Il(n:Nat):Kw n=VF (ai (tab n) fm) (ai (tab n) qg) (ai (tab n) gq) (ai (tab n) d7) (ai (tab n) dj):=rfl
def Ik(n:Nat){one other:l0}(A1:GA one)(A2:GA other)(i1:yf one)(i2:yf other)(hl:one.1.length=other.1.length):
  (∀s,Ko one other=some s->ai (tab (n+10)) gu [aD one,aD other]=.ok (.tup [.str "way",vc (p6 s (fb [] (a7 other.2)))]))/\(Ko one other=none->∃m G,BkOf one other m G/\ai (tab (n+10)) gu [aD one,aD other]=.ok (Gr one m G)):=by
 have c1:=W2 (n+3) A1 i1;have c2:=W2 (n+3) A2 i2;have w:=Wc n A1.toAskd A2.toAskd;have al:=A2.al;constructor
 ·intro s hs;rw[hs]at w;have e4:=zi (n+8) A2.g (by lia) true;simp only[if_true]at e4;have tl:=zq λx hx=>(A2.a4 x hx).2;have e5:=zd (n+8) (kr other.2) (by lia) false;simp only[Bool.false_eq_true,if_false]at e5;rw[C3]at e5;rw[Li,Il];have xl:(fb [] (a7 other.2)).length<=1000:=by
   have q1:=vg (a7 other.2) [];have q2:=sf λa ha=>(A2.a4 a ha).2;simp at q1
   lia
  have r:=IS (b:=ai (tab (n+9)) gq) (a1:=.tup (one.2.map At.D)) (a2:=.tup (other.2.map At.D)) (f:=λx=>((lk s x).getD (.s x)).D) c1 c2 (by rw[dD,dD];exact hl) w e4 e5 xl λx hx=>by
   obtain⟨v,ev⟩:=bound hs (by simpa using(ia x _ []).mp hx);rw[o5,ev];rfl
  refine(congrArg df r).trans ?_;show Res.ok _=_
  congr 3
  unfold vc p6;rw[eQ];rfl
 ·intro hs;rw[hs]at w;obtain⟨m,G,hG,e⟩:=CS (n+5) A1.toAskd A2.toAskd i1;refine⟨m,G,hG,?_⟩;rw[Li,Il];exact congrArg df (IT (a1:=.tup (one.2.map At.D)) (a2:=.tup (other.2.map At.D)) c1 c2 (by rw[dD,dD];exact hl) w e)
def Ny:dh (.str "book") (.str "way")=some (.bl false):=by kernel_rfl
def Tu:dh (.str "way") (.str "way")=some (.bl true):=by kernel_rfl
def Nz(n:Nat){one other:l0}(A1:GA one)(A2:GA other)(i1:yf one)(i2:yf other)(hl:one.1.length=other.1.length):∃d x,ai (tab (n+10)) gu [aD one,aD other]=.ok d/\aj d (.int 0)=some x/\dh x (.str "way")=some (.bl (Ko one other).isSome):=by
 obtain⟨h1,h2⟩:=Ik n A1 A2 i1 i2 hl;cases e:Ko one other with
 |some s=>exact⟨_,.str "way",h1 s e,rfl,Tu⟩
 |none=>
  obtain⟨m,G,_,h⟩:=h2 e;exact⟨_,.str "book",h,rfl,Ny⟩
def DM(k m:Nat):List Pu.D:=(List.range' k m).map λ(i:Nat)=>Pu.D.int (0+(i:Int))
def Lv(k m:Nat):DM k (m+1)=.int (0+(k:Int))::DM (k+1) m:=by unfold DM;rw[List.range'_succ,dC]
def Wf:En->Out:=(ic (gw (fc (g1 (bb "str") (g2 aj (ah 1) (ah 4))))) (ic (g2 ib (g2 aj (ah 1) (ah 4)) (g2 aj (ah 2) (ah 4))) (br (gC .non)) cf) (ic (g2 c7 (g2 aj (ah 1) (ah 4)) (ah 3)) (yd 3 (g2 aj (ah 1) (ah 4)) (g2 aj (ah 2) (ah 4))) (ic (g2 ib (g2 aj (ah 3) (g2 aj (ah 1) (ah 4))) (g2 aj (ah 2) (ah 4))) (br (gC .non)) cf)))
def EZ{t w:Tm}{s:Sub}(hT:aj (.tup T) (.int z)=some t.D)(hW:aj (.tup W) (.int z)=some w.D)(ht:t.w)(hw:w.w)(hs:s.w)(hl:s.length<16777216):
  Wf [v0,.bo (.tup T),.bo (.tup W),.od false (sD s),.pu (.int z)]=match pf s [t] [w]with
   |some s'=>.nx [v0,.bo (.tup T),.bo (.tup W),.od false (sD s'),.pu (.int z)]
   |none=>.rt .non:=by
 have ne:=Mn ht hw;cases t with
 |i i=>
  rw[MA,x8];have hT':aj (.tup T) (.int z)=some (.int i):=hT;have ne':ib (.int i) w.D=some (.bl (!decide (Tm.i i=w))):=ne
  by_cases e:Tm.i i=w
  ·rw[dJ e];rw[decide_eq_true e]at ne';simp[Wf,hT',hW,ne']
  ·rw[dM e];rw[decide_eq_false e]at ne';simp[Wf,hT',hW,ne']
 |s x=>
  have hT':aj (.tup T) (.int z)=some (.str x):=hT;have hlk:=o5 x s;rw[NZ];cases e:lk s x with
  |none=>
   rw[e]at hlk;have hn:c7 (.str x) (.dct false (sD s))=some (.bl true):=by
    show(some (nF x)).map (λj=>Pu.D.bl !(bq (sD s) j).isSome)=_;rw[kM,hlk];rfl
   have hsl:(sD s).length<dN:=by rw[J7];exact hl
   have hp:=E1 w e;dsimp only;rw[x8];simp[Wf,hT',hW,hn,yd,X0,w9,bw,hsl,hp]
  |some v=>
   rw[e]at hlk;have hn:c7 (.str x) (.dct false (sD s))=some (.bl false):=by
    show(some (nF x)).map (λj=>Pu.D.bl !(bq (sD s) j).isSome)=_;rw[kM,hlk];rfl
   have hi:aj (.dct false (sD s)) (.str x)=some v.D:=hlk;have hv:v.w:=by
    clear hlk hn hi hl ne hT hT';induction s with
    |nil=>cases e
    |cons p r ih=>
     obtain⟨y,u⟩:=p;unfold lk at e
     by_cases q:y=x
     ·rw[dJ q]at e;cases e;exact hs (y,v) dH
     ·rw[dM q]at e;exact ih (λp hp=>hs p (dF _ hp)) e
   have nv:=Mn hv hw;dsimp only;rw[x8]
   by_cases q:v=w
   ·rw[dJ q];rw[decide_eq_true q]at nv;simp[Wf,hT',hW,hn,hi,nv]
   ·rw[dM q];rw[decide_eq_false q]at nv;simp[Wf,hT',hW,hn,hi,nv]
def X8{ts:List Tm}(h:k<ts.length):aj (.tup (ts.map Tm.D)) (.int (k:Int))=some (ts[k].D):=by
 show L2.atI (ts.map Tm.D) (k:Int)=_;refine L2.rh ?_;rw[eP,eR h];rfl
def DB{ts ws:List Tm}(v0:Sl)(hlen:ts.length=ws.length)(ht:∀t∈ts,t.w)(hw:∀t∈ws,t.w):∀(m k:Nat)(s:Sub)(v4:Sl),k+m=ts.length->s.w->s.length+m<=1000->
  (∃s' w4,pf s (ts.drop k) (ws.drop k)=some s'/\turns (a0 4) Wf (DM k m) [v0,.bo (.tup (ts.map Tm.D)),.bo (.tup (ws.map Tm.D)),.od false (sD s),v4]=.nx [v0,.bo (.tup (ts.map Tm.D)),.bo (.tup (ws.map Tm.D)),.od false (sD s'),w4])\/
  (pf s (ts.drop k) (ws.drop k)=none/\turns (a0 4) Wf (DM k m) [v0,.bo (.tup (ts.map Tm.D)),.bo (.tup (ws.map Tm.D)),.od false (sD s),v4]=.rt .non):=by
 intro m;induction m with
 |zero=>
  intro k s v4 e _ _;refine .inl ⟨s,v4,?_,rfl⟩;rw[jB (by lia),jB (by lia),x8]
 |succ m ih=>
  intro k s v4 e hs hl;have h1:k<ts.length:=by lia
  have h2:k<ws.length:=by lia
  have e4:(0+(k:Int))=(k:Int):=by lia
  rw[fN h1,fN h2,Cs,Lv,bx (δ1:=[v0,.bo (.tup (ts.map Tm.D)),.bo (.tup (ws.map Tm.D)),.od false (sD s),.pu (.int (0+(k:Int)))]) rfl,e4,
   EZ (X8 h1) (X8 h2) (ht _ (mR h1)) (hw _ (mR h2)) hs (by lia)]
  cases ep:pf s [ts[k]] [ws[k]]with
  |none=>exact .inr ⟨rfl,rfl⟩
  |some s'=>
   obtain⟨q1,q2⟩:=P0 hs (hw _ (mR h2)) ep;exact ih (k+1) s' (.pu (.int (k:Int))) (by lia) q1 (by lia)
def EY(n:Nat){ts ws:List Tm}{s:Sub}(hlen:ts.length=ws.length)(ht:∀t∈ts,t.w)(hw:∀t∈ws,t.w)(hs:s.w)(hl:s.length+ts.length<=1000):
  ai (tab (n+1)) mh [.dct false (sD s),.tup (ts.map Tm.D),.tup (ws.map Tm.D)]=.ok (rD (pf s ts ws)):=by
 rw[Ug];have hr:c8 (a0 4) (je (af (g1 bu (ah 1)) ao)) Wf [.bo (.dct false (sD s)),.bo (.tup (ts.map Tm.D)),.bo (.tup (ws.map Tm.D)),.od false (sD s),.no]=turns (a0 4) Wf (DM 0 ts.length) [.bo (.dct false (sD s)),.bo (.tup (ts.map Tm.D)),.bo (.tup (ws.map Tm.D)),.od false (sD s),.no]:=by
  rw[cm (u9 _ _ (j':=(ts.length:Int)) (by simp) (by lia))]
  congr 1
  unfold DM ir;rw[iN,List.range_eq_range']
 rcases DB (.bo (.dct false (sD s))) hlen ht hw ts.length 0 s .no (by lia) hs hl with ⟨s',w4,h1,h2⟩|⟨h1,h2⟩
 ·rw[mM,mM]at h1;rw[h2]at hr;unfold Wf at hr;simp -implicitDefEqProofs [Ab,hr,h1,rD]
 ·rw[mM,mM]at h1;rw[h2]at hr;unfold Wf at hr;simp -implicitDefEqProofs [Ab,hr,h1,rD]
def xk(s:Sub)(a f:At):Option Sub:=if f.nm=a.nm then pf s a.ts f.ts else none
def kc(F:List At)(found:List Sub)(a:At):List Sub:=found.flatMap λs=>F.filterMap (xk s a)
def dS(s:Sub):Pu.D:=.dct false (sD s)
def IA(lf:List Pu.D->Res):En->Out:=(ar (b9 7 (gC .non))
 (ar (ic (jv (g2 dh (g2 aj (ah 6) (gC (.int 0))) (g2 aj (ah 3) (gC (.int 0)))) (g2 dh (g1 bu (g2 aj (ah 6) (gC (.int 1)))) (g1 bu (g2 aj (ah 3) (gC (.int 1)))))) (b9 7 (aq lf (af (ah 5) (af (g2 aj (ah 3) (gC (.int 1))) (af (g2 aj (ah 6) (gC (.int 1))) ao))))) cf)
 (ic (g2 i8 (ah 7) (gC .non)) (fz [7] (qu 4 (bc 7))) cf)))
def CC{a f:At}{acc:List Sub}(hlf:a.ts.length=f.ts.length->lf [dS s,.tup (a.ts.map Tm.D),.tup (f.ts.map Tm.D)]=.ok (rD (pf s a.ts f.ts)))(ha:eK a.nm=true)(hf:eK f.nm=true)(hl:acc.length<16777216):
  ∃w7,IA lf [v0,v1,v2,.pu a.D,.ow (acc.map dS),.pu (dS s),.pu f.D,v7]=.nx [v0,v1,v2,.pu a.D,.ow ((acc++(xk s a f).toList).map dS),.pu (dS s),.pu f.D,w7]:=by
 have q:=Oy hf ha;unfold xk
 by_cases e:f.nm=a.nm
 ·rw[dJ e];rw[decide_eq_true e]at q
  by_cases l:a.ts.length=f.ts.length
  ·have h:=hlf l;have l':(f.ts.length:Int)=(a.ts.length:Int):=by lia
   cases ep:pf s a.ts f.ts with
   |none=>
    rw[ep]at h;refine⟨.pu .non,?_⟩;unfold dS at h⊢;simp[IA,j7,At.D,q,l',h,rD]
   |some s'=>
    rw[ep]at h;refine⟨.pu (dS s'),?_⟩;unfold dS at h⊢;simp[IA,j7,At.D,q,l',h,rD,hl]
  ·rw[Pz l];have l':((f.ts.length:Int)==(a.ts.length:Int))=false:=beq_eq_false_iff_ne.mpr (by lia);refine⟨.pu .non,?_⟩;simp[IA,j7,At.D,q,l']
 ·rw[dM e];rw[decide_eq_false e]at q;refine⟨.pu .non,?_⟩;simp[IA,j7,At.D,q]
theorem Rt{a:At}(ha:eK a.nm=true):∀(F:List At)(acc:List Sub)(v6 v7:Sl),(∀f∈F,(a.ts.length=f.ts.length->lf [dS s,.tup (a.ts.map Tm.D),.tup (f.ts.map Tm.D)]=.ok (rD (pf s a.ts f.ts)))/\eK f.nm=true)->acc.length+F.length<=1000000->
  ∃w6 w7,turns (a0 6) (IA lf) (F.map At.D) [v0,v1,v2,.pu a.D,.ow (acc.map dS),.pu (dS s),v6,v7]=.nx [v0,v1,v2,.pu a.D,.ow ((acc++F.filterMap (xk s a)).map dS),.pu (dS s),w6,w7]
 |[],acc,v6,v7,_,_=>⟨v6,v7,by simp[turns]⟩
 |f::F,acc,v6,v7,h,hl=>by
  rw[dI]at hl;obtain⟨h1,h2⟩:=h f dH;obtain⟨w7,e⟩:=CC (v0:=v0) (v1:=v1) (v2:=v2) (v7:=v7) (acc:=acc) h1 ha h2 (by lia);have le:(acc++(xk s a f).toList).length<=acc.length+1:=by cases xk s a f<;>simp
  obtain⟨u6,u7,e2⟩:=Rt ha F (acc++(xk s a f).toList) (.pu f.D) w7 (λg hg=>h g (dF _ hg)) (by lia);refine⟨u6,u7,?_⟩;rw[dC,bx (δ1:=[v0,v1,v2,.pu a.D,.ow (acc.map dS),.pu (dS s),.pu f.D,v7]) rfl,e];dsimp only;rw[e2,gI];cases xk s a f<;>simp
def QS(lf:List Pu.D->Res):En->Out:=(fz [1] (c8 (a0 6) (a5 (vz 1)) (IA lf)))
theorem Ru{a:At}{F:List At}(ha:eK a.nm=true)(hF:∀f∈F,eK f.nm=true)(hn:F.length<=9):∀(S:List Sub)(acc:List Sub)(v5 v6 v7:Sl),(∀s∈S,∀f∈F,a.ts.length=f.ts.length->lf [dS s,.tup (a.ts.map Tm.D),.tup (f.ts.map Tm.D)]=.ok (rD (pf s a.ts f.ts)))->acc.length+9 * S.length<=900000->
  ∃w5 w6 w7,turns (a0 5) (QS lf) (S.map dS) [v0,.bo (.lst (F.map At.D)),v2,.pu a.D,.ow (acc.map dS),v5,v6,v7]=.nx [v0,.bo (.lst (F.map At.D)),v2,.pu a.D,.ow ((acc++kc F S a).map dS),w5,w6,w7]
 |[],acc,v5,v6,v7,_,_=>⟨v5,v6,v7,by simp[turns,kc]⟩
 |s::S,acc,v5,v6,v7,h,hl=>by
  rw[dI]at hl;obtain⟨w6,w7,e⟩:=Rt (lf:=lf) (v0:=v0) (v1:=.bo (.lst (F.map At.D))) (v2:=v2) (s:=s) ha F acc v6 v7 (λf hf=>⟨h s dH f hf,hF f hf⟩) (by lia);have le:(acc++F.filterMap (xk s a)).length<=acc.length+9:=by
   rw[dU];have:=iB (xk s a) F
   lia
  obtain⟨u5,u6,u7,e2⟩:=Ru ha hF hn S (acc++F.filterMap (xk s a)) (.pu (dS s)) w6 w7 (λt ht=>h t (dF _ ht)) (by lia);refine⟨u5,u6,u7,?_⟩;rw[dC,bx (δ1:=[v0,.bo (.lst (F.map At.D)),v2,.pu a.D,.ow (acc.map dS),.pu (dS s),v6,v7]) rfl];have eb:QS lf [v0,.bo (.lst (F.map At.D)),v2,.pu a.D,.ow (acc.map dS),.pu (dS s),v6,v7]=.nx [v0,.bo (.lst (F.map At.D)),v2,.pu a.D,.ow ((acc++F.filterMap (xk s a)).map dS),.pu (dS s),w6,w7]:=by
   unfold QS;rw[PJ];show c8 _ _ _ [v0,.bo (.lst (F.map At.D)),v2,.pu a.D,.ow (acc.map dS),.pu (dS s),v6,v7]=_;rw[cm (ds:=F.map At.D) (by simp)];exact e
  rw[eb];dsimp only;rw[e2];simp[kc]
def oz(F:List At)(S:List Sub)(as:List At):List Sub:=as.foldl (kc F) S
def As{a:At}:s'∈kc F S a↔∃s∈S,∃f∈F,f.nm=a.nm/\pf s a.ts f.ts=some s':=by
 unfold kc;rw[List.mem_flatMap];constructor
 ·rintro ⟨s,hs,h⟩
  obtain⟨f,hf,e⟩:=List.mem_filterMap.mp h;unfold xk at e;split at e
  ·rename_i q;exact⟨s,hs,f,hf,q,e⟩
  ·cases e
 ·rintro ⟨s,hs,f,hf,q,e⟩
  exact⟨s,hs,List.mem_filterMap.mpr ⟨f,hf,by unfold xk;rw[dJ q];exact e⟩⟩
def Hd{F:List At}{S:List Sub}(hn:F.length<=9):(kc F S a).length<=9 * S.length:=by
 unfold kc;induction S with
 |nil=>simp
 |cons s S ih=>
  rw[kY,dU,dI];have:=iB (xk s a) F
  lia
def RT(lf:List Pu.D->Res):En->Out:=(ar (ie 4 (gj ao))
 (ar (fz [2] (c8 (a0 5) (a5 (vz 2)) (QS lf)))
 (fz [4] (b9 2 (bc 4)))))
def aJ(sl:Sl)(S:List Sub):Prop:=sl=.ow (S.map dS)\/sl=.pu (.lst (S.map dS))
theorem Rb{F:List At}(hF:∀f∈F,eK f.nm=true/\∀t∈f.ts,t.w)(hn:F.length<=9)
  (hlf:∀(s:Sub)(ts ws:List Tm),s.w->s.length+ts.length<=1000->ts.length=ws.length->(∀t∈ts,t.w)->(∀t∈ws,t.w)->lf [dS s,.tup (ts.map Tm.D),.tup (ws.map Tm.D)]=.ok (rD (pf s ts ws))):
  ∀(as:List At)(S:List Sub)(m k:Nat)(sl v3 v4 v5 v6 v7:Sl),aJ sl S->(∀a∈as,a.w/\a.ts.length<=4)->(∀s∈S,s.w/\s.length<=k)->k+4 * as.length<=900->S.length<=m->m * 9 ^ as.length<=90000->
  ∃sl' w3 w4 w5 w6 w7,aJ sl' (oz F S as)/\turns (a0 3) (RT lf) (as.map At.D) [v0,.bo (.lst (F.map At.D)),sl,v3,v4,v5,v6,v7]=.nx [v0,.bo (.lst (F.map At.D)),sl',w3,w4,w5,w6,w7]
 |[],S,m,k,sl,v3,v4,v5,v6,v7,hs,_,_,_,_,_=>⟨sl,v3,v4,v5,v6,v7,hs,rfl⟩
 |a::as,S,m,k,sl,v3,v4,v5,v6,v7,hs,ha,hS,hk,hm,hl=>by
  rw[dI]at hk hl;have hp:m * 9 * 9 ^ as.length<=90000:=by rw[Nat.mul_assoc,<-Nat.pow_succ'];exact hl
  have hm9:m * 9<=90000:=fF (Nat.le_mul_of_pos_right _ (Nat.pow_pos (by decide))) hp;obtain⟨a1,a2⟩:=ha a dH;obtain⟨w5,w6,w7,e⟩:=Ru (lf:=lf) (v0:=v0) (v2:=.pu (.lst (S.map dS))) a1.1 (λf hf=>(hF f hf).1) hn S [] v5 v6 v7 (λs hs f hf l=>hlf s _ _ (hS s hs).1 (by have:=(hS s hs).2;lia) l a1.2 (hF f hf).2) (by simp;lia);rw[kN]at e;have S':∀s'∈kc F S a,s'.w/\s'.length<=k+4:=λs' hs'=>by
   obtain⟨s,hs,f,hf,_,ep⟩:=As.mp hs';obtain⟨q1,q2⟩:=FL (hS s hs).1 (hF f hf).2 ep;have:=(hS s hs).2;exact⟨q1,by lia⟩
  have fl:=Hd (S:=S) (a:=a) hn;have eb:RT lf [v0,.bo (.lst (F.map At.D)),sl,.pu a.D,v4,v5,v6,v7]=.nx [v0,.bo (.lst (F.map At.D)),.pu (.lst ((kc F S a).map dS)),.pu a.D,.pu (.lst ((kc F S a).map dS)),w5,w6,w7]:=by
   unfold RT;have fin:c8 (a0 5) (a5 (vz 2)) (QS lf) [v0,.bo (.lst (F.map At.D)),.pu (.lst (S.map dS)),.pu a.D,.ow [],v5,v6,v7]=.nx [v0,.bo (.lst (F.map At.D)),.pu (.lst (S.map dS)),.pu a.D,.ow ((kc F S a).map dS),w5,w6,w7]:=by
    rw[cm (ds:=S.map dS) (by simp)];exact e
   rcases hs with rfl|rfl
   ·simp[fin]
   ·simp[fin]
  obtain⟨sl',u3,u4,u5,u6,u7,h1,h2⟩:=Rb hF hn hlf as (kc F S a) (m * 9) (k+4) (.pu (.lst ((kc F S a).map dS))) (.pu a.D) (.pu (.lst ((kc F S a).map dS))) w5 w6 w7 (.inr rfl) (λb hb=>ha b (dF _ hb)) S' (by lia) (by lia) hp;refine⟨sl',u3,u4,u5,u6,u7,h1,?_⟩;rw[dC,bx (δ1:=[v0,.bo (.lst (F.map At.D)),sl,.pu a.D,v4,v5,v6,v7]) rfl,eb];exact h2
def Yi(n:Nat){F as:List At}(hF:∀f∈F,eK f.nm=true/\∀t∈f.ts,t.w)(hn:F.length<=9)(ha:∀a∈as,a.w/\a.ts.length<=4)(hl:as.length<=5):
  ai (tab (n+2)) mw [.tup (as.map At.D),.lst (F.map At.D)]=.ok (.lst ((oz F [[]] as).map dS)):=by
 rw[Os];have pw:1 * 9 ^ as.length<=90000:=by
  have:as.length=0\/as.length=1\/as.length=2\/as.length=3\/as.length=4\/as.length=5:=by lia
  rcases this with e|e|e|e|e|e<;>rw[e]<;>decide
 obtain⟨sl',w3,w4,w5,w6,w7,h1,h2⟩:=Rb (lf:=ai (tab (n+1)) mh) (v0:=.bo (.tup (as.map At.D))) hF hn (λs ts ws hs hl' e ht hw=>EY n e ht hw hs hl') as [[]] 1 0 (.ow [.dct false []]) .no .no .no .no .no (.inl rfl) ha (λs hs=>by rw[List.mem_singleton.mp hs];exact⟨(λp hp=>by cases hp),dR _⟩) (by lia) (by simp) pw;have hr:c8 (a0 3) (a5 (vz 0)) (RT (ai (tab (n+1)) mh)) [.bo (.tup (as.map At.D)),.bo (.lst (F.map At.D)),.ow [.dct false []],.no,.no,.no,.no,.no]=.nx [.bo (.tup (as.map At.D)),.bo (.lst (F.map At.D)),sl',w3,w4,w5,w6,w7]:=by
  rw[cm (ds:=as.map At.D) (by simp)];exact h2
 unfold RT QS IA at hr;rcases h1 with rfl|rfl
 ·simp[xb,hr]
 ·simp[xb,hr]
theorem Mf(h:Le s s'):∀{ts ws:List Tm},ts.map (N5 s)=ws.map some->ts.map (N5 s')=ws.map some
 |[],[],_=>rfl
 |[],_::_,e=>by cases e
 |_::_,[],e=>by cases e
 |t::ts,w::ws,e=>by
  rw[dC,dC]at e;injection e with e1 e2
  rw[dC,dC,Dv h e1,Mf h e2]
theorem xm:∀(as:List At)(S:List Sub)(s':Sub),s'∈oz F S as->∃s∈S,Le s s'/\∀a∈as,∃f∈F,f.nm=a.nm/\a.ts.map (N5 s')=f.ts.map some
 |[],S,s',h=>⟨s',h,Le.refl s',λa ha=>by cases ha⟩
 |a::as,S,s',h=>by
  obtain⟨s1,h1,le,hall⟩:=xm as (kc F S a) s' h;obtain⟨s,hs,f,hf,q,ep⟩:=As.mp h1;obtain⟨p1,p2⟩:=qq ep;refine⟨s,hs,p1.trans le,λb hb=>?_⟩;rcases List.mem_cons.mp hb with rfl|hb
  ·exact⟨f,hf,q,Mf le p2⟩
  ·exact hall b hb
theorem wk:∀(as:List At)(S:List Sub)(s:Sub),s∈S->QB φ s->(∀a∈as,(At.mk a.1 (a.2.map (ap φ)))∈F)->∃s'∈oz F S as,QB φ s'
 |[],S,s,h,hf,_=>⟨s,h,hf⟩
 |a::as,S,s,h,hf,hall=>by
  obtain⟨s1,e1,f1⟩:=j4 a.ts hf;exact wk as (kc F S a) s1 (As.mpr ⟨s,h,_,hall a dH,rfl,e1⟩) f1 λb hb=>hall b (dF _ hb)
end LK
end
section
namespace Pu
open PySem PySem.Spec PyProof.Rows
def tI(ns:List Int):D:=.tup (ns.map D.int)
end Pu
end
section
namespace LK
open PySem PySem.Spec PyProof.Rows Pu
def rK(r:List Int):L2.bg:=r.map λz=>.inl (.inl z)
def JV(r:List Int):kT (rK r)=tI r:=by
 show Pu.D.tup ((r.map λz=>kP (kP z)).map JR)=_;rw[eQ];rfl
def An(r:List Int):jf (tI r)=some (rK r):=by rw[<-JV];exact qp _
theorem P6:∀{r t:List Int},rK r=rK t->r=t
 |[],[],_=>rfl
 |[],_::_,h=>by cases h
 |_::_,[],h=>by cases h
 |i::r,j::t,h=>by
  unfold rK at h;rw[dC,dC]at h;injection h with h1 h2
  rw[rX (rX h1),P6 h2]
theorem Zj:∀r:List Int,L2.N8 (rK r)=true
 |[]=>rfl
 |_::r=>Zj r
theorem S7:∀P:List (List Int),(P.map rK).all L2.N8=true
 |[]=>rfl
 |r::P=>by rw[dC,fT,Zj,S7 P];rfl
def zy(U:List (List Int)):List (List Int)->List (List Int)
 |[]=>U
 |r::l=>zy (if r∈U then U else U++[r]) l
theorem C9:∀(l U:List (List Int)),U.Nodup->(zy U l).Nodup
 |[],U,h=>h
 |r::l,U,h=>by
  unfold zy;refine C9 l _ ?_;split
  ·exact h
  ·rename_i hf;refine List.nodup_append.mpr ⟨h,by simp,λa ha b hb=>?_⟩;rw[List.mem_singleton.mp hb];exact λz=>hf (z▸ha)
theorem Mh:∀(l U:List (List Int))(x:List Int),x∈zy U l↔x∈U\/x∈l
 |[],U,x=>by simp[zy]
 |r::l,U,x=>by
  unfold zy;rw[Mh l]
  by_cases h:r∈U
  ·rw[dJ h,gD];constructor
   ·rintro (q|q)
    ·exact .inl q
    ·exact .inr (.inr q)
   ·rintro (q|q|q)
    ·exact .inl q
    ·exact .inl (q▸h)
    ·exact .inr q
  ·rw[dM h,nJ,qH,gD,or_assoc]
theorem Ia:∀(l U:List (List Int)),(l.map rK).foldl L2.ui (U.map rK)=(zy U l).map rK
 |[],U=>rfl
 |r::l,U=>by
  rw[dC,List.foldl_cons];unfold zy;rw[<-Ia l]
  congr 1
  unfold L2.ui;have e:L2.D5 (U.map rK) (rK r)=decide (r∈U):=by
   by_cases h:r∈U
   ·rw[decide_eq_true h];exact L2.yt.mpr (List.mem_map.mpr ⟨r,h,rfl⟩)
   ·rw[decide_eq_false h];cases q:L2.D5 (U.map rK) (rK r)with
    |false=>rfl
    |true=>
     obtain⟨g,hg,e⟩:=List.mem_map.mp (L2.yt.mp q);exact absurd (P6 e▸hg) h
  rw[e]
  by_cases h:r∈U
  ·rw[dJ (decide_eq_true h),dJ h]
  ·rw[dM (by simp[h]),dM h,fQ];rfl
theorem Bl:∀F:List (List Int),pk (F.map tI)=some (F.map rK)
 |[]=>rfl
 |f::F=>by rw[dC,pk,An,Bl F];rfl
theorem y7[DecidableEq α]:∀(l U:List α),l.Nodup->(∀x∈l,x∈U)->l.length<=U.length
 |[],_,_,_=>fZ _
 |a::l,U,nd,h=>by
  obtain⟨n1,n2⟩:=List.nodup_cons.mp nd;have ha:=h a dH;have:=y7 l (U.erase a) n2 λx hx=>(List.mem_erase_of_ne (λ(z:x=a)=>n1 (z▸hx))).mpr (h x (dF _ hx));rw[List.length_erase_of_mem ha]at this;have hp:0<U.length:=List.length_pos_of_mem ha;rw[dI]
  lia
theorem Ec:∀{R:List (List Int)},(∀r∈R,r≠[])->kf (R.map tI)=some R
 |[],_=>rfl
 |r::R,h=>by
  have iL:∀l:List Int,qo (l.map Pu.D.int)=some l:=λl=>by
   induction l with
   |nil=>rfl
   |cons i r ih=>rw[dC,qo,ih];rfl
  have e:Lw (tI r)=some r:=by
   unfold tI Lw;dsimp only;rw[iL];cases r with
   |nil=>exact absurd rfl (h [] dH)
   |cons i r=>rfl
  rw[dC,kf,e,Ec λg hg=>h g (dF _ hg)]
theorem JQ:∀(l:List Pu.D)(R:List (List Int)),(∀d∈l,d∈R.map tI)->∃G:List (List Int),l=G.map tI
 |[],R,_=>⟨[],rfl⟩
 |d::l,R,h=>by
  obtain⟨f,hf,rfl⟩:=List.mem_map.mp (h d dH);obtain⟨G,rfl⟩:=JQ l R λd hd=>h d (dF _ hd);exact⟨f::G,rfl⟩
def AA(h:tI r=tI t):r=t:=P6 (by
 have h1:=An r;rw[h,An]at h1;exact(eI h1).symm)
def Kd{rows U:List (List Int)}{m:Nat}(hm:U.length<64)(h:∀r∈rows,r.length=m/\r∈U):∃R:List (List Int),sa (.lst (rows.map tI))=some (.lst (R.map tI))/\(∀r,r∈R↔r∈rows)/\R.length<=1000:=by
 cases rows with
 |nil=>exact⟨[],rfl,(λr=>Iff.rfl),fZ _⟩
 |cons f l=>
  rw[show sa (.lst ((f::l).map tI))=sd (.lst ((f::l).map tI))from rfl];show∃R:List (List Int),((pk ((f::l).map tI)).bind λkz=>if(L2.ko kz).length<=76/\(L2.ko kz).all L2.N8=true then(i9 ((L2.ko kz).map kT)).map Pu.D.lst else none)=_/\_;rw[Bl];show∃R:List (List Int),(if(L2.ko ((f::l).map rK)).length<=76/\(L2.ko ((f::l).map rK)).all L2.N8=true then(i9 ((L2.ko ((f::l).map rK)).map kT)).map Pu.D.lst else none)=_/\_;have es:L2.ko ((f::l).map rK)=(zy [] (f::l)).map rK:=Ia (f::l) [];have em:((zy [] (f::l)).map rK).map kT=(zy [] (f::l)).map tI:=by
   rw[eQ];exact gJ λg _=>JV g
  have nd:=C9 (f::l) [] iZ;have mm:∀x,x∈zy [] (f::l)↔x∈f::l:=λx=>by rw[Mh];simp
  generalize zy [] (f::l)=R at *;have le:=y7 R U nd λx hx=>(h x ((mm x).mp hx)).2;have lm:m=0->R.length<=1:=λz=>y7 R [[]] nd λx hx=>by
   have q:=(h x ((mm x).mp hx)).1;rw[z]at q;rw[List.length_eq_zero_iff.mp q];exact List.mem_singleton.mpr rfl
  rw[es,dJ ⟨by rw[dD];lia,S7 _⟩,em];unfold i9
  by_cases h2:(R.map tI).length<2
  ·rw[dJ h2];exact⟨R,rfl,mm,by rw[dD]at h2;lia⟩
  ·rw[dM h2,dJ (by rw[dD];lia)];have ne:∀r∈R,r≠[]:=λr hr z=>by
    have:=(h r ((mm r).mp hr)).1;rw[z]at this;have:=lm this.symm;rw[dD]at h2
    lia
   have e:jw (R.map tI)=some (0,R):=by unfold jw;rw[Ec ne]
   rw[e];dsimp only;rw[dJ nd];have pm:=(jy (R.zip (R.map tI))).map (·.2);rw[List.map_snd_zip (by simp)]at pm;obtain⟨G,e1⟩:=JQ _ R λd hd=>pm.mem_iff.mp hd;have gl:G.length=R.length:=by
    have:=pm.length_eq;rw[e1]at this;simpa using this
   refine⟨G,by rw[e1];rfl,λr=>?_,by lia⟩;rw[<-mm r];constructor
   ·intro hr;have:tI r∈R.map tI:=pm.mem_iff.mp (by rw[e1];exact List.mem_map.mpr ⟨r,hr,rfl⟩);obtain⟨t,ht,q⟩:=List.mem_map.mp this;rw[<-AA q];exact ht
   ·intro hr;have:tI r∈G.map tI:=by rw[<-e1];exact pm.mem_iff.mpr (List.mem_map.mpr ⟨r,hr,rfl⟩)
    obtain⟨t,ht,q⟩:=List.mem_map.mp this;rw[<-AA q];exact ht
def QO:En->Out:=(ic (fc (g1 (bb "str") (ah 3))) (qu 2 (g2 aj (ah 0) (ah 3))) (fz [3] (qu 2 (bc 3))))
theorem Sn(v1:Sl):∀(ts:List Tm)(acc:List Int)(v3:Sl),(∀x,Tm.s x∈ts->∃z,lk s x=some (.i z))->acc.length+ts.length<=1000->
  ∃w3,turns (a0 3) QO (ts.map Tm.D) [.bo (dS s),v1,.ow (acc.map Pu.D.int),v3]=.nx [.bo (dS s),v1,.ow ((acc++ts.map (fi s)).map Pu.D.int),w3]
 |[],acc,v3,_,_=>⟨v3,by simp[turns]⟩
 |t::ts,acc,v3,h,hl=>by
  rw[dI]at hl;obtain⟨w3,e⟩:=Sn v1 ts (acc++[fi s t]) (.pu t.D) (λx hx=>h x (dF _ hx)) (by rw[dU];simp;lia);refine⟨w3,?_⟩;have hlt:acc.length<16777216:=by lia
  have eb:QO [.bo (dS s),v1,.ow (acc.map Pu.D.int),.pu t.D]=.nx [.bo (dS s),v1,.ow ((acc++[fi s t]).map Pu.D.int),.pu t.D]:=by
   cases t with
   |i z=>simp[QO,Tm.D,fi,hlt]
   |s x=>
    obtain⟨z,ez⟩:=h x dH;have hn:=o5 x s;rw[ez]at hn;have hi:aj (dS s) (.str x)=some (.int z):=hn;simp[QO,Tm.D,fi,hi,ez,hlt]
  rw[dC,bx (δ1:=[.bo (dS s),v1,.ow (acc.map Pu.D.int),.pu t.D]) rfl,eb];dsimp only;rw[e];simp
def EW(n:Nat){ts:List Tm}(hl:ts.length<=900)(h:∀x,Tm.s x∈ts->∃z,lk s x=some (.i z)):ai (tab (n+1)) qf [dS s,.tup (ts.map Tm.D)]=.ok (tI (ts.map (fi s))):=by
 rw[Uh];obtain⟨w3,e⟩:=Sn (s:=s) (.bo (.tup (ts.map Tm.D))) ts [] .no h (by simp;lia);have hr:c8 (a0 3) (a5 (vz 1)) QO [.bo (dS s),.bo (.tup (ts.map Tm.D)),.ow [],.no]=.nx [.bo (dS s),.bo (.tup (ts.map Tm.D)),.ow ((ts.map (fi s)).map Pu.D.int),w3]:=by
  rw[cm (ds:=ts.map Tm.D) (by simp)];simpa using e
 unfold QO at hr;simp[Gj,hr,tI,-eQ]
structure Bk(F:List At):Prop where
 n:F.length<=7
 w:∀f∈F,eK f.nm=true/\∀t∈f.ts,∃z,t=.i z
def Bk.tw(B:Bk F):∀f∈F,eK f.nm=true/\∀t∈f.ts,t.w:=λf hf=>⟨(B.w f hf).1,λt ht=>by
 obtain⟨z,rfl⟩:=(B.w f hf).2 t ht;trivial⟩
structure QA(a:l0):Prop extends GA a where
 ask:yf a
 h2:a.1.length<=2
 l5:a.2.length<=5
theorem Xh:∀{ts ws:List Tm},Tm.s x∈ts->ts.map (N5 s)=ws.map some->∃w∈ws,lk s x=some w
 |[],_,h,_=>by cases h
 |_::_,[],_,e=>by cases e
 |t::ts,w::ws,h,e=>by
  rw[dC,dC]at e;injection e with e1 e2
  rcases List.mem_cons.mp h with h|h
  ·subst h;exact⟨w,dH,e1⟩
  ·obtain⟨u,hu,q⟩:=Xh h e2;exact⟨u,dF _ hu,q⟩
def YO(a:l0)(F:List At)(r:List Int):Prop:=∃s∈oz F [[]] a.2,r=a.1.map (fi s)
def RH{s:Sub}{x:Str}{p:Nat}:∀{ts ws:List Tm},ts[p]?=some (.s x)->ts.map (N5 s)=ws.map some->lk s x=ws[p]?:=λ{ts ws} h e=>by
 have q:(ts.map (N5 s))[p]?=(ws.map some)[p]?:=by rw[e]
 rw[eP,eP,h]at q;cases hw:ws[p]? with
 |none=>rw[hw]at q;cases q
 |some w=>rw[hw]at q;exact eI q
def QA.col{a:l0}{F:List At}(A:QA a)(B:Bk F){x:Str}(hx:Tm.s x∈a.1):∃V:List Int,V.length<=F.length/\∀s∈oz F [[]] a.2,∃z,lk s x=some (.i z)/\z∈V:=by
 obtain⟨b,hb,hbx⟩:=A.ask.2 x hx;obtain⟨p,hp⟩:=List.mem_iff_getElem?.mp hbx;refine⟨F.filterMap λf=>(f.ts[p]?).map (fi []),iB ..,λs hs=>?_⟩;obtain⟨_,_,_,hall⟩:=xm a.2 [[]] s hs;obtain⟨f,hf,_,e⟩:=hall b hb;have q:=RH hp e;obtain⟨w,hw,q2⟩:=Xh hbx e;obtain⟨z,rfl⟩:=(B.w f hf).2 w hw;refine⟨z,q2,List.mem_filterMap.mpr ⟨f,hf,?_⟩⟩;rw[show f.ts[p]?=some (.i z)from q.symm.trans q2];rfl
def QA.bound{a:l0}{F:List At}(A:QA a)(B:Bk F){s:Sub}(hs:s∈oz F [[]] a.2){x:Str}(hx:Tm.s x∈a.1):∃z,lk s x=some (.i z):=by
 obtain⟨V,_,h⟩:=A.col B hx;obtain⟨z,q,_⟩:=h s hs;exact⟨z,q⟩
theorem Tc{F:List At}{S:List Sub}:∀(hd:List Tm),(∀x,Tm.s x∈hd->∃V:List Int,V.length<=7/\∀s∈S,∃z,lk s x=some (.i z)/\z∈V)->∃U:List (List Int),U.length<=7 ^ hd.length/\∀s∈S,hd.map (fi s)∈U
 |[],_=>⟨[[]],dR _,λs _=>List.mem_singleton.mpr rfl⟩
 |t::hd,h=>by
  obtain⟨U,u1,u2⟩:=Tc (F:=F) hd λx hx=>h x (dF _ hx);obtain⟨V,v1,v2⟩:∃V:List Int,V.length<=7/\∀s∈S,fi s t∈V:=by
   cases t with
   |i z=>exact⟨[z],by simp,λs _=>List.mem_singleton.mpr rfl⟩
   |s x=>
    obtain⟨V,v1,v2⟩:=h x dH;refine⟨V,v1,λs hs=>?_⟩;obtain⟨z,q,hz⟩:=v2 s hs;show(match lk s x with|some (.i z)=>z|_=>0)∈V;rw[q];exact hz
  refine⟨V.flatMap λz=>U.map (z::·),?_,λs hs=>List.mem_flatMap.mpr ⟨_,v2 s hs,List.mem_map.mpr ⟨_,u2 s hs,rfl⟩⟩⟩;have:(V.flatMap λz=>U.map (z::·)).length=V.length * U.length:=by
   clear v1 v2;induction V with
   |nil=>simp
   |cons a V ih=>rw[kY,dU,ih,dD,dI,Nat.succ_mul];lia
  rw[this,dI,Nat.pow_succ,Nat.mul_comm];exact Nat.mul_le_mul u1 v1
def Dc(n:Nat){F:List At}(A:QA a)(B:Bk F):∃R:List (List Int),ai (tab (n+3)) jg [aD a,.lst (F.map At.D)]=.ok (.lst (R.map tI))/\(∀r,r∈R↔YO a F r)/\R.length<=1000:=by
 have e1:=Yi n B.tw (fF B.n (by decide)) (λx hx=>(A.toGA.toAskd.a4 x hx)) A.l5;have hc:cb (a5 (aq (ai (tab (n+2)) mw) (af (g2 aj (ah 0) (gC (.int 1))) (af (ah 1) ao)))) [0] (gC (.bl true)) (aq (ai (tab (n+2)) qf) (af (ah 0) (af (g2 aj (ah 1) (gC (.int 0))) ao))) [.bo (aD a),.bo (.lst (F.map At.D))]=.ok (.lst ((oz F [[]] a.2).map λs=>tI (a.1.map (fi s)))):=by
  refine i4 (f:=dS) (by simp[aD,cv,e1]) ?_ λs hs=>?_
  ·have fl:∀(as:List At)(S:List Sub)(m:Nat),S.length<=m->(oz F S as).length<=m * 9 ^ as.length:=λas=>by
    induction as with
    |nil=>intro S m h;simpa[oz]using h
    |cons b as ih=>
     intro S m h;have q:=ih (kc F S b) (m * 9) (by have:=Hd (S:=S) (a:=b) (fF B.n (by decide));lia);rw[dI,Nat.pow_succ',<-Nat.mul_assoc];exact q
   have q:=fl a.2 [[]] 1 (by simp);have l5:=A.l5;have pw:1 * 9 ^ a.2.length<=90000:=by
    have:a.2.length=0\/a.2.length=1\/a.2.length=2\/a.2.length=3\/a.2.length=4\/a.2.length=5:=by lia
    rcases this with e|e|e|e|e|e<;>rw[e]<;>decide
   lia
  ·have e:=EW (n+1) (s:=s) (ts:=a.1) (by have:=A.h2;lia) λx hx=>by
    exact A.bound B hs hx
   simp[b8,aD,cv,e]
 have hm:((oz F [[]] a.2).map λs=>tI (a.1.map (fi s)))=((oz F [[]] a.2).map λs=>a.1.map (fi s)).map tI:=by rw[eQ];rfl
 rw[hm]at hc;obtain⟨U,u1,u2⟩:=Tc (F:=F) (S:=oz F [[]] a.2) a.1 λx hx=>by
  obtain⟨V,v1,v2⟩:=A.col B hx;exact⟨V,fF v1 B.n,v2⟩
 have ul:U.length<64:=by
  have h2:=A.h2;have:a.1.length=0\/a.1.length=1\/a.1.length=2:=by lia
  rcases this with e|e|e<;>rw[e]at u1<;>lia
 obtain⟨R,r1,r2,r3⟩:=Kd (rows:=(oz F [[]] a.2).map λs=>a.1.map (fi s)) (m:=a.1.length) ul λr hr=>by
  obtain⟨s,hs,rfl⟩:=List.mem_map.mp hr;exact⟨by rw[dD],u2 s hs⟩
 refine⟨R,?_,λr=>?_,r3⟩
 ·rw[Fz];simp[wc,hc,r1,-eQ]
 ·rw[r2 r,oH];constructor
  ·rintro ⟨s,hs,e⟩;exact⟨s,hs,e.symm⟩
  ·rintro ⟨s,hs,e⟩;exact⟨s,hs,e.symm⟩
theorem Mb(z:Int):∀l:Sub,bq (sD l) (.inl z)=none
 |[]=>rfl
 |(y,u)::r=>by
  show(if bw (.str y)=some (.inl z)then some u.D else bq (sD r) (.inl z))=none;rw[dM (by simp[bw])];exact Mb z r
def kj(s:Sub):Tm->Tm
 |.i z=>.i z
 |.s x=>(lk s x).getD (.s x)
def Dp(D:Drawn hd as):GA (hd,as)/\yf (hd,as):=by
 have tg:∀{t:Tm},t.ok->t.good:=λ{t} h=>by
  cases t with
  |s x=>
   have:∀y∈zu,Kq y=true:=by decide+kernel
   exact this x h
  |i z=>trivial
 have ag:∀a∈as,a.good:=λa ha=>by
  obtain⟨h1,h2⟩:=D.ok a ha;have l:=Wp (D.ok a ha);have hn:Kq a.nm=true:=by
   rcases h1 with ⟨e,_⟩|⟨e,_⟩|⟨e,_⟩<;>rw[e]<;>decide+kernel
  exact⟨hn,l.1,by lia,λt ht=>tg (h2 t ht)⟩
 have hx:∀{x:Str},x∈a7 as->(Tm.s x).good:=λ{x} h=>by
  obtain⟨a,ha,m⟩:=gy.mp h;exact(ag a ha).2.2.2 _ m
 refine⟨⟨⟨λt ht=>?_,ag,by have:=D.hl;show hd.length<=4;lia,by have:=D.len;show as.length<=6;lia⟩,λa ha b hb=>Sh.len (D.ok a ha).1 (D.ok b hb).1⟩,λz=>?_,λx hx=>?_⟩
 ·rcases D.ho t ht with ⟨z,rfl,_⟩|⟨x,rfl,m⟩
  ·trivial
  ·exact hx m
 ·have:=D.len;have z':as=[]:=z;rw[z']at this;simp at this
 ·rcases D.ho _ hx with ⟨z,e,_⟩|⟨y,e,m⟩
  ·cases e
  ·cases e;exact gy.mp m
def SO(j:Nat)(h:j<6):∃x,x∈good/\lg (.str "w") (.int (1+(j:Int)))=some (.str x):=by
 have:j=0\/j=1\/j=2\/j=3\/j=4\/j=5:=by lia
 rcases this with rfl|rfl|rfl|rfl|rfl|rfl
 ·exact⟨"w",by decide+kernel,by kernel_rfl⟩
 ·exact⟨"ww",by decide+kernel,by kernel_rfl⟩
 ·exact⟨"www",by decide+kernel,by kernel_rfl⟩
 ·exact⟨"wwww",by decide+kernel,by kernel_rfl⟩
 ·exact⟨"wwwww",by decide+kernel,by kernel_rfl⟩
 ·exact⟨"wwwwww",by decide+kernel,by kernel_rfl⟩
def Tm.gv(t:Tm):Prop:=t.good
def QR(mx:List Pu.D->Res):En->Out:=(fz [6] (yd 4 (ah 6) (g2 aj (gj (af (bc 6) (af (g2 lg (gC (.str "w")) (g2 bf (gC (.int 1)) (ah 5))) (af (gC (.str "x")) (af (gC (.int 0)) ao))))) (aq mx (af (ah 0) (af (g2 bf (gC (.int 81)) (ah 5)) (af (g2 E3 (gC (.int 4)) (g2 bf (gC (.int 2)) (ah 2))) ao)))))))
def DX{G:Sub}{j:Nat}(Hm:∀z m:Int,0<=z->0<m->mx [j8 ns,.int z,.int m]=.ok (.int (jx ns z m)))(hw:1<=w)(hj:j<6)(hx:Kq x=true)(hn:lk G x=none)(hl:G.length<=900):
  ∃t:Tm,t.gv/\QR mx [.bo (j8 ns),v1,.pu (.int w),v3,.od false (sD G),.pu (.int (j:Int)),.pu (.str x),v7,v8,v9,v10]=.nx [.bo (j8 ns),v1,.pu (.int w),v3,.od false (sD (G++[(x,t)])),.pu (.int (j:Int)),.pu (.str x),v7,v8,v9,v10]:=by
 obtain⟨y,hy,em⟩:=SO j hj;have mn:E3 (.int 4) (.int (2+w))=some (.int (if 2+w<4 then 2+w else 4)):=rfl;have hb:0<(if 2+w<4 then 2+w else 4)/\(if 2+w<4 then 2+w else 4)<=4:=by split<;>lia
 generalize (if 2+w<4 then 2+w else 4)=m at mn hb;have e0:=Hm (81+(j:Int)) m (by lia) hb.1;obtain⟨r0,r1⟩:=dq ns (81+(j:Int)) m hb.1;generalize jx ns (81+(j:Int)) m=c at e0 r0 r1;have hsl:(sD G).length<dN:=by rw[J7];show _<16777216;lia
 have fin:∀t:Tm,aj (.lst [.str x,.str y,.str "x",.int 0]) (.int c)=some t.D->QR mx [.bo (j8 ns),v1,.pu (.int w),v3,.od false (sD G),.pu (.int (j:Int)),.pu (.str x),v7,v8,v9,v10]=.nx [.bo (j8 ns),v1,.pu (.int w),v3,.od false (sD (G++[(x,t)])),.pu (.int (j:Int)),.pu (.str x),v7,v8,v9,v10]:=λt ht=>by
  have hp:=E1 t hn;simp[QR,em,mn,e0,ht,yd,X0,w9,bw,hsl,hp]
 have:c=0\/c=1\/c=2\/c=3:=by lia
 rcases this with rfl|rfl|rfl|rfl
 ·exact⟨.s x,hx,fin (.s x) rfl⟩
 ·exact⟨.s y,decide_eq_true hy,fin (.s y) rfl⟩
 ·exact⟨.s "x",show Kq "x"=true by decide+kernel,fin (.s "x") rfl⟩
 ·exact⟨.i 0,trivial,fin (.i 0) rfl⟩
theorem R5(Hm:∀z m:Int,0<=z->0<m->mx [j8 ns,.int z,.int m]=.ok (.int (jx ns z m)))(hw:1<=w):∀(xs:List Str)(j:Nat)(G:Sub)(v5 v6:Sl),j+xs.length<=6->(∀x∈xs,Kq x=true)->xs.Nodup->(∀x∈xs,lk G x=none)->G.length+xs.length<=900->(∀p∈G,p.2.gv)->v6.own=false->
  ∃G' w5 w6,w6.own=false/\(∀p∈G',p.2.gv)/\G'.length<=G.length+xs.length/\turns (ti [5,6]) (QR mx) (m4 j (xs.map Pu.D.str)) [.bo (j8 ns),v1,.pu (.int w),v3,.od false (sD G),v5,v6,v7,v8,v9,v10]=.nx [.bo (j8 ns),v1,.pu (.int w),v3,.od false (sD G'),w5,w6,v7,v8,v9,v10]
 |[],j,G,v5,v6,_,_,_,_,_,hg,h6=>⟨G,v5,v6,h6,hg,by simp,rfl⟩
 |x::xs,j,G,v5,v6,hj,hx,nd,hn,hl,hg,_=>by
  rw[dI]at hj hl;obtain⟨n1,n2⟩:=List.nodup_cons.mp nd;obtain⟨t,tg,e⟩:=DX (v1:=v1) (v3:=v3) (v7:=v7) (v8:=v8) (v9:=v9) (v10:=v10) (j:=j) Hm hw (by lia) (hx x dH) (hn x dH) (by lia);obtain⟨G',w5,w6,h0,h1,h2,h3⟩:=R5 (v1:=v1) (v3:=v3) (v7:=v7) (v8:=v8) (v9:=v9) (v10:=v10) Hm hw xs (j+1) (G++[(x,t)]) (.pu (.int (j:Int))) (.pu (.str x)) (by lia) (λy hy=>hx y (dF _ hy)) n2 (λy hy=>by
   rw[yz,hn y (dF _ hy)];exact dM λ(z:x=y)=>n1 (z.symm▸hy)) (by rw[dU];simp;lia) (λp hp=>by
   rcases List.mem_append.mp hp with hp|hp
   ·exact hg p hp
   ·rw[List.mem_singleton.mp hp];exact tg) rfl
  refine⟨G',w5,w6,h0,h1,by rw[dU]at h2;simp at h2⊢;lia,?_⟩;rw[dC];show turns _ _ (.tup [.int (j:Int),.str x]::m4 (j+1) (xs.map Pu.D.str)) _=_;rw[bx (δ1:=[.bo (j8 ns),v1,.pu (.int w),v3,.od false (sD G),.pu (.int (j:Int)),.pu (.str x),v7,v8,v9,v10]) rfl,e];exact h3
def E7(G:Sub)(a:At):At:=⟨a.nm,a.ts.map (kj G)⟩
def D4{t:Tm}(hd:d δ=.ok (.dct false (sD G)))(hk:k δ=.ok t.D)(hx:x δ=.ok t.D):iu d k x δ=.ok (kj G t).D:=by
 unfold iu;rw[hd,hk,hx];cases t with
 |i z=>
  have hn:=Mb z G;show Res.ok ((bq (sD G) (.inl z)).getD _)=_;rw[hn];rfl
 |s x=>
  have hn:=o5 x G;show Res.ok ((bq (sD G) (.inr x)).getD _)=.ok (((lk G x).getD (.s x)).D);rw[hn];cases lk G x<;>rfl
def RS:En->Res:=(cb (a5 (g2 aj (ah 1) (gC (.int 1)))) [4] (gC (.bl true)) (gz (af (g2 aj (ah 0) (gC (.int 0))) (af (g1 c9 (cb (a5 (g2 aj (ah 0) (gC (.int 1)))) [1] (gC (.bl true)) (iu (ah 1) (ah 0) (bc 0)))) ao))))
def KL{as:List At}(v0 v2 v3 v5 v6 v7 v8 v9 v10:Sl)(hl:as.length<=1000)(h4:∀a∈as,a.ts.length<=4):RS [v0,.bo (cv hd as),v2,v3,.od false (sD G),v5,v6,v7,v8,v9,v10]=.ok (.lst ((as.map (E7 G)).map At.D)):=by
 unfold RS;rw[eQ];refine i4 (f:=At.D) (by simp[cv]) (by lia) λa ha=>?_;have hc:∀δ:En,δ[0]?=some (.pu a.D)->δ[1]?=some (.od false (sD G))->cb (a5 (g2 aj (ah 0) (gC (.int 1)))) [1] (gC (.bl true)) (iu (ah 1) (ah 0) (bc 0)) δ=.ok (.lst (a.ts.map λt=>(kj G t).D)):=λδ h0 h1=>
  i4 (f:=Tm.D) (by simp[h0,At.D]) (by have:=h4 a ha;lia) λt ht=>D4 (t:=t) (by simp[b8,h1]) (by simp[b8]) (by simp[b8])
 have hm:(a.ts.map λt=>(kj G t).D)=(a.ts.map (kj G)).map Tm.D:=by rw[eQ];rfl
 rw[hm]at hc;have hc':=hc (b8 [4] [v0,.bo (cv hd as),v2,v3,.od false (sD G),v5,v6,v7,v8,v9,v10] (.pu a.D)) rfl rfl;rw[show b8 [4] [v0,.bo (cv hd as),v2,v3,.od false (sD G),v5,v6,v7,v8,v9,v10] (.pu a.D)=[.pu a.D,.od false (sD G)]from rfl]at hc'⊢;simp only[At.D]at hc';simp[hc',At.D,E7,-eQ]
theorem Pk:∀{G:Sub},lk G x=some v->(x,v)∈G
 |[],e=>by cases e
 |(y,u)::r,e=>by
  unfold lk at e
  by_cases q:y=x
  ·rw[dJ q]at e;cases e;rw[q];exact dH
  ·rw[dM q]at e;exact dF _ (Pk e)
def QQ:En->Out:=(ar (fz [6,6] (b9 10 (iu (ah 4) (ah 6) (bc 6))))
 (ar (ic (jv (fc (g1 (bb "str") (ah 10))) (g2 c7 (ah 10) (ah 8))) (b9 10 (g2 aj (g2 bf (ah 8) (gj (af (gC (.int 0)) ao))) (gC (.int 0)))) cf)
 (fz [10] (qu 9 (bc 10)))))
def KU(kn:List Str)(t:Tm):Prop:=(∃z,t=.i z)\/∃x,t=.s x/\x∈kn
def DV{G:Sub}{kn:List Str}{t:Tm}{acc:List Tm}(v0 v1 v2 v3 v5 v7 v10:Sl)(hg:∀p∈G,p.2.gv)(hk:∀x∈kn,Kq x=true)(hkl:kn.length<=900)(ht:t.good)(hl:acc.length<=1000):
  ∃(t':Tm) (w10:Sl),KU kn t'/\QQ [v0,v1,v2,v3,.od false (sD G),v5,.pu t.D,v7,.pu (.lst (kn.map Pu.D.str)),.ow (acc.map Tm.D),v10]=.nx [v0,v1,v2,v3,.od false (sD G),v5,.pu t.D,v7,.pu (.lst (kn.map Pu.D.str)),.ow ((acc++[t']).map Tm.D),w10]:=by
 have hlt:acc.length<16777216:=by lia
 have sg:(kj G t).good:=by
  cases t with
  |i z=>trivial
  |s x=>
   show((lk G x).getD (.s x)).good;cases e:lk G x with
   |none=>exact ht
   |some v=>exact hg (x,v) (Pk e)
 have s10:fz [6,6] (b9 10 (iu (ah 4) (ah 6) (bc 6))) [v0,v1,v2,v3,.od false (sD G),v5,.pu t.D,v7,.pu (.lst (kn.map Pu.D.str)),.ow (acc.map Tm.D),v10]=.nx [v0,v1,v2,v3,.od false (sD G),v5,.pu t.D,v7,.pu (.lst (kn.map Pu.D.str)),.ow (acc.map Tm.D),.pu (kj G t).D]:=by
  rw[PJ];show b9 10 (iu (ah 4) (ah 6) (bc 6)) [v0,v1,v2,v3,.od false (sD G),v5,.pu t.D,v7,.pu (.lst (kn.map Pu.D.str)),.ow (acc.map Tm.D),v10]=_;rw[BK,D4 (G:=G) (t:=t) (by simp) (by simp) (by simp)];rfl
 unfold QQ;rw[o9,s10];dsimp only;generalize kj G t=t1 at sg⊢;cases t1 with
 |i z=>
  refine⟨.i z,.pu (.int z),.inl ⟨z,rfl⟩,?_⟩;simp[Tm.D,hlt]
 |s x=>
  have hx:Kq x=true:=sg;have inn:=(Jp (l:=kn) (x:=x) (λy hy=>ku (hk y hy)) (ku hx)).2
  by_cases m:x∈kn
  ·rw[decide_eq_true m]at inn;refine⟨.s x,.pu (.str x),.inr ⟨x,rfl,m⟩,?_⟩;simp[Tm.D,inn,hlt]
  ·rw[decide_eq_false m]at inn;have ad:bf (.lst (kn.map Pu.D.str)) (.lst [.int 0])=some (.lst (kn.map Pu.D.str++[.int 0])):=dJ (show _<=16777216 by rw[dD];simp;lia);cases kn with
   |nil=>
    refine⟨.i 0,.pu (.int 0),.inl ⟨0,rfl⟩,?_⟩;have ix:aj (.lst ([].map Pu.D.str++[.int 0])) (.int 0)=some (.int 0):=rfl;simp only[kU,kN]at inn ad ix;simp[Tm.D,inn,ad,ix,hlt]
   |cons y kn=>
    refine⟨.s y,.pu (.str y),.inr ⟨y,rfl,dH⟩,?_⟩;have ix:aj (.lst ((y::kn).map Pu.D.str++[.int 0])) (.int 0)=some (.str y):=L2.rh (j:=0) rfl;generalize (y::kn).map Pu.D.str=K at inn ad ix;simp[Tm.D,inn,ad,ix,hlt]
theorem R7{G:Sub}{kn:List Str}(v0 v1 v2 v3 v5 v7:Sl)(hg:∀p∈G,p.2.gv)(hk:∀x∈kn,Kq x=true)(hkl:kn.length<=900):∀(ts acc:List Tm)(v6 v10:Sl),(∀t∈ts,t.good)->(∀t∈acc,KU kn t)->acc.length+ts.length<=900->
  ∃(hs:List Tm) (w6 w10:Sl),(∀t∈hs,KU kn t)/\hs.length=acc.length+ts.length/\turns (a0 6) QQ (ts.map Tm.D) [v0,v1,v2,v3,.od false (sD G),v5,v6,v7,.pu (.lst (kn.map Pu.D.str)),.ow (acc.map Tm.D),v10]=.nx [v0,v1,v2,v3,.od false (sD G),v5,w6,v7,.pu (.lst (kn.map Pu.D.str)),.ow (hs.map Tm.D),w10]
 |[],acc,v6,v10,_,ha,_=>⟨acc,v6,v10,ha,by simp,rfl⟩
 |t::ts,acc,v6,v10,h,ha,hl=>by
  rw[dI]at hl;obtain⟨t',w10,q,e⟩:=DV v0 v1 v2 v3 v5 v7 v10 hg hk hkl (h t dH) (acc:=acc) (by lia);obtain⟨hs,u6,u10,h1,h2,h3⟩:=R7 v0 v1 v2 v3 v5 v7 hg hk hkl ts (acc++[t']) (.pu t.D) w10 (λs hs=>h s (dF _ hs)) (λs hs=>by
   rcases List.mem_append.mp hs with hs|hs
   ·exact ha s hs
   ·rw[List.mem_singleton.mp hs];exact q) (by rw[dU];simp;lia)
  refine⟨hs,u6,u10,h1,by rw[h2,dU];simp;lia,?_⟩;rw[dC,bx (δ1:=[v0,v1,v2,v3,.od false (sD G),v5,.pu t.D,v7,.pu (.lst (kn.map Pu.D.str)),.ow (acc.map Tm.D),v10]) rfl,e];exact h3
def Nq(h:∀a∈as,a.ok):(fb [] (a7 as)).length<=6:=
 y7 _ zu (mi _ [] iZ) λx hx=>B2 h x (by simpa using(ia x _ []).mp hx)
def Qa(hg:∀p∈G,p.2.gv){t:Tm}(ht:t.good):(kj G t).good:=by
 cases t with
 |i z=>trivial
 |s x=>
  show((lk G x).getD (.s x)).good;cases e:lk G x with
  |none=>exact ht
  |some v=>exact(hg (x,v) (Pk e))
structure QD(a:l0):Prop extends QA a where
 s2:∀x∈a.2,Sh x
def IQ(a:At):Prop:=a.good/\Sh a
def HU(hg:∀p∈G,p.2.gv)(h:IQ a):IQ (E7 G a):=by
 obtain⟨⟨h1,h2,h3,h4⟩,h5⟩:=h;refine⟨⟨h1,?_,?_,λt ht=>?_⟩,?_⟩
 ·show 1<=(a.ts.map _).length;rw[dD];exact h2
 ·show(a.ts.map _).length<=4;rw[dD];exact h3
 ·obtain⟨u,hu,rfl⟩:=List.mem_map.mp ht;exact Qa hg (h4 u hu)
 ·unfold Sh E7;dsimp only;rw[dD];exact h5
def ZL(mx ak at_ si:List Pu.D->Res):En->Out:=(ar (ic (g2 dh (ah 2) (gC (.int 2))) (b9 7 (g2 bf (ah 7) (gj (af (aq at_ (af (ah 0) (af (gC (.int 90)) ao))) ao)))) cf)
 (ar (ic (jv (g2 dh (ah 2) (gC (.int 3))) (g2 Ax (g1 bu (ah 7)) (gC (.int 1)))) (b9 7 (N6 (ah 7) (some (gC (.int 1))) none)) cf)
 (ar (b9 8 (aq si (af (ah 7) ao)))
 (ar (ie 9 (gj ao))
 (ar (c8 (a0 6) (a5 (g2 aj (ah 1) (gC (.int 0)))) QQ)
 (br (gz (af (g1 c9 (ah 9)) (af (g1 c9 (ah 7)) ao)))))))))
def aA(mx ak at_ si:List Pu.D->Res):En->Out:=(ar (xa 4)
 (ar (c8 (ti [5,6]) (s9 (aq si (af (g2 aj (ah 1) (gC (.int 1))) ao))) (QR mx))
 (ar (fz [6,6] (ie 7 RS))
 (ZL mx ak at_ si))))
def oB(mx ak at_ si:List Pu.D->Res):En->Out:=(ar (b9 2 (aq mx (af (ah 0) (af (gC (.int 80)) (af (gC (.int 4)) ao)))))
 (ar (ic (g2 dh (ah 2) (gC (.int 0))) (ar (b9 3 (aq ak (af (ah 0) (af (gC (.int 40)) (af (gC (.int 3)) ao)))))
 (br (gz (af (N6 (g2 bf (g2 aj (ah 3) (gC (.int 0))) (gz (af (gC (.int 0)) (af (gC (.int 0)) ao)))) none (some (g1 bu (g2 aj (ah 1) (gC (.int 0)))))) (af (g2 aj (ah 3) (gC (.int 1))) ao))))) cf)
 (aA mx ak at_ si)))
def Y4(n:Nat):Ba n=oB (ai (tab n) az) (ai (tab n) ff) (ai (tab n) i5) (ai (tab n) cx):=rfl
section
variable{mx ak at_ si:List Pu.D->Res}
def EJ{hd:List Tm}{as:List At}{S:Pu.D}{w:Int}{v3 v5 v6:Sl}{G:Sub}{bs:List At}{A90:At}(hg:∀p∈G,p.2.gv)(hb:∀b∈bs,IQ b)(hb1:1<=bs.length)(hb4:bs.length<=4)(hA:IQ A90)(hh:∀t∈hd,t.good)(hl:hd.length<=2)
  (ea:at_ [S,.int 90]=.ok A90.D)(es:∀cs:List At,(∀c∈cs,IQ c)->cs.length<=5->si [.lst (cs.map At.D)]=.ok (.lst ((fb [] (a7 cs)).map Pu.D.str))):
  ∃a:l0,QD a/\a.1.length=hd.length/\ZL mx ak at_ si [.bo S,.bo (cv hd as),.pu (.int w),v3,.od false (sD G),v5,v6,.ow (bs.map At.D),.no,.no,.no]=.rt (aD a):=by
 have fin:∀(cs:List At)(s7:Sl),(s7=.ow (cs.map At.D)\/s7=.pu (.lst (cs.map At.D)))->(∀c∈cs,IQ c)->1<=cs.length->cs.length<=5->
   ∃a:l0,QD a/\a.1.length=hd.length/\(ar (b9 8 (aq si (af (ah 7) ao))) (ar (ie 9 (gj ao)) (ar (c8 (a0 6) (a5 (g2 aj (ah 1) (gC (.int 0)))) QQ) (br (gz (af (g1 c9 (ah 9)) (af (g1 c9 (ah 7)) ao))))))) [.bo S,.bo (cv hd as),.pu (.int w),v3,.od false (sD G),v5,v6,s7,.no,.no,.no]=.rt (aD a):=by
  intro cs s7 h7 hc c1 c5;have e8:=es cs hc c5;have kg:∀x∈fb [] (a7 cs),Kq x=true:=λx hx=>A4 (λc hc'=>(hc c hc').1) x (by simpa using(ia x _ []).mp hx);have kl:(fb [] (a7 cs)).length<=900:=by
   have q1:=vg (a7 cs) [];have q2:=sf (as:=cs) λa ha=>(hc a ha).1.2.2.1;simp at q1
   lia
  obtain⟨hs,w6,w10,h1,h2,h3⟩:=R7 (G:=G) (kn:=fb [] (a7 cs)) (.bo S) (.bo (cv hd as)) (.pu (.int w)) v3 v5 s7 hg kg kl hd [] v6 .no hh (λt ht=>by cases ht) (by simp;lia);have hf:c8 (a0 6) (a5 (g2 aj (ah 1) (gC (.int 0)))) QQ [.bo S,.bo (cv hd as),.pu (.int w),v3,.od false (sD G),v5,v6,s7,.pu (.lst ((fb [] (a7 cs)).map Pu.D.str)),.ow [],.no]=.nx [.bo S,.bo (cv hd as),.pu (.int w),v3,.od false (sD G),v5,w6,s7,.pu (.lst ((fb [] (a7 cs)).map Pu.D.str)),.ow (hs.map Tm.D),w10]:=by
   rw[cm (ds:=hd.map Tm.D) (by simp[cv])];exact h3
  refine⟨(hs,cs),⟨⟨⟨⟨λt ht=>?_,λc hc'=>(hc c hc').1,?_,?_⟩,λc hc' d hd'=>Sh.len (hc c hc').2 (hc d hd').2⟩,⟨λz=>?_,λx hx=>?_⟩,?_,c5⟩,λc hc'=>(hc c hc').2⟩,?_,?_⟩
  ·rcases h1 t ht with ⟨z,rfl⟩|⟨x,rfl,m⟩
   ·trivial
   ·exact kg x m
  ·show hs.length<=4;rw[h2];simp;lia
  ·show cs.length<=6;lia
  ·have z':cs=[]:=z;rw[z']at c1;simp at c1
  ·rcases h1 _ hx with ⟨z,e⟩|⟨y,e,m⟩
   ·cases e
   ·cases e;exact gy.mp (by simpa using(ia x _ []).mp m)
  ·show hs.length<=2;rw[h2];simp;lia
  ·show hs.length=hd.length;rw[h2];simp
  ·unfold cv at hf;rcases h7 with rfl|rfl
   ·simp[e8,hf,aD,cv]
   ·simp[e8,hf,aD,cv]
 unfold ZL;have c2:g2 dh (ah 2) (gC (.int 2)) [.bo S,.bo (cv hd as),.pu (.int w),v3,.od false (sD G),v5,v6,.ow (bs.map At.D),.no,.no,.no]=.ok (.bl (w==2)):=rfl;rw[o9,Q1,c2]
 by_cases w2:w=2
 ·subst w2;have ad:bf (.lst (bs.map At.D)) (.lst [A90.D])=some (.lst ((bs++[A90]).map At.D)):=by
   rw[fQ];exact dJ (show _<=16777216 by rw[dD];simp;lia)
  have s7:b9 7 (g2 bf (ah 7) (gj (af (aq at_ (af (ah 0) (af (gC (.int 90)) ao))) ao))) [.bo S,.bo (cv hd as),.pu (.int 2),v3,.od false (sD G),v5,v6,.ow (bs.map At.D),.no,.no,.no]=.nx [.bo S,.bo (cv hd as),.pu (.int 2),v3,.od false (sD G),v5,v6,.pu (.lst ((bs++[A90]).map At.D)),.no,.no,.no]:=by
   simp[ea,ad,-fQ]
  obtain⟨a,A,l,e⟩:=fin (bs++[A90]) (.pu (.lst ((bs++[A90]).map At.D))) (.inr rfl) (λc hc=>by
   rcases List.mem_append.mp hc with hc|hc
   ·exact hb c hc
   ·rw[List.mem_singleton.mp hc];exact hA) (by simp) (by simp;lia)
  refine⟨a,A,l,?_⟩;rw[show((2:Int)==2)=true from rfl];simp only[ij,s7];have c3:jv (g2 dh (ah 2) (gC (.int 3))) (g2 Ax (g1 bu (ah 7)) (gC (.int 1))) [.bo S,.bo (cv hd as),.pu (.int 2),v3,.od false (sD G),v5,v6,.pu (.lst ((bs++[A90]).map At.D)),.no,.no,.no]=.ok (.bl false):=rfl;rw[o9,Q1,c3];simp only[ij,Nu];exact e
 ·have w2':(w==2)=false:=beq_eq_false_iff_ne.mpr w2;rw[w2'];simp only[ij,Nu]
  by_cases w3:w=3/\1<bs.length
  ·obtain⟨rfl,hlb⟩:=w3;have c3:jv (g2 dh (ah 2) (gC (.int 3))) (g2 Ax (g1 bu (ah 7)) (gC (.int 1))) [.bo S,.bo (cv hd as),.pu (.int 3),v3,.od false (sD G),v5,v6,.ow (bs.map At.D),.no,.no,.no]=.ok (.bl true):=by
    have:(1:Int)<(bs.length:Int):=by lia
    simp[this]
   have sl:vp (.lst (bs.map At.D)) (some 1) none=some (.lst ((bs.drop 1).map At.D)):=by
    show some (Pu.D.lst (Dl _ _ _))=_;cases bs with
    |nil=>simp at hlb
    |cons b bs=>
     have:=RL b.D (bs.map At.D);have e:Dl (b.D::bs.map At.D) (some 1) none=bs.map At.D:=by
      have q:some (Pu.D.tup (Dl (b.D::bs.map At.D) (some 1) none))=some (.tup (bs.map At.D)):=this;injection q with q
      injection q
     rw[dC,e];rfl
   obtain⟨a,A,l,e⟩:=fin (bs.drop 1) (.pu (.lst ((bs.drop 1).map At.D))) (.inr rfl) (λc hc=>hb c (List.mem_of_mem_drop hc)) (by rw[iI];lia) (by rw[iI];lia);refine⟨a,A,l,?_⟩;have s7:b9 7 (N6 (ah 7) (some (gC (.int 1))) none) [.bo S,.bo (cv hd as),.pu (.int 3),v3,.od false (sD G),v5,v6,.ow (bs.map At.D),.no,.no,.no]=.nx [.bo S,.bo (cv hd as),.pu (.int 3),v3,.od false (sD G),v5,v6,.pu (.lst ((bs.drop 1).map At.D)),.no,.no,.no]:=by
    simp[N6,JZ,sl,-List.map_drop]
   rw[o9,Q1,c3];simp only[ij,s7];exact e
  ·have c3:jv (g2 dh (ah 2) (gC (.int 3))) (g2 Ax (g1 bu (ah 7)) (gC (.int 1))) [.bo S,.bo (cv hd as),.pu (.int w),v3,.od false (sD G),v5,v6,.ow (bs.map At.D),.no,.no,.no]=.ok (.bl false):=by
    by_cases h3:w=3
    ·have:¬(1:Int)<(bs.length:Int):=λz=>w3 ⟨h3,by lia⟩;simp[h3,this]
    ·have h3':(w==3)=false:=beq_eq_false_iff_ne.mpr h3;simp[h3']
   obtain⟨a,A,l,e⟩:=fin bs (.ow (bs.map At.D)) (.inl rfl) hb hb1 (by lia);refine⟨a,A,l,?_⟩;rw[o9,Q1,c3];simp only[ij,Nu];exact e
end
def La{hd:List Tm}{as:List At}(D:Drawn hd as):QD (hd,as):=by
 obtain⟨A,i⟩:=Dp D;refine⟨⟨A,i,D.hl,by have:=D.len;show as.length<=5;lia⟩,λa ha=>(D.ok a ha).1⟩
def ZX{a:At}(h:a.ok):IQ a:=by
 have D:Drawn [] [a]:=⟨by simp,λb hb=>by rw[List.mem_singleton.mp hb];exact h,by simp,λt ht=>by cases ht⟩;obtain⟨A,_⟩:=Dp D;exact⟨A.g a (List.mem_singleton.mpr rfl),h.1⟩
def MK{hd hd2:List Tm}{as2:List At}(D2:Drawn hd2 as2)(hl:hd.length<=2):QD ((hd2++[Tm.i 0,Tm.i 0]).take hd.length,as2)/\((hd2++[Tm.i 0,.i 0]).take hd.length).length=hd.length:=by
 have A:=La D2;have ln:((hd2++[Tm.i 0,.i 0]).take hd.length).length=hd.length:=by rw[hV,dU];simp;lia
 have sub:∀t∈(hd2++[Tm.i 0,.i 0]).take hd.length,t∈hd2\/t=.i 0:=λt ht=>by
  rcases List.mem_append.mp (pB ht)with h|h
  ·exact .inl h
  ·simp at h;exact .inr h
 refine⟨⟨⟨⟨⟨λt ht=>?_,A.g,by show _<=4;rw[ln];lia,A.al⟩,A.sh⟩,⟨A.ask.1,λx hx=>?_⟩,by show _<=2;rw[ln];exact hl,A.l5⟩,A.s2⟩,ln⟩
 ·rcases sub t ht with h|rfl
  ·exact A.h t h
  ·trivial
 ·rcases sub _ hx with h|e
  ·exact A.ask.2 x h
  ·cases e
def Y3(n:Nat)(ns:List Int){hd:List Tm}{as:List At}(D:Drawn hd as):∃a:l0,QD a/\a.1.length=hd.length/\ai (tab (n+6)) j0 [j8 ns,cv hd as]=.ok (aD a):=by
 rw[Lf,Y4];have Hm:∀z m:Int,0<=z->0<m->ai (tab (n+5)) az [j8 ns,.int z,.int m]=.ok (.int (jx ns z m)):=λz m hz hm=>jk (n+3) ns z m hz hm;have e0:=Hm 80 4 (by decide) (by decide);obtain⟨r0,r1⟩:=dq ns 80 4 (by decide);generalize jx ns 80 4=w at e0 r0 r1;have z0:bp [true,true] [j8 ns,cv hd as]++eA (11 - [j8 ns,cv hd as].length) Sl.no=[.bo (j8 ns),.bo (cv hd as),.no,.no,.no,.no,.no,.no,.no,.no,.no]:=rfl;rw[z0];have s2:∀mx:List Pu.D->Res,mx [j8 ns,.int 80,.int 4]=.ok (.int w)->b9 2 (aq mx (af (ah 0) (af (gC (.int 80)) (af (gC (.int 4)) ao)))) [.bo (j8 ns),.bo (cv hd as),.no,.no,.no,.no,.no,.no,.no,.no,.no]=.nx [.bo (j8 ns),.bo (cv hd as),.pu (.int w),.no,.no,.no,.no,.no,.no,.no,.no]:=λmx h=>by
  simp[h]
 have cw:g2 dh (ah 2) (gC (.int 0)) [.bo (j8 ns),.bo (cv hd as),.pu (.int w),.no,.no,.no,.no,.no,.no,.no,.no]=.ok (.bl (w==0)):=rfl;unfold oB;rw[o9,s2 _ e0];dsimp only;rw[o9,Q1,cw];have hl2:=D.hl
 by_cases w0:w=0
 ·subst w0;obtain⟨hd2,as2,D2,e2⟩:=Gg n ns 40 3 (by decide) (by decide) (by decide);obtain⟨A,ln⟩:=MK (hd:=hd) D2 hl2;refine⟨_,A,ln,?_⟩;have h22:=D2.hl;have ad:bf (.tup (hd2.map Tm.D)) (.tup [.int 0,.int 0])=some (.tup ((hd2++[Tm.i 0,.i 0]).map Tm.D)):=by
   rw[fQ];exact dJ (show _<=16777216 by rw[dD];simp;lia)
  have sl:=Tp ((hd2++[Tm.i 0,.i 0]).map Tm.D) hd.length;rw[<-qX]at sl;generalize hg:hd2++[Tm.i 0,.i 0]=L at *;unfold cv at e2⊢;simp[e2,ad,N6,JZ,sl,aD,cv,-qX]
 ·have w0':(w==0)=false:=beq_eq_false_iff_ne.mpr w0;rw[w0'];simp only[ij,Nu];have e4:∀(si:List Pu.D->Res),si [.tup (as.map At.D)]=.ok (.lst ((fb [] (a7 as)).map Pu.D.str))->s9 (aq si (af (g2 aj (ah 1) (gC (.int 1))) ao)) [.bo (j8 ns),.bo (cv hd as),.pu (.int w),.no,.od false [],.no,.no,.no,.no,.no,.no]=.ok (m4 0 ((fb [] (a7 as)).map Pu.D.str)):=λsi h=>by
   unfold cv;simp[s9,OF,h]
  obtain⟨A,iA⟩:=Dp D;have ls:=Aq (n+4) true (as:=as) (λx hx=>A.toAskd.a4 x hx) (by have:=A.al;show as.length<=200;have:=D.len;lia);simp only[if_true]at ls;obtain⟨G,w5,w6,o6,g1,g2',g3⟩:=R5 (mx:=ai (tab (n+5)) az) (ns:=ns) (w:=w) (v1:=.bo (cv hd as)) (v3:=.no) (v7:=.no) (v8:=.no) (v9:=.no) (v10:=.no) Hm (by lia) (fb [] (a7 as)) 0 [] .no .no (by have:=Nq D.ok;lia) (λx hx=>A4 (λa ha=>A.g a ha) x (by simpa using(ia x _ []).mp hx)) (mi _ [] iZ) (λx hx=>rfl) (by have:=Nq D.ok;simp;lia) (λp hp=>by cases hp) rfl;have hf:c8 (ti [5,6]) (s9 (aq (ai (tab (n+5)) cx) (af (g2 aj (ah 1) (gC (.int 1))) ao))) (QR (ai (tab (n+5)) az)) [.bo (j8 ns),.bo (cv hd as),.pu (.int w),.no,.od false [],.no,.no,.no,.no,.no,.no]=.nx [.bo (j8 ns),.bo (cv hd as),.pu (.int w),.no,.od false (sD G),w5,w6,.no,.no,.no,.no]:=by
   rw[cm (e4 _ ls)];exact g3
  have bK:∀b∈as.map (E7 G),IQ b:=λb hb=>by
   obtain⟨a,ha,rfl⟩:=List.mem_map.mp hb;exact HU g1 ⟨A.g a ha,(D.ok a ha).1⟩
  have dl:=D.len;have s7:fz [6,6] (ie 7 RS) [.bo (j8 ns),.bo (cv hd as),.pu (.int w),.no,.od false (sD G),w5,w6,.no,.no,.no,.no]=.nx [.bo (j8 ns),.bo (cv hd as),.pu (.int w),.no,.od false (sD G),w5,w6,.ow ((as.map (E7 G)).map At.D),.no,.no,.no]:=by
   show ie 7 RS (frzs [6,6] [.bo (j8 ns),.bo (cv hd as),.pu (.int w),.no,.od false (sD G),w5,w6,.no,.no,.no,.no])=_;have fz6:frzs [6,6] [.bo (j8 ns),.bo (cv hd as),.pu (.int w),.no,.od false (sD G),w5,w6,.no,.no,.no,.no]=[.bo (j8 ns),.bo (cv hd as),.pu (.int w),.no,.od false (sD G),w5,w6,.no,.no,.no,.no]:=by
    cases w6 with
    |ow _=>cases o6
    |od _ _=>cases o6
    |_=>rfl
   rw[fz6,BJ,KL (.bo (j8 ns)) (.pu (.int w)) .no w5 w6 .no .no .no .no (by show as.length<=1000;lia) λa ha=>(A.toAskd.a4 a ha).2];rfl
  have ea:=Rc (n+1) ns 90 (by decide);obtain⟨a,QAa,la,e⟩:=EJ (mx:=ai (tab (n+5)) az) (ak:=ai (tab (n+5)) ff) (at_:=ai (tab (n+5)) i5) (si:=ai (tab (n+5)) cx) (hd:=hd) (as:=as) (S:=j8 ns) (w:=w) (v3:=.no) (v5:=w5) (v6:=w6) (G:=G) (bs:=as.map (E7 G)) (A90:=Dd ns 90) g1 bK (by rw[dD];lia) (by rw[dD];lia) (ZX (Ra ns 90)) (λt ht=>A.h t ht) hl2 ea (λcs hc hl=>by
   have:=Aq (n+4) false (as:=cs) (λc hc'=>⟨(hc c hc').1.w,(hc c hc').1.2.2.1⟩) (by lia);simpa using this)
  refine⟨a,QAa,la,?_⟩;unfold aA;rw[o9,show xa 4 [.bo (j8 ns),.bo (cv hd as),.pu (.int w),.no,.no,.no,.no,.no,.no,.no,.no]=.nx [.bo (j8 ns),.bo (cv hd as),.pu (.int w),.no,.od false [],.no,.no,.no,.no,.no,.no]from rfl];dsimp only;rw[o9,hf];dsimp only;rw[o9,s7];dsimp only;rw[e];rfl
theorem Fp:∀R:List (List Int),cn (R.map tI)=some (R.map λr=>.tuple (r.map gK))
 |[]=>rfl
 |r::R=>by rw[dC,cn,Fp R,tI,cg,n6];rfl
theorem L5:∀R:List (List Int),dO (R.map λr=>.tuple (r.map gK))=true
 |[]=>rfl
 |r::R=>by rw[dC,dO,L5 R,fM,fy];rfl
def CF(r t:List Int):eL (.tuple (r.map gK)) (.tuple (t.map gK))=decide (r=t):=by
 rw[eL];exact yp (f:=gK) (λa b=>by rw[eL];by_cases h:a=b<;>simp[h]) r t
def R8{r:List Int}{R:List (List Int)}:ja (tI r) (.lst (R.map tI))=some (.bl (!decide (r∈R)))/\Ga (tI r) (.lst (R.map tI))=some (.bl (decide (r∈R))):=by
 have e:Bx (tI r) (.lst (R.map tI))=some (decide (r∈R)):=by
  show(match cn (R.map tI),cg (tI r)with
   |some ps,some q=>if dO ps && eX q then some (ps.any λy=>eL y q)else none
   |_,_=>none)=_
  have et:cg (tI r)=some (.tuple (r.map gK)):=by rw[tI,cg,n6]
  rw[Fp,et];dsimp only;have dp:(PyData.tuple (r.map gK)).depth<=63:=by
   rw[iK];have:=xj r
   lia
  rw[L5,nu (by rw[fM];exact fy r) dp];show some _=_
  congr 1
  induction R with
  |nil=>rfl
  |cons b R ih=>
   rw[dC,iX,ih,CF]
   by_cases q:r=b
   ·simp[q]
   ·have q':¬b=r:=λz=>q z.symm;simp[q,q']
 unfold ja Ga;rw[e];exact⟨rfl,rfl⟩
def Wm(n:Nat){one other:l0}(A1:QA one)(A2:QA other)(hl:one.1.length=other.1.length):ai (tab (n+11)) vd [aD one,aD other]=.ok (.bl ((Ko one other).isSome && (Ko other one).isSome)):=by
 obtain⟨d1,x1,a1,a2,a3⟩:=Nz n A1.toGA A2.toGA A1.ask A2.ask hl;obtain⟨d2,x2,b1,b2,b3⟩:=Nz n A2.toGA A1.toGA A2.ask A1.ask hl.symm;rw[CI];generalize aD one=o1 at *;generalize aD other=o2 at *;cases h:(Ko one other).isSome with
 |false=>rw[h]at a3;simp[Iw,a1,a2,a3]
 |true=>rw[h]at a3;simp[Iw,a1,a2,a3,b1,b2,b3]
def fA(f:Fc):At:=⟨f.1,f.2.map Tm.i⟩
def RG(f:Fc):(fA f).D=fD f:=by
 unfold At.D fA fD;dsimp only;rw[eQ];rfl
def RF(G:List Fc):(G.map fA).map At.D=G.map fD:=by
 rw[eQ];exact gJ λf _=>RG f
abbrev nS(one:l0)(m:Int):Sub:=j9 m 0 (fb [] (a7 one.2))
def H9(one:l0)(m:Int):List Int:=one.1.map (fi (nS one m))
def SN{one:l0}(m:Int){x:Str}(h:x∈a7 one.2):∃j:Nat,(fb [] (a7 one.2))[j]?=some x/\fi (nS one m) (.s x)=m+(j:Int):=by
 obtain⟨j,h1,h2⟩:=Jz m 0 ((ia x _ []).mpr (.inr h));refine⟨j,h1,?_⟩;show(match lk (nS one m) x with|some (.i z)=>z|_=>0)=_;rw[h2];show m+((0+j:Nat):Int)=_;rw[pS]
def We(one:l0)(m:Int)(z:Int):Tm:=if m<=z then(((fb [] (a7 one.2))[(z - m).toNat]?).map Tm.s).getD (.i z)else .i z
def Xx{one:l0}{m z:Int}(h:z<m):We one m z=.i z:=dM (by lia)
def Mt{ts:List Tm}{z:Int}(h:Tm.i z∈ts):z∈i7 ts:=List.mem_filterMap.mpr ⟨_,h,rfl⟩
def Sr{as:List At}{a:At}{t:Tm}(ha:a∈as)(ht:t∈a.ts):t∈kr as:=List.mem_flatMap.mpr ⟨a,ha,ht⟩
def DQ{one other:l0}{m:Int}{G:List Fc}(B:BkOf one other m G)(hi:yf one){t:Tm}(h:t∈one.1++kr one.2):We one m (fi (nS one m) t)=t:=by
 cases t with
 |i z=>exact Xx (B.hm z (List.mem_append.mpr (.inl (Mt h))))
 |s x=>
  have hx:x∈a7 one.2:=by
   rcases List.mem_append.mp h with h|h
   ·exact gy.mpr (hi.2 x h)
   ·rw[<-C3];exact Cr.mpr h
  obtain⟨j,h1,h2⟩:=SN m hx;rw[h2];unfold We;rw[dJ (by lia),show(m+(j:Int) - m).toNat=j by lia,h1];rfl
def CQ{one other:l0}{m:Int}{G:List Fc}(A:QA one)(B:BkOf one other m G)(K:Bk (G.map fA)):YO one (G.map fA) (H9 one m):=by
 have ae:∀t,ap (λx=>.i (fi (nS one m) (.s x))) t=.i (fi (nS one m) t):=λt=>by cases t<;>rfl
 obtain⟨s,hs,ft⟩:=wk (F:=G.map fA) (φ:=λx=>.i (fi (nS one m) (.s x))) one.2 [[]] [] (List.mem_singleton.mpr rfl) (λx v e=>by cases e) λa ha=>by
  refine List.mem_map.mpr ⟨_,(B.f _).mpr (List.mem_map.mpr ⟨a,ha,rfl⟩),?_⟩;unfold fA;dsimp only;rw[eQ]
  congr 1
  exact gJ λt _=>(ae t).symm
 refine⟨s,hs,gJ λt ht=>?_⟩;cases t with
 |i z=>rfl
 |s x=>
  obtain⟨z,q⟩:=A.bound K hs ht;have e:=ft x _ q;injection e with e
  show _=(match lk s x with|some (.i z)=>z|_=>0);rw[q];exact e
def Wu{one other:l0}{m:Int}{G:List Fc}(A:QA one)(A2:QA other)(B:BkOf one other m G)(hn:Ko one other=none):¬YO other (G.map fA) (H9 one m):=by
 rintro ⟨s,hs,e⟩
 obtain⟨_,_,_,hall⟩:=xm other.2 [[]] s hs;have ae:∀t∈other.1++kr other.2,ap (λx=>We one m (fi s (.s x))) t=We one m (fi s t):=λt ht=>by
  cases t with
  |s x=>rfl
  |i z=>exact(Xx (B.hm z (List.mem_append.mpr (.inr (Mt ht))))).symm
 have back:∀ts:List Tm,(∀t∈ts,t∈one.1++kr one.2)->(ts.map (fi (nS one m))).map (We one m)=ts:=λts h=>by
  rw[eQ];exact(gJ λt ht=>DQ B A.ask (h t ht)).trans (List.map_id _)
 have H:aK (λx=>We one m (fi s (.s x))) other one:=by
  constructor
  ·rw[gJ λt ht=>ae t (List.mem_append.mpr (.inl ht)),show(λt=>We one m (fi s t))=We one m ∘ fi s from rfl,<-eQ,<-e];exact back _ λt ht=>List.mem_append.mpr (.inl ht)
  ·intro b hb;obtain⟨f,hf,q,ev⟩:=hall b hb;obtain⟨g,hg,rfl⟩:=List.mem_map.mp hf;obtain⟨a,ha,rfl⟩:=List.mem_map.mp ((B.f g).mp hg);have vals:b.ts.map (fi s)=a.ts.map (fi (nS one m)):=by
    have:∀(ts:List Tm)(zs:List Int),ts.map (N5 s)=(zs.map Tm.i).map some->ts.map (fi s)=zs:=λts=>by
     induction ts with
     |nil=>intro zs h;cases zs with
      |nil=>rfl
      |cons _ _=>cases h
     |cons t ts ih=>
      intro zs h;cases zs with
      |nil=>cases h
      |cons z zs=>
       rw[dC,dC,dC]at h;injection h with h1 h2
       rw[dC,ih zs h2]
       congr 1
       cases t with
       |i y=>have:=eI h1;cases this;rfl
       |s x=>
        show(match lk s x with|some (.i z)=>z|_=>0)=z;rw[show lk s x=some (.i z)from h1]
    exact this _ _ ev
   have:b.2.map (ap λx=>We one m (fi s (.s x)))=a.ts:=by
    rw[gJ λt ht=>ae t (List.mem_append.mpr (.inr (Sr hb ht))),show(λt=>We one m (fi s t))=We one m ∘ fi s from rfl,<-eQ];show(b.ts.map (fi s)).map _=_;rw[vals];exact back _ λt ht=>List.mem_append.mpr (.inr (Sr ha ht))
   rw[this,<-show a.nm=b.1 from q];exact ha
 have:=N1 H;rw[hn]at this;cases this
theorem Bq:∀(k l:List Int),ip (k.map .int) (l.map .int)=some (!decide (l<k))
 |[],[]=>by simp[ip]
 |[],_::_=>by simp[ip]
 |_::_,[]=>by simp[ip]
 |i::k,j::l=>by
  rw[dC,dC,ip,Bq k l,CG];show some (if(i==j)=true then !decide (l<k)else decide (i<=j))=_
  congr 1
  by_cases h:i=j
  ·subst h;simp[gH]
  ·have h1:(i==j)=false:=by simpa using h
   have h2:¬j=i:=λz=>h z.symm;rw[h1];simp only[gH,h2,false_and,or_false,Bool.false_eq_true,if_false]
   by_cases z:i<=j
   ·have:¬j<i:=by lia
    simp[z,this]
   ·have:j<i:=by lia
    simp[z,this]
def IY(c d:List Int):ip [.tuple (c.map .int)] [.tuple (d.map .int)]=some (!decide (d<c)):=by
 have e1:Yh (.tuple (c.map .int)) (.tuple (d.map .int))=some (!decide (d<c)):=by rw[Yh];exact Bq c d
 have e2:eL (.tuple (c.map .int)) (.tuple (d.map .int))=decide (c=d):=by rw[eL];exact ug c d
 rw[ip,e1,e2];show some (if decide (c=d)=true then true else !decide (d<c))=_
 by_cases z:c=d
 ·subst z;simp[kF]
 ·simp[z]
def Xi(f g:Fc):ip [.str f.1,.tuple (f.2.map .int)] [.str g.1,.tuple (g.2.map .int)]=some (!decide (Ft g<Ft f)):=by
 obtain⟨x,c⟩:=f;obtain⟨y,d⟩:=g;dsimp only;have ex:Yh (.str x) (.str y)=some (!decide (y.cps.toList<x.cps.toList)):=by rw[Yh]
 rw[ip,IY,ex];have e3:eL (.str x) (.str y)=decide (x=y):=by rw[eL];by_cases e:x=y<;>simp[e]
 rw[e3];show some (if decide (x=y)=true then !decide (d<c)else !decide (y.cps.toList<x.cps.toList))=_
 congr 1
 have q:decide (Ft (y,d)<Ft (x,c))=decide (y.cps.toList<x.cps.toList\/(y.cps.toList=x.cps.toList/\d<c)):=decide_eq_decide.mpr (yo y.cps.toList x.cps.toList d c);rw[q]
 by_cases z:x=y
 ·subst z;simp[kF]
 ·have z':y.cps.toList≠x.cps.toList:=λe=>z (Kj e.symm);simp[z,z']
def B0{f:Fc}(ok:eK f.1=true):eX (.tuple [.str f.1,.tuple (f.2.map gK)])=true:=by
 obtain⟨h1,h2,_⟩:=Cv (b:=2) (k:=Ft f) (xs:=[.str f.1,.tuple (f.2.map gK)]) ⟨f.1,f.2,rfl,ok,rfl⟩;unfold eX;rw[dQ];refine⟨?_,decide_eq_true ?_⟩
 ·rw[fM];exact h1
 ·rw[iK];lia
def U2{f g:Fc}(hf:eK f.1=true)(hg:eK g.1=true):uu (fD f) (fD g)=some (.bl (!decide (Ft g<Ft f))):=by
 have toPy_fD:∀f:Fc,cg (fD f)=some (.tuple [.str f.1,.tuple (f.2.map gK)]):=λf=>by
  unfold fD;rw[cg,cn,cn,cn,cg,cg,n6]
 unfold uu;rw[show UZ (fD f) (fD g)=none from rfl];show(WX (fD f) (fD g)).map Pu.D.bl=_;unfold WX;rw[toPy_fD,toPy_fD];dsimp only;rw[B0 hf,B0 hg,qW,dJ rfl,Yh,Xi];rfl
def wo(f:Fc):Prop:=Kq f.1=true/\1<=f.2.length/\f.2.length<=4
def Cm{f:Fc}(h:wo f):eK f.1=true:=ku h.1
def tA(n:Nat):En->Res:=(vi (gw (fc (g1 (bb "tuple") (ah 3)))) (vi (g2 ib (g1 bu (ah 3)) (gC (.int 2))) (vi (gw (fc (aq (ai (tab n) my) (af (g2 aj (ah 3) (gC (.int 0))) ao)))) (gw (fc (g1 (bb "tuple") (g2 aj (ah 3) (gC (.int 1)))))))))
def tB(n:Nat):En->Res:=(vi (g2 By (g1 bu (g2 aj (ah 3) (gC (.int 1)))) (gC (.int 1))) (vi (g2 Ax (g1 bu (g2 aj (ah 3) (gC (.int 1)))) (gC (.int 4))) (g2 ib (cb (a5 (g2 aj (ah 3) (gC (.int 1)))) [] (gw (fc (aq (ai (tab n) j3) (af (ah 0) ao)))) (bc 0)) (gj ao))))
def tC:En->Res:=(vi (jv (g2 Ax (ah 2) (gC (.int 0))) (g2 uu (ah 3) (g2 aj (ah 0) (g2 w8 (ah 2) (gC (.int 1)))))) (g2 ib (iu (ah 1) (g2 aj (ah 3) (gC (.int 0))) (g1 bu (g2 aj (ah 3) (gC (.int 1))))) (g1 bu (g2 aj (ah 3) (gC (.int 1))))))
def SV(n:Nat):En->Out:=(ar (b9 3 (g2 aj (ah 0) (ah 2)))
 (ar (ic (tA n) (br (gC (.bl false))) cf)
 (ar (ic (tB n) (br (gC (.bl false))) cf)
 (ar (ic tC (br (gC (.bl false))) cf)
 (yd 1 (g2 aj (ah 3) (gC (.int 0))) (g1 bu (g2 aj (ah 3) (gC (.int 1)))))))))
def YQ(n:Nat){f:Fc}(h:wo f)(v0 v1 v2:Sl):tA (n+1) [v0,v1,v2,.pu (fD f)]=.ok (.bl false):=by
 have e1:=ES n h.1;unfold tA;simp[fD,e1]
def YM(n:Nat){f:Fc}(h:wo f)(v0 v1 v2:Sl):tB (n+1) [v0,v1,v2,.pu (fD f)]=.ok (.bl false):=by
 obtain⟨_,h1,h2⟩:=h;unfold tB fD;have h1':¬(f.2.length:Int)<1:=by lia
 have h2':¬(4:Int)<(f.2.length:Int):=by lia
 have hc:cb (a5 (g2 aj (ah 3) (gC (.int 1)))) [] (gw (fc (aq (ai (tab (n+1)) j3) (af (ah 0) ao)))) (bc 0) [v0,v1,v2,.pu (.tup [.str f.1,.tup (f.2.map Pu.D.int)])]=.ok (.lst ((f.2.filter λx=>false).map Pu.D.int)):=
  K3 (f:=Pu.D.int) (by simp) (by lia) λx hx'=>by
   have w1:ai (tab (n+1)) j3 [.int x]=.ok (.bl true):=by rw[Lg];simp[Bb]
   simp[b8,w1]
 rw[List.filter_eq_nil_iff.mpr (by simp)]at hc;have en:ib (.lst []) (.lst [])=some (.bl false):=by kernel_rfl
 simp[h1',h2',hc,en]
def YJ{ts:List Pu.D}{f:Fc}(h:wo f){kvs:List (Pu.D×Pu.D)}(hv:∀d,bq kvs (.inr f.1)=some d->d=.int (f.2.length:Nat)){k:Nat}(hp:k=0\/∃j q,k=j+1/\Ft q<Ft f/\eK q.1=true/\aj (.lst ts) (.int (j:Int))=some (fD q)):
  tC [.bo (.lst ts),.od false kvs,.pu (.int (0+(k:Int))),.pu (fD f)]=.ok (.bl false):=by
 have ll:g1 bu (g2 aj (ah 3) (gC (.int 1))) [.bo (.lst ts),.od false kvs,.pu (.int (0+(k:Int))),.pu (fD f)]=.ok (.int (f.2.length:Nat)):=by simp[fD]
 have gg:iu (ah 1) (g2 aj (ah 3) (gC (.int 0))) (g1 bu (g2 aj (ah 3) (gC (.int 1)))) [.bo (.lst ts),.od false kvs,.pu (.int (0+(k:Int))),.pu (fD f)]=.ok (.int (f.2.length:Nat)):=by
  cases e:bq kvs (.inr f.1)with
  |none=>unfold iu;simp[fD,bw,e]
  |some d=>
   have:=hv d e;subst this;unfold iu;simp[fD,bw,e]
 have aa:jv (g2 Ax (ah 2) (gC (.int 0))) (g2 uu (ah 3) (g2 aj (ah 0) (g2 w8 (ah 2) (gC (.int 1))))) [.bo (.lst ts),.od false kvs,.pu (.int (0+(k:Int))),.pu (fD f)]=.ok (.bl false):=by
  rcases hp with rfl|⟨j,q,rfl,lt,hq,hi⟩
  ·rfl
  ·have e1:(0:Int)<0+((j+1:Nat):Int):=by push_cast;lia
   have e2:(0+((j+1:Nat):Int)) - 1=(j:Int):=by push_cast;lia
   have le:=U2 (Cm h) hq;rw[decide_eq_true lt]at le;generalize (0+((j+1:Nat):Int))=z at e1 e2⊢;simp[e1,e2,hi,le]
 unfold tC;rw[aQ,aa,IV,gg,ll];simp
theorem Gs(n:Nat){G:List Fc}(gg:∀f∈G,wo f)(hc:∀f∈G,∀g∈G,f.1=g.1->f.2.length=g.2.length)(pw:G.Pairwise λf g=>Ft f<Ft g)(hl:G.length<=900):∀(F pre:List Fc)(kvs:List (Pu.D×Pu.D))(v2 v3:Sl),G=pre++F->(∀f∈F,∀d,bq kvs (.inr f.1)=some d->d=.int (f.2.length:Nat))->kvs.length<=pre.length->
  ∃kvs' w2 w3,turns (a0 2) (SV (n+1)) (DM pre.length F.length) [.bo (.lst (G.map fD)),.od false kvs,v2,v3]=.nx [.bo (.lst (G.map fD)),.od false kvs',w2,w3]
 |[],pre,kvs,v2,v3,_,_,_=>⟨kvs,v2,v3,rfl⟩
 |f::F,pre,kvs,v2,v3,e,hk,kl=>by
  have fG:f∈G:=e▸List.mem_append.mpr (.inr dH);have gf:=gg f fG;have at_:∀(j:Nat)(q:Fc),G[j]?=some q->aj (.lst (G.map fD)) (.int (j:Int))=some (fD q):=λj q h=>L2.rh (by rw[eP,h];rfl);have hi:=at_ pre.length f (by rw[e];simp);have hi':aj (.lst (G.map fD)) (.int (0+(pre.length:Int)))=some (fD f):=by rw[Int.zero_add];exact hi
  have a:=YQ n gf (.bo (.lst (G.map fD))) (.od false kvs) (.pu (.int (0+(pre.length:Int))));have b:=YM n gf (.bo (.lst (G.map fD))) (.od false kvs) (.pu (.int (0+(pre.length:Int))));have c:=YJ (ts:=G.map fD) (k:=pre.length) gf (hk f dH) (by
   rcases List.eq_nil_or_concat pre with rfl|⟨p,q,rfl⟩
   ·exact .inl rfl
   ·refine .inr ⟨p.length,q,by simp,?_,Cm (gg q (e▸by simp)),at_ _ _ (by rw[e];simp)⟩;rw[e,pC]at pw;exact pw.2.2 q (by simp) f (by simp))
  have pl:kvs.length<dN:=by
   have:=congrArg kS e;rw[dU]at this;show _<16777216
   lia
  obtain⟨kvs',w2,w3,ih⟩:=Gs n gg hc pw hl F (pre++[f]) (pz kvs (.inr f.1) (.int (f.2.length:Nat))) (.pu (.int (0+(pre.length:Int)))) (.pu (fD f)) (by rw[e];simp) (λg hg d hd=>by
   rw[Ei]at hd;split at hd
   ·rename_i z;cases hd;rw[hc f fG g (e▸by simp[hg]) (Sum.inr.inj z).symm]
   ·exact hk g (dF _ hg) d hd) (by have:=GJ kvs (.inr f.1) (.int (f.2.length:Nat));rw[dU];simp;lia)
  refine⟨kvs',w2,w3,?_⟩;rw[dU,List.length_singleton]at ih;rw[dI,Lv,bx (δ1:=[.bo (.lst (G.map fD)),.od false kvs,.pu (.int (0+(pre.length:Int))),v3]) rfl];have eb:SV (n+1) [.bo (.lst (G.map fD)),.od false kvs,.pu (.int (0+(pre.length:Int))),v3]=.nx [.bo (.lst (G.map fD)),.od false (pz kvs (.inr f.1) (.int (f.2.length:Nat))),.pu (.int (0+(pre.length:Int))),.pu (fD f)]:=by
   unfold SV;generalize (0+(pre.length:Int))=z at hi' a b c;generalize G.map fD=ts at *;simp[hi',a,b,c];simp[fD,yd,X0,w9,bw,pl]
  rw[eb];exact ih
def O8(n:Nat){G:List Fc}(gg:∀f∈G,wo f)(hc:∀f∈G,∀g∈G,f.1=g.1->f.2.length=g.2.length)(pw:G.Pairwise λf g=>Ft f<Ft g)(hl:G.length<=900):ai (tab (n+2)) k8 [.lst (G.map fD)]=.ok (.bl true):=by
 rw[F4];obtain⟨kvs',w2,w3,h⟩:=Gs n gg hc pw hl G [] [] .no .no rfl (λf _ d e=>by cases e) (dR _);have hr:c8 (a0 2) (je (af (g1 bu (ah 0)) ao)) (SV (n+1)) [.bo (.lst (G.map fD)),.od false [],.no,.no]=.nx [.bo (.lst (G.map fD)),.od false kvs',w2,w3]:=by
  rw[cm (u9 _ _ (j':=(G.length:Int)) (by simp) (by lia))];refine Eq.trans ?_ h
  congr 1
  unfold DM ir;rw[iN,List.range_eq_range'];rfl
 unfold SV tA tB tC at hr;simp -implicitDefEqProofs [we,hr]
theorem pass{α:Type}{f:α->Pu.D}{F:En->Out}{tg:Pu.D->En->Option En}{st:Sl->En}(ht:∀d s,tg d (st s)=some (st (.pu d))):∀(l:List α)(s:Sl),(∀a∈l,F (st (.pu (f a)))=.nx (st (.pu (f a))))->∃w,turns tg F (l.map f) (st s)=.nx (st w)
 |[],s,_=>⟨s,rfl⟩
 |a::l,s,h=>by
  obtain⟨w,e⟩:=pass ht l (.pu (f a)) λb hb=>h b (dF _ hb);refine⟨w,?_⟩;rw[dC,bx (ht _ _),h a dH];exact e
def pD(p:Str×Tm):Pu.D:=.tup [.str p.1,p.2.D]
def Q4(l:Sub):vc l=.lst (l.map pD):=rfl
theorem Sk{x:Str}:∀{l:Sub},x∉l.map (·.1)->lk l x=none
 |[],_=>rfl
 |(y,u)::r,h=>by
  simp only[dC,gD,not_or]at h;show(if y=x then some u else lk r x)=none;rw[dM (λz=>h.1 z.symm)];exact Sk h.2
def UI:En->Out:=(yd 2 (g2 aj (ah 3) (gC (.int 0))) (g2 aj (ah 3) (gC (.int 1))))
theorem Tf(v0 v1:Sl):∀(l acc:Sub)(v3:Sl),((acc++l).map (·.1)).Nodup->acc.length+l.length<=1000->∃w3,turns (a0 3) UI (l.map pD) [v0,v1,.od false (sD acc),v3]=.nx [v0,v1,.od false (sD (acc++l)),w3]
 |[],acc,v3,_,_=>⟨v3,by rw[gZ];rfl⟩
 |(x,t)::l,acc,v3,nd,hl=>by
  rw[dI]at hl;have hno:lk acc x=none:=Sk λhm=>by
   rw[fQ]at nd;exact(List.nodup_append.mp nd).2.2 x hm x (by simp) rfl
  obtain⟨w3,e⟩:=Tf v0 v1 l (acc++[(x,t)]) (.pu (pD (x,t))) (by simpa using nd) (by rw[dU];simp;lia);refine⟨w3,?_⟩;have hsl:(sD acc).length<dN:=by rw[J7];show _<16777216;lia
  have eb:UI [v0,v1,.od false (sD acc),.pu (pD (x,t))]=.nx [v0,v1,.od false (sD (acc++[(x,t)])),.pu (pD (x,t))]:=by
   have hp:=E1 t hno;simp[UI,pD,yd,X0,w9,bw,hsl,hp]
  rw[dC,bx (δ1:=[v0,v1,.od false (sD acc),.pu (pD (x,t))]) rfl,eb];dsimp only;rw[e];simp
def HS(n:Nat){l:Sub}{ts:List Tm}(nd:(l.map (·.1)).Nodup)(hl:l.length<=1000)(ht:ts.length<=1000):ai (tab (n+1)) i6 [vc l,.tup (ts.map Tm.D)]=.ok (.tup ((ts.map (kj l)).map Tm.D)):=by
 rw[Ou,Q4];obtain⟨w3,e⟩:=Tf (.bo (.lst (l.map pD))) (.bo (.tup (ts.map Tm.D))) l [] .no (by simpa using nd) (by simp;lia);have hf:c8 (a0 3) (a5 (vz 0)) UI [.bo (.lst (l.map pD)),.bo (.tup (ts.map Tm.D)),.od false [],.no]=.nx [.bo (.lst (l.map pD)),.bo (.tup (ts.map Tm.D)),.od false (sD l),w3]:=(cm (ds:=l.map pD) (by simp)).trans e;have hc:cb (a5 (ah 1)) [2] (gC (.bl true)) (iu (ah 1) (ah 0) (bc 0)) [.bo (.lst (l.map pD)),.bo (.tup (ts.map Tm.D)),.od false (sD l),w3]=.ok (.lst (ts.map λt=>(kj l t).D)):=
  i4 (f:=Tm.D) (by simp) (by lia) λt ht=>D4 (t:=t) (by simp[b8]) (by simp[b8]) (by simp[b8])
 have hm:(ts.map λt=>(kj l t).D)=(ts.map (kj l)).map Tm.D:=by rw[eQ];rfl
 rw[hm]at hc;unfold UI at hf;simp[Df,hf,hc,-eQ]
def EN{xs:List Str}(h:∀x∈xs,eK x=true):ib (.lst (xs.map Pu.D.str)) (.lst (xs.map Pu.D.str))=some (.bl false):=by
 have e:cg (.lst (xs.map Pu.D.str))=some (.list (xs.map kH)):=by rw[cg,ye]
 have d:(PyData.list (xs.map kH)).depth<=63:=by
  have q:∀l:List Str,eU (l.map kH)<=0:=λl=>by
   induction l with
   |nil=>exact dR 0
   |cons x l ih=>rw[dC,eU];have:(kH x).depth<=0:=dR 0;lia
  have:=q xs;rw[iK];lia
 have c:(PyData.list (xs.map kH)).canLay0=true:=by rw[fM];exact t9 h
 unfold ib;rw[Jl e e c d c d,eL,yp (f:=kH) (λa b=>by rw[eL];by_cases h:a=b<;>simp[h])];simp
theorem Yj{s:Sub}{x:Str}:∀{xs:List Str},x∈xs->lk (p6 s xs) x=some ((lk s x).getD (.s x))
 |[],h=>by cases h
 |y::r,h=>by
  show(if y=x then some ((lk s y).getD (.s y))else lk (p6 s r) x)=_
  by_cases e:y=x
  ·rw[dJ e,e]
  ·rw[dM e];rcases List.mem_cons.mp h with h|h
   ·exact absurd h.symm e
   ·exact Yj h
def Th{s:Sub}{xs:List Str}{ts ws:List Tm}(hx:∀x,Tm.s x∈ts->x∈xs)(e:ts.map (N5 s)=ws.map some):ts.map (kj (p6 s xs))=ws:=by
 rw[<-Sq e];refine gJ λt ht=>?_;cases t with
 |i z=>rfl
 |s x=>
  show(lk (p6 s xs) x).getD (.s x)=bZ s x;rw[Yj (hx x ht)];rfl
def YT:En->Out:=(ic (vi (gw (fc (g1 (bb "tuple") (ah 3)))) (g2 ib (g1 bu (ah 3)) (gC (.int 2)))) (br (gC (.bl false))) cf)
def YS(se:List Pu.D->Res):En->Out:=(ic (g2 c7 (gz (af (g2 aj (ah 4) (gC (.int 0))) (af (aq se (af (ah 0) (af (g2 aj (ah 4) (gC (.int 1))) ao))) ao))) (g2 aj (ah 1) (gC (.int 1)))) (br (gC (.bl false))) cf)
def Uu(n:Nat){one other:l0}(A1:QA one)(A2:QA other){s:Sub}(h:Ko one other=some s):ai (tab (n+2)) md [vc (p6 s (fb [] (a7 other.2))),aD one,aD other]=.ok (.bl true):=by
 obtain⟨w1,w2⟩:=N2 h;have al:=A2.al;have xl:(fb [] (a7 other.2)).length<=1000:=by
  have q1:=vg (a7 other.2) [];have q2:=sf λa ha=>(A2.toAskd.a4 a ha).2;simp at q1
  lia
 have ls:=Aq n true (as:=other.2) A2.toAskd.a4 (by lia);simp only[if_true]at ls;have sk:=HH A2.toAskd.aw;have nx:=EN sk;have mx:∀{x:Str},x∈a7 other.2->x∈fb [] (a7 other.2):=λ{x} hx=>(ia x _ []).mpr (.inr hx);have hd0:other.1.map (kj (p6 s (fb [] (a7 other.2))))=one.1:=Th (λx hx=>mx (gy.mpr (A2.ask.2 x hx))) w1;have at0:∀a∈other.2,(At.mk a.nm (a.ts.map (kj (p6 s (fb [] (a7 other.2))))))∈one.2:=λa ha=>by
  obtain⟨t,ht,e1,e2⟩:=w2 a ha;rw[Th (λx hx=>mx (gy.mpr ⟨a,ha,hx⟩)) e2,<-show t.nm=a.nm from e1];exact ht
 have nd:((p6 s (fb [] (a7 other.2))).map (·.1)).Nodup:=by
  have:(p6 s (fb [] (a7 other.2))).map (·.1)=fb [] (a7 other.2):=by unfold p6;rw[eQ];exact List.map_id _
  rw[this];exact mi _ _ iZ
 have wl:(p6 s (fb [] (a7 other.2))).length<=1000:=by unfold p6;rw[dD];exact xl
 have se:∀ts:List Tm,ts.length<=1000->ai (tab (n+1)) i6 [vc (p6 s (fb [] (a7 other.2))),.tup (ts.map Tm.D)]=.ok (.tup ((ts.map (kj (p6 s (fb [] (a7 other.2))))).map Tm.D)):=λts ht=>HS n nd wl ht;have keys:∀δ:En,δ[0]?=some (.bo (vc (p6 s (fb [] (a7 other.2)))))->cb (a5 (ah 0)) [] (gC (.bl true)) (g2 aj (ah 0) (gC (.int 0))) δ=.ok (.lst ((fb [] (a7 other.2)).map Pu.D.str)):=λδ h0=>by
  have:=i4 (r:=a5 (ah 0)) (ix:=[]) (g:=g2 aj (ah 0) (gC (.int 0))) (δ:=δ) (l:=p6 s (fb [] (a7 other.2))) (f:=pD) (f':=λp=>.str p.1) (by simp[h0,Q4]) (by lia) λp hp=>by simp[b8,pD]
  rw[this];unfold p6;rw[eQ];rfl
 generalize hW:p6 s (fb [] (a7 other.2))=W at *;generalize fb [] (a7 other.2)=X at *;have he:=A2.hl;have hse:=se other.1 (by lia);rw[hd0]at hse;have eqh:dh (.tup (one.1.map Tm.D)) (.tup (one.1.map Tm.D))=some (.bl true):=by
  unfold dh;rw[CH A1.toAskd.hw A1.toAskd.hw];simp
 obtain⟨x3,f3⟩:=pass (f:=pD) (F:=YT) (tg:=a0 3) (st:=λv=>[.bo (vc W),.bo (aD one),.bo (aD other),v,.no]) (λd s=>rfl) W .no λp _=>by simp[YT,pD]
 obtain⟨x4,f4⟩:=pass (f:=At.D) (F:=YS (ai (tab (n+1)) i6)) (tg:=a0 4) (st:=λv=>[.bo (vc W),.bo (aD one),.bo (aD other),x3,v]) (λd s=>rfl) other.2 .no λa ha=>by
  have q:=se a.ts (by have:=(A2.toAskd.a4 a ha).2;lia);have m:=at0 a ha;have i:=Xw (A1.toAskd.aw _ m) A1.toAskd.aw;rw[decide_eq_true m]at i;have i':ja (.tup [.str a.nm,.tup ((a.ts.map (kj W)).map Tm.D)]) (.tup (one.2.map At.D))=some (.bl false):=i;simp[YS,At.D,q,i',aD,cv,-eQ]
 have g3:c8 (a0 3) (a5 (vz 0)) YT [.bo (vc W),.bo (aD one),.bo (aD other),.no,.no]=.nx [.bo (vc W),.bo (aD one),.bo (aD other),x3,.no]:=(cm (ds:=W.map pD) (by simp[Q4])).trans f3;have g4:c8 (a0 4) (a5 (g2 aj (ah 2) (gC (.int 1)))) (YS (ai (tab (n+1)) i6)) [.bo (vc W),.bo (aD one),.bo (aD other),x3,.no]=.nx [.bo (vc W),.bo (aD one),.bo (aD other),x3,x4]:=(cm (ds:=other.2.map At.D) (by simp[aD,cv])).trans f4;have k:=keys [.bo (vc W),.bo (aD one),.bo (aD other),x3,.no] rfl;rw[Jh];unfold YT at g3;unfold YS at g4;unfold vc aD cv at *;simp[yi,g3,k,ls,nx,g4,hse,eqh]
def Rf{one other:l0}{m:Int}{G:List Fc}(A:QA one)(B:BkOf one other m G):(∀f∈G,wo f)/\(∀f∈G,∀g∈G,f.1=g.1->f.2.length=g.2.length)/\Bk (G.map fA):=by
 have gf:∀f∈G,∃a∈one.2,f=(a.nm,a.ts.map (fi (nS one m))):=λf hf=>by
  obtain⟨a,ha,e⟩:=List.mem_map.mp ((B.f f).mp hf);exact⟨a,ha,e.symm⟩
 have g1:∀f∈G,wo f:=λf hf=>by
  obtain⟨a,ha,rfl⟩:=gf f hf;obtain⟨h1,h2,h3,_⟩:=A.g a ha;unfold wo;dsimp only;rw[dD];exact⟨h1,h2,h3⟩
 refine⟨g1,λf hf g hg e=>?_,?_,λt ht=>?_⟩
 ·obtain⟨a,ha,rfl⟩:=gf f hf;obtain⟨b,hb,rfl⟩:=gf g hg;dsimp only;rw[dD,dD];exact A.sh a ha b hb e
 ·have:=B.l;have:=A.l5;rw[dD]
  lia
 ·obtain⟨f,hf,rfl⟩:=List.mem_map.mp ht;refine⟨Cm (g1 f hf),λu hu=>?_⟩;obtain⟨z,_,rfl⟩:=List.mem_map.mp hu;exact⟨z,rfl⟩
def Vw(n:Nat){one other:l0}(A1:QA one)(A2:QA other){s:Sub}(h:Ko one other=some s):ai (tab (n+3)) fk [aD one,aD other,.tup [.str "way",vc (p6 s (fb [] (a7 other.2)))]]=.ok (.bl true):=by
 have e:=Uu n A1 A2 h;generalize vc _=W at *;generalize aD one=o1 at *;generalize aD other=o2 at *;rw[Bg];have i:aj (.lst [.non,.bl true]) (.int 1)=some (.bl true):=by kernel_rfl
 have w:=Tu;have q:M9 (.bl true)=some (.int 1):=rfl;simp[om,w,e,q,i]
def Qd(n:Nat){one other:l0}(A1:QA one)(A2:QA other){m:Int}{G:List Fc}(B:BkOf one other m G)(h:Ko one other=none):ai (tab (n+4)) fk [aD one,aD other,Gr one m G]=.ok (.bl false):=by
 obtain⟨g1,g2,K⟩:=Rf A1 B;have e:=O8 (n+1) g1 g2 B.w (by have:=B.l;have:=A1.l5;lia);obtain⟨R1,a1,a2,_⟩:=Dc n A1 K;obtain⟨R2,b1,b2,_⟩:=Dc n A2 K;have i1:=(R8 (r:=H9 one m) (R:=R1)).1;have i2:=(R8 (r:=H9 one m) (R:=R2)).2;rw[decide_eq_true ((a2 _).mpr (CQ A1 B K))]at i1;rw[decide_eq_false (λz=>Wu A1 A2 B h ((b2 _).mp z))]at i2;rw[RF]at a1 b1;have w:=Ny;have nb:ib (.str "book") (.str "book")=some (.bl false):=by kernel_rfl
 rw[Bg];show df (om (n+3) [.bo (aD one),.bo (aD other),.bo (.tup [.str "book",.lst (G.map fD),tI (H9 one m)])])=_;generalize tI (H9 one m)=rw_ at *;generalize aD one=o1 at *;generalize aD other=o2 at *;generalize G.map fD=Gd at *;generalize R1.map tI=S1 at *;generalize R2.map tI=S2 at *;simp -implicitDefEqProofs [om,w,nb,e,a1,b1,i1,i2]
def sr(n:Nat){one other:l0}(A1:QA one)(A2:QA other)(hl:one.1.length=other.1.length):∃d,ai (tab (n+10)) gu [aD one,aD other]=.ok d/\(∀k,ai (tab (k+4)) fk [aD one,aD other,d]=.ok (.bl (Ko one other).isSome))/\((∃W,d=.tup [.str "way",W])\/∃m G,BkOf one other m G/\d=Gr one m G):=by
 obtain⟨h1,h2⟩:=Ik n A1.toGA A2.toGA A1.ask A2.ask hl;cases e:Ko one other with
 |some s=>exact⟨_,h1 s e,λk=>Vw (k+1) A1 A2 e,.inl ⟨_,rfl⟩⟩
 |none=>
  obtain⟨m,G,B,h⟩:=h2 e;exact⟨_,h,λk=>Qd k A1 A2 B e,.inr ⟨m,G,B,rfl⟩⟩
structure IntK(kvs:List (Pu.D×Pu.D)):Prop where
 s:∀x:Str,bq kvs (.inr x)=none
 i:∀(z:Int) d,bq kvs (.inl z)=some d->∃y:Int,d=.int y
def IntK.nil:IntK []:=⟨λ_=>rfl,λ_ _ h=>by cases h⟩
def IntK.put{kvs:List (Pu.D×Pu.D)}(h:IntK kvs)(z y:Int):IntK (pz kvs (.inl z) (.int y)) where
 s:=λx=>by
  rw[Ei,dM (λe=>nomatch e)];exact h.s x
 i:=λw d e=>by
  rw[Ei]at e;split at e
  ·cases e;exact⟨y,rfl⟩
  ·exact h.i w d e
def ZV(kvs:List (Pu.D×Pu.D))(z:Int):Int:=match bq kvs (.inl z)with
 |some (.int y)=>y
 |_=>z
def QT(kvs:List (Pu.D×Pu.D)):Tm->Tm
 |.s x=>.s x
 |.i z=>.i (ZV kvs z)
def LQ{kvs:List (Pu.D×Pu.D)}(hk:IntK kvs){t:Tm}{d k x:En->Res}{δ:En}(hd:d δ=.ok (.dct false kvs))(h1:k δ=.ok t.D)(hx:x δ=.ok t.D):iu d k x δ=.ok (QT kvs t).D:=by
 unfold iu;rw[hd,h1,hx];cases t with
 |s x=>
  show Res.ok ((bq kvs (.inr x)).getD _)=_;rw[hk.s x];rfl
 |i z=>
  show Res.ok ((bq kvs (.inl z)).getD _)=.ok (.int (ZV kvs z));unfold ZV;cases e:bq kvs (.inl z)with
  |none=>rfl
  |some d=>
   obtain⟨y,rfl⟩:=hk.i z d e;rfl
def KC(kvs:List (Pu.D×Pu.D))(a:At):At:=⟨a.nm,a.ts.map (QT kvs)⟩
def IF(kvs:List (Pu.D×Pu.D))(a:l0):l0:=(a.1.map (QT kvs),a.2.map (KC kvs))
def xg(n:Nat){a:l0}(A:Askd a){kvs:List (Pu.D×Pu.D)}(hk:IntK kvs):ai (tab (n+1)) fj [aD a,.dct false kvs]=.ok (aD (IF kvs a)):=by
 have hl:=A.hl;have al:=A.al;have hc:∀(r:En->ResL)(δ:En)(ts:List Tm),r δ=.ok (ts.map Tm.D)->ts.length<=100->(δ[1]?=some (.bo (.dct false kvs))\/δ[1]?=some (.pu (.dct false kvs)))->cb r [1] (gC (.bl true)) (iu (ah 1) (ah 0) (bc 0)) δ=.ok (.lst ((ts.map (QT kvs)).map Tm.D)):=λr δ ts hr h100 h1=>by
  rw[eQ];exact i4 (f:=Tm.D) hr (by lia) λt ht=>LQ hk (by rcases h1 with h|h<;>simp[b8,h]) (by simp[b8]) (by simp[b8])
 have h2:cb (a5 (g2 aj (ah 0) (gC (.int 1)))) [1] (gC (.bl true)) (gz (af (g2 aj (ah 0) (gC (.int 0))) (af (g1 c9 (cb (a5 (g2 aj (ah 0) (gC (.int 1)))) [1] (gC (.bl true)) (iu (ah 1) (ah 0) (bc 0)))) ao))) [.bo (aD a),.bo (.dct false kvs),.no]=.ok (.lst ((a.2.map (KC kvs)).map At.D)):=by
  rw[eQ];refine i4 (f:=At.D) (by simp[aD,cv]) (by lia) λb hb=>?_;have:=hc (a5 (g2 aj (ah 0) (gC (.int 1)))) (b8 [1] [.bo (aD a),.bo (.dct false kvs),.no] (.pu b.D)) b.ts (by simp[b8,At.D]) (by have:=(A.a4 b hb).2;lia) (by simp[b8]);rw[VJ,Q0,Q0,IW,this];simp[b8,At.D,KC,-eQ]
 have h3:=hc (a5 (g2 aj (ah 0) (gC (.int 0)))) [.bo (aD a),.bo (.dct false kvs),.ow ((a.2.map (KC kvs)).map At.D)] a.1 (by simp[aD,cv]) (by lia) (.inl rfl);rw[F3];unfold aD cv at *;simp[wd,h2,h3,IF,-eQ]
def K1{kvs:List (Pu.D×Pu.D)}{t:Tm}(h:t.good):(QT kvs t).good:=by
 cases t with
 |s x=>exact h
 |i z=>trivial
def RN{kvs:List (Pu.D×Pu.D)}{t:Tm}{x:Str}(h:QT kvs t=.s x):t=.s x:=by
 cases t with
 |s y=>exact h
 |i z=>cases h
def QA.ch{a:l0}(A:QA a)(kvs:List (Pu.D×Pu.D)):QA (IF kvs a) where
 h:=λt ht=>by
  obtain⟨u,hu,rfl⟩:=List.mem_map.mp ht;exact K1 (A.h u hu)
 g:=λb hb=>by
  obtain⟨c,hc,rfl⟩:=List.mem_map.mp hb;obtain⟨h1,h2,h3,h4⟩:=A.g c hc;unfold KC At.good;dsimp only;rw[dD];refine⟨h1,h2,h3,λt ht=>?_⟩;obtain⟨u,hu,rfl⟩:=List.mem_map.mp ht;exact K1 (h4 u hu)
 hl:=by show(a.1.map _).length<=4;rw[dD];exact A.hl
 al:=by show(a.2.map _).length<=6;rw[dD];exact A.al
 sh:=λb hb c hc e=>by
  obtain⟨b',hb',rfl⟩:=List.mem_map.mp hb;obtain⟨c',hc',rfl⟩:=List.mem_map.mp hc;unfold KC;dsimp only;rw[dD,dD];exact A.sh b' hb' c' hc' e
 ask:=by
  refine⟨λz=>A.ask.1 (List.map_eq_nil_iff.mp z),λx hx=>?_⟩;obtain⟨u,hu,e⟩:=List.mem_map.mp hx;obtain⟨b,hb,m⟩:=A.ask.2 x (RN e▸hu);exact⟨KC kvs b,mU hb,List.mem_map.mpr ⟨_,m,rfl⟩⟩
 h2:=by show(a.1.map _).length<=2;rw[dD];exact A.h2
 l5:=by show(a.2.map _).length<=5;rw[dD];exact A.l5
def I8(kvs:List (Pu.D×Pu.D))(a:l0):(IF kvs a).1.length=a.1.length:=by unfold IF;rw[dD]
def SL:En->Out:=(zb 1 (cb (a5 (g2 aj (ah 2) (gC (.int 1)))) [] (gw (fc (g1 (bb "str") (ah 0)))) (bc 0)))
theorem Sv(v0:Sl):∀(as:List At)(acc:List Int)(v2:Sl),(∀a∈as,a.ts.length<=4)->acc.length+4 * as.length<=900->∃(N:List Int) (w2:Sl),turns (a0 2) SL (as.map At.D) [v0,.ow (acc.map Pu.D.int),v2]=.nx [v0,.ow (N.map Pu.D.int),w2]/\N.length<=acc.length+4 * as.length
 |[],acc,v2,_,_=>⟨acc,v2,rfl,by simp⟩
 |a::as,acc,v2,h4,hl=>by
  rw[dI]at hl;have ha:=h4 a dH;have nl:(i7 a.ts).length<=a.ts.length:=iB ..;obtain⟨N,w2,e,l⟩:=Sv v0 as (acc++i7 a.ts) (.pu a.D) (λb hb=>h4 b (dF _ hb)) (by rw[dU];lia);refine⟨N,w2,?_,by rw[dU]at l;rw[dI];lia⟩;have hc:=Ae (r:=a5 (g2 aj (ah 2) (gC (.int 1)))) (δ:=[v0,.ow (acc.map Pu.D.int),.pu a.D]) (ts:=a.ts) (by simp[At.D]) (by lia);have hle:acc.length+(i7 a.ts).length<=16777216:=by lia
  have eb:SL [v0,.ow (acc.map Pu.D.int),.pu a.D]=.nx [v0,.ow ((acc++i7 a.ts).map Pu.D.int),.pu a.D]:=by
   unfold SL;simp[hc,hle]
  rw[dC,bx (δ1:=[v0,.ow (acc.map Pu.D.int),.pu a.D]) rfl,eb];exact e
def L9(n:Nat){a:l0}(A:Askd a):∃N:List Int,ai (tab (n+1)) jh [aD a]=.ok (.lst (N.map Pu.D.int))/\N.length<=900:=by
 have hl:=A.hl;have al:=A.al;have nl:(i7 a.1).length<=a.1.length:=iB ..;obtain⟨N,w2,e,l⟩:=Sv (.bo (aD a)) a.2 (i7 a.1) .no (λb hb=>(A.a4 b hb).2) (by lia);refine⟨N,?_,by lia⟩;have hc:=Ae (r:=a5 (g2 aj (ah 0) (gC (.int 0)))) (δ:=[.bo (aD a),.no,.no]) (ts:=a.1) (by simp[aD,cv]) (by lia);have hf:c8 (a0 2) (a5 (g2 aj (ah 0) (gC (.int 1)))) SL [.bo (aD a),.ow ((i7 a.1).map Pu.D.int),.no]=.nx [.bo (aD a),.ow (N.map Pu.D.int),w2]:=(cm (ds:=a.2.map At.D) (by simp[aD,cv])).trans e;unfold SL at hf;rw[F5];unfold aD cv at *;simp[wg,hc,hf]
def N7(a:At):At:=if a.nm="r" then⟨a.nm,a.ts++a.ts.take 1⟩else a
def QP:En->Out:=(ar (ic (g2 dh (ah 2) (gC (.str "r"))) (b9 3 (g2 bf (ah 3) (N6 (ah 3) none (some (gC (.int 1)))))) cf)
 (fz [2,3] (qu 1 (gz (af (bc 2) (af (bc 3) ao))))))
def EX(v0:Sl){a:At}(ha:a.w)(h4:a.ts.length<=4){acc:List At}(hl:acc.length<=900):∃w3,QP [v0,.ow (acc.map At.D),.pu (.str a.nm),.pu (.tup (a.ts.map Tm.D))]=.nx [v0,.ow ((acc++[N7 a]).map At.D),.pu (.str a.nm),w3]:=by
 have hlt:acc.length<16777216:=by lia
 have hq:=Oy (x:=a.nm) (y:="r") ha.1 (by decide+kernel);have sl:=Tp (a.ts.map Tm.D) 1;rw[<-qX]at sl;have sl':vp (.tup (a.ts.map Tm.D)) none (some 1)=some (.tup ((a.ts.take 1).map Tm.D)):=sl;have ad:bf (.tup (a.ts.map Tm.D)) (.tup ((a.ts.take 1).map Tm.D))=some (.tup ((a.ts++a.ts.take 1).map Tm.D)):=by
  rw[fQ];exact dJ (show _<=16777216 by rw[dD,dD,hV];lia)
 unfold N7
 by_cases e:a.nm="r"
 ·rw[decide_eq_true e]at hq;rw[dJ e];refine⟨.pu (.tup ((a.ts++a.ts.take 1).map Tm.D)),?_⟩;generalize a.ts.take 1=U at *;have c:g2 dh (ah 2) (gC (.str "r")) [v0,.ow (acc.map At.D),.pu (.str a.nm),.pu (.tup (a.ts.map Tm.D))]=.ok (.bl true):=by simp[hq]
  have s3:b9 3 (g2 bf (ah 3) (N6 (ah 3) none (some (gC (.int 1))))) [v0,.ow (acc.map At.D),.pu (.str a.nm),.pu (.tup (a.ts.map Tm.D))]=.nx [v0,.ow (acc.map At.D),.pu (.str a.nm),.pu (.tup ((a.ts++U).map Tm.D))]:=by
   simp[N6,JZ,sl',ad,-fQ]
  unfold QP;rw[o9,Q1,c];simp only[ij,s3];simp[hlt,At.D,-fQ];simp[At.D]
 ·rw[decide_eq_false e]at hq;rw[dM e];refine⟨.pu (.tup (a.ts.map Tm.D)),?_⟩;have c:g2 dh (ah 2) (gC (.str "r")) [v0,.ow (acc.map At.D),.pu (.str a.nm),.pu (.tup (a.ts.map Tm.D))]=.ok (.bl false):=by simp[hq]
  unfold QP;rw[o9,Q1,c];simp only[ij,Nu];simp[hlt,At.D]
theorem Sm(v0:Sl):∀(as acc:List At)(v2 v3:Sl),(∀a∈as,a.w/\a.ts.length<=4)->acc.length+as.length<=900->∃w2 w3,turns (ti [2,3]) QP (as.map At.D) [v0,.ow (acc.map At.D),v2,v3]=.nx [v0,.ow ((acc++as.map N7).map At.D),w2,w3]
 |[],acc,v2,v3,_,_=>⟨v2,v3,by simp[turns]⟩
 |a::as,acc,v2,v3,h,hl=>by
  rw[dI]at hl;obtain⟨ha,h4⟩:=h a dH;obtain⟨x3,e⟩:=EX v0 ha h4 (acc:=acc) (by lia);obtain⟨w2,w3,q⟩:=Sm v0 as (acc++[N7 a]) (.pu (.str a.nm)) x3 (λb hb=>h b (dF _ hb)) (by rw[dU];simp;lia);refine⟨w2,w3,?_⟩;rw[dC,bx (δ1:=[v0,.ow (acc.map At.D),.pu (.str a.nm),.pu (.tup (a.ts.map Tm.D))]) rfl,e];dsimp only;rw[q,dC,oD,List.singleton_append]
def SS(a:l0):l0:=(a.1,a.2.map N7)
def U3(n:Nat){a:l0}(A:Askd a):ai (tab (n+1)) gr [aD a]=.ok (aD (SS a)):=by
 have al:=A.al;obtain⟨w2,w3,e⟩:=Sm (.bo (aD a)) a.2 [] .no .no A.a4 (by simp;lia);have hf:c8 (ti [2,3]) (a5 (g2 aj (ah 0) (gC (.int 1)))) QP [.bo (aD a),.ow [],.no,.no]=.nx [.bo (aD a),.ow ((a.2.map N7).map At.D),w2,w3]:=(cm (ds:=a.2.map At.D) (by simp[aD,cv])).trans e;unfold QP at hf;rw[Ag];unfold aD cv at *;simp[p9,hf,SS,-eQ]
def QD.ln{a:l0}(A:QD a):QA (SS a):=by
 have n1:("s":Str)≠"r":=by decide+kernel
 have n2:("t":Str)≠"r":=by decide+kernel
 have nm:∀b:At,(N7 b).nm=b.nm:=λb=>by unfold N7;split<;>rfl
 have sub:∀b:At,∀t∈(N7 b).ts,t∈b.ts:=λb t ht=>by
  unfold N7 at ht;split at ht
  ·rcases List.mem_append.mp ht with h|h
   ·exact h
   ·exact pB h
  ·exact ht
 have sup:∀b:At,∀t∈b.ts,t∈(N7 b).ts:=λb t ht=>by
  unfold N7;split
  ·exact List.mem_append.mpr (.inl ht)
  ·exact ht
 have len:∀b∈a.2,(b.nm="r"/\(N7 b).ts.length=3)\/(b.nm≠"r"/\N7 b=b):=λb hb=>by
  rcases A.s2 b hb with ⟨h1,h2⟩|⟨h1,h2⟩|⟨h1,h2⟩
  ·refine .inl ⟨h1,?_⟩;unfold N7;rw[dJ h1];show(b.ts++b.ts.take 1).length=3;rw[dU,hV]
   lia
  ·exact .inr ⟨by rw[h1];exact n1,dM (by rw[h1];exact n1)⟩
  ·exact .inr ⟨by rw[h1];exact n2,dM (by rw[h1];exact n2)⟩
 refine⟨⟨⟨A.h,λb hb=>?_,A.hl,?_⟩,λb hb c hc e=>?_⟩,⟨λz=>A.ask.1 (List.map_eq_nil_iff.mp z),λx hx=>?_⟩,A.h2,?_⟩
 ·obtain⟨c,hc,rfl⟩:=List.mem_map.mp hb;obtain⟨h1,h2,h3,h4⟩:=A.g c hc;refine⟨by rw[nm];exact h1,?_,?_,λt ht=>h4 t (sub c t ht)⟩
  ·rcases len c hc with ⟨_,l⟩|⟨_,l⟩<;>rw[l];decide;exact h2
  ·rcases len c hc with ⟨_,l⟩|⟨_,l⟩<;>rw[l];decide;exact h3
 ·show(a.2.map _).length<=6;rw[dD];exact A.al
 ·obtain⟨b',hb',rfl⟩:=List.mem_map.mp hb;obtain⟨c',hc',rfl⟩:=List.mem_map.mp hc;rw[nm,nm]at e;rcases len b' hb' with ⟨p,l⟩|⟨p,l⟩<;>rcases len c' hc' with ⟨p',l'⟩|⟨p',l'⟩
  ·rw[l,l']
  ·exact absurd (e▸p) p'
  ·exact absurd (e▸p') p
  ·rw[l,l'];exact A.sh b' hb' c' hc' e
 ·obtain⟨b,hb,m⟩:=A.ask.2 x hx;exact⟨N7 b,mU hb,sup b _ m⟩
 ·show(a.2.map _).length<=5;rw[dD];exact A.l5
def AI{f:Fc}(h:wo f):VA (fD f):=by
 rw[<-RG];refine⟨_,Kl _,Pg ⟨Cm h,λt ht=>?_⟩,by have:=Xa (fA f);lia⟩;obtain⟨z,_,rfl⟩:=List.mem_map.mp ht;trivial
def EO:ib (.str "book") (.str "book")=some (.bl false):=by kernel_rfl
def MY:ib (.str "way") (.str "book")=some (.bl true):=by kernel_rfl
def Pb{ds:List Pu.D}{z:Int}(h0:0<=z)(h1:z<ds.length):∃d∈ds,aj (.lst ds) (.int z)=some d:=by
 obtain⟨k,rfl⟩:=Int.eq_ofNat_of_zero_le h0;have hk:k<ds.length:=by lia
 exact⟨ds[k],mR hk,L2.rh (eR hk)⟩
def Wl(n:Nat)(ns:List Int){one other:l0}(A1:QA one)(A2:QA other)(hl:one.1.length=other.1.length){d:Pu.D}(hd:(∃W,d=.tup [.str "way",W])\/∃m G,BkOf one other m G/\d=Gr one m G):ai (tab (n+11)) jz [j8 ns,aD one,aD other,d]=.ok (.bl true):=by
 obtain⟨N,e4,nl⟩:=L9 (n+9) A2.toAskd;rw[Lc];rcases hd with ⟨W,rfl⟩|⟨m,G,B,rfl⟩
 ·have w:=MY;generalize aD one=o1 at *;generalize aD other=o2 at *;simp[oj,e4,w]
 ·obtain⟨gG,_,_⟩:=Rf A1 B;have gl:G.length<=5:=by have:=B.l;have:=A1.l5;lia
  have eG:=(Jk (HN (ds:=G.map fD) λd hd=>by
   obtain⟨f,hf,rfl⟩:=List.mem_map.mp hd;exact AI (gG f hf))).1
  have eN:=(Jk (HN (ds:=N.map Pu.D.int) λd hd=>by
   obtain⟨z,_,rfl⟩:=List.mem_map.mp hd;exact HM z)).1
  have nG:G≠[]:=λz=>by
   obtain⟨b,hb⟩:=List.exists_mem_of_ne_nil _ A1.ask.1;have:=(B.f _).mpr (List.mem_map.mpr ⟨b,hb,rfl⟩);rw[z]at this;cases this
  have w:=EO;unfold Gr;generalize Pu.D.tup ((one.1.map (fi (j9 m 0 (fb [] (a7 one.2))))).map Pu.D.int)=R;have Hm:∀z k:Int,0<=z->0<k->ai (tab (n+10)) az [j8 ns,.int z,.int k]=.ok (.int (jx ns z k)):=λz k hz hk=>jk (n+8) ns z k hz hk;have gp:0<G.length:=List.length_pos_iff.mpr nG;rw[show(G.map fD).isEmpty=false by cases G with|nil=>exact absurd rfl nG|cons _ _=>rfl]at eG;cases hN:N with
  |nil=>
   rw[hN]at e4 eN;have eN':dh (.lst []) (.lst [])=some (.bl true):=eN;have e4':ai (tab (n+10)) jh [aD other]=.ok (.lst []):=e4;generalize aD one=o1 at *;generalize aD other=o2 at *;generalize G.map fD=Gd at *;simp[oj,e4',w,eG,eN']
  |cons z0 N0=>
   have np:0<N.length:=by rw[hN];simp
   rw[show(N.map Pu.D.int).isEmpty=false by rw[hN];rfl]at eN;have m1:=Hm 72 (G.length:Int) (by decide) (by lia);obtain⟨a1,a2⟩:=dq ns 72 (G.length:Int) (by lia);obtain⟨d1,hd1,i1⟩:=Pb (ds:=G.map fD) a1 (by rw[dD];exact a2);obtain⟨f,hf,rfl⟩:=List.mem_map.mp hd1;have m2:=Hm 73 (N.length:Int) (by decide) (by lia);obtain⟨b1,b2⟩:=dq ns 73 (N.length:Int) (by lia);obtain⟨d2,hd2,i2⟩:=Pb (ds:=N.map Pu.D.int) b1 (by rw[dD];exact b2);obtain⟨y,_,rfl⟩:=List.mem_map.mp hd2;have fl:=(gG f hf).2.1;have m3:=Hm 74 (f.2.length:Int) (by decide) (by lia);obtain⟨c1,c2⟩:=dq ns 74 (f.2.length:Int) (by lia);obtain⟨d3,hd3,i3⟩:=Pb (ds:=f.2.map Pu.D.int) c1 (by rw[dD];exact c2);obtain⟨v,_,rfl⟩:=List.mem_map.mp hd3;have i3':aj (.tup (f.2.map Pu.D.int)) (.int (jx ns 74 (f.2.length:Int)))=some (.int v):=i3;have hk:IntK (gc [] [(.inl y,.int v)]):=IntK.nil.put y v;have e7:=xg (n+9) A2.toAskd hk;have A3:=A2.ch (gc [] [(.inl y,.int v)]);obtain⟨d8,e8,e9,_⟩:=sr n A1 A3 (by rw[I8];exact hl);have e9':=e9 (n+6);generalize IF (gc [] [(.inl y,.int v)]) other=fur at *;have s7:uh [((bc 6),(g2 aj (g2 aj (ah 5) (gC (.int 1))) (aq (ai (tab (n+10)) az) (af (ah 0) (af (gC (.int 74)) (af (g1 bu (g2 aj (ah 5) (gC (.int 1)))) ao))))))] [.bo (j8 ns),.pu (aD one),.bo (aD other),.bo (.tup [.str "book",.lst (G.map fD),R]),.pu (.lst (N.map Pu.D.int)),.pu (fD f),.pu (.int y),.no]=.ok (.dct false (gc [] [(.inl y,.int v)])):=by
    unfold uh m6;simp[fD,m3,i3',m6,bw]
   have gL:(G.map fD).length=G.length:=dD ..;generalize aD one=o1 at *;generalize aD other=o2 at *;generalize aD fur=o3 at *;generalize G.map fD=Gd at *;generalize gc [] [(kP y,Pu.D.int v)]=kv at *;clear i3 i3' m3 hd1 hd2 hd3 B gG nG hN hk A3 e9;simp[oj,e4,w,eG,eN,gL,m1,i1,m2,i2,s7,e7,e8,e9',j7]
def DD(mx ch wi sh ag al:List Pu.D->Res):En->Out:=(ar (b9 3 (g2 aj (gj (af (gC (.int 0)) (af (gC (.int 0)) (af (aq mx (af (ah 0) (af (gC (.int 71)) (af (gC (.int 2100)) ao)))) (af (g2 Na (gC (.int 10)) (gC (.int 20))) ao))))) (aq mx (af (ah 0) (af (gC (.int 75)) (af (gC (.int 4)) ao))))))
 (ar (b9 4 (uh [((g1 H8 (gC (.int 1))),(g2 w8 (ah 3) (gC (.int 1)))),((gC (.int 0)),(bc 3)),((gC (.int 1)),(g2 bf (ah 3) (gC (.int 1))))]))
 (ar (b9 1 (aq ch (af (ah 1) (af (ah 4) ao))))
 (ar (b9 2 (aq ch (af (ah 2) (af (ah 4) ao))))
 (ar (fz [1,2] (b9 5 (aq wi (af (bc 1) (af (bc 2) ao)))))
 (ar (b9 6 (aq sh (af (ah 1) (af (ah 2) (af (ah 5) ao)))))
 (ar (fz [2,1] (b9 7 (aq sh (af (ah 2) (af (ah 1) (af (aq wi (af (bc 2) (af (bc 1) ao))) ao))))))
 (ar (fz [1] (ic (vi (g2 l8 (ah 6) (gC .non)) (vi (g2 l8 (ah 7) (gC .non)) (gw (fc (aq ag (af (ah 0) (af (bc 1) (af (ah 2) (af (ah 5) ao))))))))) (br (gC (.bl false))) cf))
 (ar (fz [1,2] (b9 8 (aq al (af (bc 1) (af (bc 2) ao)))))
 (br (jv (g1 (bb "bool") (ah 8)) (g2 dh (ah 8) (jv (bc 6) (bc 7))))))))))))))
def SW(ak ot mx ln ch wi sh ag al:List Pu.D->Res):En->Out:=(ar (b9 1 (aq ak (af (ah 0) (af (gC (.int 0)) (af (gC (.int 4)) ao)))))
 (ar (b9 2 (aq ot (af (ah 0) (af (ah 1) ao))))
 (ar (ic (g2 dh (aq mx (af (ah 0) (af (gC (.int 70)) (af (gC (.int 8)) ao)))) (gC (.int 0))) (b9 2 (aq ln (af (ah 2) ao))) cf)
 (DD mx ch wi sh ag al))))
def Yf(n:Nat):II n=SW (ai (tab n) ff) (ai (tab n) j0) (ai (tab n) az) (ai (tab n) gr) (ai (tab n) fj) (ai (tab n) gu) (ai (tab n) fk) (ai (tab n) jz) (ai (tab n) vd):=rfl
def TV:Na (.int 10) (.int 20)=some (.int 100000000000000000000):=by kernel_rfl
def Ye{mx ch wi sh ag al:List Pu.D->Res}{S o1 o2 c1 c2 d1 d2:Pu.D}{g c m71:Int}{f h:Bool}(h71:mx [S,.int 71,.int 2100]=.ok (.int m71))(h75:mx [S,.int 75,.int 4]=.ok (.int c))(hg:aj (.lst [.int 0,.int 0,.int m71,.int 100000000000000000000]) (.int c)=some (.int g))
  (k1:ch [o1,.dct false (gc [] [(.inl (-1),.int (g - 1)),(.inl 0,.int g),(.inl 1,.int (g+1))])]=.ok c1)(k2:ch [o2,.dct false (gc [] [(.inl (-1),.int (g - 1)),(.inl 0,.int g),(.inl 1,.int (g+1))])]=.ok c2)
  (w1:wi [c1,c2]=.ok d1) (w2:wi [c2,c1]=.ok d2) (s1:sh [c1,c2,d1]=.ok (.bl f)) (s2:sh [c2,c1,d2]=.ok (.bl h)) (a1:ag [S,c1,c2,d1]=.ok (.bl true)) (l1:al [c1,c2]=.ok (.bl (f && h))):
  DD mx ch wi sh ag al [.pu S,.pu o1,.pu o2,.no,.no,.no,.no,.no,.no]=.rt (.bl true):=by
 have p20:=TV;have ng:H8 (.int 1)=some (.int (-1)):=rfl;have s4:uh [((g1 H8 (gC (.int 1))),(g2 w8 (ah 3) (gC (.int 1)))),((gC (.int 0)),(bc 3)),((gC (.int 1)),(g2 bf (ah 3) (gC (.int 1))))] [.pu S,.pu o1,.pu o2,.pu (.int g),.no,.no,.no,.no,.no]=.ok (.dct false (gc [] [(.inl (-1),.int (g - 1)),(.inl 0,.int g),(.inl 1,.int (g+1))])):=by
  unfold uh;simp[m6,bw,ng]
 generalize gc [] [(kP (-1),Pu.D.int (g - 1)),(kP 0,Pu.D.int g),(kP 1,Pu.D.int (g+1))]=kv at *;have q:∀b:Bool,dh (.bl b) (.bl b)=some (.bl true):=λb=>by cases b<;>kernel_rfl
 unfold DD;simp[h71,h75,p20,hg,s4,k1,k2,w1,w2,s1,s2,a1,l1,j7];cases f<;>cases h<;>simp[q]
def DC(n:Nat)(ns:List Int):ai (tab (n+12)) ue [j8 ns]=.ok (.bl true):=by
 rw[RJ,Yf];obtain⟨hd,as,D,e1⟩:=Gg (n+6) ns 0 4 (by decide) (by decide) (by decide);obtain⟨oth,A2,ho,e2⟩:=Y3 (n+5) ns D;have A1:QD (hd,as):=La D;have Hm:∀z k:Int,0<=z->0<k->ai (tab (n+11)) az [j8 ns,.int z,.int k]=.ok (.int (jx ns z k)):=λz k hz hk=>jk (n+9) ns z k hz hk;have m70:=Hm 70 8 (by decide) (by decide);have m71:=Hm 71 2100 (by decide) (by decide);have m75:=Hm 75 4 (by decide) (by decide);obtain⟨r0,r1⟩:=dq ns 75 4 (by decide);obtain⟨g,hg⟩:∃g:Int,aj (.lst [.int 0,.int 0,.int (jx ns 71 2100),.int 100000000000000000000]) (.int (jx ns 75 4))=some (.int g):=by
  generalize jx ns 75 4=c at r0 r1;have:c=0\/c=1\/c=2\/c=3:=by lia
  rcases this with rfl|rfl|rfl|rfl<;>exact⟨_,rfl⟩
 have hk:IntK (gc [] [(.inl (-1),.int (g - 1)),(.inl 0,.int g),(.inl 1,.int (g+1))]):=((IntK.nil.put (-1) (g - 1)).put 0 g).put 1 (g+1);have rest:∀o:l0,QA o->o.1.length=hd.length->DD (ai (tab (n+11)) az) (ai (tab (n+11)) fj) (ai (tab (n+11)) gu) (ai (tab (n+11)) fk) (ai (tab (n+11)) jz) (ai (tab (n+11)) vd) [.pu (j8 ns),.pu (aD (hd,as)),.pu (aD o),.no,.no,.no,.no,.no,.no]=.rt (.bl true):=λo Ao hl=>by
  have C1:=A1.toQA.ch (gc [] [(.inl (-1),.int (g - 1)),(.inl 0,.int g),(.inl 1,.int (g+1))]);have C2:=Ao.ch (gc [] [(.inl (-1),.int (g - 1)),(.inl 0,.int g),(.inl 1,.int (g+1))]);have hl2:(IF (gc [] [(.inl (-1),.int (g - 1)),(.inl 0,.int g),(.inl 1,.int (g+1))]) (hd,as)).1.length=(IF (gc [] [(.inl (-1),.int (g - 1)),(.inl 0,.int g),(.inl 1,.int (g+1))]) o).1.length:=by rw[I8,I8];exact hl.symm
  obtain⟨d1,w1,s1,q1⟩:=sr (n+1) C1 C2 hl2;obtain⟨d2,w2,s2,_⟩:=sr (n+1) C2 C1 hl2.symm;exact Ye m71 m75 hg (xg (n+10) A1.toAskd hk) (xg (n+10) Ao.toAskd hk) w1 w2 (s1 (n+7)) (s2 (n+7)) (Wl n ns C1 C2 hl2 q1) (Wm n C1 C2 hl2)
 have z0:bp [false] [j8 ns]++eA (9 - [j8 ns].length) Sl.no=[.pu (j8 ns),.no,.no,.no,.no,.no,.no,.no,.no]:=rfl;rw[z0];have e3:=U3 (n+10) A2.toAskd;have R1:=rest oth A2.toQA ho;have R2:=rest (SS oth) A2.ln ho;clear rest;have e1':ai (tab (n+11)) ff [j8 ns,.int 0,.int 4]=.ok (aD (hd,as)):=e1;have e2':ai (tab (n+11)) j0 [j8 ns,aD (hd,as)]=.ok (aD oth):=e2;generalize aD (hd,as)=o1 at *;generalize aD oth=o2 at *;generalize aD (SS oth)=o3 at *;generalize jx ns 70 8=c at m70;unfold SW
 by_cases hc:c=0
 ·subst hc;simp[e1',e2',m70,e3,R2]
 ·have hc':(c==0)=false:=beq_eq_false_iff_ne.mpr hc;simp[e1',e2',m70,hc',R1]
def Yg(ns:List Int)(hn:ns.length<=63):ai (tab 29) ue [.lst (ns.map D.int)]=.ok (.bl true):=DC 17 ns
end LK
end
section
namespace LK
open PySem PySem.Spec PyProof.Rows L2 Pu
def aL(K:eB)(d:DefR):Prop:=∃f oc kV dc pm cd ct od an sl,kX K gA d.x=some (some (.ref f))/\K.lookup f=some ⟨oc,od,.func (iU d.x d.x (jm d.st) (f6 d.st) (bz d.st) .none kV dc pm an cd ct),sl⟩/\lF K cd d.x=true/\gO K (.ref f)=true
def cV{K:eB}{d:DefR}{f oc kV dc pm cd ct od an sl}(a:kX K gA d.x=some (some (.ref f)))(l:K.lookup f=some ⟨oc,od,.func (iU d.x d.x (jm d.st) (f6 d.st) (bz d.st) .none kV dc pm an cd ct),sl⟩)(c:lF K cd d.x=true)(k:gO K (.ref f)=true):aL K d:=⟨_,_,_,_,_,_,_,_,_,_,a,l,c,k⟩
def JP:∀d∈Jc,Er d=true/\d.lm=false:=by decide+kernel
def bP{us:List dG}(h:us.length=1):∃a,us=[a]:=List.length_eq_one_iff.mp h
def bO{us:List dG}(h:us.length=2):∃a b,us=[a,b]:=by
 obtain _|⟨a,us⟩:=us
 ·cases h
 ·obtain⟨b,rfl⟩:=bP (Nat.succ.inj h);exact⟨a,b,rfl⟩
def bN{us:List dG}(h:us.length=3):∃a b c,us=[a,b,c]:=by
 obtain _|⟨a,us⟩:=us
 ·cases h
 ·obtain⟨b,c,rfl⟩:=bO (Nat.succ.inj h);exact⟨a,b,c,rfl⟩
def cJ{us:List dG}(h:us.length=4):∃a b c d,us=[a,b,c,d]:=by
 obtain _|⟨a,us⟩:=us
 ·cases h
 ·obtain⟨b,c,d,rfl⟩:=bN (Nat.succ.inj h);exact⟨a,b,c,d,rfl⟩
def RQ:∀d∈Jc,Im d.st d.x:=by
 intro d hd;simp only[Jc,gD,mP,or_false]at hd;rcases hd with rfl|rfl|rfl|rfl|rfl|rfl|rfl|rfl|rfl|rfl|rfl|rfl|rfl|rfl|rfl|rfl|rfl|rfl|rfl|rfl|rfl|rfl|rfl|rfl|rfl|rfl|rfl|rfl|rfl|rfl|rfl|rfl|rfl|rfl|rfl|rfl|rfl|rfl|rfl|rfl|rfl|rfl
 all_goals (intro _ _ _ _ _ _ us hl;first|(obtain⟨_,rfl⟩:=bP hl;rfl)|(obtain⟨_,_,rfl⟩:=bO hl;rfl)|(obtain⟨_,_,_,rfl⟩:=bN hl;rfl)|(obtain⟨_,_,_,_,rfl⟩:=cJ hl;rfl))
def KO{l:PySem.W.OpenLaw}{w:fI}{K:eB}{h:Heap}{mg:Str->Option dG}{fa:Addr}{n:Nat}{s:FS}(X:K.In h)(G:h.Ns gA mg)(hfa:mg "law"=some (.ref fa))(hl:(tab n).fns "law"=some s)(hm:s.ms=[false])(law:∀ns:List Int,ns.length<=63->s.f [.lst (ns.map D.int)]=.ok (.bl true))
  {t0:Tok}
  {C0:Addr}
  {C1:Addr}
  {C2:Addr}
  (hD:∀d∈Jc,aL K d)
  (hB:∀x∈xf,kX K gA x=some none)
  (s0:kX K gA "LETTERS"=some (some (.str "abcdefghijklmnopqrstuvwxyz" t0)))
  (xa0:kX K gA "AskError"=some (some (.ref C0)))
  (xe0:jY K C0 [.type "ValueError",.type "Exception",.type "BaseException",.type "object"] "ValueError.__new__"=true)
  (xv0:nE K (.ref C0) (.type "ValueError")=some true)
  (xa1:kX K gA "NoAsking"=some (some (.ref C1)))
  (xe1:jY K C1 [.type "ValueError",.type "Exception",.type "BaseException",.type "object"] "ValueError.__new__"=true)
  (xv1:nE K (.ref C1) (.type "ValueError")=some true)
  (xa2:kX K gA "Unlike"=some (some (.ref C2)))
  (xe2:jY K C2 [.type "ValueError",.type "Exception",.type "BaseException",.type "object"] "ValueError.__new__"=true)
  (xv2:nE K (.ref C2) (.type "ValueError")=some true)
  (xp0:iS K (.ref C0) (.ref C0)=some true)
  (xp1:iS K (.ref C1) (.ref C1)=some true)
  (xp2:iS K (.ref C1) (.ref C0)=some true)
  (xp3:iS K (.ref C2) (.ref C2)=some true)
  (xp4:iS K (.ref C2) (.ref C0)=some true):
  ∃fd:lS,(∀(s:dP)(v:dG),BindsTo s fd ⟨[v],[]⟩ [("_law_script",v)])/\∀base:Heap,K.In base->base.Ns gA mg->Bm mg base->FnOk l.prog w K mg base QC n fa fd ["_law_script"] (Tj K):=by
 obtain⟨_,_,kV,dc,pm,cd,ct,_,an,_,a,l,c,k⟩:=hD ue (by simp only[Jc,gD,true_or,or_true]);cases hfa.symm.trans (fX X G a);have hd:∀d∈Jc,DefIn K mg d:=by
  intro d hd;obtain⟨_,_,_,_,_,_,_,_,_,_,a,l,c,k⟩:=hD d hd;exact LZ X G (JP d hd).1 (RQ d hd) a l c k (λz=>by rw[(JP d hd).2]at z;cases z)
 have hs:∀x y,gs x=some y->∃t,mg x=some (.str y t):=by
  intro x y e;unfold gs at e
  by_cases h0:x="LETTERS"
  ·rw[dJ h0]at e;cases e;subst h0;exact⟨_,fX X G s0⟩
  rw[dM h0]at e;cases e
 have hb:∀x∈xf,mg x=none:=λx hx=>PySem.W.mg_none_of X G (hB x hx);have hX:XsIn K mg xs:=by
  refine⟨λx h=>?_,λc y h=>?_,λc h=>?_,λc y h=>?_⟩
  ·simp only[xs,jO,dQ,decide_eq_true_eq,Bool.false_eq_true,or_false]at h;rcases h with rfl|rfl|rfl
   ·exact⟨C0,_,_,fX X G xa0,xe0,Q3⟩
   ·exact⟨C1,_,_,fX X G xa1,xe1,Q3⟩
   ·exact⟨C2,_,_,fX X G xa2,xe2,Q3⟩
  ·simp only[xs,jO,dQ,decide_eq_true_eq,Bool.false_eq_true,or_false]at h;rcases h with ⟨rfl,rfl⟩|⟨rfl,rfl⟩|⟨rfl,rfl⟩|⟨rfl,rfl⟩|⟨rfl,rfl⟩
   ·exact⟨C0,fX X G xa0,by rw[mq (fX X G xa0)];exact xp0⟩
   ·exact⟨C1,fX X G xa1,by rw[mq (fX X G xa1)];exact xp1⟩
   ·exact⟨C0,fX X G xa0,by rw[mq (fX X G xa1)];exact xp2⟩
   ·exact⟨C2,fX X G xa2,by rw[mq (fX X G xa2)];exact xp3⟩
   ·exact⟨C0,fX X G xa0,by rw[mq (fX X G xa2)];exact xp4⟩
  ·simp only[xs,jO,dQ,decide_eq_true_eq,Bool.false_eq_true,or_false]at h;rcases h with rfl|rfl|rfl
   ·rw[mq (fX X G xa0)];show(if rW "ValueError"=true then nE K (.ref C0) (.type "ValueError")else none)=some true;rw[dJ (by decide+kernel)];exact xv0
   ·rw[mq (fX X G xa1)];show(if rW "ValueError"=true then nE K (.ref C1) (.type "ValueError")else none)=some true;rw[dJ (by decide+kernel)];exact xv1
   ·rw[mq (fX X G xa2)];show(if rW "ValueError"=true then nE K (.ref C2) (.type "ValueError")else none)=some true;rw[dJ (by decide+kernel)];exact xv2
  ·simp only[xs,jO,dQ,decide_eq_true_eq,Bool.false_eq_true,or_false]at h
 refine⟨iU ue.x ue.x (jm ue.st) (f6 ue.st) (bz ue.st) .none kV dc pm an cd ct,λs v=>.of_eq rfl,λbase kb _ bm=>?_⟩;exact MZ MX rfl a l c k kb bm hd hs hb hX hl hm law
end LK
namespace PySem.W.Fast
def tw15257182034984716206:Nat:=0
def tw7635520496409558766:Nat:=0
def tw6161854617622106881:Nat:=0
def tw6676369973951876854:Nat:=0
def tw232064981477249427:Nat:=0
def tw14768250470501826600:Nat:=0
def tw7512103248959633645:Nat:=0
def tw6465971592250188105:Nat:=0
def tw7038010232448291113:Nat:=0
def tw2013547847703756718:Nat:=0
def tw17502066638312395847:Nat:=0
def tw3840149535585901785:Nat:=0
def tw9610463397897421771:Nat:=0
def tw3506534034649564781:Nat:=0
def tw17666976700947991128:Nat:=0
def tw2004515118967931316:Nat:=0
def tw12152283263311216374:Nat:=0
def tw3199912587437551816:Nat:=0
def tw2980744806893489928:Nat:=0
def tw11734430549694333314:Nat:=0
def tw10270044285799587878:Nat:=0
def tw7076388472132573316:Nat:=0
def tw13747441513764054554:Nat:=0
def tw9526993132839923794:Nat:=0
def tw8102897714486723832:Nat:=0
def tw12585229964515012298:Nat:=0
def tw7793793444976299008:Nat:=0
def tw13331937356517772623:Nat:=0
def tw8519274311748070036:Nat:=0
def tw7947459224037339249:Nat:=0
def tw14322198337008653217:Nat:=0
def tw13056993208622693285:Nat:=0
def tw13002894212682209085:Nat:=0
def tw16484638493828341564:Nat:=0
def tw2374727579242709819:Nat:=0
def tw2034457316504229663:Nat:=0
def tw17391019709582434026:Nat:=0
def tw17527866370667619407:Nat:=0
def tw15974763836554377269:Nat:=0
def tw7957420619646655642:Nat:=0
def tw7497193067584268381:Nat:=0
def tw11670016433177732789:Nat:=0
def tw8563706090850957557:Nat:=0
def tw877035808656075119:Nat:=0
def tw5581869836189994782:Nat:=0
def tw13075825306839422394:Nat:=0
def tw18207729668090908065:Nat:=0
def tw16787076705873177711:Nat:=0
def tw13635471725825325104:Nat:=0
def tw1094091371555289696:Nat:=0
def tw10817309298643057354:Nat:=0
def tw10627942325394492718:Nat:=0
def tw1603999617508783954:Nat:=0
def tw1366487219250426704:Nat:=0
def tw3349952763985696801:Nat:=0
def tw2603531801165539391:Nat:=0
def tw16791081696573141240:Nat:=0
def tw9551745425851206094:Nat:=0
def tw8346570711084474501:Nat:=0
def tw15060272158081236158:Nat:=0
def tw11163023413085687096:Nat:=0
def tw6344793626846132266:Nat:=0
def tw4284738264583066034:Nat:=0
def tw14527348682644916273:Nat:=0
def tw5852746431477927994:Nat:=0
def tw15237399012916108414:Nat:=0
def tw12176638944096646477:Nat:=0
def tw17789073547213940028:Nat:=0
def tw6722221519537090585:Nat:=0
def tw2471721121687696227:Nat:=0
def tw13805520993401774790:Nat:=0
def tw178239866803869987:Nat:=0
def tw16519158166796748354:Nat:=0
def tw11223442625542692951:Nat:=0
def tw18389215877767196556:Nat:=0
def tw13651243607229860329:Nat:=0
def tw6661778773568861045:Nat:=0
def tw16385752157773429499:Nat:=0
def tw13103808342374671306:Nat:=0
def tw13511412669295895263:Nat:=0
def tw1554831229547106775:Nat:=0
def tw17029196325603018025:Nat:=0
def tw346215979469758982:Nat:=0
def tw4164023101567214128:Nat:=0
def tw14805899295292279934:Nat:=0
def tw6156633075598431523:Nat:=0
def tw3736719552296602740:Nat:=0
def tw4785652916318708602:Nat:=0
def tw12116036450037468505:Nat:=0
def tw9927524478985508402:Nat:=0
def tw10895200455758121969:Nat:=0
def tw3433100913166265385:Nat:=0
def tw10557405677631695444:Nat:=0
def tw13232431088097142641:Nat:=0
def tw4697896447147384958:Nat:=0
def tw4697583492878077513:Nat:=0
def tw9769274448707721980:Nat:=0
def tw11925487471645539569:Nat:=0
def tw11387156077150265197:Nat:=0
def tw16825976013129854803:Nat:=0
def tw4454208560775167363:Nat:=0
def tw13146173613196581783:Nat:=0
def tw8201015735482151971:Nat:=0
def tw13567201935688043999:Nat:=0
def tw6652891643886061787:Nat:=0
def tw13580358260943722753:Nat:=0
def tw77864316146067499:Nat:=0
end PySem.W.Fast
open PySem PySem.W PyProof.Rows
set_option maxRecDepth 100000 in
set_option maxHeartbeats 0 in
theorem PySem.Challenge.cw_askbook_k04_whole_within_holds : PySem.Challenge.rw_askbook_k04_whole_within.Holds := by
 w_on;o_law;k_head;(case hw=>w_witness2)
 k_fill
 refine Pu.VG (l:=PySem.Challenge.rw_askbook_k04_whole_within) (k:=30) rfl rfl ⟨rfl,by decide,by decide⟩ (by decide) (λw h Y=>PySem.W.kIn_of Y) ?hNt ?hTb ?hFn
 case hNt=>intro w;kernel_rfl
 case hTb=>intro w h Y p hp;cases hp
 case hFn=>
  intro w mg fa h KX G hmg
  refine' LK.KO (n:=30) KX G hmg (Pu.BZ 29 rfl) rfl LK.Yg ?hD ?hB ?s0 ?xa0 ?xe0 ?xv0 ?xa1 ?xe1 ?xv1 ?xa2 ?xe2 ?xv2 ?xp0 ?xp1 ?xp2 ?xp3 ?xp4
  case hD=>
   intro d hd
   simp only[LK.Jc,List.mem_cons,List.not_mem_nil,or_false]at hd
   rcases hd with rfl|rfl|rfl|rfl|rfl|rfl|rfl|rfl|rfl|rfl|rfl|rfl|rfl|rfl|rfl|rfl|rfl|rfl|rfl|rfl|rfl|rfl|rfl|rfl|rfl|rfl|rfl|rfl|rfl|rfl|rfl|rfl|rfl|rfl|rfl|rfl|rfl|rfl|rfl|rfl|rfl|rfl
   all_goals (refine' LK.cV ?a ?l ?c ?k;(case a=>k_is);(case l=>k_is);(case c=>k_is);(case k=>k_is))
  case hB=>
   intro x hx
   simp only[Pu.xf,List.mem_cons,List.not_mem_nil,or_false]at hx
   rcases hx with rfl|rfl|rfl|rfl|rfl|rfl|rfl|rfl|rfl|rfl|rfl|rfl|rfl|rfl|rfl|rfl|rfl|rfl|rfl|rfl
   all_goals k_is
  (case s0=>k_is)
  (case xa0=>k_is)
  (case xe0=>k_exc)
  (case xv0=>k_is)
  (case xa1=>k_is)
  (case xe1=>k_exc)
  (case xv1=>k_is)
  (case xa2=>k_is)
  (case xe2=>k_exc)
  (case xv2=>k_is)
  (case xp0=>kts_exm)
  (case xp1=>kts_exm)
  (case xp2=>kts_exm)
  (case xp3=>kts_exm)
  (case xp4=>kts_exm)
end
