import PyProof.Rows.All
import Wide.All
import OpenK.AllK
import Wide.FinOn
import Lean
import PyProof.EqAt
import PyProof.EqKinds
import PyProof.TupleCall
import KE.KTryMore
import KE.KDictLaws
import KE.KDictList
import KE.KDictOf
import PyProof.AttrMiss
import PyProof.SetScanFacts
import PyProof.SetKind
import PyProof.WalkInts
import KE.KIntText
import PyProof.ZipIter
import KE.KMinKey
import KE.RegKTryMore
import PySem.Challenge.RW_askbook_k20_texts_refused
set_option Elab.async false
set_option linter.all false
set_option maxRecDepth 100000
set_option maxHeartbeats 4000000
open Bool renaming and_eq_true→aA,or_eq_true→cT,true_and→cV,not_true→dP,not_false→fW,not_eq_true'→gO,eq_iff_iff→jV
open PySem renaming Value→aC,sizeLine→aD,wpAny_bind→aE,Shared→aK,starEach→aQ,wpAny_pure→aT,wpAny→bA,model→bE,Program→bN,wpAny_mono→bQ,compareOp→bX,mainGlobals→cG,World→cH,Around→cO,backTo→cY,wpAny_truthy_bool→dE,cLine→dO,FuncData→dX,swapsWith→dY,wpAny_Call_Name_kw→dZ,mem_of_lookup→eM,bootBuiltins→eN,Scope→eS,wpAny_field→eT,wpAny_execs_cons→eW,sysModules→eY,wpAny_execs_nil→fG,foldedSetIterable→fL,binaryOp→fM,wpAny_newObj_type→fN,wpAny_holding→fR,ExceptHandler→fV,NameKind→fX,SetTable→gI,attributeBase→gJ,assignEach→gT,wpAny_setField→gU,intText?→gZ,behindInMarks→iB,wpAny_standAt→iD,wpAny_passesOwn→iH,Keyword→iI,call_meets→iK,sliceBounds→iM,noteFrame→iN,wpAny_loadPart_at→iV,isSubtype_tuple_tuple→iW,codeAny_handlers_test→iY,wpAny_call_entry→jA,wpAny_forIn_list→jB,builtinsNs→jC,typeIs_str→jD,wpAny_Try_except→jF,strValues→jH,keywordEach→jK,lookup_relabel_local→jM,wpAny_specialOf→jR,letOwnedTupleGo→jS,wpAny_handleBy_cons→jW,codeAny_mono→kA,notedBy→kB,relabel→kC,wpAny_tupleItemsOf→kF,recursionLimit→kI,wpAny_Return_some→kW,codeAny→kX,getItem→kY,rawInt→lE,wpAny_isInstance→lG,noFill_tuple_add→lI,concat_meets→lN,IsPart→lO,passOn→lR,ExcBaseFacts→lS,backToKw→mG,PyData→mH,eqIsQuiet→mK,lastMarks→mL,cellsFrom→mM,valueAt→mO,callerA→mP
open List renaming mem_cons_of_mem→aF,mem_cons_self→aH,length_append→aI,length_map→aJ,getElem?_set_self→aL,length_cons→aM,getElem?_set_ne→aN,replicate→aS,map_cons→aU,append_assoc→aV,size_toArray→aZ,getElem?_append_right→bI,length_set→bJ,all_cons→bK,getElem?_append_left→bL,getElem?_map→bW,length_drop→bY,mem_of_getElem?→cB,getElem?_cons_zero→cE,range→cF,mem_append_right→cJ,append_nil→cM,length_take→cN,mem_cons→cP,length_replicate→cQ,filterMap_cons→cR,getElem?_eq_getElem→dB,all_eq_true→dC,take_append_drop→dH,mem_append_left→dM,range'→dN,any_cons→dQ,not_mem_nil→eA,map_map→eF,range'_append_1→eI,getElem?_cons_succ→eJ,map_append→eL,take_of_length_le→eP,getLastD_eq_getLast?→fE,find?_cons→fH,mem_append→fI,length_dropLast→fP,dropLast_concat→fQ,set_cons_succ→gG,set_cons_zero→gH,dropLast_eq_take→gL,length_range→gN,mem_of_mem_drop→gY,drop_zero→hG,drop_left→hJ,take_left→hU,map_nil→hV,forIn_cons→iJ,filter_cons→jE,mem_of_mem_take→jN,getElem?_of_mem→jO,eq_nil_of_length_eq_zero→jP,dropLast_subset→jQ,getElem?_take→kM,getElem?_drop→kN,lookup_cons→lK,take_length→lL,of_mem_zip→lX,length_nil→lY,nil_append→mD,length→mF,map_id→mJ
open Nat renaming le_refl→aO,lt_of_lt_of_le→aW,le_trans→bC,zero_le→cA,ne_of_lt→cI,lt_irrefl→cK,le_of_eq→eC,le_add_right→hW,le_succ→jL,sub_zero→kE,lt_trichotomy→lA,add_assoc→lC,lt_succ_self→lH,lt_trans→lQ,zero_add→lT,lt_or_ge→lU,toDigits→lV
open PySem.W renaming Frag→aP,mg_of→bS,keepIn→bU,exmOne→cU,fnOf→dJ,emptyDict→dS,excIn→eD,kia_one→eK,nsIn→eQ,instObj→fF,codeIn→fY,kitOne→gV,kitCls→gX,Looks→iE,subIn→iG,callWith_K→kJ,tabObj→kP,methodObj→kU,codeHdIn→lM,exm_one→mB,kitMeta→mE
open PySem.Heap renaming get?_push_of_some→aR,lt_size→aX,get?_push_size→bR,get?_update_other→dG,get?_update_self→fA,SameBut→fK,get?_none_of_le→jJ,size_push→kH,size_update→lJ
open PySem.PyData renaming canLayAll0→bB,eqv→cC,canLay0→dI,strOk→eE,depthAll→fJ,int→gF,str→kR
open PySem.Txt renaming split→bF,slice→bO,startswith→dF,endswith→gD,find→iU
open PySem.Str renaming join→bH,empty→cX,length→lP
open PySem.Builtin.Str renaming occurrences→bM,strSub→bZ,strKind→cS,strSliceIndices→eR
open Option.some renaming inj→bP
open Option renaming bind_eq_some_iff→bT,isNone→eV,bind_some→eX,isSome_map→kZ,map_some→lZ
open PySem.SeqAt renaming shaped→bV,canLay_of_shaped→dU,readOf→hZ
open PySem.Value renaming ref→cD,none→dD,bool→gR
open Array renaming length_toList→cL,getElem?_eq_getElem→fC,getElem?_toList→gK,forIn_toList→kG
open PySem.Builtin.Tuple renaming tupleHashOf→cW,tupleExact→fS,tupleItemsOf→gQ
open False renaming elim→cZ
open PySem.StrLaws renaming occBody→dA,join_split→eB,found_one→lB
open PySem.Obj renaming mapFields→dR,data_mapFields→kK
open PyProof.Rows renaming slot_tuple_getitem→dW,callWith_type1→eO,room_in_shaped→gW,boot_list→iT,boot_int→iZ,AllBare→jZ,split_le→kS,envOfC→lF
open PySem.NameKind renaming free→eU
open PySem.Calls renaming spliced_cons→eZ,evalArgs_plain→fO,spliced_nil→iQ,callWith_builtin→iS
open PySem.Builtin.Slice renaming slicePlaces→fB,sliceAdjust→iA
open PySem.Builtin.List renaming listTooLong→fT
open PySem.AutoSeq1 renaming wpAny_loadPart'→fU
open Ne renaming symm→fZ
open True renaming intro→gA
open PySem.F renaming slot_str_split→gE,args_tuple_add_2→iC,args_str_split_2→iF,entry_tuple_add→iL,plainAttrs_list→iO,entry_str_split→iP,slot_tuple_add→iR,slot_dict_get→iX,slot_dict_setdefault→jU
open PySem.W.Looks renaming ld→jG
open Sum renaming inr→jI,inl→jY
open ForInStep renaming yield→jT
open PySem.Heap.SameBut renaming update→jX
open Int renaming emod_lt_of_pos→kL,cast_ofNat_Int→kQ,emod_nonneg→mC,negSucc→mI
open PySem.Paired renaming length→lD
open ForIn renaming forIn→lW
abbrev aB.{u}:=@if_pos.{u}
abbrev aG.{u}:=@if_neg.{u}
set_option bootstrap.genMatcherCode false
set_option compiler.extract_closed false
noncomputable section
section
namespace L2
open PySem
def vg:List Str:=["many"]
end L2
end
section
namespace L2
open PySem PySem.Spec PyProof.Rows
abbrev j9:=Sum Int Str
def zu:j9->aC->Bool
 |.inl k,v=>Value.isInt k v
 |.inr x,v=>Value.isStrOf x v
def QB(w:cH):j9->Int
 |.inl k=>hashInt k
 |.inr x=>hashStr w x
def fb:∀{k:j9}{v:aC},zu k v=true->(∃i t,k=jY i/\v=Value.int i t)\/(∃x t,k=jI x/\v=Value.str x t)
 |.inl i,v,h=>by
  obtain⟨t,e⟩:=Value.isInt_shape (k:=i) (v:=v) h;exact .inl ⟨i,t,rfl,e⟩
 |.inr x,v,h=>by
  obtain⟨t,e⟩:=Value.isStrOf_shape (x:=x) (v:=v) h;exact .inr ⟨x,t,rfl,e⟩
def P9(i:Int)(t:Tok):zu (.inl i) (.int i t)=true:=by simp[zu,Value.isInt]
def Qa(x:Str)(t:Tok):zu (.inr x) (.str x t)=true:=by simp[zu,Value.isStrOf]
def EC(a b:Int):decide ((jY a:j9)=jY b)=(a==b):=by
 by_cases e:a=b
 ·subst e;simp
 ·have h:¬(jY a:j9)=jY b:=λq=>e (Sum.inl.inj q);rw[decide_eq_false h];exact(beq_eq_false_iff_ne.mpr e).symm
def FZ(a b:Str):decide ((jI a:j9)=jI b)=decide (a=b):=by
 by_cases e:a=b
 ·subst e;simp
 ·have h:¬(jI a:j9)=jI b:=λq=>e (Sum.inr.inj q);rw[decide_eq_false h,decide_eq_false e]
def EB(a:Int)(b:Str):decide ((jY a:j9)=jI b)=false:=decide_eq_false (λq=>nomatch q)
def EA(a:Str)(b:Int):decide ((jI a:j9)=jY b)=false:=decide_eq_false (λq=>nomatch q)
def cw(prog:bN)(w:cH):PySem.KeyKind prog w j9 where
 is:=zu
 hash:=QB w
 inj:=λv a b ha hb=>by
  rcases fb ha with ⟨i,t,rfl,rfl⟩|⟨x,t,rfl,rfl⟩
  ·rcases fb hb with ⟨j,u,rfl,e⟩|⟨y,u,rfl,e⟩
   ·injection e with e1 _;rw[e1]
   ·exact nomatch e
  ·rcases fb hb with ⟨j,u,rfl,e⟩|⟨y,u,rfl,e⟩
   ·exact nomatch e
   ·injection e with e1 _;rw[e1]
 byValue:=λk v h=>by
  rcases fb h with ⟨i,t,rfl,rfl⟩|⟨x,t,rfl,rfl⟩<;>rfl
 pyHash:=λhv h=>by
  rcases fb hv with ⟨i,t,rfl,rfl⟩|⟨x,t,rfl,rfl⟩
  ·exact wpAny_pyHash_int h
  ·exact wpAny_pyHash_str h
 eqBool:=λhu hv h=>by
  rcases fb hu with ⟨i,t,rfl,rfl⟩|⟨x,t,rfl,rfl⟩
  ·rcases fb hv with ⟨j,u,rfl,rfl⟩|⟨y,u,rfl,rfl⟩
   ·rw[EC]at h;exact wpAny_eqBool_int h
   ·rw[EB]at h;exact SeqAt.EqAt.int_str i t y u _ _ _ _ h
  ·rcases fb hv with ⟨j,u,rfl,rfl⟩|⟨y,u,rfl,rfl⟩
   ·rw[EA]at h;exact SeqAt.EqAt.str_int x t j u _ _ _ _ h
   ·rw[FZ]at h;exact wpAny_eqBool_str h
 «strs»:=λk x t v h=>by
  rcases fb h with ⟨i,u,rfl,e⟩|⟨y,u,rfl,e⟩
  ·exact nomatch e
  ·injection e with e1 _
   subst e1;cases v<;>rfl
def Iw(prog:bN)(w:cH)(i:Int)(t:Tok):(cw prog w).is (.inl i) (.int i t)=true:=P9 i t
def Iy(prog:bN)(w:cH)(x:Str)(t:Tok):(cw prog w).is (.inr x) (.str x t)=true:=Qa x t
end L2
namespace L2
open PySem PySem.Spec PyProof.Rows
abbrev NK:=Sum j9 (List j9)
abbrev cy:=List NK
def I8(prog:bN)(w:cH)(h:Heap):NK->aC->Prop
 |.inl k,v=>(cw prog w).is k v=true
 |.inr ks,v=>∃b,v=.ref b/\IsTupleKey (cw prog w) h ks b
def NItems(prog:bN)(w:cH)(h:Heap):cy->List aC->Prop
 |[],vs=>vs=[]
 |k::r,vs=>∃v t,vs=v::t/\I8 prog w h k v/\NItems prog w h r t
def pf(prog:bN)(w:cH)(h:Heap)(ks:cy)(a:Addr):Prop:=∃o items n,h.get? a=some o/\o.cls=.type "tuple"/\o.data=.seq items n/\NItems prog w h ks items.toList
section
variable{prog:bN}{w:cH}
def Ud:∀{x y:NK}{v:aC},I8 prog w h x v->I8 prog w h y v->x=y
 |.inl a,.inl b,v,h1,h2=>by rw[(cw prog w).inj v a b h1 h2]
 |.inl a,.inr ys,v,h1,⟨b,e,_⟩=>by subst e;exact absurd ((cw prog w).byValue _ _ h1) (by intro z;cases z)
 |.inr xs,.inl b,v,⟨c,e,_⟩,h2=>by subst e;exact absurd ((cw prog w).byValue _ _ h2) (by intro z;cases z)
 |.inr xs,.inr ys,v,⟨b,e,q⟩,⟨c,e',q'⟩=>by subst e;cases e';rw[q.inj q']
theorem NItems.inj:∀{x y:cy}{vs:List aC},NItems prog w h x vs->NItems prog w h y vs->x=y
 |[],[],_,_,_=>rfl
 |[],_::_,vs,h1,⟨v,t,e,_⟩=>by rw[show vs=[]from h1]at e;cases e
 |_::_,[],vs,⟨v,t,e,_⟩,h2=>by rw[show vs=[]from h2]at e;cases e
 |a::x,b::y,vs,⟨v,t,e,h1,h2⟩,⟨v',t',e',h1',h2'⟩=>by
  subst e;cases e';rw[Ud h1 h1',NItems.inj h2 h2']
def K7{h h':Heap}{o:Obj}{es ep}(ho:h.get? d=some o)(hd:o.data=.dict es ep)(hs:fK d h h'):∀{k:NK}{v:aC},I8 prog w h k v->I8 prog w h' k v
 |.inl k,v,e=>e
 |.inr ks,v,⟨b,e,q⟩=>⟨b,e,q.keeps ho hd hs⟩
theorem NItems.keeps{h h':Heap}{o:Obj}{es ep}(ho:h.get? d=some o)(hd:o.data=.dict es ep)(hs:fK d h h'):∀{ks:cy}{vs:List aC},NItems prog w h ks vs->NItems prog w h' ks vs
 |[],_,e=>e
 |_::_,_,⟨v,t,e,h1,h2⟩=>⟨v,t,e,K7 ho hd hs h1,NItems.keeps ho hd hs h2⟩
def uq(w:cH)(prog:bN):NK->Int
 |.inl k=>(cw prog w).hash k
 |.inr ks=>tupleKeyHash (cw prog w) ks
def Nq:NK->Nat
 |.inl _=>1
 |.inr ks=>ks.length+1
def x9(k:cy):Nat:=(k.map Nq).sum
variable{A:cO}{E:aC->aK->Prop}{s:aK}
def Qw(hu:A.units<dO)(hk:I8 prog w s.heap k v)(h:Q (uq w prog k) {s with toks:=s.toks+Nq k}):bA (bE prog w) A (pyHash v) Q E s:=by
 cases k with
 |inl k=>exact(cw prog w).pyHash hk h
 |inr ks=>obtain⟨b,rfl,q⟩:=hk;exact wpAny_pyHash_tuple hu q h
def Qx{ks:cy}(hu:A.units+4<dO)(hk:pf prog w s.heap ks a)(h:Q (reduceHash (cW (ks.map (uq w prog)))) {s with toks:=s.toks+(x9 ks+1)}):
  bA (bE prog w) A (pyHash (.ref a)) Q E s:=by
 obtain⟨o,items,n,ho,hc,hd,hi⟩:=hk;have hT:s.TypeIs (.ref a) "tuple":=⟨o,ho,hc⟩;unfold pyHash
 first|unfold pyHashByItsType|skip
 first|refine aE (wpAny_cRoomFor_or (.inr (by lia)) ?_)|skip
 refine aE (jR hT F.slot_tuple_hash.lookup ?_);show bA _ _ (if(some (Value.builtin "tuple.__hash__")==some dD)=true then _ else _) Q E s;rw[aG (by rw[beq_builtin_none];exact Bool.false_ne_true)];refine aE (jR hT F.slot_tuple_hash.lookup ?_);show bA _ _ (callSpecialIfBoundUnlessNone? (.ref a) "__hash__" _>>=_) Q E s;refine aE (wpAny_callSpecialIfBoundUnlessNone?_slot hT F.slot_tuple_hash (jA F.slot_tuple_hash hT F.entry_tuple_hash ?_ (F.args_tuple_hash_1 _)));show bA _ _ (gQ (.ref a)>>=_) _ _ s;refine aE (kF ho hd ?_);refine aE ?_;rw[<-kG];refine jB _
  (λcx (b:Array Int) s'=>∃done left,ks=done++left/\NItems prog w s.heap left cx/\b.toList=done.map (uq w prog)/\s'={s with toks:=s.toks+x9 done})
  _ ?_ ?_ _ _ ⟨[],ks,rfl,hi,rfl,rfl⟩
 ·rintro x cx b s' ⟨done,left,rfl,hl,hb,rfl⟩
  cases left with
  |nil=>cases (show x::cx=[]from hl)
  |cons k ks'=>
   obtain⟨v,t,e,h1,hl'⟩:=hl;cases e;refine aE (Qw (by show A.units+_<dO;lia) h1 ?_)
   first
    |exact aT ⟨done++[k],ks',by simp,hl',by simp[hb],by simp[x9,lC]⟩
    |exact aE (aT (aT ⟨done++[k],ks',by simp,hl',by simp[hb],by simp[x9,lC]⟩))
 ·rintro b s' ⟨done,left,rfl,hl,hb,rfl⟩
  cases left with
  |cons k ks'=>obtain⟨v,t,e,_⟩:=hl;cases e
  |nil=>
  rw[cM]at h;show bA _ _ (retInt (cW b.toList)) _ _ _;rw[hb];refine wpAny_ret_mkInt ?_;show bA _ _ (if(decide (-(2:Int) ^ 63<=cW (done.map (uq w prog))) && decide (cW (done.map (uq w prog))<2 ^ 63))=true then _ else _) Q E _;unfold reduceHash at h
  by_cases hr:(decide (-(2:Int) ^ 63<=cW (done.map (uq w prog))) && decide (cW (done.map (uq w prog))<2 ^ 63))=true
  ·rw[aB hr];rw[aB hr]at h;exact aT (by simpa[lC]using h)
  ·rw[aG hr];rw[aG hr]at h;exact aE (wpAny_rule (aT (by simpa[lC]using h)))
def Qy(hk:IsTupleKey (cw prog w) s.heap ks a)(h:Q true s):bA (bE prog w) A (mK (n+1) (.ref a)) Q E s:=by
 have hT:=hk.typeIs;obtain⟨o,items,n,ho,_,hd,hi⟩:=hk;unfold mK;refine aE (jR hT F.slot_tuple_eq.lookup ?_);show bA _ _ (isInstance (.ref a) (.type "tuple")>>=_) _ _ s;refine aE (lG hT iW ?_);simp only[dP,Bool.false_eq_true,if_false];refine aE (wpAny_seqItems ho hd ?_);refine aE ?_;show bA _ _ (lW items _ _) _ _ s;rw[<-kG];refine jB _ (λcx r s'=>r.1=none/\s'=s/\∀v∈cx,carriedByValue v=true) _ ?_ ?_ _ _ ⟨rfl,rfl,hi.byValue⟩
 ·rintro v cx r s' ⟨hr,rfl,hall⟩
  rw[eqIsQuiet_byValue _ (hall v aH)];refine aE (aT ?_);simp only[dP,Bool.false_eq_true,if_false];exact aT ⟨rfl,rfl,λu hu'=>hall u (aF _ hu')⟩
 ·rintro ⟨r1,r2⟩ s' ⟨hr,rfl,_⟩
  simp only at hr;subst hr;exact aT h
def Vr(hk:pf prog w s.heap ks a)(h:Q true s):bA (bE prog w) A (mK 8 (.ref a)) Q E s:=by
 obtain⟨o,items,n,ho,hc,hd,hi⟩:=hk;have hT:s.TypeIs (.ref a) "tuple":=⟨o,ho,hc⟩;unfold mK;refine aE (jR hT F.slot_tuple_eq.lookup ?_);show bA _ _ (isInstance (.ref a) (.type "tuple")>>=_) _ _ s;refine aE (lG hT iW ?_);simp only[dP,Bool.false_eq_true,if_false];refine aE (wpAny_seqItems ho hd ?_);refine aE ?_;show bA _ _ (lW items _ _) _ _ s;rw[<-kG];refine jB _ (λcx r s'=>r.1=none/\s'=s/\∃left,NItems prog w s.heap left cx) _ ?_ ?_ _ _ ⟨rfl,rfl,ks,hi⟩
 ·rintro v cx r s' ⟨hr,rfl,left,hl⟩
  cases left with
  |nil=>cases (show v::cx=[]from hl)
  |cons k ks'=>
   obtain⟨v',t,e,h1,hl'⟩:=hl;cases e;refine aE ?_;have go:bA (bE prog w) A (mK 7 v) (λb s''=>b=true/\s''=s') E s':=by
    cases k with
    |inl k=>rw[eqIsQuiet_byValue _ ((cw prog w).byValue _ _ h1)];exact aT ⟨rfl,rfl⟩
    |inr ys=>obtain⟨b,rfl,q⟩:=h1;exact Qy q ⟨rfl,rfl⟩
   refine bQ go (λb s'' ⟨e1,e2⟩=>?_) λ_ _ q=>q;subst e1 e2;simp only[dP,Bool.false_eq_true,if_false];exact aT ⟨rfl,rfl,ks',hl'⟩
 ·rintro ⟨r1,r2⟩ s' ⟨hr,rfl,_⟩
  simp only at hr;subst hr;exact aT h
def Ea(hu:A.units<dO)(hk:zu k v=true)(hb:s.heap.IsTuple b its)(h:Q false s):bA (bE prog w) A (eqBool v (.ref b)) Q E s/\bA (bE prog w) A (eqBool (.ref b) v) Q E s:=by
 rcases fb hk with ⟨i,t,rfl,rfl⟩|⟨x,t,rfl,rfl⟩
 ·exact⟨SeqAt.EqAt.int_tuple i t hb hu _ _ _ _ h,SeqAt.EqAt.tuple_int i t hb hu _ _ _ _ h⟩
 ·exact⟨SeqAt.EqAt.str_tuple x t hb hu _ _ _ _ h,SeqAt.EqAt.tuple_str x t hb hu _ _ _ _ h⟩
def Pv(hu:A.units<dO)(hx:I8 prog w s.heap x u)(hy:I8 prog w s.heap y v)(h:Q (decide (x=y)) s):bA (bE prog w) A (eqBool u v) Q E s:=by
 cases x with
 |inl a=>
  cases y with
  |inl b=>exact(cw prog w).eqBool hx hy (by
    have e:decide (a=b)=decide ((jY a:NK)=jY b):=by by_cases q:a=b<;>simp[q]
    rw[e];exact h)
  |inr ys=>
   obtain⟨b,rfl,o,its,n,h1,h2,h3,_⟩:=hy;exact(Ea hu hx ⟨o,h1,h2,n,h3⟩ h).1
 |inr xs=>
  cases y with
  |inl b=>
   obtain⟨c,rfl,o,its,n,h1,h2,h3,_⟩:=hx;exact(Ea hu hy ⟨o,h1,h2,n,h3⟩ h).2
  |inr ys=>
   obtain⟨b,rfl,q⟩:=hx;obtain⟨c,rfl,q'⟩:=hy;exact wpAny_eqBool_tuple hu q q' (by
    have e:decide (xs=ys)=decide ((jI xs:NK)=jI ys):=by by_cases q:xs=ys<;>simp[q]
    rw[e];exact h)
theorem NItems.length:∀{x:cy}{vs:List aC},NItems prog w h x vs->x.length=vs.length
 |[],vs,e=>by rw[show vs=[]from e];rfl
 |_::_,_,⟨v,t,e,_,h2⟩=>by rw[e,aM,aM,NItems.length h2]
def L7(hu:A.units+2<dO)(hx:pf prog w s.heap x a)(hy:pf prog w s.heap y b)(h:P (.done (.ret (.bool (decide (x=y))))) s):
  bA (bE prog w) A (Builtin.«tuple.__eq__» ⟨[.ref a,.ref b],[]⟩) P E s:=by
 obtain⟨oa,xs,na,hoa,hca,hda,hia⟩:=hx;obtain⟨ob,ys,nb,hob,hcb,hdb,hib⟩:=hy;have hTb:s.TypeIs (.ref b) "tuple":=⟨ob,hob,hcb⟩;show bA _ _ (isInstance (.ref b) (.type "tuple")>>=_) _ _ s;refine aE (lG hTb iW ?_);simp only[dP,Bool.false_eq_true,if_false];refine aE (kF hoa hda ?_);refine aE (kF hob hdb ?_);refine aE ?_;refine jB _
  (λcx r s'=>r.1=none/\s'=s/\∃x' y' xs' ys',cx=List.zip xs' ys'/\NItems prog w s.heap x' xs'/\NItems prog w s.heap y' ys'/\decide (x'=y')=decide (x=y)/\(xs'.length==ys'.length)=(xs.size==ys.size))
  _ ?_ ?_ _ _ ⟨rfl,rfl,x,y,xs.toList,ys.toList,rfl,hia,hib,rfl,by simp⟩
 ·rintro ⟨u,v⟩ cx r s' ⟨hr,rfl,x',y',xs',ys',hz,hx',hy',hdec,hlen⟩
  cases x' with
  |nil=>rw[show xs'=[]from hx']at hz;simp at hz
  |cons k1 x''=>
   cases y' with
   |nil=>rw[show ys'=[]from hy']at hz;simp at hz
   |cons k2 y''=>
    obtain⟨u',xs'',rfl,h1,hx''⟩:=hx';obtain⟨v',ys'',rfl,h2,hy''⟩:=hy';simp only[List.zip_cons_cons,List.cons.injEq,Prod.mk.injEq]at hz;obtain⟨⟨rfl,rfl⟩,rfl⟩:=hz;refine aE (Pv (by lia) h1 h2 ?_)
    by_cases hk:k1=k2
    ·subst hk;rw[decide_eq_true rfl];simp only[dP,Bool.false_eq_true,if_false];refine aT ⟨rfl,rfl,x'',y'',xs'',ys'',rfl,hx'',hy'',?_,by simpa using hlen⟩;rw[<-hdec]
     by_cases hxy:x''=y''
     ·simp[hxy]
     ·simp[hxy]
    ·rw[decide_eq_false hk];simp only[fW,if_true];have hf:decide (x=y)=false:=by rw[<-hdec];simp[hk]
     rw[hf]at h;exact aE (aT (aT (aT h)))
 ·rintro ⟨r1,r2⟩ s' ⟨hr,rfl,x',y',xs',ys',hz,hx',hy',hdec,hlen⟩
  simp only at hr;subst hr;refine aT ?_;have hfin:(xs.size==ys.size)=decide (x=y):=by
   rw[<-hdec,<-hlen,<-hx'.length,<-hy'.length];cases x' with
   |nil=>
    cases y' with
    |nil=>simp
    |cons _ _=>simp
   |cons _ _=>
    cases y' with
    |nil=>simp
    |cons _ _=>
     obtain⟨_,_,rfl,_⟩:=hx';obtain⟨_,_,rfl,_⟩:=hy';simp at hz
  show P (.done (.ret (.bool (xs.size==ys.size)))) s';rw[hfin];exact h
def Pw(hu:A.units+4<dO)(hx:pf prog w s.heap x a)(hy:pf prog w s.heap y b)(h:Q (decide (x=y)) s):
  bA (bE prog w) A (eqBool (.ref a) (.ref b)) Q E s:=by
 have tx:s.TypeIs (.ref a) "tuple":=let ⟨o,_,_,h1,h2,_⟩:=hx;⟨o,h1,h2⟩;have ty:s.TypeIs (.ref b) "tuple":=let ⟨o,_,_,h1,h2,_⟩:=hy;⟨o,h1,h2⟩;unfold eqBool
 try with_reducible refine fR ?_
 show bA _ _ (if(cD a==cD b)=true then _ else _) Q E s
 by_cases hab:(cD a==cD b)=true
 ·rw[aB hab];have e:a=b:=by have:=eq_of_beq hab;injection this
  subst e;obtain⟨o,items,n,ho,_,hd,hi⟩:=hx;obtain⟨o',items',n',ho',_,hd',hi'⟩:=hy;obtain rfl:o=o':=bP (ho.symm.trans ho');rw[hd]at hd';injection hd' with h1 _
  subst h1;obtain rfl:=hi.inj hi';exact aE (wpAny_rule (aT (by simpa using h)))
 ·rw[aG hab];exact aE (wpAny_richCompare_same_room (op:=.Eq) tx ty F.slot_tuple_eq
   (jA F.slot_tuple_eq tx F.entry_tuple_eq (L7 (by show A.units+1+2<dO;lia) hx hy ⟨_,rfl,(λe=>nomatch e),dE h⟩) (F.args_tuple_eq_2 _ _)) (by lia))
end
noncomputable def mj(prog:bN)(w:cH):HeapKind prog w cy where
 is:=pf prog w
 hash:=λk=>reduceHash (cW (k.map (uq w prog)))
 draws:=λk=>x9 k+1
 room:=λA=>A.units+4<dO
 inj:=λhx hy=>by
  obtain⟨o,items,n,ho,_,hd,hi⟩:=hx;obtain⟨o',items',n',ho',_,hd',hi'⟩:=hy;obtain rfl:o=o':=bP (ho.symm.trans ho');rw[hd]at hd';injection hd' with h1 _
  subst h1;exact hi.inj hi'
 keeps:=λx ho hd hs=>by
  obtain⟨o',items,n,ho',hc,hd',hi⟩:=x;refine⟨o',items,n,(hs.2 _ ?_).trans ho',hc,hd',hi.keeps ho hd hs⟩
  rintro rfl
  obtain rfl:=bP (ho'.symm.trans ho);rw[hd]at hd';exact nomatch hd'
 pyHash:=λhu hk h=>Qx hu hk h
 eqBool:=λhu hx hy h=>Pw hu hx hy h
 quiet:=λhk h=>Vr hk h
def gq{A:cO}(h:A.units+5<dO):(mj prog w).room A.in1:=by show A.units+1+4<dO;lia
end L2
namespace L2
open PySem PySem.Spec PyProof.Rows
inductive V where
 |non|bl (b:Bool)|int (i:Int)|str (x:Str)|byt (b:Array UInt8)|flt (b:UInt64)|ref (a:Addr)|ty (n:String)
 deriving DecidableEq
def RelV:V->aC->Prop
 |.non,u=>u=dD
 |.bl b,u=>u=gR b
 |.int i,u=>∃t,u=Value.int i t
 |.str x,u=>∃t,u=Value.str x t
 |.byt b,u=>∃t,u=Value.bytes b t
 |.flt b,u=>∃t,u=Value.float b t
 |.ref a,u=>u=cD a
 |.ty n,u=>u=Value.type n
abbrev Vals:List V->List aC->Prop:=Paired RelV
theorem Vals.length{xs:List V}{us:List aC}(r:Vals xs us):xs.length=us.length:=lD r
theorem Vals.get:∀{xs:List V}{us:List aC}{i:Nat}{x:V},Vals xs us->xs[i]?=some x->∃u,us[i]?=some u/\RelV x u
 |_,_,_,_,.nil,e=>by simp at e
 |_,_,0,_,.cons r _,e=>by simp at e;subst e;exact⟨_,rfl,r⟩
 |_,_,i+1,x,.cons _ t,e=>by
  obtain⟨u,h1,h2⟩:=Vals.get (i:=i) (x:=x) t (by simpa using e);exact⟨u,by simpa using h1,h2⟩
theorem Vals.set(r:RelV x u):∀{xs:List V}{us:List aC}(i:Nat),Vals xs us->Vals (xs.set i x) (us.set i u)
 |_,_,_,.nil=>.nil
 |_,_,0,.cons _ t=>.cons r t
 |_,_,i+1,.cons q t=>.cons q (Vals.set r i t)
theorem Vals.append:∀{xs ys:List V}{us ws:List aC},Vals xs us->Vals ys ws->Vals (xs++ys) (us++ws)
 |_,_,_,_,.nil,s=>s
 |_,_,_,_,.cons r t,s=>.cons r (Vals.append t s)
theorem Vals.take:∀{xs:List V}{us:List aC}(n:Nat),Vals xs us->Vals (xs.take n) (us.take n)
 |_,_,0,_=>.nil
 |_,_,_+1,.nil=>.nil
 |_,_,n+1,.cons r t=>.cons r (Vals.take n t)
theorem Vals.drop:∀{xs:List V}{us:List aC}(n:Nat),Vals xs us->Vals (xs.drop n) (us.drop n)
 |_,_,0,r=>r
 |_,_,_+1,.nil=>.nil
 |_,_,n+1,.cons _ t=>Vals.drop n t
def RelO:Option V->Option aC->Prop
 |some v,some u=>RelV v u
 |none,none=>True
 |_,_=>False
def KV:List (κ×V)->List (κ×aC)->Prop:=Paired λ(p:κ×V)(q:κ×aC)=>p.1=q.1/\RelV p.2 q.2
def kV:j9->V
 |.inl i=>.int i
 |.inr x=>.str x
inductive HO where
 |lst (xs:List V)
 |tup (xs:List V)
 |dK (kvs:List (j9×V))|dT (kvs:List (cy×V))
 |set (S:Int->Bool) (n:Nat)
 |ins (C dx:Addr) (fs:List (Str×V))
 |own (x:Addr)
 |xd (fs:List (Str×V))
 |met (f x:Addr)
 |rng (lo hi:Int)
 |frz (o:Obj) (u:HO)
 |tbl (q:Str)
 |ext (φ:Heap->Prop)
abbrev Hp:=Addr->Option HO
def upd(H:Hp)(a:Addr)(o:HO):Hp:=λb=>if b=a then some o else H b
def bz:upd H a o a=some o:=by unfold upd;rw[aB rfl]
def bt(h:b≠a):upd H a o b=H b:=by unfold upd;rw[aG h]
def LW{H:Hp}{a b:Addr}{o u:HO}(h:H a=some o)(h':H b=some u)(d:o≠u):a≠b:=by
 intro e;subst e;rw[h]at h';exact d (bP h')
def c7{H:Hp}{a b:Addr}{o:HO}(h:H a=some o)(h':H b=none):a≠b:=by
 intro e;subst e;rw[h]at h';cases h'
def nkAt(H:Hp):NK->V->Prop
 |.inl k,v=>v=kV k
 |.inr ks,v=>∃b,v=.ref b/\H b=some (.tup (ks.map kV))
def NkL(H:Hp):cy->List V->Prop
 |[],vs=>vs=[]
 |k::r,vs=>∃v t,vs=v::t/\nkAt H k v/\NkL H r t
def TkAt(H:Hp)(k:cy)(b:Addr):Prop:=∃vs,H b=some (.tup vs)/\NkL H k vs
def nkAt.mono(ht:∀b xs,H b=some (.tup xs)->H' b=some (.tup xs)):∀{k:NK}{v:V},nkAt H k v->nkAt H' k v
 |.inl _,_,e=>e
 |.inr _,_,⟨b,e,q⟩=>⟨b,e,ht _ _ q⟩
theorem NkL.mono(ht:∀b xs,H b=some (.tup xs)->H' b=some (.tup xs)):∀{k:cy}{vs:List V},NkL H k vs->NkL H' k vs
 |[],_,e=>e
 |_::_,_,⟨v,t,e,q,r⟩=>⟨v,t,e,nkAt.mono ht q,NkL.mono ht r⟩
theorem TkAt.mono(ht:∀b xs,H b=some (.tup xs)->H' b=some (.tup xs))(h:TkAt H k b):TkAt H' k b:=
 let ⟨vs,h1,h2⟩:=h
 ⟨vs,ht _ _ h1,h2.mono ht⟩
def Trip(H:Hp)(q:Str):List aC->Prop
 |[]=>True
 |.int _ _::.int _ _::.ref c'::r=>(∃(oc:Obj) (vs:Array aC) (t:Tok),H c'=some (.frz oc (.own 0))/\oc.data=.fields vs/\vs[1]?=some (.str q t))/\Trip H q r
 |_=>False
def Trip.mono(hz:∀b o u,H b=some (.frz o u)->H' b=some (.frz o u))(l:List aC)(h:Trip H q l):Trip H' q l:=by
 fun_induction Trip H q l with
 |case1=>unfold Trip;trivial
 |case2 _ _ _ _ c' r ih=>
  obtain⟨⟨oc,vs,t,e1,e2⟩,h2⟩:=h;unfold Trip;exact⟨⟨oc,vs,t,hz _ _ _ e1,e2⟩,ih h2⟩
 |case3=>exact h.elim
section
variable(P:bN)(w:cH)
def ObjOk(H:Hp)(h:Heap)(a:Addr):HO->Prop
 |.lst xs=>xs.length<=aD/\∃(its:List aC) (n:Nat),Vals xs its/\h.get? a=some {cls:=.type "list",data:=.seq its.toArray n}
 |.tup xs=>xs.length<=aD/\∃its:List aC,Vals xs its/\IsTup h a its.toArray
 |.dK kvs=>kvs.length<=aD/\(a==eY)=false/\∃vs,KV kvs vs/\h.DictOf (cw P w) a vs
 |.dT kvs=>kvs.length<=aD/\(a==eY)=false/\∃xs:List (cy×Addr×aC),
   Paired (λ(p:cy×V)(q:cy×Addr×aC)=>p.1=q.1/\TkAt H p.1 q.2.1/\RelV p.2 q.2.2) kvs xs/\
   ∃o es ep,h.get? a=some o/\o.ExactDict/\o.data=.dict es ep/\es.toList=xs.map (entryOfKey (mj P w))/\(xs.map (·.1)).Nodup
 |.set S n=>h.SetOf (intKind P w) a S n
 |.ins C dx fs=>H dx=some (.own a)/\fs.length<=1000/\dx≠a/\h.get? a=some (fF C dx)/\
   ∃mA,h.Ns1 dx mA/\(∀f,RelO (fs.lookup f) (mA f))/\PySem.Within mA (fs.map (·.1))
 |.own _=>∃o,h.get? a=some o
 |.xd fs=>∃mA,h.Ns1 a mA/\∀f,RelO (fs.lookup f) (mA f)
 |.rng lo hi=>∃t u v,h.get? a=some {cls:=.type "range",data:=.fields #[.int lo t,.int hi u,.int 1 v]}
 |.frz o u=>h.get? a=some o/\ObjOk H h a u
 |.tbl q=>∃ps:Array aC,h.get? a=some {cls:=.none,data:=.fields ps}/\Trip H q ps.toList
 |.met f x=>h.get? a=some (kU (.ref f) (.ref x))
 |.ext φ=>φ h/\(∃o,h.get? a=some o)/\∀h1 h2:Heap,φ h1->(∀o,h1.get? a=some o->h2.get? a=some o)->φ h2
def HOk(H:Hp)(h:Heap):Prop:=∀a o,H a=some o->ObjOk P w H h a o
end
section
variable{P:bN}{w:cH}{H H':Hp}{h h':Heap}{a:Addr}{o:HO}
theorem ObjOk.lt(x:ObjOk P w H h a o):a<h.objs.size:=by
 cases o with
 |lst xs=>obtain⟨_,_,_,_,e⟩:=x;exact aX e
 |tup xs=>obtain⟨_,_,_,p⟩:=x;exact p.lt
 |dK kvs=>obtain⟨_,_,_,_,o,_,_,e,_⟩:=x;exact aX e
 |dT kvs=>obtain⟨_,_,_,_,o,_,_,e,_⟩:=x;exact aX e
 |set S n=>obtain⟨o,_,_,_,e,_⟩:=x;exact aX e
 |ins C dx fs=>obtain⟨_,_,_,e,_⟩:=x;exact aX e
 |own y=>obtain⟨_,e⟩:=x;exact aX e
 |xd fs=>obtain⟨_,⟨_,_,_,e,_⟩,_⟩:=x;exact aX e
 |rng lo hi=>obtain⟨_,_,_,e⟩:=x;exact aX e
 |frz ob u=>obtain⟨e,_⟩:=x;exact aX e
 |tbl q=>obtain⟨ps,e,_⟩:=x;exact aX e
 |met f y=>exact aX (show h.get? a=some _ from x)
 |ext φ=>obtain⟨_,⟨_,e⟩,_⟩:=x;exact aX e
theorem Paired.mapP:∀{l₁:List α}{l₂:List β},Paired F l₁ l₂->(∀a b,F a b->G a b)->Paired G l₁ l₂
 |_,_,.nil,_=>.nil
 |_,_,.cons r t,f=>.cons (f _ _ r) (Paired.mapP t f)
def ObjOk.stay(x:ObjOk P w H h a o)(k:∀b u,(b=a\/H b=some (.own a))->h.get? b=some u->h'.get? b=some u)
  (ho:∀b,H b=some (.own a)->H' b=some (.own a))(ht:∀b xs,H b=some (.tup xs)->H' b=some (.tup xs))(hz:∀b o u,H b=some (.frz o u)->H' b=some (.frz o u):=by exact λ_ _ _ q=>q):ObjOk P w H' h' a o:=by
 induction o with
 |lst xs=>obtain⟨z,its,n,r,e⟩:=x;exact⟨z,its,n,r,k _ _ (.inl rfl) e⟩
 |tup xs=>obtain⟨z,its,r,ob,e,c⟩:=x;exact⟨z,its,r,ob,k _ _ (.inl rfl) e,c⟩
 |dK kvs=>obtain⟨z,y,vs,r,ob,es,ep,e,c⟩:=x;exact⟨z,y,vs,r,ob,es,ep,k _ _ (.inl rfl) e,c⟩
 |dT kvs=>
  obtain⟨z,y,xs,r,ob,es,ep,e,c⟩:=x;exact⟨z,y,xs,Paired.mapP r λp q z=>⟨z.1,z.2.1.mono ht,z.2.2⟩,ob,es,ep,k _ _ (.inl rfl) e,c⟩
 |set S n=>obtain⟨ob,es,ep,t,e,c⟩:=x;exact⟨ob,es,ep,t,k _ _ (.inl rfl) e,c⟩
 |ins C dx fs=>
  obtain⟨d,z,ne,e,mA,⟨od,es,ep,e2,c⟩,r⟩:=x;exact⟨ho _ d,z,ne,k _ _ (.inl rfl) e,mA,⟨od,es,ep,k _ _ (.inr d) e2,c⟩,r⟩
 |own y=>obtain⟨ob,e⟩:=x;exact⟨ob,k _ _ (.inl rfl) e⟩
 |xd fs=>obtain⟨mA,⟨od,es,ep,e,c⟩,r⟩:=x;exact⟨mA,⟨od,es,ep,k _ _ (.inl rfl) e,c⟩,r⟩
 |rng lo hi=>obtain⟨t,u,v,e⟩:=x;exact⟨t,u,v,k _ _ (.inl rfl) e⟩
 |frz ob u ih=>obtain⟨e,q⟩:=x;exact⟨k _ _ (.inl rfl) e,ih q⟩
 |tbl q=>
  obtain⟨ps,e,r⟩:=x;exact⟨ps,k a _ (.inl rfl) e,r.mono hz⟩
 |met f y=>
  have e:h.get? a=some (kU (.ref f) (.ref y)):=x;show h'.get? a=some (kU (.ref f) (.ref y));exact k a _ (.inl rfl) e
 |ext φ=>obtain⟨p,⟨o,e⟩,st⟩:=x;exact⟨st _ _ p λo q=>k _ _ (.inl rfl) q,⟨o,k _ _ (.inl rfl) e⟩,st⟩
theorem HOk.lt(x:HOk P w H h)(e:H a=some o):a<h.objs.size:=(x a o e).lt
def HOk.fresh(x:HOk P w H h)(e:h.objs.size<=a):H a=none:=by
 cases q:H a with
 |none=>rfl
 |some u=>exact absurd (aW (x.lt q) e) (cK _)
def HOk.kept(x:HOk P w H h)(k:∀b u,h.get? b=some u->h'.get? b=some u):HOk P w H h':=λa o e=>
 (x a o e).stay (λb u _ q=>k b u q) (λ_ q=>q) λ_ _ q=>q
def HOk.laid(x:HOk P w H h)(k:∀b u,h.get? b=some u->h'.get? b=some u)(hp:h.objs.size<=a)(new:ObjOk P w (upd H a o) h' a o):HOk P w (upd H a o) h':=λb u e=>by
 have hn:=x.fresh hp
 by_cases hb:b=a
 ·subst hb;rw[bz]at e;cases e;exact new
 ·rw[bt hb]at e;exact(x b u e).stay (λc v _ q=>k c v q) (λc q=>by rw[bt (c7 q hn)];exact q) (λc xs q=>by rw[bt (c7 q hn)];exact q) λc ob u q=>by rw[bt (c7 q hn)];exact q
end
def Rd(H:Hp)(a:Addr)(u:HO):Prop:=H a=some u\/∃o,H a=some (.frz o u)
def Rd.of(h:H a=some u):Rd H a u:=.inl h
def Rd.ok(r:Rd H a u)(x:HOk P w H h):ObjOk P w H h a u:=by
 rcases r with r|⟨o,r⟩
 ·exact x a u r
 ·obtain⟨_,q⟩:=x a _ r;exact q
def JB:Option HO->Prop
 |some (.lst _)=>True
 |some (.dK _)=>True
 |some (.dT _)=>True
 |some (.set _ _)=>True
 |some (.ins _ _ _)=>True
 |some (.ext _)=>True
 |_=>False
section
variable{P:bN}{w:cH}{H:Hp}{h h':Heap}{x e:Addr}{o':HO}
def HOk.write(ok:HOk P w H h)(mu:JB (H x))(he:e=x\/H e=some (.own x))(k:∀b u,b≠e->h.get? b=some u->h'.get? b=some u)(heo:∃u,h'.get? e=some u)
  (new:ObjOk P w (upd H x o') h' x o'):HOk P w (upd H x o') h':=λb u q=>by
 have nown:∀c y,H c=some (.own y)->c≠x:=λc y r z=>by subst z;rw[r]at mu;exact mu
 have ntup:∀c xs,H c=some (.tup xs)->c≠x:=λc xs r z=>by subst z;rw[r]at mu;exact mu
 have nfrz:∀c ob v,H c=some (.frz ob v)->c≠x:=λc ob v r z=>by subst z;rw[r]at mu;exact mu
 by_cases hb:b=x
 ·subst hb;rw[bz]at q;cases q;exact new
 ·rw[bt hb]at q
  by_cases hbe:b=e
  ·have q':H b=some (.own x):=by
    rcases he with z|z
    ·exact absurd (hbe.trans z) hb
    ·rw[hbe];exact z
   rw[q]at q';cases q';obtain⟨v,hv⟩:=heo;exact⟨v,by rw[hbe];exact hv⟩
  ·refine(ok b u q).stay (λc v hc r=>k c v ?_ r) (λc r=>by rw[bt (nown c b r)];exact r) (λc xs r=>by rw[bt (ntup c xs r)];exact r) λc ob v r=>by rw[bt (nfrz c ob v r)];exact r
   rcases hc with rfl|hc
   ·exact hbe
   ·rintro rfl
    rcases he with z|z
    ·exact nown c b hc z
    ·rw[hc]at z;cases z;exact hb rfl
end
structure Un(fs ex:List Addr)(H H':Hp)(h h':Heap):Prop where
 keep:∀b o,h.get? b=some o->H b=none->b∉fs->b∉ex->h'.get? b=some o
 slot:∀b o,h.get? b=some o->H b=none->b∈fs->b∉ex->∃sl,h'.get? b=some {o with slots:=sl}
 free:∀b o,h.get? b=some o->H b=none->b∉ex->H' b=none
 there:∀b o,h.get? b=some o->b∉ex->∃o',h'.get? b=some o'
 tups:∀b xs,H b=some (.tup xs)->H' b=some (.tup xs)
 frzs:∀b o u,H b=some (.frz o u)->H' b=some (.frz o u)
 tbls:∀b q,H b=some (.tbl q)->H' b=some (.tbl q)
section
variable{fs fs' ex ex':List Addr}{H H1 H2:Hp}{h h1 h2 h':Heap}{a x e:Addr}{o:HO}
def Un.any(u:Un fs ex H H1 h h1)(q:h.get? b=some ob)(n:H b=none)(hx:b∉ex):∃sl,h1.get? b=some {ob with slots:=sl}:=by
 by_cases hb:b∈fs
 ·exact u.slot b ob q n hb hx
 ·exact⟨ob.slots,u.keep b ob q n hb hx⟩
def Un.trans(a:Un fs ex H H1 h h1)(b:Un fs ex H1 H2 h1 h2):Un fs ex H H2 h h2 where
 keep:=λc ob q n hc hx=>b.keep c ob (a.keep c ob q n hc hx) (a.free c ob q n hx) hc hx
 slot:=λc ob q n hc hx=>by
  obtain⟨sl,e1⟩:=a.slot c ob q n hc hx;obtain⟨sl',e2⟩:=b.slot c _ e1 (a.free c ob q n hx) hc hx;exact⟨sl',e2⟩
 free:=λc ob q n hx=>by
  obtain⟨o',e1⟩:=a.there c ob q hx;exact b.free c o' e1 (a.free c ob q n hx) hx
 there:=λc ob q hx=>by
  obtain⟨o',e1⟩:=a.there c ob q hx;exact b.there c o' e1 hx
 tups:=λc xs q=>b.tups c xs (a.tups c xs q)
 frzs:=λc ob xs q=>b.frzs c ob xs (a.frzs c ob xs q)
 tbls:=λp q z=>b.tbls p q (a.tbls p q z)
def Un.kept(k:∀b u,h.get? b=some u->h'.get? b=some u):Un fs ex H H h h':=
 ⟨λb ob q _ _ _=>k b ob q,λb ob q _ _ _=>⟨ob.slots,k b ob q⟩,λ_ _ _ n _=>n,λb ob q _=>⟨ob,k b ob q⟩,λ_ _ q=>q,λ_ _ _ q=>q,λ_ _ q=>q⟩
def Un.refl:Un fs ex H H h h:=Un.kept λ_ _ q=>q
def Un.laid(k:∀b u,h.get? b=some u->h'.get? b=some u)(hp:h.objs.size<=a)(hn:H a=none):Un fs ex H (upd H a o) h h' where
 keep:=λb u q _ _ _=>k b u q
 slot:=λb u q _ _ _=>⟨u.slots,k b u q⟩
 free:=λb u q n _=>by rw[bt (cI (aW (aX q) hp))];exact n
 there:=λb u q _=>⟨u,k b u q⟩
 tups:=λb xs q=>by rw[bt (c7 q hn)];exact q
 frzs:=λb u xs q=>by rw[bt (c7 q hn)];exact q
 tbls:=λb _ q=>by rw[bt (c7 q hn)];exact q
def Un.write(mu:JB (H x))(he:e=x\/H e=some (.own x))(k:∀b u,b≠e->h.get? b=some u->h'.get? b=some u)(heo:∃u,h'.get? e=some u):Un fs ex H (upd H x o) h h':=by
 have hx:∀b,H b=none->b≠x:=λb n z=>by subst z;rw[n]at mu;exact mu
 have hb:∀b,H b=none->b≠e:=λb n z=>by
  subst z;rcases he with r|r
  ·exact hx b n r
  ·rw[n]at r;cases r
 have hm:∀b u,H b=some u->¬JB (some u)->b≠x:=λb u q nm z=>by subst z;rw[q]at mu;exact nm mu
 refine⟨λb u q n _ _=>k b u (hb b n) q,λb u q n _ _=>⟨u.slots,k b u (hb b n) q⟩,λb u q n _=>by rw[bt (hx b n)];exact n,λb u q _=>?_,
  λb xs q=>by rw[bt (hm b _ q λz=>z)];exact q,λb u xs q=>by rw[bt (hm b _ q λz=>z)];exact q,λb _ q=>by rw[bt (hm b _ q λz=>z)];exact q⟩
 by_cases hbe:b=e
 ·subst hbe;exact heo
 ·exact⟨u,k b u hbe q⟩
def Un.mono(u:Un fs ex H H1 h h1)(hs:∀b∈fs,b∈fs')(hx:∀b∈ex,b∈ex'):Un fs' ex' H H1 h h1:=
 ⟨λb ob q n hb he=>u.keep b ob q n (λz=>hb (hs b z)) λz=>he (hx b z),λ_ _ q n _ he=>u.any q n λz=>he (hx _ z),λb ob q n he=>u.free b ob q n λz=>he (hx b z),λb ob q he=>u.there b ob q λz=>he (hx b z),u.tups,u.frzs,u.tbls⟩
end
def OO(h:Heap)(H:Hp):List Addr:=(cF h.objs.size).filter λa=>(H a).isSome
def Dh(h:Heap)(H:Hp):Heap:=PySem.W.hideAll h (OO h H)
def P3(h:Heap)(H:Hp):(Dh h H).objs.size=h.objs.size:=PySem.W.hideAll_size _ _
def Te{h:Heap}(e:h.get? b=some o)(n:H b=none):(Dh h H).get? b=some o:=
 PySem.W.hideAll_get _ e λhm=>by
  have q:(H b).isSome=true:=(List.mem_filter.mp hm).2;rw[n]at q;simp at q
def Zb{h:Heap}(e:(Dh h H).get? b=some o):h.get? b=some o/\H b=none:=by
 have e':h.get? b=some o:=PySem.W.of_hideAll (OO h H) e;refine⟨e',?_⟩;cases q:H b with
 |none=>rfl
 |some x=>
  have hm:b∈OO h H:=List.mem_filter.mpr ⟨List.mem_range.mpr (aX e'),by simp[q]⟩;have z:(Dh h H).get? b=none:=PySem.W.hideAll_none (OO h H) hm;rw[z]at e;cases e
def Xp(g h:Heap)(L:Addr):List (Addr×Obj):=(cF h.objs.size).filterMap λa=>if a=L\/(g.get? a).isSome=true then none else(h.get? a).map λo=>(a,o)
def cx(g h:Heap)(L d:Addr):List (Addr×Obj):=(Xp g h L).filter λp=>decide (p.1≠d)
end L2
namespace L2
open PySem PySem.Spec PyProof.Rows
structure Mod(K:aP)(mg:Str->Option aC)(base:Heap):Prop where
 kin:K.In base
 glob:base.Ns cG mg
 blt:∃mb,base.Ns jC mb/\∀x:Str,x≠"__name__"->mb x=eN x
 nolimit:base.NoLimit
structure Cx where
 prog:bN
 w:cH
 K:aP
 mg:Str->Option aC
 base:Heap
 A:cO
 N:List Str
 s₀:aK
 H₀:Hp
 env:Env
 outer:List Env
 stack:List Env
 ex:List Addr
 fn:Str->Bool
 calm:Bool
 pn:List (Addr×Obj)
 xe:aC->aK->Prop
def wg(l:List Env):List Addr:=l.filterMap (·.frame)
abbrev Cx.fs(X:Cx):List Addr:=wg X.outer
def JU(sc:eS)(x:Str):Prop:=sc.names.lookup x=some .local\/sc.names.lookup x=some .cell\/sc.names.lookup x=some .free
def Xo(sc:eS)(x:Str):Prop:=sc.names.lookup x=some .local\/sc.names.lookup x=some .cell
def QO(env:Env)(h:Heap)(m:Str->Option aC)(x:Str)(u:aC):Prop:=
 (env.kindOf x=some .local/\m x=some u)\/((env.kindOf x=some .cell\/env.kindOf x=some .free)/\∃c,env.cells.lookup x=some c/\h.IsCell c (some u))
structure Cx.Ok(X:Cx):Prop where
 mod:Mod X.K X.mg X.base
 kind:X.env.scope.kind=.function
 glob:X.env.globals=cG
 blt:X.env.builtins=jC
 above:X.s₀.heap.objs.size<=X.env.locals
 inj:∀x y c,X.env.cells.lookup x=some c->X.env.cells.lookup y=some c->x=y
 has:∀x,(X.env.kindOf x=some .cell\/X.env.kindOf x=some .free)->∃c,X.env.cells.lookup x=some c
 cab:∀x c,X.fn x=true->X.env.cells.lookup x=some c->X.s₀.heap.objs.size<=c
 hd:X.calm=true->X.A.handled=none
 frames:X.A.frames=some X.stack
 stk:X.stack=X.outer\/(X.stack=X.env::X.outer/\X.env.frame=some X.env.locals)
 exf:∀b∈X.ex,b≠X.env.locals/\∀x c,X.env.cells.lookup x=some c->c≠b
 bs:∀b o,X.base.get? b=some o->X.s₀.heap.get? b=some o/\X.H₀ b=none
 bsz:X.base.objs.size<=X.s₀.heap.objs.size
 noex:∀b o,X.base.get? b=some o->b∉X.ex
 exfs:∀b∈X.ex,b∉X.fs
 funs:X.s₀.heap.FunFrames X.base X.outer
 frf:∀b∈X.fs,X.H₀ b=none
structure Inv(X:Cx)(pins:List (Addr×Obj))(Z:List (Option V))(H:Hp)(s:aK):Prop where
 ok:X.Ok
 os:s.os=X.s₀.os
 bare:jZ s.gens
 base:Un X.fs X.ex X.H₀ H X.s₀.heap s.heap
 loc:∃m,s.heap.Ns X.env.locals m/\∀(i:Nat)(x:Str)(v:V),X.N[i]?=some x->Z[i]?=some (some v)->JU X.env.scope x->∃u,RelV v u/\QO X.env s.heap m x u
 cell:∀x c,X.env.cells.lookup x=some c->∃v,s.heap.IsCell c v
 free:H X.env.locals=none
 freeC:∀x c,X.env.cells.lookup x=some c->H c=none\/(X.fn x=false/\∃o,H c=some (.frz o (.own 0)))
 pin:∀p∈X.pn++pins,s.heap.get? p.1=some p.2/\H p.1=none/\p.1≠X.env.locals/\p.1∉X.fs/\∀v,p.2.data≠.cell v
 hok:HOk X.prog X.w H s.heap
 len:Z.length=X.N.length
section
variable{X:Cx}{pins:List (Addr×Obj)}{Z:List (Option V)}{H H':Hp}{s:aK}{h':Heap}
def Cx.Ok.nofr(ok:X.Ok)(e:X.base.get? b=some o):b∉X.fs:=λhb=>by
 have:=(ok.funs.mem hb).1;rw[e]at this;cases this
theorem Inv.bs(I:Inv X pins Z H s):∀b o,X.base.get? b=some o->s.heap.get? b=some o/\H b=none:=λb o e=>
 ⟨I.base.keep b o (I.ok.bs b o e).1 (I.ok.bs b o e).2 (I.ok.nofr e) (I.ok.noex b o e),I.base.free b o (I.ok.bs b o e).1 (I.ok.bs b o e).2 (I.ok.noex b o e)⟩
def Inv.bk(I:Inv X pins Z H s):∀b o,X.base.get? b=some o->s.heap.get? b=some o:=λb o e=>(I.bs b o e).1
theorem Inv.mod(I:Inv X pins Z H s):Mod X.K X.mg X.base:=I.ok.mod
def Inv.kIn(I:Inv X pins Z H s):X.K.In s.heap:=I.ok.mod.kin.keeps I.bk
theorem Inv.nolimit(I:Inv X pins Z H s):s.heap.NoLimit:=I.ok.mod.nolimit.keeps I.bk
def Inv.fr(I:Inv X pins Z H s):∃m,Fr X.base X.env.locals s.heap m:=
 let ⟨m,hn,_⟩:=I.loc
 ⟨m,hn,I.bk,bC I.ok.bsz I.ok.above⟩
theorem Inv.lt(I:Inv X pins Z H s):X.env.locals<s.heap.objs.size:=let ⟨_,hn,_⟩:=I.loc;hn.lt
def Inv.sz(I:Inv X pins Z H s):X.s₀.heap.objs.size<=s.heap.objs.size:=bC I.ok.above (Nat.le_of_lt I.lt)
def Inv.nofs(I:Inv X pins Z H s)(h:s.heap.objs.size<=a):a∉X.fs:=λhb=>by
 obtain⟨_,o,ho,_⟩:=I.ok.funs.mem hb;exact absurd (aW (aX ho) (bC I.sz h)) (cK _)
def Inv.cne(I:Inv X pins Z H s):∀x c,X.env.cells.lookup x=some c->c≠X.env.locals:=λx c e z=>by
 obtain⟨v,o,ho,hd⟩:=I.cell x c e;obtain⟨m,⟨o',es,ep,ho',hd',_⟩,_⟩:=I.loc;rw[z,ho']at ho;cases ho;rw[hd']at hd;cases hd
theorem Inv.funs(I:Inv X pins Z H s):s.heap.FunFrames X.base X.outer:=by
 have all:∀(l:List Env),(∀b∈wg l,b∈X.fs)->X.s₀.heap.FunFrames X.base l->s.heap.FunFrames X.base l:=by
  intro l;induction l with
  |nil=>intro _ _;trivial
  |cons env r ih=>
   intro hs hl;obtain⟨hk,⟨L,o,hf,hn,ho,hd⟩,hr⟩:=hl;have hL:L∈X.fs:=hs L (by unfold wg;rw[cR,hf];exact aH);obtain⟨sl,e⟩:=I.base.slot L o ho (I.ok.frf L hL) hL λz=>I.ok.exfs L z hL;exact⟨hk,⟨L,_,hf,hn,e,hd⟩,ih (λb hb=>hs b (by unfold wg;rw[cR,hf];exact aF _ hb)) hr⟩
 exact all X.outer (λ_ hb=>hb) I.ok.funs
theorem Inv.stack(I:Inv X pins Z H s):s.heap.FunFrames X.base X.stack:=by
 rcases I.ok.stk with e|⟨e,hf⟩
 ·rw[e];exact I.funs
 ·rw[e];obtain⟨m,hn,_⟩:=I.loc;refine .cons (by rw[I.ok.kind];decide) hf hn ?_ I.funs;exact jJ (bC I.ok.bsz I.ok.above)
def Inv.stkSub(I:Inv X pins Z H s):∀b∈wg X.stack,b∈X.env.locals::X.fs:=λb hb=>by
 rcases I.ok.stk with e|⟨e,hf⟩
 ·rw[e]at hb;exact aF _ hb
 ·rw[e]at hb;unfold wg at hb;rw[cR,hf]at hb;exact hb
def Inv.stkFree(I:Inv X pins Z H s):∀b∈wg X.stack,H b=none:=λb hb=>by
 rcases List.mem_cons.mp (I.stkSub b hb)with e|hb
 ·rw[e];exact I.free
 ·obtain⟨_,o,ho,_⟩:=I.ok.funs.mem hb;exact I.base.free b o ho (I.ok.frf b hb) λz=>I.ok.exfs b z hb
def Inv.step{g':Array GenState}{t':Nat}{d':Drawn}{ch:List Addr}(I:Inv X pins Z H s)
  (hch:∀b∈ch,(b∈X.ex\/X.s₀.heap.objs.size<=b)/\b≠X.env.locals/\(∀x c,X.env.cells.lookup x=some c->c≠b)/\∀p∈X.pn++pins,p.1≠b)
  (keep:∀b o,b≠X.env.locals->b∉X.fs->b∉ch->s.heap.get? b=some o->H b=none->h'.get? b=some o)
  (slot:∀b o,b≠X.env.locals->b∈X.fs->b∉ch->s.heap.get? b=some o->H b=none->∃sl,h'.get? b=some {o with slots:=sl}) (free:∀b o,b∉ch->s.heap.get? b=some o->H b=none->H' b=none)
  (there:∀b o,b∉ch->s.heap.get? b=some o->∃o',h'.get? b=some o')
  (tups:∀b xs,H b=some (.tup xs)->H' b=some (.tup xs)) (frzs:∀b o u,H b=some (.frz o u)->H' b=some (.frz o u)) (tbls:∀b q,H b=some (.tbl q)->H' b=some (.tbl q))
  (ns:∀m,s.heap.Ns X.env.locals m->h'.Ns X.env.locals m) (hok:HOk X.prog X.w H' h') (hg:jZ g'):
  Inv X pins Z H' {s with heap:=h',gens:=g',drawn:=d',toks:=t'}:=by
 have neL:∀b o,X.s₀.heap.get? b=some o->b≠X.env.locals:=λb o e=>cI (aW (aX e) I.ok.above);have neC:∀b o,X.s₀.heap.get? b=some o->b∉X.ex->b∉ch:=λb o e hx hb=>by
  rcases(hch b hb).1 with z|z
  ·exact hx z
  ·exact absurd (aW (aX e) z) (cK _)
 have cellK:∀x c,X.env.cells.lookup x=some c->∀v,s.heap.IsCell c v->h'.IsCell c v:=λx c e v ⟨o,ho,hd⟩=>by
  have nch:c∉ch:=λz=>(hch c z).2.2.1 x c e rfl;rcases I.freeC x c e with fr|⟨_,ob,fr⟩
  ·by_cases hc:c∈X.fs
   ·obtain⟨sl,q⟩:=slot c o (I.cne x c e) hc nch ho fr;exact⟨_,q,hd⟩
   ·exact⟨o,keep c o (I.cne x c e) hc nch ho fr,hd⟩
  ·obtain⟨q1,_⟩:=I.hok c _ fr;obtain⟨q2,_⟩:=hok c _ (frzs c ob _ fr);rw[ho]at q1;cases q1;exact⟨o,q2,hd⟩
 refine⟨I.ok,I.os,hg,⟨λb o e n hb hx=>?_,λb o e n hb hx=>?_,λb o e n hx=>?_,λb o e hx=>?_,λb xs e=>tups b xs (I.base.tups b xs e),λb o xs e=>frzs b o xs (I.base.frzs b o xs e),λb q e=>tbls b q (I.base.tbls b q e)⟩,?_,λx c e=>?_,?_,λx c e=>?_,λp hp=>?_,hok,I.len⟩
 ·exact keep b o (neL b o e) hb (neC b o e hx) (I.base.keep b o e n hb hx) (I.base.free b o e n hx)
 ·obtain⟨sl,e1⟩:=I.base.slot b o e n hb hx;obtain⟨sl',e2⟩:=slot b _ (neL b o e) hb (neC b o e hx) e1 (I.base.free b o e n hx);exact⟨sl',e2⟩
 ·obtain⟨o',e1⟩:=I.base.there b o e hx;exact free b o' (neC b o e hx) e1 (I.base.free b o e n hx)
 ·obtain⟨o',e1⟩:=I.base.there b o e hx;exact there b o' (neC b o e hx) e1
 ·obtain⟨m,hn,hl⟩:=I.loc;refine⟨m,ns m hn,λi x v e1 e2 e3=>?_⟩;obtain⟨u,r,l⟩:=hl i x v e1 e2 e3;refine⟨u,r,?_⟩;rcases l with l|⟨k,c,e,z⟩
  ·exact .inl l
  ·exact .inr ⟨k,c,e,cellK x c e _ z⟩
 ·obtain⟨v,z⟩:=I.cell x c e;exact⟨v,cellK x c e v z⟩
 ·obtain⟨m,⟨o,_,_,ho,_⟩,_⟩:=I.loc;exact free _ o (λz=>(hch _ z).2.1 rfl) ho I.free
 ·obtain⟨v,o,ho,hd⟩:=I.cell x c e;rcases I.freeC x c e with fr|⟨hf,ob,fr⟩
  ·exact .inl (free c o (λz=>(hch c z).2.2.1 x c e rfl) ho fr)
  ·exact .inr ⟨hf,ob,frzs c ob _ fr⟩
 ·obtain⟨e,n,ne,nf,d⟩:=I.pin p hp;have nch:p.1∉ch:=λz=>(hch p.1 z).2.2.2 p hp rfl;exact⟨keep p.1 p.2 ne nf nch e n,free p.1 p.2 nch e n,ne,nf,d⟩
def Inv.un(I:Inv X pins Z H s)(u:Un X.fs [] H H' s.heap h')(hok:HOk X.prog X.w H' h'):Inv X pins Z H' {s with heap:=h',toks:=t'}:=by
 obtain⟨m,⟨o,es,ep,ho,r⟩,_⟩:=id I.loc;obtain⟨sl,hL⟩:=u.any ho I.free (by simp);exact I.step (g':=s.gens) (d':=s.drawn) (ch:=[]) (λ_ z=>nomatch z) (λb o _ hb _ e n=>u.keep b o e n hb (by simp)) (λb o _ hb _ e n=>u.slot b o e n hb (by simp)) (λb o _ e n=>u.free b o e n (by simp)) (λb o _ e=>u.there b o e (by simp)) u.tups u.frzs u.tbls (λm' hm=>by
  obtain⟨o',es',ep',ho',r'⟩:=hm;rw[ho]at ho';cases ho';exact⟨_,es',ep',hL,r'⟩) hok I.bare
def Inv.call(I:Inv X pins Z H s)(u:Un (wg X.stack) ch H H' s.heap h')(hok:HOk X.prog X.w H' h')(hg:jZ g')
  (hch:∀b∈ch,(b∈X.ex\/X.s₀.heap.objs.size<=b)/\b≠X.env.locals/\(∀x c,X.env.cells.lookup x=some c->c≠b)/\∀p∈X.pn++pins,p.1≠b):
  Inv X pins Z H' {s with heap:=h',gens:=g',drawn:=d',toks:=t'}:=by
 obtain⟨m,⟨o,es,ep,ho,r⟩,_⟩:=id I.loc;obtain⟨sl,hL⟩:=u.any ho I.free λz=>(hch _ z).2.1 rfl;exact I.step (ch:=ch) hch (λb o hL hb hc e n=>u.keep b o e n (λz=>(List.mem_cons.mp (I.stkSub b z)).elim hL hb) hc) (λb o _ _ hc e n=>u.any e n hc) (λb o hc e n=>u.free b o e n hc) (λb o hc e=>u.there b o e hc) u.tups u.frzs u.tbls (λm' hm=>by
  obtain⟨o',es',ep',ho',r'⟩:=hm;rw[ho]at ho';cases ho';exact⟨_,es',ep',hL,r'⟩) hok hg
def Inv.turned(I:Inv X pins Z H s)(k:∀b o,b≠it->s.heap.get? b=some o->h'.get? b=some o)(hn:H it=none)(hL:it≠X.env.locals)
  (h1:it∈X.ex\/X.s₀.heap.objs.size<=it)(h2:∀x c,X.env.cells.lookup x=some c->c≠it)(h3:∀p∈X.pn++pins,p.1≠it):Inv X pins Z H {s with heap:=h',toks:=t'}:=by
 have nit:∀b u,H b=some u->b≠it:=λb u e z=>by rw[z,hn]at e;cases e
 refine I.step (g':=s.gens) (d':=s.drawn) (ch:=[it]) (λb hb=>?_) (λb o _ _ hc e _=>k b o (λz=>hc (by simp[z])) e) (λb o _ _ hc e _=>⟨o.slots,k b o (λz=>hc (by simp[z])) e⟩) (λ_ _ _ _ n=>n)
  (λb o hc e=>⟨o,k b o (λz=>hc (by simp[z])) e⟩) (λ_ _ e=>e) (λ_ _ _ e=>e) (λ_ _ e=>e) (λm hm=>?_) (λb u e=>?_) I.bare
 ·have e:b=it:=by simpa using hb
  subst e;exact⟨h1,hL,h2,h3⟩
 ·obtain⟨o,es,ep,ho,r⟩:=hm;exact⟨o,es,ep,k _ o (fZ hL) ho,r⟩
 ·refine(I.hok b u e).stay (λc v hc q=>k c v ?_ q) (λ_ q=>q) λ_ _ q=>q;rcases hc with z|z
  ·rw[z];exact nit b u e
  ·exact nit c _ z
def Inv.tok(I:Inv X pins Z H s)(t:Nat):Inv X pins Z H {s with toks:=t}:=I.un (h':=s.heap) (t':=t) Un.refl I.hok
theorem Inv.kept(I:Inv X pins Z H s)(k:∀b u,s.heap.get? b=some u->h'.get? b=some u):Inv X pins Z H {s with heap:=h',toks:=t'}:=I.un (Un.kept k) (I.hok.kept k)
theorem Inv.laid(I:Inv X pins Z H s)(k:∀b u,s.heap.get? b=some u->h'.get? b=some u)(hp:s.heap.objs.size<=a)(new:ObjOk X.prog X.w (upd H a o) h' a o):
  Inv X pins Z (upd H a o) {s with heap:=h',toks:=t'}:=I.un (Un.laid k hp (I.hok.fresh hp)) (I.hok.laid k hp new)
theorem Inv.write(I:Inv X pins Z H s)(mu:JB (H x))(he:e=x\/H e=some (.own x))(k:∀b u,b≠e->s.heap.get? b=some u->h'.get? b=some u)(heo:∃u,h'.get? e=some u)
  (new:ObjOk X.prog X.w (upd H x o) h' x o):Inv X pins Z (upd H x o) {s with heap:=h',toks:=t'}:=I.un (Un.write mu he k heo) (I.hok.write mu he k heo new)
def Inv.pins_of(I:Inv X pins Z H s)(h:∀p∈pins',s.heap.get? p.1=some p.2/\H p.1=none/\p.1≠X.env.locals/\p.1∉X.fs/\∀v,p.2.data≠.cell v):Inv X pins' Z H s:=
 ⟨I.ok,I.os,I.bare,I.base,I.loc,I.cell,I.free,I.freeC,λp hp=>(List.mem_append.mp hp).elim (λz=>I.pin p (dM _ z)) (h p),I.hok,I.len⟩
def Bx{N:List Str}(hN:N.Nodup){i j:Nat}{x:Str}(a:N[i]?=some x)(b:N[j]?=some x):i=j:=by
 obtain⟨h1,e1⟩:=List.getElem?_eq_some_iff.mp a;obtain⟨h2,e2⟩:=List.getElem?_eq_some_iff.mp b;exact(List.getElem_inj hN).mp (e1.trans e2.symm)
def y0(I:Inv X pins Z H s)(hN:X.N.Nodup)(hi:X.N[i]?=some x)(hx:Xo X.env.scope x)(r:RelV v u)
  (h:∀s',Inv X pins (Z.set i (some v)) H s'->(∃a,fK a s.heap s'.heap/\(a=X.env.locals\/X.env.cells.lookup x=some a))->Q () s')(hf:X.fn x=true\/X.env.scope.names.lookup x=some .local:=by first|exact .inl rfl|exact .inr rfl|assumption):bA M A (storeName X.env x u) Q E s:=by
 obtain⟨m,hn,hl⟩:=id I.loc;have hcls:(X.env.scope.kind==.class||(X.env.scope.kind==.module && X.env.locals !=X.env.globals))=false:=by rw[I.ok.kind];rfl
 have hiσ:i<Z.length:=by rw[I.len];exact(List.getElem?_eq_some_iff.mp hi).1
 have cne:=I.cne;have tracked:∀{a:Addr}{h':Heap},(∃o,s.heap.get? a=some o/\H a=none)->fK a s.heap h'->HOk X.prog X.w H h':=λ{a h'} ha hs b ob e=>by
  obtain⟨_,_,hfree⟩:=ha;refine(I.hok b ob e).stay (λc w' hc q=>(hs.2 c ?_).trans q) (λ_ q=>q) λ_ _ q=>q
  rintro rfl
  rcases hc with rfl|hc
  ·rw[hfree]at e;cases e
  ·rw[hfree]at hc;cases hc
 rcases hx with hk|hk
 ·refine wpAny_storeName_local hk hn (λh' hn' hs=>?_) hcls;obtain⟨oL,_,_,hoL,_⟩:=id hn;refine h _ ⟨I.ok,I.os,I.bare,⟨λb o e n hb hx=>?_,λb o e n hb hx=>?_,I.base.free,λb o e hx=>?_,I.base.tups,I.base.frzs,I.base.tbls⟩,⟨_,hn',λj y v' e1 e2 e3=>?_⟩,λy c e=>?_,I.free,I.freeC,λp hp=>?_,tracked ⟨oL,hoL,I.free⟩ hs,by simpa using I.len⟩ ⟨_,hs,.inl rfl⟩
  ·exact(hs.2 b (cI (aW (aX e) I.ok.above))).trans (I.base.keep b o e n hb hx)
  ·obtain⟨sl,e1⟩:=I.base.slot b o e n hb hx;exact⟨sl,(hs.2 b (cI (aW (aX e) I.ok.above))).trans e1⟩
  ·obtain⟨o',e1⟩:=I.base.there b o e hx;exact⟨o',(hs.2 b (cI (aW (aX e) I.ok.above))).trans e1⟩
  ·by_cases hj:j=i
   ·subst hj;rw[hi]at e1;cases e1;rw[aL hiσ]at e2;cases e2;exact⟨u,r,.inl ⟨hk,by simp⟩⟩
   ·rw[aN (fZ hj)]at e2;obtain⟨u',r',q⟩:=hl j y v' e1 e2 e3;refine⟨u',r',?_⟩;rcases q with ⟨k,e⟩|⟨k,c,e,z⟩
    ·refine .inl ⟨k,?_⟩;have:y≠x:=λe=>hj (Bx hN e1 (e▸hi));simp[this,e]
    ·exact .inr ⟨k,c,e,z.sameBut hs (cne y c e)⟩
  ·obtain⟨w',z⟩:=I.cell y c e;exact⟨w',z.sameBut hs (cne y c e)⟩
  ·obtain⟨e,n,ne,nf,d⟩:=I.pin p hp;exact⟨(hs.2 p.1 ne).trans e,n,ne,nf,d⟩
 ·have hfn:X.fn x=true:=by
   rcases hf with z|z
   ·exact z
   ·rw[z]at hk;cases hk
  obtain⟨c,hc⟩:=I.ok.has x (.inl hk);obtain⟨w',z⟩:=I.cell x c hc;refine wpAny_storeName_cell I.ok.kind hk hc z (λh' hc' hs=>?_);obtain⟨oc,hoc,hocd⟩:=id z;have hfr:H c=none:=(I.freeC x c hc).elim (λz=>z) λz=>by rw[hfn]at z;exact absurd z.1 (by decide)
  refine h {s with heap:=h'} ⟨I.ok,I.os,I.bare,⟨λb o e n hb hx=>?_,λb o e n hb hx=>?_,I.base.free,λb o e hx=>?_,I.base.tups,I.base.frzs,I.base.tbls⟩,⟨m,hn.sameBut hs (fZ (cne x c hc)),λj y v' e1 e2 e3=>?_⟩,λy c' e=>?_,I.free,I.freeC,λp hp=>?_,tracked ⟨oc,hoc,hfr⟩ hs,by simpa using I.len⟩ ⟨c,hs,.inr hc⟩
  ·exact(hs.2 b (cI (aW (aX e) (I.ok.cab x c hfn hc)))).trans (I.base.keep b o e n hb hx)
  ·obtain⟨sl,e1⟩:=I.base.slot b o e n hb hx;exact⟨sl,(hs.2 b (cI (aW (aX e) (I.ok.cab x c hfn hc)))).trans e1⟩
  ·obtain⟨o',e1⟩:=I.base.there b o e hx;exact⟨o',(hs.2 b (cI (aW (aX e) (I.ok.cab x c hfn hc)))).trans e1⟩
  ·by_cases hj:j=i
   ·subst hj;rw[hi]at e1;cases e1;rw[aL hiσ]at e2;cases e2;exact⟨u,r,.inr ⟨.inl hk,c,hc,hc'⟩⟩
   ·rw[aN (fZ hj)]at e2;obtain⟨u',r',q⟩:=hl j y v' e1 e2 e3;refine⟨u',r',?_⟩;rcases q with q|⟨k,c',e,z'⟩
    ·exact .inl q
    ·refine .inr ⟨k,c',e,z'.sameBut hs ?_⟩
     rintro rfl
     exact hj (Bx hN e1 (I.ok.inj _ _ _ e hc▸hi))
  ·by_cases hcc:c'=c
   ·subst hcc;exact⟨_,hc'⟩
   ·obtain⟨w2,z2⟩:=I.cell y c' e;exact⟨w2,z2.sameBut hs hcc⟩
  ·obtain⟨e,n,ne,nf,d⟩:=I.pin p hp;refine⟨(hs.2 p.1 ?_).trans e,n,ne,nf,d⟩;intro q;rw[q,hoc]at e;have q':oc=p.2:=bP e;exact d w' (by rw[<-q'];exact hocd)
def Jx(I:Inv X pins Z H s)(hN:X.N.Nodup)(hi:X.N[i]?=some x)(hx:Xo X.env.scope x)(r:RelV v u)
  (h:∀s',Inv X pins (Z.set i (some v)) H s'->Q () s')(hf:X.fn x=true\/X.env.scope.names.lookup x=some .local:=by first|exact .inl rfl|exact .inr rfl|assumption):bA M A (storeName X.env x u) Q E s:=
 y0 I hN hi hx r (λs' I' _=>h s' I') hf
def Inv.call'{s':aK}(I:Inv X pins Z H s)(ho:s'.os=s.os)(u:Un (wg X.stack) ch H H' s.heap s'.heap)(hok:HOk X.prog X.w H' s'.heap)(hg:jZ s'.gens)
  (hch:∀b∈ch,(b∈X.ex\/X.s₀.heap.objs.size<=b)/\b≠X.env.locals/\(∀x c,X.env.cells.lookup x=some c->c≠b)/\∀p∈X.pn++pins,p.1≠b):Inv X pins Z H' s':=by
 obtain⟨h',g',d',t',o'⟩:=s';have e:o'=s.os:=ho;subst e;exact I.call (g':=g') (t':=t') (d':=d') u hok hg hch
end
abbrev XK:=aC->Option Addr->Hp->Prop
abbrev St:=List (Option V)
abbrev VK:=V->Hp->Prop
abbrev TE:=St->Hp->VK->Prop
abbrev TT:=St->Hp->(Bool->Hp->Prop)->Prop
abbrev TA:=St->Hp->(List V->Hp->Prop)->Prop
structure Ends where
 nx:St->Hp->Prop
 rt:VK
 bk:St->Hp->Prop:=λ_ _=>False
 ct:St->Hp->Prop:=λ_ _=>False
abbrev TS:=Ends->St->Hp->Prop
def EP(X:Cx)(pins:List (Addr×Obj))(Z:St)(Q:VK)(u:aC)(s':aK):Prop:=∃v H',Inv X pins Z H' s'/\RelV v u/\Q v H'
def TP(X:Cx)(pins:List (Addr×Obj))(Z:St)(Q:Bool->Hp->Prop)(b:Bool)(s':aK):Prop:=∃H',Inv X pins Z H' s'/\Q b H'
def AP(X:Cx)(pins:List (Addr×Obj))(Z:St)(Q:List V->Hp->Prop)(us:List aC)(s':aK):Prop:=∃vs H',Inv X pins Z H' s'/\Vals vs us/\Q vs H'
def SP(X:Cx)(pins:List (Addr×Obj))(D:Ends)(f:Flow)(s':aK):Prop:=
 match f with
 |.next=>∃σ' H',Inv X pins σ' H' s'/\D.nx σ' H'
 |.brk=>∃σ' H',Inv X pins σ' H' s'/\D.bk σ' H'
 |.cont=>∃σ' H',Inv X pins σ' H' s'/\D.ct σ' H'
 |.ret u=>∃v σ' H',Inv X pins σ' H' s'/\RelV v u/\D.rt v H'
def PE(X:Cx)(e:Expr)(t:TE):Prop:=
 ∀(pins:List (Addr×Obj))(s:aK)(Z:St)(H:Hp)(Q:VK),Inv X pins Z H s->t Z H Q->bA (bE X.prog X.w) X.A (eval e X.env) (EP X pins Z Q) X.xe s
def PT(X:Cx)(e:Expr)(t:TT):Prop:=
 ∀(pins:List (Addr×Obj))(s:aK)(Z:St)(H:Hp)(Q:Bool->Hp->Prop),Inv X pins Z H s->t Z H Q->bA (bE X.prog X.w) X.A (isTrue e X.env (eval e X.env)) (TP X pins Z Q) X.xe s
def PW(X:Cx)(e:Expr)(t:TT):Prop:=
 ∀(whole:Sem aC)(pins:List (Addr×Obj))(s:aK)(Z:St)(H:Hp)(Q:Bool->Hp->Prop),Inv X pins Z H s->t Z H Q->bA (bE X.prog X.w) X.A (isTrue e X.env whole) (TP X pins Z Q) X.xe s
def PW.pt(h:PW X e t):PT X e t:=h _
def PA(X:Cx)(es:List Expr)(t:TA):Prop:=
 ∀(pos:Pos)(pins:List (Addr×Obj))(s:aK)(Z:St)(H:Hp)(Q:List V->Hp->Prop),Inv X pins Z H s->t Z H Q->bA (bE X.prog X.w) X.A (spliced (cY pos (aQ es X.env))) (AP X pins Z Q) X.xe s
def PS(X:Cx)(st:Stmt)(t:TS):Prop:=
 ∀(pins:List (Addr×Obj))(s:aK)(Z:St)(H:Hp)(D:Ends),Inv X pins Z H s->t D Z H->bA (bE X.prog X.w) X.A (exec st X.env) (SP X pins D) X.xe s
def PSs(X:Cx)(st:List Stmt)(t:TS):Prop:=
 ∀(pins:List (Addr×Obj))(s:aK)(Z:St)(H:Hp)(D:Ends),Inv X pins Z H s->t D Z H->bA (bE X.prog X.w) X.A (execs st X.env) (SP X pins D) X.xe s
def jv(h:bA M A t Q E s)(hQ:∀a s,Q a s->Q' a s):bA M A t Q' E s:=bQ h hQ λ_ _ x=>x
end L2
namespace L2
open PySem PySem.Spec PyProof.Rows
section
variable{X:Cx}
def Dm(i:Nat):TE:=λZ H Q=>∃v,Z[i]?=some (some v)/\Q v H
def tC(v:V):TE:=λ_ H Q=>Q v H
def Gb(hN:X.N[i]?=some x)(hv:JU X.env.scope x)(hd:(x==("__debug__":Str))=false:=by decide)(hcd:(x==("__classdict__":Str))=false:=by decide):PE X (.Name x pos) (Dm i):=by
 intro pins s Z H Q I h;obtain⟨v,e,h⟩:=h;obtain⟨m,hn,hl⟩:=I.loc;obtain⟨u,r,l⟩:=hl i x v hN e hv;have fin:EP X pins Z Q u s:=⟨v,H,I,r,h⟩;rcases l with ⟨hk,hm⟩|⟨hk,c,hc,hcell⟩
 ·exact wpAny_Name (wpAny_loadName_local I.ok.kind hk hn hm fin) hd
 ·rcases hk with hk|hk
  ·exact wpAny_Name (wpAny_loadName_cell I.ok.kind hk hc hcell fin) hd
  ·exact wpAny_Name (wpAny_loadName_free I.ok.kind hk hc hcell fin hcd) hd
def U1{i j pos}:PE X (.Constant (.int i) j pos) (tC (.int i)):=λ_ _ _ H _ I h=>wpAny_Constant_int ⟨.int i,H,I.tok _,⟨_,rfl⟩,h⟩
def LL{b j pos}:PE X (.Constant (.bool b) j pos) (tC (.bl b)):=λ_ _ _ H _ I h=>Constant_bool ⟨.bl b,H,I,rfl,h⟩
def FA{j pos}:PE X (.Constant .none j pos) (tC .non):=λ_ _ _ H _ I h=>Constant_none ⟨.non,H,I,rfl,h⟩
def U4{x j pos}:PE X (.Constant (.str x) j pos) (tC (.str x)):=λ_ _ _ H _ I h=>Calls.Constant_str ⟨.str x,H,I.tok _,⟨_,rfl⟩,h⟩
def Gl(X:Cx)(x:Str):Prop:=X.env.kindOf x=some .globalImplicit
def nh(I:Inv X pins Z H s)(hg:Gl X x)(hm:X.mg x=some u)(h:Q u s)
  (hd:(x==("__debug__":Str))=false:=by decide):bA (bE X.prog X.w) X.A (eval (.Name x pos) X.env) Q E s:=
 Calls.Name_function_global I.ok.kind hg (Calls.loadGlobal_global (by rw[I.ok.glob];exact I.mod.glob.keeps I.bk) hm h) hd
def yr(I:Inv X pins Z H s)(hg:Gl X x)(hm:X.mg x=none)(hv:eN x=some u)(h:Q u s)
  (hn:x≠"__name__":=by decide)(hd:(x==("__debug__":Str))=false:=by decide):bA (bE X.prog X.w) X.A (eval (.Name x pos) X.env) Q E s:=by
 obtain⟨mb,h1,h2⟩:=I.mod.blt;exact Calls.Name_function_global I.ok.kind hg (Calls.loadGlobal_builtin (by rw[I.ok.glob];exact I.mod.glob.keeps I.bk) hm (by rw[I.ok.blt];exact h1.keeps I.bk) ((h2 x hn).trans hv) h) hd
def N0(hg:Gl X x)(hm:X.mg x=some u)(r:RelV v u)(hd:(x==("__debug__":Str))=false:=by decide):PE X (.Name x pos) (tC v):=
 λ_ _ _ H _ I h=>nh I hg hm ⟨v,H,I,r,h⟩ hd
def Ny(hg:Gl X x)(hm:X.mg x=none)(hv:eN x=some u)(r:RelV v u)(hn:x≠"__name__":=by decide)(hd:(x==("__debug__":Str))=false:=by decide):PE X (.Name x pos) (tC v):=
 λ_ _ _ H _ I h=>yr I hg hm hv ⟨v,H,I,r,h⟩ hn hd
variable{a b:Expr}{ta tb:TE}{pos:Pos}
variable{tA tB':TT}{cx:List Expr}
def RL(t u:TT):TT:=λZ H Q=>t Z H λc H1=>if c=true then u Z H1 Q else Q false H1
def UT(t u:TT):TT:=λZ H Q=>t Z H λc H1=>if c=true then Q true H1 else u Z H1 Q
def RG(t:TT):TT:=λZ H Q=>t Z H λc H1=>Q (!c) H1
def Z9(ha:PT X a tA):PW X (.BoolOp .And [a] pos) tA:=by
 intro wh pins s Z H Q I h;refine isTrue_and (jv (ha pins s Z H Q I h) λc s1 e=>?_);cases c with
 |true=>exact isTrue_and_nil e
 |false=>exact e
def HV(ha:PT X a tA):PW X (.BoolOp .Or [a] pos) tA:=by
 intro wh pins s Z H Q I h;refine isTrue_or (jv (ha pins s Z H Q I h) λc s1 e=>?_);cases c with
 |false=>exact isTrue_or_nil e
 |true=>exact e
def HX(ha:PT X a tA)(hb:PW X (.BoolOp .And (b::cx) pos) tB'):PW X (.BoolOp .And (a::b::cx) pos) (RL tA tB'):=by
 intro wh pins s Z H Q I h;refine isTrue_and (jv (ha pins s Z H _ I h) λc s1 ⟨H1,I1,q1⟩=>?_);cases c with
 |true=>exact hb wh pins s1 Z H1 Q I1 q1
 |false=>exact⟨H1,I1,q1⟩
def MU(ha:PT X a tA)(hb:PW X (.BoolOp .Or (b::cx) pos) tB'):PW X (.BoolOp .Or (a::b::cx) pos) (UT tA tB'):=by
 intro wh pins s Z H Q I h;refine isTrue_or (jv (ha pins s Z H _ I h) λc s1 ⟨H1,I1,q1⟩=>?_);cases c with
 |true=>exact⟨H1,I1,q1⟩
 |false=>exact hb wh pins s1 Z H1 Q I1 q1
def GS(ha:PT X a tA):PT X (.UnaryOp .Not a pos) (RG tA):=by
 intro pins s Z H Q I h;exact isTrue_not (ha pins s Z H (λc H1=>Q (!c) H1) I h)
def NW(ta tb:TE):TE:=λZ H Q=>ta Z H λx H1=>∃c,x=.bl c/\if c=true then tb Z H1 Q else Q (.bl false) H1
def RF(ta tb:TE):TE:=λZ H Q=>ta Z H λx H1=>∃c,x=.bl c/\if c=true then Q (.bl true) H1 else tb Z H1 Q
def NS(ta:TE):TE:=λZ H Q=>ta Z H λx H1=>∃c,x=.bl c/\Q (.bl (!c)) H1
def GY{op}(h:PE X a t):PE X (.BoolOp op [a] pos) t:=λpins s Z H Q I hw=>BoolOp_one (h pins s Z H Q I hw)
def FD(ha:PE X a ta)(hb:PE X (.BoolOp .And (b::cx) pos) tb):PE X (.BoolOp .And (a::b::cx) pos) (NW ta tb):=by
 intro pins s Z H Q I h;refine BoolOp_and (jv (ha pins s Z H _ I h) λv s1 ⟨x,H1,I1,r1,q1⟩=>?_);obtain⟨c,rfl,q1⟩:=q1;cases r1;refine dE ?_;cases c with
 |true=>exact hb pins s1 Z H1 Q I1 q1
 |false=>exact⟨.bl false,H1,I1,rfl,q1⟩
def LH(ha:PE X a ta)(hb:PE X (.BoolOp .Or (b::cx) pos) tb):PE X (.BoolOp .Or (a::b::cx) pos) (RF ta tb):=by
 intro pins s Z H Q I h;refine BoolOp_or (jv (ha pins s Z H _ I h) λv s1 ⟨x,H1,I1,r1,q1⟩=>?_);obtain⟨c,rfl,q1⟩:=q1;cases r1;refine dE ?_;cases c with
 |false=>exact hb pins s1 Z H1 Q I1 q1
 |true=>exact⟨.bl true,H1,I1,rfl,q1⟩
def GZ(ha:PE X a ta):PE X (.UnaryOp .Not a pos) (NS ta):=by
 intro pins s Z H Q I h;refine UnaryOp_ (jv (ha pins s Z H _ I h) λv s1 ⟨x,H1,I1,r1,q1⟩=>?_);obtain⟨c,rfl,q1⟩:=q1;cases r1;exact not_of (dE ⟨.bl (!c),H1,I1,rfl,q1⟩)
def UV(t:TT)(ta tb:TE):TE:=λZ H Q=>t Z H λc H1=>if c=true then ta Z H1 Q else tb Z H1 Q
def Je(hc:PT X c tA)(ha:PE X a ta)(hb:PE X b tb):PE X (.IfExp c a b pos) (UV tA ta tb):=by
 intro pins s Z H Q I h;refine wpAny_IfExp (jv (hc pins s Z H _ I h) λd s1 ⟨H1,I1,q1⟩=>?_);cases d with
 |true=>exact ha pins s1 Z H1 Q I1 q1
 |false=>exact hb pins s1 Z H1 Q I1 q1
end
end L2
namespace L2
open PySem PySem.Spec PyProof.Rows
def SqL(K:aP)(H:Hp)(a:Addr)(xs:List V):Prop:=
 Rd H a (.lst xs)\/
  ∃(o:Obj) (its:Array aC) (n:Nat),K.lookup a=some o/\o.cls=.type "list"/\o.dict=none/\o.data=.seq its n/\its.size<=aD/\Vals xs its.toList
def SqT(K:aP)(H:Hp)(a:Addr)(xs:List V):Prop:=
 Rd H a (.tup xs)\/
  ∃(o:Obj) (its:Array aC) (n:Nat),K.lookup a=some o/\o.cls=.type "tuple"/\o.data=.seq its n/\its.size<=aD/\Vals xs its.toList
noncomputable def QM:aC->Option V
 |.none=>some .non
 |.bool b=>some (.bl b)
 |.int i _=>some (.int i)
 |.str x _=>some (.str x)
 |.bytes b _=>some (.byt b)
 |.float b _=>some (.flt b)
 |.ref a=>some (.ref a)
 |.type n=>some (.ty n)
 |_=>none
def RelV.abs(r:RelV x u):QM u=some x:=by
 cases x with
 |non=>cases r;rfl
 |bl _=>cases r;rfl
 |int _=>obtain⟨t,rfl⟩:=r;rfl
 |str _=>obtain⟨t,rfl⟩:=r;rfl
 |byt _=>obtain⟨t,rfl⟩:=r;rfl
 |flt _=>obtain⟨t,rfl⟩:=r;rfl
 |ref _=>cases r;rfl
 |ty _=>cases r;rfl
def RelV.inj(r:RelV x u)(q:RelV y u):x=y:=bP (r.abs.symm.trans q.abs)
theorem Vals.inj:∀{xs ys:List V}{us:List aC},Vals xs us->Vals ys us->xs=ys
 |_,_,_,.nil,.nil=>rfl
 |_,_,_,.cons r t,.cons r' t'=>by rw[r.inj r',Vals.inj t t']
section
variable{X:Cx}{pins:List (Addr×Obj)}{Z:St}{H:Hp}{s:aK}{a:Addr}{xs ys:List V}
def SqL.of{K:aP}(h:H a=some (.lst xs)):SqL K H a xs:=.inl (.inl h)
def SqT.of{K:aP}(h:H a=some (.tup xs)):SqT K H a xs:=.inl (.inl h)
def Inv.list(I:Inv X pins Z H s)(h:SqL X.K H a xs):∃its:List aC,Vals xs its/\PlainL s.heap a its.toArray/\xs.length<=aD:=by
 rcases h with h|⟨o,its,n,hk,hc,hd,hs,hz,r⟩
 ·obtain⟨z,its,n,r,e⟩:=h.ok I.hok;exact⟨its,r,⟨_,n,e,rfl,rfl,rfl⟩,z⟩
 ·refine⟨its.toList,r,⟨o,n,I.kIn a o hk,hc,hd,by simpa using hs⟩,?_⟩;have e:=r.length;simp only[cL]at e
  lia
def Inv.tuple(I:Inv X pins Z H s)(h:SqT X.K H a xs):∃its:List aC,Vals xs its/\IsTup s.heap a its.toArray/\xs.length<=aD:=by
 rcases h with h|⟨o,its,n,hk,hc,hs,hz,r⟩
 ·obtain⟨z,its,r,p⟩:=h.ok I.hok;exact⟨its,r,p,z⟩
 ·refine⟨its.toList,r,⟨o,I.kIn a o hk,hc,n,by simpa using hs⟩,?_⟩;have e:=r.length;simp only[cL]at e
  lia
def Inv.list_inj(I:Inv X pins Z H s)(h:SqL X.K H a xs)(h':SqL X.K H a ys):xs=ys:=by
 obtain⟨its,r,⟨o,n,e,_,_,d⟩,_⟩:=I.list h;obtain⟨its',r',⟨o',n',e',_,_,d'⟩,_⟩:=I.list h';rw[e]at e';cases e';rw[d]at d';injection d' with d1 _
 have:its=its':=by simpa using congrArg Array.toList d1
 subst this;exact r.inj r'
def Inv.tuple_inj(I:Inv X pins Z H s)(h:SqT X.K H a xs)(h':SqT X.K H a ys):xs=ys:=by
 obtain⟨its,r,⟨o,e,_,n,d⟩,_⟩:=I.tuple h;obtain⟨its',r',⟨o',e',_,n',d'⟩,_⟩:=I.tuple h';rw[e]at e';cases e';rw[d]at d';injection d' with d1 _
 have:its=its':=by simpa using congrArg Array.toList d1
 subst this;exact r.inj r'
end
abbrev Cx.wish(X:Cx)(E:aC->aK->Prop):Cx:={X with xe:=E}
abbrev Cx.nox(X:Cx):Cx:=X.wish λ_ _=>False
theorem Cx.Ok.wish{X:Cx}(ok:X.Ok)(E:aC->aK->Prop):(X.wish E).Ok:=
 ⟨ok.mod,ok.kind,ok.glob,ok.blt,ok.above,ok.inj,ok.has,ok.cab,ok.hd,ok.frames,ok.stk,ok.exf,ok.bs,ok.bsz,ok.noex,ok.exfs,ok.funs,ok.frf⟩
def Cx.Ok.unwish{X:Cx}(ok:(X.wish E).Ok):X.Ok:=
 ⟨ok.mod,ok.kind,ok.glob,ok.blt,ok.above,ok.inj,ok.has,ok.cab,ok.hd,ok.frames,ok.stk,ok.exf,ok.bs,ok.bsz,ok.noex,ok.exfs,ok.funs,ok.frf⟩
section
variable{X:Cx}{pins:List (Addr×Obj)}{Z:St}{H:Hp}{s:aK}{E:aC->aK->Prop}
theorem Inv.wish(I:Inv X pins Z H s)(E:aC->aK->Prop):Inv (X.wish E) pins Z H s:=⟨I.ok.wish E,I.os,I.bare,I.base,I.loc,I.cell,I.free,I.freeC,I.pin,I.hok,I.len⟩
theorem Inv.unwish(I:Inv (X.wish E) pins Z H s):Inv X pins Z H s:=⟨I.ok.unwish,I.os,I.bare,I.base,I.loc,I.cell,I.free,I.freeC,I.pin,I.hok,I.len⟩
theorem SP.unwish(h:SP (X.wish E) pins D f s'):SP X pins D f s':=by
 cases f with
 |next=>obtain⟨σ',H',I,q⟩:=h;exact⟨σ',H',I.unwish,q⟩
 |brk=>obtain⟨σ',H',I,q⟩:=h;exact⟨σ',H',I.unwish,q⟩
 |cont=>obtain⟨σ',H',I,q⟩:=h;exact⟨σ',H',I.unwish,q⟩
 |ret u=>obtain⟨v,σ',H',I,r,q⟩:=h;exact⟨v,σ',H',I.unwish,r,q⟩
theorem PE.nox(h:PE X.nox e t):PE X e t:=λpins s Z H Q I hw=>
 bQ (h pins s Z H Q (I.wish _) hw) (λ_ _ ⟨v,H',I',r,q⟩=>⟨v,H',I'.unwish,r,q⟩) λ_ _ z=>cZ z
theorem PT.nox(h:PT X.nox e t):PT X e t:=λpins s Z H Q I hw=>
 bQ (h pins s Z H Q (I.wish _) hw) (λ_ _ ⟨H',I',q⟩=>⟨H',I'.unwish,q⟩) λ_ _ z=>cZ z
theorem PSs.nox{st:List Stmt}{t:TS}(h:PSs X.nox st t):PSs X st t:=λpins s Z H D I hw=>
 bQ (h pins s Z H D (I.wish _) hw) (λ_ _ q=>q.unwish) λ_ _ z=>cZ z
end
section
variable{X:Cx}{st:Stmt}{cx:List Stmt}{t u:TS}{e:Expr}{te:TE}{pos:Pos}
def DP:TS:=λD Z H=>D.nx Z H
def NO(t u:TS):TS:=λD Z H=>t {D with nx:=u D} Z H
def Zy:PSs X [] DP:=λ_ _ Z H _ I h=>fG ⟨Z,H,I,h⟩
def Vf(h1:PS X st t)(h2:PSs X cx u):PSs X (st::cx) (NO t u):=by
 intro pins s Z H D I h;refine eW (jv (h1 pins s Z H {D with nx:=u D} I h) λf s1 q=>?_);cases f with
 |next=>
  obtain⟨σ',H',I',q⟩:=q;exact h2 pins s1 σ' H' D I' q
 |ret v=>exact q
 |brk=>exact q
 |cont=>exact q
def Gd(h1:PS X st t):PSs X [st] t:=by
 intro pins s Z H D I h;refine eW (jv (h1 pins s Z H D I h) λf s1 q=>?_);cases f with
 |next=>exact fG q
 |ret v=>exact q
 |brk=>exact q
 |cont=>exact q
def Inv.quiet(I:Inv X pins Z H s):interactive X.env=false:=by simp[interactive,I.ok.kind]
def GW{x j pos pos'}:PS X (.Expr (.Constant (.str x) j pos) pos') DP:=λ_ s Z H _ I h=>wpAny_Expr (Calls.Constant_str (show SP X _ _ .next {s with toks:=s.toks+1}from⟨Z,H,I.tok _,h⟩)) I.quiet
def NU(te:TE):TS:=λD Z H=>te Z H λ_ H1=>D.nx Z H1
def Ar(he:PE X e te)(hs:dY e none pos.line X.env=pure false:=by rfl):PS X (.Expr e pos) (NU te):=by
 intro pins s Z H D I h;exact wpAny_Expr_any (jv (he pins s Z H _ I h) λv s1 ⟨x,H1,I1,r1,q1⟩=>⟨Z,H1,I1,q1⟩) I.quiet hs
def RE(te:TE):TS:=λD Z H=>te Z H D.rt
def GU(he:PE X e te):PS X (.Return (some e) pos) (RE te):=by
 intro pins s Z H D I h;exact kW (jv (he pins s Z H _ I h) λv s1 ⟨x,H1,I1,r1,q1⟩=>⟨x,Z,H1,I1,r1,q1⟩)
def NP:TS:=λD _ H=>D.rt .non H
def Zu:PS X (.Return none pos) NP:=λ_ _ Z H _ I h=>wpAny_Return_none ⟨.non,Z,H,I,rfl,h⟩
def RI(c:TT)(t u:TS):TS:=λD Z H=>c Z H λb H1=>if b=true then t D Z H1 else u D Z H1
def CC(hc:PT X c tc)(ha:PSs X a t)(hb:PSs X b u):PS X (.If c a b pos) (RI tc t u):=by
 intro pins s Z H D I h;refine wpAny_If (jv (hc pins s Z H _ I h) λd s1 ⟨H1,I1,q1⟩=>?_);cases d with
 |true=>exact ha pins s1 Z H1 D I1 q1
 |false=>exact hb pins s1 Z H1 D I1 q1
end
abbrev TG:=V->St->Hp->(St->Hp->Prop)->Prop
abbrev JV:=List V->St->Hp->(St->Hp->Prop)->Prop
def PG(X:Cx)(target:Expr)(t:TG):Prop:=
 ∀(pins:List (Addr×Obj))(s:aK)(Z:St)(H:Hp)(v:V)(u:aC)(Q:St->Hp->Prop),Inv X pins Z H s->RelV v u->t v Z H Q->
  bA (bE X.prog X.w) X.A (assign target X.env u) (λ_ s'=>∃σ' H',Inv X pins σ' H' s'/\Q σ' H') X.xe s
def JA(X:Cx)(ts:List Expr)(t:JV):Prop:=
 ∀(pins:List (Addr×Obj))(s:aK)(Z:St)(H:Hp)(vs:List V)(us:List aC)(Q:St->Hp->Prop),Inv X pins Z H s->Vals vs us->t vs Z H Q->
  bA (bE X.prog X.w) X.A (assignInOrder ((gT ts X.env).map (·.2)) us) (λ_ s'=>∃σ' H',Inv X pins σ' H' s'/\Q σ' H') X.xe s
section
variable{X:Cx}{pos:Pos}
def uh(i:Nat):TG:=λv Z H Q=>Q (Z.set i (some v)) H
def Aq(hN:X.N.Nodup)(hi:X.N[i]?=some x)(hx:Xo X.env.scope x)(hf:X.fn x=true\/X.env.scope.names.lookup x=some .local:=by first|exact .inl rfl|exact .inr rfl|assumption):PG X (.Name x pos) (uh i):=by
 intro pins s Z H v u Q I r h;exact wpAny_assign_Name (Jx I hN hi hx r (λs' I'=>⟨_,H,I',h⟩) hf)
noncomputable def ak:JV:=λvs Z H Q=>vs=[]/\Q Z H
noncomputable def ae(t:TG)(u:JV):JV:=λvs Z H Q=>∃v r,vs=v::r/\t v Z H λσ' H'=>u r σ' H' Q
def N1:JA X [] ak:=by
 intro pins s Z H vs us Q I r h;obtain⟨e,h⟩:=h;subst e;cases r;exact assignInOrder_nil ⟨Z,H,I,h⟩
def B2(h1:PG X e t)(h2:JA X es u)
  (hs:(gT (e::es) X.env).map (·.2)=assign e X.env::(gT es X.env).map (·.2):=by rfl):JA X (e::es) (ae t u):=by
 intro pins s Z H vs us Q I r h;obtain⟨v,vr,e1,h⟩:=h;subst e1;cases r with
 |cons r rr=>
  rw[hs];refine assignInOrder_cons (jv (h1 pins s Z H _ _ _ I r h) λ_ s1 ⟨σ1,H1,I1,q1⟩=>?_);exact h2 pins s1 σ1 H1 _ _ Q I1 rr q1
noncomputable def k8(K:aP)(n:Nat)(t:JV):TG:=λv Z H Q=>∃a xs,v=.ref a/\SqT K H a xs/\xs.length=n/\t xs Z H Q
def U5(hc:X.calm=true)(h:JA X es t)
  (hn:(gT es X.env).length=n:=by rfl)(hst:(gT es X.env).findIdx? (·.1)=none:=by rfl):PG X (.Tuple es k pos) (k8 X.K n t):=by
 intro pins s Z H v u Q I r hw;obtain⟨a,xs,e1,hq,hl,hw⟩:=hw;subst e1;cases r;obtain⟨its,rv,ht,hz⟩:=I.tuple hq;refine assign_Tuple_tuple (I.ok.hd hc) ht (by simp[hn,<-hl,rv.length]) hst λh' hx=>?_;have I1:Inv X pins Z H {s with heap:=h'}:=I.kept (t':=s.toks) λb o e=>hx b o (cI (aX e)) e;exact h pins _ Z H xs _ Q I1 (by simpa using rv) hw
def L1(te:TE)(g:TG):TS:=λD Z H=>te Z H λx H1=>g x Z H1 D.nx
def Li(hN:X.N.Nodup)(hi:X.N[i]?=some x)(hx:Xo X.env.scope x)(he:PE X e te)(hs:dY e (some (.Name x pos')) pos.line X.env=pure false:=by rfl)(hf:X.fn x=true\/X.env.scope.names.lookup x=some .local:=by first|exact .inl rfl|exact .inr rfl|assumption):
  PS X (.Assign [.Name x pos'] e pos) (L1 te (uh i)):=by
 intro pins s Z H D I h;refine wpAny_Assign_Name (jv (he pins s Z H _ I h) λv s1 ⟨y,H1,I1,r1,q1⟩=>?_) hs;exact Jx I1 hN hi hx r1 (λs2 I2=>⟨_,H1,I2,q1⟩) hf
end
structure It where
 go:Nat->Hp->Prop
 yld:Nat->Hp->V->Hp->Prop
 stop:Nat->Hp->Prop
def Ax(X:Cx)(pins:List (Addr×Obj))(H:Hp)(b:Addr):Prop:=
 H b=none/\b≠X.env.locals/\b∉X.fs/\(b∈X.ex\/X.s₀.heap.objs.size<=b)/\(∀x c,X.env.cells.lookup x=some c->c≠b)/\∀p∈X.pn++pins,p.1≠b
def Inv.fpOk{s:aK}(I:Inv X pins Z H s)(hb:s.heap.objs.size<=b)(hn:H' b=none):Ax X pins H' b:=by
 refine⟨hn,Nat.ne_of_gt (aW I.lt hb),I.nofs hb,.inr (bC I.sz hb),λx c e z=>?_,λp hp z=>?_⟩
 ·obtain⟨v,q⟩:=I.cell x c e;exact absurd (aW q.lt (by rw[z];exact hb)) (cK _)
 ·exact absurd (aW (aX (I.pin p hp).1) (by rw[z];exact hb)) (cK _)
structure Turn(P:bN)(w:cH)(K:aP)(tg:Expr)(J:It)(fp:List Addr)(it:Addr)(tn:Nat->Heap->Prop):Prop where
 mem:it∈fp
 obj:∀i h,tn i h->∀b∈fp,∃o,h.get? b=some o/\∀v,o.data≠.cell v
 keep:∀i h h',tn i h->(∀b∈fp,∀o,h.get? b=some o->h'.get? b=some o)->tn i h'
 item:∀(X:Cx),X.prog=P->X.w=w->X.K=K->X.calm=true->∀(i:Nat)(pins:List (Addr×Obj))(s:aK)(Z:St)(H:Hp)(E:aC->aK->Prop),Inv X pins Z H s->(∀b∈fp,Ax X pins H b)->tn i s.heap->J.go i H->
  bA (bE P w) X.A (pyNext (.ref it)) (λr s1=>∃u,r=some u/\
   bA (bE P w) X.A (jS tg (.ref it) u) (λ_ s2=>∃x H',Inv X pins Z H' s2/\RelV x u/\J.yld i H x H'/\tn (i+1) s2.heap/\∀b∈fp,H' b=none) E s1) E s
 done:∀(X:Cx),X.prog=P->X.w=w->X.K=K->X.calm=true->∀(i:Nat)(pins:List (Addr×Obj))(s:aK)(Z:St)(H:Hp)(E:aC->aK->Prop),Inv X pins Z H s->(∀b∈fp,Ax X pins H b)->tn i s.heap->J.stop i H->
  bA (bE P w) X.A (pyNext (.ref it)) (λr s1=>r=none/\Inv X pins Z H s1) E s
 self:∀(A:cO)(i:Nat)(s:aK)(Q:aC->aK->Prop)(E:aC->aK->Prop),tn i s.heap->Q (.ref it) s->bA (bE P w) A (pyIter (.ref it)) Q E s
abbrev TI:=St->Hp->(It->Hp->Prop)->Prop
def SN(X:Cx)(pins:List (Addr×Obj))(Z:St)(tg:Expr)(R:It->Hp->Prop)(itv:aC)(s2:aK):Prop:=
 ∃(it:Addr) (fp:List Addr) (tn:Nat->Heap->Prop) (J:It) (H':Hp),itv=.ref it/\Inv X pins Z H' s2/\Turn X.prog X.w X.K tg J fp it tn/\tn 0 s2.heap/\(∀b∈fp,Ax X pins H' b)/\R J H'
def PI(X:Cx)(tg iter:Expr)(wi:TI):Prop:=
 ∀(pins:List (Addr×Obj))(s:aK)(Z:St)(H:Hp)(R:It->Hp->Prop),Inv X pins Z H s->wi Z H R->
  bA (bE X.prog X.w) X.A (eval iter X.env) (λv s1=>bA (bE X.prog X.w) X.A (pyIter v) (SN X pins Z tg R) X.xe s1) X.xe s
def Ic{s:aK}{o:Obj}(ho:s.heap.get? it=some o)(hc:o.cls=.type n)(hd:o.data=.fields vs)
  (hn:["enumerate","zip","dict_itemiterator","dict_reverseitemiterator","odict_iterator","itertools.zip_longest","itertools.pairwise"].contains n=false)(hQ:Q () s):bA M A (jS tg (.ref it) u) Q E s:=by
 unfold jS;cases tg<;>first
  |exact aT hQ
  | (cases u <;> first
    |exact aT hQ
    | (refine aE (wpAny_load ho ?_)
       rw[hc,hd];show bA M A (if(["enumerate","zip","dict_itemiterator","dict_reverseitemiterator","odict_iterator","itertools.zip_longest","itertools.pairwise"].contains n && vs[0]?==some (lE _))=true then _ else _) Q E s;rw[aG (by intro h;rw[hn,Bool.false_and]at h;cases h)];exact aT hQ))
def QR(K:aP)(a:Addr):It:=
 ⟨λi H=>∃xs x,SqL K H a xs/\xs[i]?=some x,λi H x H'=>H'=H/\∀xs,SqL K H a xs->xs[i]?=some x,λi H=>∃xs,SqL K H a xs/\xs.length<=i⟩
def QQ(K:aP)(a:Addr):It:=
 ⟨λi H=>∃xs x,SqT K H a xs/\xs[i]?=some x,λi H x H'=>H'=H/\∀xs,SqT K H a xs->xs[i]?=some x,λi H=>∃xs,SqT K H a xs/\xs.length<=i⟩
def OV(lo:Int)(n:Nat):It:=⟨λi _=>i<n,λi H x H'=>H'=H/\x=.int (lo+i),λi _=>n<=i⟩
def Ra{P:bN}{w:cH}{K:aP}{tg:Expr}(a it:Addr):Turn P w K tg (QR K a) [it] it (λi h=>h.IsListIter it a i) where
 mem:=by simp
 obj:=λi h st b hb=>by
  have e:b=it:=by simpa using hb
  subst e;obtain⟨o,e,c,d⟩:=st;exact⟨o,e,λv z=>by rw[d]at z;cases z⟩
 keep:=λi h h' st k=>st.at λo e=>k it (by simp) o e
 item:=by
  intro X hP hw hK hc i pins s Z H E I hf st hg;subst hP hw hK;obtain⟨xs,x,hq,hx⟩:=hg;obtain⟨its,rv,p,hz⟩:=I.list hq;obtain⟨u,hu,ru⟩:=rv.get hx;obtain⟨f0,f1,f2,f3,f4,f5⟩:=hf it (by simp);refine wpAny_pyNext_list_item st p.isList (x:=u) (by simpa using hu) λh' st' sb=>?_;have I1:Inv X pins Z H {s with heap:=h'}:=I.turned (t':=s.toks) (λb o hb e=>(sb.2 b hb).trans e) f0 f1 f3 f4 f5;obtain⟨o,e,c,d⟩:=id st';exact⟨u,rfl,Ic (s:={s with heap:=h'}) e c d (by decide) ⟨x,H,I1,ru,⟨rfl,λys hy=>by rw[I.list_inj hy hq];exact hx⟩,st',λb hb=>(hf b hb).1⟩⟩
 done:=by
  intro X hP hw hK hc i pins s Z H E I hf st hg;subst hP hw hK;obtain⟨xs,hq,hx⟩:=hg;obtain⟨its,rv,p,hz⟩:=I.list hq;obtain⟨f0,f1,f2,f3,f4,f5⟩:=hf it (by simp);have hl:=rv.length;exact wpAny_pyNext_list_end (I.ok.hd hc) st p.isList (by simp;lia) λh' eb=>⟨rfl,I.turned (t':=s.toks) (λb o hb e=>eb b o hb e) f0 f1 f3 f4 f5⟩
 self:=λ_ _ _ _ _ st h=>wpAny_pyIter_listiter st h
def Mb{P:bN}{w:cH}{K:aP}{tg:Expr}(a it:Addr):Turn P w K tg (QQ K a) [it] it (λi h=>h.IsTupleIter it a i) where
 mem:=by simp
 obj:=λi h st b hb=>by
  have e:b=it:=by simpa using hb
  subst e;obtain⟨o,e,c,d⟩:=st;exact⟨o,e,λv z=>by rw[d]at z;cases z⟩
 keep:=λi h h' st k=>st.at λo e=>k it (by simp) o e
 item:=by
  intro X hP hw hK hc i pins s Z H E I hf st hg;subst hP hw hK;obtain⟨xs,x,hq,hx⟩:=hg;obtain⟨its,rv,p,hz⟩:=I.tuple hq;obtain⟨u,hu,ru⟩:=rv.get hx;obtain⟨f0,f1,f2,f3,f4,f5⟩:=hf it (by simp);refine wpAny_pyNext_tuple_item st (show s.heap.IsTuple a its.toArray from p) (x:=u) (by simpa using hu) λh' st' sb=>?_;have I1:Inv X pins Z H {s with heap:=h'}:=I.turned (t':=s.toks) (λb o hb e=>(sb.2 b hb).trans e) f0 f1 f3 f4 f5;obtain⟨o,e,c,d⟩:=id st';exact⟨u,rfl,Ic (s:={s with heap:=h'}) e c d (by decide) ⟨x,H,I1,ru,⟨rfl,λys hy=>by rw[I.tuple_inj hy hq];exact hx⟩,st',λb hb=>(hf b hb).1⟩⟩
 done:=by
  intro X hP hw hK hc i pins s Z H E I hf st hg;subst hP hw hK;obtain⟨xs,hq,hx⟩:=hg;obtain⟨its,rv,p,hz⟩:=I.tuple hq;obtain⟨f0,f1,f2,f3,f4,f5⟩:=hf it (by simp);have hl:=rv.length;exact wpAny_pyNext_tuple_end (I.ok.hd hc) st (show s.heap.IsTuple a its.toArray from p) (by simp;lia) λh' eb=>⟨rfl,I.turned (t':=s.toks) (λb o hb e=>eb b o hb e) f0 f1 f3 f4 f5⟩
 self:=λ_ _ _ _ _ st h=>wpAny_pyIter_tupleiter st h
def Ma{P:bN}{w:cH}{K:aP}{tg:Expr}(it:Addr)(lo:Int)(n:Nat):Turn P w K tg (OV lo n) [it] it (λi h=>IsRangeIter h it (lo+(i:Nat) * 1) ((n:Int) - (i:Nat)) 1) where
 mem:=by simp
 obj:=λi h st b hb=>by
  have e:b=it:=by simpa using hb
  subst e;exact⟨_,st,λv z=>by
   have z':Data.fields _=Data.cell v:=z;cases z'⟩
 keep:=λi h h' st k=>k it (by simp) _ st
 item:=by
  intro X hP hw hK hc i pins s Z H E I hf st hg;subst hP hw hK;obtain⟨f0,f1,f2,f3,f4,f5⟩:=hf it (by simp);have W:=Walks.range (prog:=X.prog) (w:=X.w) (I.ok.hd hc) it lo 1 n;refine W.item i s _ _ hg st λv h' tk hv st' kk=>?_;obtain⟨t,rfl⟩:=hv;have I1:Inv X pins Z H {s with heap:=h',toks:=tk}:=I.turned (λb o hb e=>kk b o (by simpa using hb) e) f0 f1 f3 f4 f5;refine⟨_,rfl,Ic (s:={s with heap:=h',toks:=tk}) (n:="range_iterator") st' rfl rfl (by decide) ⟨.int (lo+i),H,I1,⟨t,?_⟩,⟨rfl,rfl⟩,st',λb hb=>(hf b hb).1⟩⟩;rw[Int.mul_one]
 done:=by
  intro X hP hw hK hc i pins s Z H E I hf st hg;subst hP hw hK;obtain⟨f0,f1,f2,f3,f4,f5⟩:=hf it (by simp);exact wpAny_pyNext_range_end (I.ok.hd hc) st (by have:n<=i:=hg;lia) λh' eb=>⟨rfl,I.turned (t':=s.toks) (λb o hb e=>eb b o hb e) f0 f1 f3 f4 f5⟩
 self:=λ_ _ _ _ _ st h=>wpAny_pyIter_rangeiter st h
end L2
namespace L2
open PySem PySem.Spec PyProof.Rows
section
variable{X:Cx}{tg:Expr}
def Vv{pins:List (Addr×Obj)}{Z:St}{H:Hp}{s:aK}{R:It->Hp->Prop}{E:aC->aK->Prop}{lo hi:Int}{t u v:Tok}{tk:Nat}(I:Inv X pins Z H s)(h1:-(2 ^ 62)<=lo)(h2:lo<2 ^ 62)(h3:-(2 ^ 62)<=hi)(h4:hi<2 ^ 62)
  (q:R (OV lo (hi - lo).toNat) H):bA (bE X.prog X.w) X.A (pyIter (.ref s.heap.objs.size)) (SN X pins Z tg R) E {s with heap:=s.heap.push {cls:=.type "range",data:=.fields #[.int lo t,.int hi u,.int 1 v]},toks:=tk}:=by
 refine wpAny_pyIter_range (IsRange.new ..) (small_one h1 h2 h3 h4) ?_;have I1:Inv X pins Z H {s with heap:=s.heap.push {cls:=.type "range",data:=.fields #[.int lo t,.int hi u,.int 1 v]},toks:=tk}:=I.kept λb o e=>aR _ e;refine⟨(s.heap.push {cls:=.type "range",data:=.fields #[.int lo t,.int hi u,.int 1 v]}).objs.size,[(s.heap.push {cls:=.type "range",data:=.fields #[.int lo t,.int hi u,.int 1 v]}).objs.size],_,_,H,rfl,
  I1.kept (t':=tk) λb o e=>aR _ e,Ma _ lo (hi - lo).toNat,?_,λb hb=>?_,q⟩
 ·have e1:lo+((0:Nat):Int) * 1=lo:=by simp
  have e2:(((hi - lo).toNat:Nat):Int) - ((0:Nat):Int)=Builtin.Range.rangeSize lo hi 1:=by rw[rangeSize_one];split<;>lia
  show IsRangeIter _ _ (lo+((0:Nat):Int) * 1) ((((hi - lo).toNat:Nat):Int) - ((0:Nat):Int)) 1;rw[e1,e2];exact bR _ rfl
 ·have e:b=(s.heap.push {cls:=.type "range",data:=.fields #[.int lo t,.int hi u,.int 1 v]}).objs.size:=by simpa using hb
  subst e;exact I1.fpOk (aO _) (I1.hok.fresh (aO _))
def KJ(ta:TA):TI:=λZ H R=>ta Z H λvs H1=>∃j:Int,vs=[.int j]/\-(2 ^ 62)<=j/\j<2 ^ 62/\R (OV 0 j.toNat) H1
def Qr{a:Expr}{ta:TA}{p pos:Pos}(hg:Gl X "range")(hm:X.mg "range"=none)(ha:PA X [a] ta)(hs:aQ [a] X.env=[(false,eval a X.env)]:=by rfl):PI X tg (.Call (.Name "range" p) [a] [] pos) (KJ ta):=by
 intro pins s Z H R I h;refine Call_ (yr I hg hm boot_range (eO (jv (ha pos pins s Z H _ I h) λus s1 ⟨vs,H1,I1,r1,q1⟩=>?_) hs rfl));obtain⟨j,e,q1,q2,q⟩:=q1;subst e;cases r1 with
 |cons r rr=>
  cases rr;obtain⟨t,rfl⟩:=r;exact call_range_1 (Vv I1 (by lia) (by lia) q1 q2 (by simpa using q))
def RJ(wi:TI)(g:TG)(tb:TS):TS:=λD Z H=>wi Z H λJ H1=>∃W:Nat->Nat->St->Hp->Prop,(∃m,W 0 m Z H1)/\∀i m Z H,W i m Z H->
 (J.stop i H/\D.nx Z H)\/(J.go i H/\∃N:St->Hp->Prop,(∀σ' H',N σ' H'->∃m',m'<m/\W (i+1) m' σ' H')/\∀x H',J.yld i H x H'->g x Z H' λσ2 H2=>tb {D with nx:=N,ct:=N,bk:=D.nx} σ2 H2)
def yt(fp:List Addr)(h:Heap):List (Addr×Obj):=fp.filterMap λb=>(h.get? b).map λo=>(b,o)
def wo{h:Heap}(hb:b∈fp)(e:h.get? b=some o):(b,o)∈yt fp h:=List.mem_filterMap.mpr ⟨b,hb,by rw[e];rfl⟩
def Qn{h:Heap}(hp:p∈yt fp h):p.1∈fp/\h.get? p.1=some p.2:=by
 obtain⟨b,hb,e⟩:=List.mem_filterMap.mp hp;cases q:h.get? b with
 |none=>rw[q]at e;cases e
 |some o=>
  rw[q]at e;have e':(b,o)=p:=bP e;subst e';exact⟨hb,q⟩
def Inv.pinned{s:aK}(I:Inv X pins Z H s)(hf:∀b∈fp,Ax X pins H b)(ho:∀b∈fp,∃o,s.heap.get? b=some o/\∀v,o.data≠.cell v):Inv X (pins++yt fp s.heap) Z H s:=
 I.pins_of λp hp=>(List.mem_append.mp hp).elim (λz=>I.pin p (cJ _ z)) λz=>by
  obtain⟨hb,e⟩:=Qn z;obtain⟨f0,f1,f2,_⟩:=hf p.1 hb;obtain⟨o,e',d⟩:=ho p.1 hb;rw[e]at e';cases e';exact⟨e,f0,f1,f2,d⟩
def Inv.unpinned(I:Inv X (pins++pl) Z H s):Inv X pins Z H s:=I.pins_of λp hp=>I.pin p (cJ _ (dM _ hp))
def GV(hp:PassesOwn (bE X.prog X.w) X.A X.env X.xe)(hc:X.calm=true)(hi:PI X tg iter wi)(hg:PG X tg g)(hb:PSs X body tb)
  (hs:∀x,fL iter X.env x=pure x:=by intro _;rfl):PS X (.For tg iter body [] pos) (RJ wi g tb):=by
 intro pins s Z H D I h;refine wpAny_For (jv (hi pins s Z H _ I h) λv s1 h1=>jv h1 λitv s2 h2=>?_) hs;obtain⟨it,fp,tn,J,H2,e,I2,T,st2,f2,W,⟨m0,w0⟩,turn⟩:=h2;subst e;have stat:∀{H':Hp},(∀b∈fp,H' b=none)->∀b∈fp,Ax X pins H' b:=λhn b hb=>⟨hn b hb,(f2 b hb).2⟩;refine codeAny_forLoop_any (λn s'=>∃i σ' H',Inv X pins σ' H' s'/\tn i s'.heap/\(∀b∈fp,H' b=none)/\W i n σ' H') ?_ m0 ⟨0,Z,H2,I2,st2,λb hb=>(f2 b hb).1,w0⟩
 rintro n s3 ⟨i,σ3,H3,I3,st3,fr3,w3⟩
 rcases turn i n σ3 H3 w3 with ⟨stop,qn⟩|⟨go,N,hN,step⟩
 ·refine iH hp (jv (T.done X rfl rfl rfl hc i pins s3 σ3 H3 X.xe I3 (stat fr3) st3 stop) λr s4 ⟨hr,I4⟩=>?_);subst hr;exact fG ⟨σ3,H3,I4,qn⟩
 ·refine iH hp (jv (T.item X rfl rfl rfl hc i pins s3 σ3 H3 X.xe I3 (stat fr3) st3 go) λr s4 ⟨u,hr,h4⟩=>?_);subst hr;refine iH hp (jv h4 λ_ s5 ⟨x,H5,I5,r5,y5,st5,fr5⟩=>?_);have I5':=I5.pinned (stat fr5) (T.obj _ _ st5);refine iH hp (jv (hg _ s5 σ3 H5 x u _ I5' r5 (step x H5 y5)) λ_ s6 ⟨σ6,H6,I6,q6⟩=>?_);refine iH hp (jv (hb _ s6 σ6 H6 _ I6 q6) λf s7 q7=>?_);have again:∀{σ7:St}{H7:Hp},Inv X (pins++yt fp s5.heap) σ7 H7 s7->N σ7 H7->∃m,m<n/\∃i σ' H',Inv X pins σ' H' s7/\tn i s7.heap/\(∀b∈fp,H' b=none)/\W i m σ' H':=λ{σ7 H7} I7 n7=>by
   obtain⟨m',hm,w7⟩:=hN σ7 H7 n7;refine⟨m',hm,i+1,σ7,H7,I7.unpinned,T.keep _ _ _ st5 λb hb o e=>(I7.pin (b,o) (cJ _ (cJ _ (wo hb e)))).1,λb hb=>?_,w7⟩;obtain⟨o,e,d⟩:=T.obj _ _ st5 b hb;exact(I7.pin (b,o) (cJ _ (cJ _ (wo hb e)))).2.1
  cases f with
  |next=>obtain⟨σ7,H7,I7,n7⟩:=q7;exact again I7 n7
  |cont=>obtain⟨σ7,H7,I7,n7⟩:=q7;exact again I7 n7
  |brk=>obtain⟨σ7,H7,I7,q7⟩:=q7;exact⟨σ7,H7,I7.unpinned,q7⟩
  |ret v=>obtain⟨x7,σ7,H7,I7,r7,q7⟩:=q7;exact⟨x7,σ7,H7,I7.unpinned,r7,q7⟩
end
end L2
namespace L2
open PySem PySem.Spec PyProof.Rows
abbrev R2:=V->V->Hp->VK->Prop
def OpR(X:Cx)(f:aC->aC->Sem aC)(r:R2):Prop:=
 ∀(pins:List (Addr×Obj))(s:aK)(Z:St)(H:Hp)(x y:V)(v u:aC)(Q:VK),Inv X pins Z H s->RelV x v->RelV y u->r x y H Q->
  bA (bE X.prog X.w) X.A (f v u) (EP X pins Z Q) X.xe s
def OT(X:Cx)(f:aC->Sem aC)(r:V->Hp->VK->Prop):Prop:=
 ∀(pins:List (Addr×Obj))(s:aK)(Z:St)(H:Hp)(x:V)(v:aC)(Q:VK),Inv X pins Z H s->RelV x v->r x H Q->
  bA (bE X.prog X.w) X.A (f v) (EP X pins Z Q) X.xe s
def CallR(X:Cx)(f:aC)(r:List V->Hp->VK->Prop):Prop:=
 ∀(pins:List (Addr×Obj))(s:aK)(Z:St)(H:Hp)(xs:List V)(us:List aC)(Q:VK),Inv X pins Z H s->Vals xs us->r xs H Q->
  bA (bE X.prog X.w) X.A (call f us) (EP X pins Z Q) X.xe s
def QN(X:Cx)(r:V->Hp->(Bool->Hp->Prop)->Prop):Prop:=
 ∀(pins:List (Addr×Obj))(s:aK)(Z:St)(H:Hp)(x:V)(v:aC)(Q:Bool->Hp->Prop),Inv X pins Z H s->RelV x v->r x H Q->
  bA (bE X.prog X.w) X.A (truthy v) (TP X pins Z Q) X.xe s
def NR(r:R2)(ta tb:TE):TE:=λZ H Q=>ta Z H λx H1=>tb Z H1 λy H2=>r x y H2 Q
def TZ(r:V->Hp->VK->Prop)(ta:TE):TE:=λZ H Q=>ta Z H λx H1=>r x H1 Q
def rI(C:Int->Int->Prop)(g:Int->Int->V):R2:=λx y H Q=>∃i j,x=.int i/\y=.int j/\C i j/\Q (g i j) H
def Xk(g:Int->Int->V):R2:=λx y H Q=>∃i j,x=.int i/\y=.int j/\Q (g i j) H
def rU(g:Int->V):V->Hp->VK->Prop:=λx H Q=>∃i,x=.int i/\Q (g i) H
section
variable{X:Cx}{a b c:Expr}{ta tb tc:TE}{pos:Pos}
def EZ(ha:PE X a ta)(hb:PE X b tb){pins:List (Addr×Obj)}{s:aK}{Z:St}{H:Hp}{R:V->V->Hp->Prop}(I:Inv X pins Z H s)
  (h:ta Z H λx H1=>tb Z H1 λy H2=>R x y H2){Q:aC->aK->Prop}{f:aC->aC->Sem aC}
  (hf:∀v u s2 x y H2,Inv X pins Z H2 s2->RelV x v->RelV y u->R x y H2->bA (bE X.prog X.w) X.A (f v u) Q X.xe s2):
  bA (bE X.prog X.w) X.A (eval a X.env) (λv s₁=>bA (bE X.prog X.w) X.A (eval b X.env) (λu s₂=>bA (bE X.prog X.w) X.A (f v u) Q X.xe s₂) X.xe s₁) X.xe s:=by
 refine jv (ha pins s Z H _ I h) λv s1 ⟨x,H1,I1,r1,q1⟩=>?_;refine jv (hb pins s1 Z H1 _ I1 q1) λu s2 ⟨y,H2,I2,r2,q2⟩=>?_;exact hf v u s2 x y H2 I2 r1 r2 q2
def U2{op:Operator}(ho:OpR X (fM op) r)(ha:PE X a ta)(hb:PE X b tb):PE X (.BinOp a op b pos) (NR r ta tb):=by
 intro pins s Z H Q I h;exact wpAny_BinOp (EZ ha hb I h λv u s2 x y H2 I2 rx ry q=>ho pins s2 Z H2 x y v u Q I2 rx ry q)
def LG(ho:OT X (unaryOp op) r)(ha:PE X a ta):PE X (.UnaryOp op a pos) (TZ r ta):=by
 intro pins s Z H Q I h;exact UnaryOp_ (jv (ha pins s Z H _ I h) λv s1 ⟨x,H1,I1,r1,q1⟩=>ho pins s1 Z H1 x v Q I1 r1 q1)
def OP{g:Int->Int->Int}
  (rule:∀(i j:Int)(t u:Tok)(s:aK)(Q:aC->aK->Prop)(E:aC->aK->Prop),C i j->Q (.int (g i j) s.toks) {s with toks:=s.toks+1}->bA (bE X.prog X.w) X.A (f (.int i t) (.int j u)) Q E s):
  OpR X f (rI C λi j=>.int (g i j)):=by
 intro pins s Z H x y v u Q I rx ry h;obtain⟨i,j,rfl,rfl,hc,q⟩:=h;obtain⟨t,rfl⟩:=rx;obtain⟨t',rfl⟩:=ry;exact rule i j t t' s _ _ hc ⟨.int (g i j),H,I.tok _,⟨_,rfl⟩,q⟩
def LS{g:Int->Int->Int}
  (rule:∀(i j:Int)(t u:Tok)(s:aK)(Q:aC->aK->Prop)(E:aC->aK->Prop),Q (.int (g i j) s.toks) {s with toks:=s.toks+1}->bA (bE X.prog X.w) X.A (f (.int i t) (.int j u)) Q E s):
  OpR X f (Xk λi j=>.int (g i j)):=by
 intro pins s Z H x y v u Q I rx ry h;obtain⟨i,j,rfl,rfl,q⟩:=h;obtain⟨t,rfl⟩:=rx;obtain⟨t',rfl⟩:=ry;exact rule i j t t' s _ _ ⟨.int (g i j),H,I.tok _,⟨_,rfl⟩,q⟩
def Zc{g:Int->Int->Bool}
  (rule:∀(i j:Int)(t u:Tok)(s:aK)(Q:aC->aK->Prop)(E:aC->aK->Prop),Q (.bool (g i j)) s->bA (bE X.prog X.w) X.A (f (.int i t) (.int j u)) Q E s):
  OpR X f (Xk λi j=>.bl (g i j)):=by
 intro pins s Z H x y v u Q I rx ry h;obtain⟨i,j,rfl,rfl,q⟩:=h;obtain⟨t,rfl⟩:=rx;obtain⟨t',rfl⟩:=ry;exact rule i j t t' s _ _ ⟨.bl (g i j),H,I,rfl,q⟩
def QU(i j:Int):Prop:=0<j/\j<1073741824
def QT(i j:Int):Prop:=0<=j/\j<=1000000/\i.natAbs<2 ^ 64
def CMul(i j:Int):Prop:=(-(2 ^ 64)<i/\i<2 ^ 64)\/(-(2 ^ 64)<j/\j<2 ^ 64)
def CMul.ok(h:CMul i j):IntMulOk i j:=by
 rcases h with ⟨h1,h2⟩|⟨h1,h2⟩
 ·exact .of_left (intBits_le_64 h1 h2)
 ·exact .of_right (intBits_le_64 h1 h2)
def Lc:OpR X (fM .Add) (Xk λi j=>.int (i+j)):=LS λ_ _ _ _ _ _ _ q=>add_int q
def FE:OpR X (fM .Sub) (Xk λi j=>.int (i - j)):=LS λ_ _ _ _ _ _ _ q=>sub_int q
def FH:OpR X (fM .Mult) (rI CMul λi j=>.int (i * j)):=OP λ_ _ _ _ _ _ _ hc q=>mul_int q hc.ok
def Zf:OpR X (fM .FloorDiv) (rI QU λi j=>.int (i / j)):=OP λi j _ _ _ _ _ hc q=>by
 have h1:(0:Int)<j:=hc.1;have h2:j<1073741824:=hc.2;exact floordiv_int (by lia) (by rw[Int.fdiv_eq_ediv_of_nonneg i (by lia)];exact q) (.inl (PyProof.noPylong_small (by lia)))
def FI:OpR X (fM .Mod) (rI (λ_ j=>0<j) λi j=>.int (i % j)):=OP λi j _ _ _ _ _ hc q=>by
 have h1:(0:Int)<j:=hc;exact mod_int' (by lia) (by rw[Int.fmod_eq_emod_of_nonneg i (by lia)];exact q)
def FF:OpR X (fM .Pow) (rI QT λi j=>.int (i ^ j.toNat)):=OP λ_ _ _ _ _ _ _ hc q=>pow_int_small hc.1 hc.2.1 hc.2.2 q
def UR{g:Int->Int}
  (rule:∀(i:Int)(t:Tok)(s:aK)(Q:aC->aK->Prop)(E:aC->aK->Prop),Q (.int (g i) s.toks) {s with toks:=s.toks+1}->bA (bE X.prog X.w) X.A (f (.int i t)) Q E s):
  OT X f (rU λi=>.int (g i)):=by
 intro pins s Z H x v Q I rx h;obtain⟨i,rfl,q⟩:=h;obtain⟨t,rfl⟩:=rx;exact rule i t s _ _ ⟨.int (g i),H,I.tok _,⟨_,rfl⟩,q⟩
def IE:OT X (unaryOp .USub) (rU λi=>.int (-i)):=UR λ_ _ _ _ _ q=>neg_int q
end
section
variable{X:Cx}{a b c:Expr}{ta tb tc:TE}{pos:Pos}
def Fx(I:Inv X pins Z H s)(q:Q (.bl k) H)(e:k=k'):EP X pins Z Q (.bool k') s:=by
 subst e;exact⟨.bl k,H,I,rfl,q⟩
def LO:OpR X (bX .Lt) (Xk λi j=>.bl (decide (i<j))):=Zc λ_ _ _ _ _ _ _ q=>lt_int q
def LP:OpR X (bX .LtE) (Xk λi j=>.bl (decide (i<=j))):=Zc λ_ _ _ _ _ _ _ q=>le_int q
def LQ:OpR X (bX .Gt) (Xk λi j=>.bl (decide (j<i))):=Zc λ_ _ _ _ _ _ _ q=>gt_int q
def LR:OpR X (bX .GtE) (Xk λi j=>.bl (decide (j<=i))):=Zc λ_ _ _ _ _ _ _ q=>ge_int q
def Qo:OpR X (bX .In) (λx y H Q=>∃i j,x=.str i/\y=.str j/\Q (.bl (!(bM j i 0 j.length 1).isEmpty)) H):=by
 intro pins s Z H x y v u Q I rx ry h;obtain⟨i,j,rfl,rfl,q⟩:=h;obtain⟨t,rfl⟩:=rx;obtain⟨t',rfl⟩:=ry;exact in_str (Fx I q rfl)
def FJ:OpR X (bX .Is) (λx y H Q=>y=.non/\Q (.bl (decide (x=.non))) H):=by
 intro pins s Z H x y v u Q I rx ry h;obtain⟨rfl,q⟩:=h;cases ry;refine is_none_gen (Fx I q ?_);cases x<;>first
  |(cases rx;rfl)
  |(obtain⟨t,rfl⟩:=rx;rfl)
def Zi:OpR X (bX .IsNot) (λx y H Q=>y=.non/\Q (.bl (!decide (x=.non))) H):=by
 intro pins s Z H x y v u Q I rx ry h;obtain⟨rfl,q⟩:=h;cases ry;refine isnot_none_gen (Fx I q ?_);cases x<;>first
  |(cases rx;rfl)
  |(obtain⟨t,rfl⟩:=rx;rfl)
def F8:OpR X (bX .NotIn) (λx y H Q=>∃i j,x=.str i/\y=.str j/\Q (.bl (!(!(bM j i 0 j.length 1).isEmpty))) H):=by
 intro pins s Z H x y v u Q I rx ry h;obtain⟨i,j,rfl,rfl,q⟩:=h;obtain⟨t,rfl⟩:=rx;obtain⟨t',rfl⟩:=ry;exact notIn_str (Fx I q rfl)
def OpR.or(h:OpR X f r)(h':OpR X f r'):OpR X f (λx y H Q=>r x y H Q\/r' x y H Q):=by
 intro pins s Z H x y v u Q I rx ry q;rcases q with q|q
 ·exact h pins s Z H x y v u Q I rx ry q
 ·exact h' pins s Z H x y v u Q I rx ry q
def Zn{op:CmpOp}(ho:OpR X (bX op) r)(ha:PE X a ta)(hb:PE X b tb)(hm:iB op b=false):PE X (.Compare a [op] [b] pos) (NR r ta tb):=by
 intro pins s Z H Q I h;exact wpAny_Compare1 (EZ ha hb I h λv u s2 x y H2 I2 rx ry q=>ho pins s2 Z H2 x y v u Q I2 rx ry q) hm
def DO(t:TE):TT:=λZ H Q=>t Z H λx H'=>∃k,x=.bl k/\Q k H'
def N7(ho:OpR X (bX op) r)(ha:PE X a ta)(hb:PE X b tb)(hm:iB op b=false):PT X (.Compare a [op] [b] pos) (DO (NR r ta tb)):=by
 intro pins s Z H Q I h;refine wpAny_isTrue_Compare1 (jv (ha pins s Z H _ I h) λv s1 ⟨x,H1,I1,r1,q1⟩=>jv (hb pins s1 Z H1 _ I1 q1) λu s2 ⟨y,H2,I2,r2,q2⟩=>
  jv (ho pins s2 Z H2 x y v u _ I2 r1 r2 q2) λc s3 ⟨z,H3,I3,r3,k,e,q3⟩=>?_) hm
 subst e;cases r3;exact dE ⟨H3,I3,q3⟩
def L3(r r':R2)(ta tb tc:TE):TE:=λZ H Q=>ta Z H λx H1=>tb Z H1 λy H2=>r x y H2 λz H3=>∃k,z=.bl k/\
 (if k=true then tc Z H3 λw' H4=>r' y w' H4 Q else Q (.bl false) H3)
def Uy(ho:OpR X (bX op) r)(ho':OpR X (bX op') r')(ha:PE X a ta)(hb:PE X b tb)(hc:PE X c tc)
  (hm:mL [op,op'] [b,c]=false:=by with_unfolding_all rfl):PE X (.Compare a [op,op'] [b,c] pos) (L3 r r' ta tb tc):=by
 intro pins s Z H Q I h;refine Compare_chain (jv (ha pins s Z H _ I h) λv s1 ⟨x,H1,I1,r1,q1⟩=>chain_link (jv (hb pins s1 Z H1 _ I1 q1) λu s2 ⟨y,H2,I2,r2,q2⟩=>
  jv (ho pins s2 Z H2 x y v u _ I2 r1 r2 q2) λd s3 ⟨z,H3,I3,r3,k,e,q3⟩=>?_)) hm
 subst e;cases r3;refine dE ?_;cases k with
 |false=>exact ite_ff ⟨.bl false,H3,I3,rfl,q3⟩
 |true=>exact ite_tt (chain_last (jv (hc pins s3 Z H3 _ I3 q3) λw' s4 ⟨z',H4,I4,r4,q4⟩=>ho' pins s4 Z H4 y z' u w' Q I4 r2 r4 q4))
def Vg(ho:OpR X (bX op) r)(ho':OpR X (bX op') r')(ha:PE X a ta)(hb:PE X b tb)(hc:PE X c tc)
  (hm:mL [op,op'] [b,c]=false:=by with_unfolding_all rfl):PT X (.Compare a [op,op'] [b,c] pos) (DO (L3 r r' ta tb tc)):=by
 intro pins s Z H Q I h;refine isTrue_chain (jv (ha pins s Z H _ I h) λv s1 ⟨x,H1,I1,r1,q1⟩=>test_link (jv (hb pins s1 Z H1 _ I1 q1) λu s2 ⟨y,H2,I2,r2,q2⟩=>
  jv (ho pins s2 Z H2 x y v u _ I2 r1 r2 q2) λd s3 ⟨z,H3,I3,r3,k,e,q3⟩=>?_)) hm
 subst e;cases r3;refine dE ?_;cases k with
 |false=>
  obtain⟨k',e',q'⟩:=q3;cases e';exact ite_ff ⟨H3,I3,q'⟩
 |true=>
  refine ite_tt (test_last (jv (hc pins s3 Z H3 _ I3 q3) λw' s4 ⟨z',H4,I4,r4,q4⟩=>jv (ho' pins s4 Z H4 y z' u w' _ I4 r2 r4 q4) λd' s5 ⟨z2,H5,I5,r5,k2,e2,q5⟩=>?_));subst e2;cases r5;exact dE ⟨H5,I5,q5⟩
def DH(K:aP)(x:V)(H:Hp)(k:Bool):Prop:=
 match x with
 |.non=>k=false
 |.bl b=>k=b
 |.int i=>k=(i !=0)
 |.str y=>y.length<=aD/\k=((y.length:Int) !=0)
 |.byt y=>y.size<=aD/\k=((y.size:Int) !=0)
 |.ref p=>(∃xs,SqL K H p xs/\k= !xs.isEmpty)\/(∃xs,SqT K H p xs/\k= !xs.isEmpty)\/∃kvs,H p=some (.dK kvs)/\k= !kvs.isEmpty
 |_=>False
def K0{kvs:List (κ×V)}{vs:List (κ×aC)}(r:KV kvs vs):(!vs.isEmpty)= !kvs.isEmpty:=by
 cases r<;>rfl
def Bj{xs:List V}{its:List aC}(r:Vals xs its):(!its.toArray.isEmpty)= !xs.isEmpty:=by
 cases r<;>simp
def Br:(aD:Nat)<2 ^ 63:=by rw[sizeLine_eq];decide
def IJ:QN X (λx H Q=>∃k,DH X.K x H k/\Q k H):=by
 intro pins s Z H x v Q I rx h;obtain⟨k,e,q⟩:=h;have hl:=Br;have hs:aD=16777216:=sizeLine_eq;cases x with
 |non=>
  cases rx;have e':k=false:=e;subst e';exact truthy_none ⟨H,I,q⟩
 |bl b=>
  cases rx;have e':k=b:=e;subst e';exact dE ⟨H,I,q⟩
 |int i=>
  obtain⟨t,rfl⟩:=rx;have e':k=(i !=0):=e;subst e';exact PySem.P.truthy_int ⟨H,I,q⟩
 |str y=>
  obtain⟨t,rfl⟩:=rx;obtain⟨hy,e'⟩:y.length<=aD/\k=((y.length:Int) !=0):=e;subst e';exact PySem.P.truthy_str (by lia) ⟨H,I.tok _,q⟩
 |byt y=>
  obtain⟨t,rfl⟩:=rx;obtain⟨hy,e'⟩:y.size<=aD/\k=((y.size:Int) !=0):=e;subst e';exact PySem.W.truthy_bytes (by lia) ⟨H,I.tok _,q⟩
 |ref p=>
  cases rx;have e':(∃xs,SqL X.K H p xs/\k= !xs.isEmpty)\/(∃xs,SqT X.K H p xs/\k= !xs.isEmpty)\/∃kvs,H p=some (.dK kvs)/\k= !kvs.isEmpty:=e;rcases e' with ⟨xs,hx,e'⟩|⟨xs,hx,e'⟩|⟨kvs,hx,e'⟩
  ·subst e';obtain⟨its,r,pl,hz⟩:=I.list hx;have hlen:=r.length;exact wpAny_truthy_list pl.isList (by simp only[aZ];lia) ⟨H,I.tok _,by rw[Bj r];exact q⟩
  ·subst e';obtain⟨its,r,pl,hz⟩:=I.tuple hx;have hlen:=r.length;exact truthy_tuple pl (by simp only[aZ];lia) ⟨H,I.tok _,by rw[Bj r];exact q⟩
  ·subst e';obtain⟨hz,hS,vs,r,m⟩:kvs.length<=aD/\(p==eY)=false/\∃vs,KV kvs vs/\s.heap.DictOf (cw X.prog X.w) p vs:=I.hok p _ hx;have hlen:kvs.length=vs.length:=lD r;exact wpAny_truthy_dict hS m (by lia) ⟨H,I.tok _,by rw[K0 r];exact q⟩
 |_=>exact(show False from e).elim
def Vi(ha:PE X a ta)(he:∀whole,isTrue a X.env whole=(do let v <-whole;standAt a.pos;holding [v] (truthy v))):
  PT X a (λZ H Q=>ta Z H λx H'=>∃k,DH X.K x H' k/\Q k H'):=by
 intro pins s Z H Q I h;exact isTrue_plain (jv (ha pins s Z H _ I h) λv s1 ⟨x,H1,I1,r1,q1⟩=>IJ pins s1 Z H1 x v Q I1 r1 q1) (he _)
def Ld:OpR X (fM .Add) (λx y H Q=>∃i j,x=.str i/\y=.str j/\i.length+j.length<=aD/\Q (.str (i++j)) H):=by
 intro pins s Z H x y v u Q I rx ry h;obtain⟨i,j,rfl,rfl,hz,q⟩:=h;obtain⟨t,rfl⟩:=rx;obtain⟨t',rfl⟩:=ry;exact add_str (λt' tk=>⟨.str (i++j),H,I.tok _,⟨_,rfl⟩,q⟩) hz
def s8(r:Vals [x] us):∃u,us=[u]/\RelV x u:=by
 cases r with
 |cons r1 r2=>cases r2;exact⟨_,rfl,r1⟩
def DM(r:Vals [x,y] us):∃u w',us=[u,w']/\RelV x u/\RelV y w':=by
 cases r with
 |cons r1 r2=>
  cases r2 with
  |cons r3 r4=>cases r4;exact⟨_,_,rfl,r1,r3⟩
def R9:CallR X (.builtin "abs") (λxs H Q=>∃i,xs=[.int i]/\Q (.int (if i<0 then -i else i)) H):=by
 intro pins s Z H xs us Q I r h;obtain⟨i,rfl,q⟩:=h;obtain⟨u,rfl,t,rfl⟩:=s8 r;exact call_abs_int λu tk=>⟨.int (if i<0 then -i else i),H,I.tok _,⟨_,rfl⟩,q⟩
def Dv:CallR X (.type "int") (λxs H Q=>(∃i,xs=[.int i]/\Q (.int i) H)\/∃k,xs=[.bl k]/\Q (.int (if k then 1 else 0)) H):=by
 intro pins s Z H xs us Q I r h;rcases h with ⟨i,rfl,q⟩|⟨k,rfl,q⟩
 ·obtain⟨u,rfl,t,rfl⟩:=s8 r;exact call_int_int ⟨.int i,H,I,⟨_,rfl⟩,q⟩
 ·obtain⟨u,rfl,r1⟩:=s8 r;cases r1;exact call_int_bool ⟨.int (if k then 1 else 0),H,I.tok _,⟨_,rfl⟩,q⟩
def Fj:CallR X (.type "str") (λxs H Q=>∃i,xs=[.int i]/\i.natAbs.log2<1920/\Q (.str (toString i)) H):=by
 intro pins s Z H xs us Q I r h;obtain⟨i,rfl,hz,q⟩:=h;obtain⟨u,rfl,t,rfl⟩:=s8 r;exact PySem.P.str_of_int hz ⟨.str _,H,I.tok _,⟨_,rfl⟩,q⟩
def QP(K:aP)(x:V)(H:Hp)(n:Nat):Prop:=
 match x with
 |.str y=>y.length<=aD/\n=y.length
 |.byt y=>y.size<=aD/\n=y.size
 |.ref p=>(∃xs,SqL K H p xs/\n=xs.length)\/∃xs,SqT K H p xs/\n=xs.length
 |_=>False
def Sd:CallR X (.builtin "len") (λxs H Q=>∃x n,xs=[x]/\QP X.K x H n/\Q (.int n) H):=by
 intro pins s Z H xs us Q I r h;obtain⟨x,n,rfl,e,q⟩:=h;obtain⟨u,rfl,rx⟩:=s8 r;have hl:=Br;have hs:aD=16777216:=sizeLine_eq;cases x with
 |str y=>
  obtain⟨t,rfl⟩:=rx;obtain⟨hy,e'⟩:y.length<=aD/\n=y.length:=e;subst e';exact len_str (by lia) ⟨.int _,H,I.tok _,⟨_,rfl⟩,q⟩
 |byt y=>
  obtain⟨t,rfl⟩:=rx;obtain⟨hy,e'⟩:y.size<=aD/\n=y.size:=e;subst e';exact PySem.W.len_bytes (by lia) ⟨.int _,H,I.tok _,⟨_,rfl⟩,q⟩
 |ref p=>
  cases rx;have e':(∃xs,SqL X.K H p xs/\n=xs.length)\/∃xs,SqT X.K H p xs/\n=xs.length:=e;rcases e' with ⟨xs,hx,e'⟩|⟨xs,hx,e'⟩
  ·subst e';obtain⟨its,r',pl,hz⟩:=I.list hx;have hlen:=r'.length;exact Calls.call_len_list pl.isList (by simp only[aZ];lia) ⟨.int xs.length,H,I.tok _,⟨_,by simp only[aZ];rw[hlen]⟩,q⟩
  ·subst e';obtain⟨its,r',pl,hz⟩:=I.tuple hx;have hlen:=r'.length;exact len_tuple pl (by simp only[aZ];lia) ⟨.int xs.length,H,I.tok _,⟨_,by simp only[aZ];rw[hlen]⟩,q⟩
 |_=>exact(show False from e).elim
end
end L2
namespace L2
open PySem PySem.Spec PyProof.Rows
structure ObjM(h:Heap)(x dx C:Addr)(mA:Str->Option aC):Prop where
 obj:h.get? x=some (fF C dx)
 ns:h.Ns1 dx mA
 ne:dx≠x
def Qe{h:Heap}(n:h.Ns1 dx mA):∃od,h.get? dx=some od/\∀name,PySem.W.lookIn name od=some (mA name):=by
 obtain⟨o,es,ep,ho,hd,hk,_,hm⟩:=n;refine⟨o,ho,λname=>?_⟩;have e:=hm name;unfold nsFind findBy at e;rw[<-Array.find?_toList]at e;unfold PySem.W.lookIn;rw[hd];dsimp only;split
 ·rename_i y q;rw[q]at e;exact congrArg some e
 ·rename_i q;rw[q]at e;have a:es.toList.any (·.refKey)=false:=by
   rw[List.any_eq_false];intro y hy;obtain⟨z,t,hkey⟩:=hk y (Array.mem_toList_iff.mp hy);simp[DictEntry.refKey,hkey]
  have a':¬es.toList.any (·.refKey)=true:=by rw[a];exact Bool.false_ne_true
  rw[aG a'];exact congrArg some e
def ObjM.look(I:ObjM h x dx C mA):∃od,PySem.W.InstAt h x (fF C dx) C (some od)/\∀name,PySem.W.lookIn name od=some (mA name):=
 let ⟨od,ho,hl⟩:=Qe I.ns
 ⟨od,⟨I.obj,rfl,rfl,ho⟩,hl⟩
def RelO.some_of(r:RelO (some v) o):∃u,o=some u/\RelV v u:=by
 cases o with
 |none=>exact(show False from r).elim
 |some u=>exact⟨u,rfl,r⟩
structure Cls(K:aP)(C:Addr):Prop where
 pg:PySem.W.plainGet K C cX=true
 hd:PySem.W.hasDictIn K C=true
 po:PySem.W.plainOver K C=true
 sa:PySem.W.findIn K (.ref C) "__setattr__"=some (some (.builtin "object.__setattr__"))
def Cls.get{K:aP}{C:Addr}(c:Cls K C)(f:Str):PySem.W.plainGet K C f=true:=c.pg
section
variable{X:Cx}{pins:List (Addr×Obj)}{Z:St}{H:Hp}{s:aK}{a C dx:Addr}{fs:List (Str×V)}{f:Str}{v:V}{A:cO}{E:aC->aK->Prop}
def Inv.made(I:Inv X pins Z H s):Inv X pins Z (upd (upd H s.heap.objs.size (.own (s.heap.objs.size+1))) (s.heap.objs.size+1) (.ins C s.heap.objs.size []))
  {s with heap:=(s.heap.push dS).push (fF C s.heap.objs.size)}:=by
 have e1:(s.heap.push dS).get? s.heap.objs.size=some dS:=bR s.heap rfl;have e2:((s.heap.push dS).push (fF C s.heap.objs.size)).get? (s.heap.objs.size+1)=some (fF C s.heap.objs.size):=by
  have:=bR (s.heap.push dS) (o:=fF C s.heap.objs.size) rfl;rwa [kH]at this
 have e3:(s.heap.push dS).Ns s.heap.objs.size (λ_=>none):=⟨dS,#[],_,e1,rfl,(λe he=>absurd he (by simp)),λ_=>rfl⟩;have I1:=I.laid (a:=s.heap.objs.size) (o:=.own (s.heap.objs.size+1)) (h':=s.heap.push dS) (t':=s.toks) (λb u q=>aR _ q) (aO _) ⟨_,e1⟩;refine I1.laid (a:=s.heap.objs.size+1) (o:=.ins C s.heap.objs.size []) (t':=s.toks) (λb u q=>aR _ q) (eC (kH _ _)) ?_;have ne:s.heap.objs.size≠s.heap.objs.size+1:=cI (lH _);refine⟨by rw[bt ne,bz],cA _,ne,e2,λ_=>none,(Heap.Ns1.of_empty e3).at λo q=>aR _ q,λ_=>gA,λy hy=>absurd rfl hy⟩
end
end L2
namespace L2
open PySem PySem.Spec PyProof.Rows
structure Room(k:Nat)(A:cO):Prop where
 hd:A.handled=none
 dp:A.depth+3 * k+5<kI
 un:A.units+16 * k+200<dO
def Room.mono(r:Room k A)(h:j<=k):Room j A:=⟨r.hd,by have:=r.dp;lia,by have:=r.un;lia⟩
theorem Room.deeper{A:cO}(r:Room (k+1) A)(env:Env):Room k (A.deeper env):=
 ⟨r.hd,by have:=r.dp;show A.depth+1+3 * k+5<_;lia,by have:=r.un;show A.units+3+16 * k+200<_;lia⟩
theorem Room.in1{A:cO}(r:Room (k+1) A):Room k A.in1:=
 ⟨r.hd,by have:=r.dp;show A.depth+3 * k+5<_;lia,by have:=r.un;show A.units+1+16 * k+200<_;lia⟩
theorem Room.depth{A:cO}(r:Room k A):A.depth<kI:=by have:=r.dp;lia
theorem Room.units{A:cO}(r:Room k A):A.units+64<dO:=by have:=r.un;lia
def NT:TA:=λ_ H Q=>Q [] H
def NV(ta:TE)(tr:TA):TA:=λZ H Q=>ta Z H λx H1=>tr Z H1 λxs H2=>Q (x::xs) H2
section
variable{X:Cx}{e:Expr}{es:List Expr}{te:TE}{t:TA}{pos:Pos}
def B0:PA X [] NT:=λ_ _ _ _ H Q I h=>iQ ⟨[],H,I,.nil,h⟩
def o8(ha:PE X e te)(hr:PA X es t)(hs:aQ (e::es) X.env=(false,eval e X.env)::aQ es X.env:=by rfl):PA X (e::es) (NV te t):=by
 intro pos pins s Z H Q I h;rw[hs];show bA _ _ (spliced ((false,eval e X.env)::cY pos (aQ es X.env))) _ _ s;refine eZ (jv (ha pins s Z H _ I h) λu s1 ⟨x,H1,I1,r1,q1⟩=>?_);exact jv (hr pos pins s1 Z H1 _ I1 q1) λus s2 ⟨xs,H2,I2,r2,q2⟩=>⟨x::xs,H2,I2,.cons r1 r2,q2⟩
def RC(t:TA):TE:=λZ H Q=>t Z H λxs H1=>xs.length<=aD/\∀p,H1 p=none->Q (.ref p) (upd H1 p (.tup xs))
def RH(t:TA):TE:=λZ H Q=>t Z H λxs H1=>xs.length<=aD/\∀p,H1 p=none->Q (.ref p) (upd H1 p (.lst xs))
def GX{x1}(h:PA X es t):PE X (.Tuple es x1 pos) (RC t):=by
 intro pins s Z H Q I hq;refine wpAny_Tuple_spliced (jv (h pos pins s Z H _ I hq) λus s1 ⟨xs,H1,I1,r,z,q⟩=>⟨by rw[<-r.length];exact z,?_⟩);have hf:H1 s1.heap.objs.size=none:=I1.hok.fresh (aO _);refine⟨.ref s1.heap.objs.size,upd H1 s1.heap.objs.size (.tup xs),I1.laid (t':=s1.toks) (λb u e=>aR _ e) (aO _) ?_,rfl,q _ hf⟩;exact⟨z,us,r,⟨_,bR _ rfl,rfl,_,rfl⟩⟩
def FC(h:PA X es t):PE X (.List es pos) (RH t):=by
 intro pins s Z H Q I hq;refine wpAny_List_spliced (jv (h pos pins s Z H _ I hq) λus s1 ⟨xs,H1,I1,r,z,q⟩=>⟨by rw[<-r.length];exact z,?_⟩);have hf:H1 s1.heap.objs.size=none:=I1.hok.fresh (aO _);refine⟨.ref s1.heap.objs.size,upd H1 s1.heap.objs.size (.lst xs),I1.laid (t':=s1.toks) (λb u e=>aR _ e) (aO _) ?_,rfl,q _ hf⟩;exact⟨z,us,0,r,bR _ rfl⟩
end
abbrev Sp:=List V->Hp->VK->XK->Prop
abbrev Rh:=List Env->Hp->aK->XK->aC->aK->Prop
structure Env0(P:bN)(w:cH)(K:aP)(mg:Str->Option aC)(base:Heap)(A:cO)(outer:List Env)(s:aK)(H:Hp):Prop where
 frames:A.frames=some outer
 mod:Mod K mg base
 bs:∀b o,base.get? b=some o->s.heap.get? b=some o/\H b=none
 bsz:base.objs.size<=s.heap.objs.size
 funs:s.heap.FunFrames base outer
 frf:∀b∈wg outer,H b=none
 hok:HOk P w H s.heap
 bare:jZ s.gens
def CE(outer:List Env)(P:bN)(w:cH)(H:Hp)(s:aK)(Q:VK)(u:aC)(s':aK):Prop:=
 ∃v H',s'.os=s.os/\jZ s'.gens/\Un (wg outer) [] H H' s.heap s'.heap/\HOk P w H' s'.heap/\RelV v u/\Q v H'
def CR(CX:Rh)(outer:List Env)(P:bN)(w:cH)(H:Hp)(s:aK)(Q:VK)(E:XK)(r:Result)(s':aK):Prop:=
 match r with
 |.ok (.ret u)=>CE outer P w H s Q u s'
 |.ok _=>False
 |.error e=>CX outer H s E e s'
structure FnOk(P:bN)(w:cH)(K:aP)(mg:Str->Option aC)(base:Heap)(CX:Rh)(k:Nat)(f:Addr)(fd:dX)(ps:List Str)(sp:Sp):Prop where
 len:∀vs H Q E,sp vs H Q E->vs.length=ps.length
 run:∀(A:cO)(outer:List Env)(s:aK)(H:Hp)(args:Args)(us:List aC)(vs:List V)(Q:VK)(E:XK),Room k A->Env0 P w K mg base A outer s H->BindsTo s fd args (ps.zip us)->Vals vs us->sp vs H Q E->
  kX (bE P w) A (.call (.ref f) args) (CR CX outer P w H s Q E) s
theorem FnOk.mono{P:bN}{w:cH}{K:aP}{mg:Str->Option aC}{base:Heap}{CX:Rh}{j k:Nat}{f:Addr}{fd:dX}{ps:List Str}{sp:Sp}(F:FnOk P w K mg base CX j f fd ps sp)(h:j<=k):
  FnOk P w K mg base CX k f fd ps sp:=⟨F.len,λA outer s H args us vs Q E hr=>F.run A outer s H args us vs Q E (hr.mono h)⟩
def FnOk.imp{P:bN}{w:cH}{K:aP}{mg:Str->Option aC}{base:Heap}{CX:Rh}{k:Nat}{f:Addr}{fd:dX}{ps:List Str}{sp sp':Sp}(F:FnOk P w K mg base CX k f fd ps sp)
  (h:∀vs H Q E,sp' vs H Q E->sp vs H Q E):FnOk P w K mg base CX k f fd ps sp':=
 ⟨λvs H Q E q=>F.len vs H Q E (h _ _ _ _ q),λA outer s H args us vs Q E hr he hb hv hs=>F.run A outer s H args us vs Q E hr he hb hv (h _ _ _ _ hs)⟩
theorem Env0.in1{P:bN}{w:cH}{K:aP}{mg:Str->Option aC}{base:Heap}{A:cO}{outer:List Env}{s:aK}{H:Hp}(e:Env0 P w K mg base A outer s H):
  Env0 P w K mg base A.in1 outer s H:=⟨e.frames,e.mod,e.bs,e.bsz,e.funs,e.frf,e.hok,e.bare⟩
section
variable{X:Cx}{pins:List (Addr×Obj)}{Z:St}{H:Hp}{s s':aK}
def Inv.env0(I:Inv X pins Z H s):Env0 X.prog X.w X.K X.mg X.base X.A X.stack s H:=
 ⟨I.ok.frames,I.ok.mod,I.bs,bC I.ok.bsz I.sz,I.stack,I.stkFree,I.hok,I.bare⟩
def Inv.after(I:Inv X pins Z H s)(h:CE X.stack X.prog X.w H s Q u s'):EP X pins Z Q u s':=by
 obtain⟨v,H',os,bare,un,hok,r,q⟩:=h;obtain⟨hh,g,d,t,os'⟩:=s';obtain rfl:os'=s.os:=os;exact⟨v,H',I.call (h':=hh) (g':=g) (d':=d) (t':=t) (ch:=[]) un hok bare (λb z=>absurd z (by simp)),r,q⟩
end
def DQ(sp:Sp)(dvs:List V)(E:XK)(t:TA):TE:=λZ H Q=>t Z H λvs H1=>sp (vs++dvs) H1 Q E
def Binds(K:aP)(fd:dX)(ps:List Str)(ds:List aC):Prop:=
 ∀(s:aK)(us:List aC),K.In s.heap->(us++ds).length=ps.length->BindsTo s fd ⟨us,[]⟩ (ps.zip (us++ds))
def Binds.all{K:aP}{fd:dX}{ps:List Str}(h:∀us:List aC,us.length=ps.length->bindArgs fd ⟨us,[]⟩=pure (ps.zip us)):Binds K fd ps []:=λs us _ hl=>by
 rw[cM]at hl⊢;exact .of_eq (h us hl)
def tm(CX:Rh)(X:Cx)(E:XK):Prop:=∀(pins:List (Addr×Obj))(Z:St)(H:Hp)(s:aK)(e:aC)(s':aK),Inv X pins Z H s->CX X.stack H s E e s'->X.xe e s'
section
variable{X:Cx}{CX:Rh}{k:Nat}{f C:Addr}{fd:dX}{ps:List Str}{sp:Sp}{dvs:List V}{ds:List aC}{E:XK}{x m:Str}{p pos apos:Pos}{e o:Expr}{es:List Expr}{ta:TE}{t:TA}
def Lo(F:FnOk X.prog X.w X.K X.mg X.base CX k f fd ps sp)(hr:Room k X.A)(hb:Binds X.K fd ps ds)(hd:Vals dvs ds)(hx:tm CX X E)
  (I:Inv X pins Z H s)(r:Vals vs us)(h:sp (vs++dvs) H Q E):bA (bE X.prog X.w) X.A (call (.ref f) us) (EP X pins Z Q) X.xe s:=by
 have r2:Vals (vs++dvs) (us++ds):=r.append hd;have hl:(us++ds).length=ps.length:=by rw[<-r2.length];exact F.len _ _ _ _ h
 refine wpAny_call (kA (F.run X.A X.stack s H ⟨us,[]⟩ (us++ds) (vs++dvs) Q E hr I.env0 (hb s us I.kIn hl) r2 h) λr s' hq=>?_);cases r with
 |error e=>exact hx pins Z H s e s' I hq
 |ok fl=>
  cases fl with
  |ret u=>exact I.after hq
  |next=>exact cZ hq
  |brk=>exact cZ hq
  |cont=>exact cZ hq
def Zm(F:FnOk X.prog X.w X.K X.mg X.base CX k f fd ps sp)(hr:Room k X.A)(hg:Gl X x)(hm:X.mg x=some (.ref f))(hk:bU X.K (.ref f)=true)(hb:Binds X.K fd ps ds)(hd:Vals dvs ds)(hx:tm CX X E)
  (ha:PA X (e::es) t)(hdb:(x==("__debug__":Str))=false:=by decide)(he:aQ (e::es) X.env=(false,eval e X.env)::aQ es X.env:=by rfl)(hpl:(cY pos (aQ es X.env)).any (·.1)=false:=by rfl):
  PE X (.Call (.Name x p) (e::es) [] pos) (DQ sp dvs E t):=by
 intro pins s Z H Q I h;refine dZ (nh I hg hm ?_ hdb);refine kJ (h₀:=X.base) I.ok.mod.kin hk (jv (ha pos pins s Z H _ I h) λus s1 ⟨vs,H1,I1,r,q⟩=>⟨I1.kIn,?_⟩) he hpl;exact Lo F hr hb hd hx I1 r q
def Ux(F:FnOk X.prog X.w X.K X.mg X.base CX k f fd ps sp)(hr:Room k X.A)(hg:Gl X x)(hm:X.mg x=some (.ref f))(hk:bU X.K (.ref f)=true)(hb:Binds X.K fd ps ds)(hd:Vals dvs ds)(hx:tm CX X E)
  (hdb:(x==("__debug__":Str))=false:=by decide):PE X (.Call (.Name x p) [] [] pos) (DQ sp dvs E NT):=by
 intro pins s Z H Q I h;refine dZ (nh I hg hm ?_ hdb);exact PySem.W.callWith_K0 I.kIn hk (Lo (us:=[]) F hr hb hd hx I .nil h)
structure Mk(K:aP)(C f:Addr):Prop where
 makes:PySem.W.makesIn K C=true
 init:PySem.W.findIn K (.ref C) "__init__"=some (some (.ref f))
 fn:PySem.W.isFn K (.ref f)=true
 kp:bU K (.ref C)=true
end
structure FnScope(N P:List Str)(sc:eS):Prop where
 kind:sc.kind=.function
 co:sc.isCoroutine=false
 gen:sc.isGenerator=false
 nd:N.Nodup
 pre:N.take P.length=P
 par:∀x∈P,sc.names.lookup x=some .local\/sc.names.lookup x=some .cell
 nofree:∀y∈sc.names,y.2≠.free
theorem Du{kindOf:Str->Option fX}{x:Str}:∀{binds:List (Str×aC)}{m:Str->Option aC},(∀v,(x,v)∉binds)->bindL kindOf binds m x=m x
 |[],_,_=>rfl
 |(n,v)::r,m,h=>by
  unfold bindL;rw[Du λw hw=>h w (aF _ hw)];split
  ·have:x≠n:=by rintro rfl;exact h v aH
   simp[this]
  ·rfl
theorem Ds{kindOf:Str->Option fX}{x:Str}:∀{binds:List (Str×aC)}{m:Str->Option aC},(∀v,(x,v)∉binds)->bindC kindOf binds m x=m x
 |[],_,_=>rfl
 |(n,v)::r,m,h=>by
  unfold bindC;rw[Ds λw hw=>h w (aF _ hw)];split
  ·rfl
  ·have:x≠n:=by rintro rfl;exact h v aH
   simp[this]
theorem Dt{kindOf:Str->Option fX}{x:Str}{v:aC}:∀{P:List Str}{vs:List aC}{i:Nat}{m:Str->Option aC},P.Nodup->P[i]?=some x->vs[i]?=some v->kindOf x=some .local->
  bindL kindOf (P.zip vs) m x=some v
 |[],_,_,_,_,h,_,_=>by simp at h
 |_::_,[],_,_,_,_,h,_=>by simp at h
 |p::P,w::vs,0,m,nd,h1,h2,hk=>by
  simp at h1 h2;subst h1;subst h2;show bindL kindOf ((p,w)::P.zip vs) m p=_;unfold bindL;rw[Du λv hv=>(List.nodup_cons.mp nd).1 (lX hv).1,aB hk];simp
 |p::P,w::vs,i+1,m,nd,h1,h2,hk=>by
  show bindL kindOf ((p,w)::P.zip vs) m x=_;unfold bindL;exact Dt (i:=i) (List.nodup_cons.mp nd).2 (by simpa using h1) (by simpa using h2) hk
theorem Dr{kindOf:Str->Option fX}{x:Str}{v:aC}:∀{P:List Str}{vs:List aC}{i:Nat}{m:Str->Option aC},P.Nodup->P[i]?=some x->vs[i]?=some v->kindOf x≠some .local->
  bindC kindOf (P.zip vs) m x=some v
 |[],_,_,_,_,h,_,_=>by simp at h
 |_::_,[],_,_,_,_,h,_=>by simp at h
 |p::P,w::vs,0,m,nd,h1,h2,hk=>by
  simp at h1 h2;subst h1;subst h2;show bindC kindOf ((p,w)::P.zip vs) m p=_;unfold bindC;rw[Ds λv hv=>(List.nodup_cons.mp nd).1 (lX hv).1,aG hk];simp
 |p::P,w::vs,i+1,m,nd,h1,h2,hk=>by
  show bindC kindOf ((p,w)::P.zip vs) m x=_;unfold bindC;exact Dr (i:=i) (List.nodup_cons.mp nd).2 (by simpa using h1) (by simpa using h2) hk
def pd(N:List Str)(vs:List V):St:=vs.map some++aS (N.length - vs.length) none
noncomputable def yh(CX:Rh)(P:bN)(w:cH)(K:aP)(mg:Str->Option aC)(base:Heap)(N:List Str)(qual:Str)(scope:eS)(f:Addr)(cd:aC)(A:cO)(outer:List Env)(s:aK)(H:Hp)(E:XK):Cx where
 prog:=P
 w:=w
 K:=K
 mg:=mg
 base:=base
 A:=A.deeper (lF qual scope s.heap.objs.size f cd)
 N:=N
 s₀:=s
 H₀:=H
 env:=lF qual scope s.heap.objs.size f cd
 outer:=outer
 stack:=lF qual scope s.heap.objs.size f cd::outer
 ex:=[]
 calm:=true
 fn:=λx=>decide (x∉vg)
 pn:=[]
 xe:=λe s'=>bA (bE P w) (A.deeper (lF qual scope s.heap.objs.size f cd)) (leaving (lF qual scope s.heap.objs.size f cd) e) (λ_ s''=>CX outer H s E e s'') (λe' s''=>CX outer H s E e' s'') s'
def Hj{sc:eS}(h:sc.names.lookup x=some .cell):∃c,(mM n sc.names []).lookup x=some c:=by
 have q:=PySem.W.cellsFrom_some sc.names n [] (.inl h);exact Option.isSome_iff_exists.mp q
def P4{CX:Rh}{P:bN}{w:cH}{K:aP}{mg:Str->Option aC}{base:Heap}{N ps:List Str}{qual:Str}{scope:eS}{f:Addr}{cd:aC}{A:cO}{outer:List Env}{s s1:aK}{H:Hp}{E:XK}{us:List aC}{vs:List V}
  (S:FnScope N ps scope)(hd:A.handled=none)(e0:Env0 P w K mg base A outer s H)(hl:vs.length=ps.length)(r:Vals vs us)
  (x:InCallC s s.heap.objs.size (bindL (lF qual scope s.heap.objs.size f cd).kindOf (ps.zip us) λ_=>none) (mM (s.heap.objs.size+1) scope.names []) (bindC (lF qual scope s.heap.objs.size f cd).kindOf (ps.zip us) λ_=>none) s1):
  Inv (yh CX P w K mg base N qual scope f cd A outer s H E) [] (pd N vs) H s1:=by
 have hpl:ps.length<=N.length:=by have:=congrArg mF S.pre;rw[cN]at this;lia
 obtain⟨h1,tk,rfl,hk⟩:=x.done;have noA:∀b:Addr,b∉(yh CX P w K mg base N qual scope f cd A outer s H E).ex:=λb z=>absurd (show b∈([]:List Addr)from z) (by simp);refine⟨⟨e0.mod,S.kind,rfl,rfl,aO _,λy z c h1 h2=>?_,λy hy=>?_,λy c _ h=>?_,λ_=>hd,Around.frames_deeper e0.frames,.inr ⟨rfl,rfl⟩,λb z=>absurd z (noA b),e0.bs,e0.bsz,λb _ _=>noA b,λb z=>absurd z (noA b),e0.funs,e0.frf⟩,
  rfl,e0.bare,Un.kept hk,⟨_,x.toInCall.ns,λi y v h1 h2 h3=>?_⟩,λy c h=>⟨_,x.cell y c h⟩,e0.hok.fresh (aO _),λy c h=>?_,λp hp=>absurd (show p∈([]:List (Addr×Obj))from hp) (by simp),e0.hok.kept hk,?_⟩
 ·exact name_of_addr x.apart (eM h1) (eM h2)
 ·have hy:scope.names.lookup y=some .cell\/scope.names.lookup y=some .free:=hy;rcases hy with hy|hy
  ·exact Hj hy
  ·exact absurd rfl (S.nofree _ (eM hy))
 ·exact Nat.le_of_lt (x.above y c (eM h))
 ·have hi:i<vs.length:=by
   unfold pd at h2
   by_cases hi:i<vs.length
   ·exact hi
   ·rw[bI (by simpa using hi)]at h2;rw[List.getElem?_replicate]at h2;split at h2<;>cases h2
  have ha:vs[i]?=some v:=by
   unfold pd at h2;rw[bL (by simpa using hi),bW]at h2;cases e:vs[i]? with
   |none=>rw[e]at h2;cases h2
   |some a=>rw[e]at h2;cases h2;rfl
  obtain⟨u,hu,rv⟩:=r.get ha;have hp:ps[i]?=some y:=by
   rw[<-S.pre,List.getElem?_take_of_lt (by lia)];exact h1
  have ndP:ps.Nodup:=by rw[<-S.pre];exact S.nd.sublist (List.take_sublist _ _)
  refine⟨u,rv,?_⟩;rcases S.par y (cB hp)with k|k
  ·exact .inl ⟨k,Dt ndP hp hu k⟩
  ·obtain⟨c,e⟩:=Hj (n:=s.heap.objs.size+1) k;refine .inr ⟨.inl k,c,e,?_⟩;have q:=x.cell y c e;rw[Dr ndP hp hu (by show scope.names.lookup y≠_;rw[k];decide)]at q;exact q
 ·exact .inl (e0.hok.fresh (Nat.le_of_lt (x.above y c (eM h))))
 ·unfold pd;show _=N.length;rw[aI,aJ,cQ]
  lia
def CP{CX:Rh}{P:bN}{w:cH}{K:aP}{mg:Str->Option aC}{base:Heap}{k:Nat}{f:Addr}{name qual:Str}{params:Arguments}{body:List Stmt}{scope:eS}{dV kV doc pm cdv ct oc:aC}{an od:Option Addr}
  {osl:Array (Option aC)} {N ps:List Str} {sp:Sp} (lk:K.lookup f=some ⟨oc,od,.func (dJ name qual params body scope dV kV doc pm an cdv ct),osl⟩) (hcd:fY K cdv qual=true) (S:FnScope N ps scope)
  (len:∀vs H Q E,sp vs H Q E->vs.length=ps.length)
  (hbody:∀(A:cO)(outer:List Env)(s:aK)(H:Hp)(vs:List V)(Q:VK)(E:XK),Room k (A.deeper (lF qual scope s.heap.objs.size f cdv))->sp vs H Q E->
   ∃t,PSs (yh CX P w K mg base N qual scope f cdv A outer s H E) body t/\t {nx:=λ_ H'=>Q .non H',rt:=Q} (pd N vs) H):
  FnOk P w K mg base CX (k+1) f (dJ name qual params body scope dV kV doc pm an cdv ct) ps sp:=by
 refine⟨len,λA outer s H args us vs Q E hr e0 hb r hsp=>?_⟩;have hl:=len _ _ _ _ hsp;have KX:K.In s.heap:=e0.mod.kin.keeps λb o e=>(e0.bs b o e).1;have lim:s.heap.NoLimit:=e0.mod.nolimit.keeps λb o e=>(e0.bs b o e).1;have hkind:∀y∈ps.zip us,scope.names.lookup y.1=some .local\/(scope.names.lookup y.1=some .cell/\((mM (s.heap.objs.size+1) scope.names []).lookup y.1).isSome=true):=λ⟨n,v⟩ hy=>by
  rcases S.par n (lX hy).1 with q|q
  ·exact .inl q
  ·exact .inr ⟨q,PySem.W.cellsFrom_some _ _ _ (.inl q)⟩
 refine codeAny_call_function hr.depth (KX _ _ lk) rfl S.co S.gen rfl (PySem.W.codeRec_of KX hcd) (hb _ _ _ _ ?_);refine wpAny_newFunctionEnv_cells S.kind hkind λenv he s1 x=>?_;subst he;refine⟨lim.keeps x.toInCall.keep,codeAny_func ?_⟩;obtain⟨t,ht,hq⟩:=hbody A outer s H vs Q E (hr.deeper _) hsp;have I:Inv (yh CX P w K mg base N qual scope f cdv A outer s H E) [] (pd N vs) H s1:=P4 S hr.hd e0 hl r x;refine bQ (ht [] s1 (pd N vs) H _ I hq) (λfl s' hs=>?_) λe s' hs=>hs;have fin:∀{σ':St}{H':Hp}{v:V}{u:aC},Inv (yh CX P w K mg base N qual scope f cdv A outer s H E) [] σ' H' s'->RelV v u->Q v H'->CE outer P w H s Q u s':=
  λ{σ' H' v u} J rv q=>⟨v,H',J.os,J.bare,J.base,J.hok,rv,q⟩
 cases fl with
 |ret u=>
  obtain⟨v,σ',H',J,rv,q⟩:=hs;exact fin J rv q
 |next=>
  obtain⟨σ',H',J,q⟩:=hs;exact fin (v:=V.non) (u:=dD) J rfl q
 |brk=>
  obtain⟨_,_,_,q⟩:=hs;exact cZ q
 |cont=>
  obtain⟨_,_,_,q⟩:=hs;exact cZ q
end L2
namespace L2
open PySem PySem.Spec PyProof.Rows
section
variable{X:Cx}{x:Str}{p pos:Pos}{e:Expr}{es:List Expr}{t:TA}{id T:String}{r:List V->Hp->VK->Prop}
def RK(r:List V->Hp->VK->Prop)(t:TA):TE:=λZ H Q=>t Z H λvs H1=>r vs H1 Q
def uw(hc:CallR X (.builtin id) r)(hg:Gl X x)(hm:X.mg x=none)(hv:eN x=some (.builtin id))(ha:PA X (e::es) t)(hn:x≠"__name__":=by decide)(hdb:(x==("__debug__":Str))=false:=by decide)
  (he:aQ (e::es) X.env=(false,eval e X.env)::aQ es X.env:=by rfl)(hpl:(cY pos (aQ es X.env)).any (·.1)=false:=by rfl):PE X (.Call (.Name x p) (e::es) [] pos) (RK r t):=by
 intro pins s Z H Q I h;refine dZ (yr I hg hm hv ?_ hn hdb);exact PyProof.Rows.callWith_builtin1 (jv (ha pos pins s Z H _ I h) λus s1 ⟨vs,H1,I1,r1,q1⟩=>hc pins s1 Z H1 vs us Q I1 r1 q1) he hpl
def qp(hc:CallR X (.type T) r)(hg:Gl X x)(hm:X.mg x=none)(hv:eN x=some (.type T))(ha:PA X (e::es) t)(hn:x≠"__name__":=by decide)(hdb:(x==("__debug__":Str))=false:=by decide)
  (he:aQ (e::es) X.env=(false,eval e X.env)::aQ es X.env:=by rfl)(hpl:(cY pos (aQ es X.env)).any (·.1)=false:=by rfl):PE X (.Call (.Name x p) (e::es) [] pos) (RK r t):=by
 intro pins s Z H Q I h;refine dZ (yr I hg hm hv ?_ hn hdb);exact eO (jv (ha pos pins s Z H _ I h) λus s1 ⟨vs,H1,I1,r1,q1⟩=>hc pins s1 Z H1 vs us Q I1 r1 q1) he hpl
end
end L2
namespace HT
open PySem PyProof.Rows
section
variable{prog:bN}{w:cH}{A:cO}{E:aC->aK->Prop}{s:aK}
def X6{vs ws:List aC}(ht:IsTup s.heap t vs.toArray)(hb:IsTup s.heap b ws.toArray)(hv:vs≠[])
  (h1:ws=[]->Q (.ref t) s)(h2:ws≠[]->Q (.ref s.heap.objs.size) {s with heap:=s.heap.push {cls:=.type "tuple",data:=.seq (vs++ws).toArray}})
  (hsz:vs.length+ws.length<=aD):bA (bE prog w) A (fM .Add (.ref t) (.ref b)) Q E s:=by
 obtain⟨⟨cls,dd,data,sl⟩,ho,hc,n,hd⟩:=id ht;obtain⟨⟨cls2,dd2,data2,sl2⟩,ho2,hc2,n2,hd2⟩:=id hb;simp only at hc hd hc2 hd2;subst hc hd hc2 hd2;have e:vs.toArray++ws.toArray=(vs++ws).toArray:=by simp
 by_cases hw:ws=[]
 ·exact lN ⟨_,ho,rfl⟩ ⟨_,ho2,rfl⟩ lI seq_tuple_add iR iL (iC _ _)
   (tuple_addW1 t b vs.toArray ws.toArray n n2 dd dd2 sl sl2 (by simpa using hv) (by simp[hw])) ⟨ho,ho2,h1 hw⟩
 ·refine lN ⟨_,ho,rfl⟩ ⟨_,ho2,rfl⟩ lI seq_tuple_add iR iL (iC _ _)
   (tuple_addW2 t b vs.toArray ws.toArray n n2 dd dd2 sl sl2 (by simpa using hv) (by simpa using hw) (by rw[aZ,aZ];exact hsz)) ⟨ho,ho2,?_⟩
  rw[e];exact h2 hw
def j6(n d:Nat):Option Int->Nat
 |none=>d
 |some v=>if v<0 then(v+(n:Int)).toNat else min v.toNat n
def HL(n d:Nat)(hd:d<=n)(o:Option Int):j6 n d o<=n:=by
 cases o with
 |none=>exact hd
 |some v=>
  show(if v<0 then(v+(n:Int)).toNat else min v.toNat n)<=n
  by_cases hv:v<0
  ·rw[aB hv];lia
  ·rw[aG hv];exact Nat.min_le_right _ _
def Mr(v:Int)(n d:Nat):(if v<0 then max (v+(n:Int)) 0 else min v (n:Int))=((j6 n d (some v):Nat):Int):=by
 show(if v<0 then max (v+(n:Int)) 0 else min v (n:Int))=(((if v<0 then(v+(n:Int)).toNat else min v.toNat n):Nat):Int)
 by_cases hv:v<0
 ·simp only[aB hv];lia
 ·simp only[aG hv];lia
def Kd(lo hi:Option Int)(n:Nat):iA lo hi 1 (n:Int)=(((j6 n 0 lo:Nat):Int),((j6 n n hi:Nat):Int)):=by
 have h1:¬((1:Int)<0):=by lia
 unfold iA;simp only[h1,if_false];refine Prod.ext ?_ ?_
 ·cases lo with
  |none=>rfl
  |some v=>exact Mr v n 0
 ·cases hi with
  |none=>rfl
  |some v=>exact Mr v n n
def Lf(i j:Nat):fB (i:Int) (j:Int) 1=j - i:=by
 unfold fB;have h1:(1:Int)>0:=by lia
 simp only[h1,if_true,Int.ediv_one];split<;>lia
def B8(p:lO v o)(h:Q o s):bA (bE prog w) A (Builtin.Slice.slicePartIndex v) Q E s:=by
 cases p with
 |none=>exact slicePart_none h
 |int i t=>exact slicePart_int h
def q8{sl:Addr}{vl vu:aC}{lo hi:Option Int}{n:Nat}{Q:Int×Int×Nat->aK->Prop}(hs:s.heap.IsSliceOf sl vl vu .none)(pl:lO vl lo)(pu:lO vu hi)
  (h:Q (((j6 n 0 lo:Nat):Int),1,j6 n n hi - j6 n 0 lo) s):bA (bE prog w) A (Builtin.Slice.sliceApplied (.ref sl) (pure (n:Int))) Q E s:=by
 obtain⟨os,hos,hcs,hds⟩:=id hs;unfold Builtin.Slice.sliceApplied Builtin.Slice.sliceFields;refine aE (aE (eT hos hds (x:=vl) rfl (aE (eT hos hds (x:=vu) rfl (aE (eT hos hds (x:=.none) rfl (aT ?_)))))));refine aE (slicePart_none ?_);show bA _ _ (if((1:Int)==0)=true then _ else _) _ _ s;rw[aG (by decide)];refine aE (B8 pl (aE (B8 pu (aE (aT ?_)))));show bA _ _ (match iA lo hi 1 (n:Int)with|(lo,hi)=>pure (lo,(1:Int),fB lo hi 1)) _ _ s;rw[Kd lo hi n];show bA _ _ (pure (((j6 n 0 lo:Nat):Int),(1:Int),fB ((j6 n 0 lo:Nat):Int) ((j6 n n hi:Nat):Int) 1)) _ _ s;rw[Lf];exact aT h
def U8(xs:Array aC)(i k:Nat):((cF k).filterMap λ(m:Nat)=>xs[((i:Int)+(m:Int) * 1).toNat]?).toArray=((xs.toList.drop i).take k).toArray:=by
 have e:(λ(m:Nat)=>xs[((i:Int)+(m:Int) * 1).toNat]?)=λm=>xs[i+m]?:=by
  funext m
  have:((i:Int)+(m:Int) * 1).toNat=i+m:=by lia
  rw[this]
 rw[e];have:=pick_run xs i k;rw[List.filterMap_map]at this;have e2:((λx=>xs[x]?) ∘ λx=>i+x)=λm=>xs[i+m]?:=rfl;rw[e2]at this;rw[this]
def xi{t sl:Addr}{items:Array aC}{vl vu:aC}{lo hi:Option Int}{Q:aC->aK->Prop}(ht:IsTup s.heap t items)(hs:s.heap.IsSliceOf sl vl vu .none)(pl:lO vl lo)(pu:lO vu hi)
  (hw:¬(j6 items.size 0 lo=0/\j6 items.size items.size hi=items.size))
  (h:Q (.ref s.heap.objs.size) {s with heap:=s.heap.push {cls:=.type "tuple",data:=.seq ((items.toList.drop (j6 items.size 0 lo)).take (j6 items.size items.size hi - j6 items.size 0 lo)).toArray}})
  (hsz:items.size<=aD):bA (bE prog w) A (kY (.ref t) (.ref sl)) Q E s:=by
 have htake:sizeOk (.seq ((items.toList.drop (j6 items.size 0 lo)).take (j6 items.size items.size hi - j6 items.size 0 lo)).toArray):=by
  show((items.toList.drop (j6 items.size 0 lo)).take (j6 items.size items.size hi - j6 items.size 0 lo)).toArray.size<=aD;rw[aZ,cN,bY,cL]
  lia
 have hj:j6 items.size items.size hi<=items.size:=HL _ _ (aO _) hi;obtain⟨os,hos,hcs,hds⟩:=id hs;have hTs:s.TypeIs (.ref sl) "slice":=⟨os,hos,hcs⟩;unfold kY
 try with_reducible refine fR ?_
 first|refine aE (aT ?_)|skip
 refine aE (wpAny_sequenceKey ht.typeIs (by decide) ?_);refine aE (wpAny_callSpecial?_slot (name:=Str.ofString "__getitem__") ht.typeIs dW
  (jA dW ht.typeIs entry_tuple_getitem ?_ (args_tuple_getitem _ _)))
 show bA _ _ (gQ (.ref t)>>=_) _ _ s;refine aE (tupleItemsOf_ ht ?_);refine aE (wpAny_typeOf hTs ?_);rw[aB (by decide)];refine aE (q8 hs pl pu ?_);have hno:¬((((j6 items.size 0 lo:Nat):Int)==0 && (1:Int)==1 && (j6 items.size items.size hi - j6 items.size 0 lo)==items.size)=true):=by
  intro q;rw[aA,aA]at q;have q1:((j6 items.size 0 lo:Nat):Int)=0:=eq_of_beq q.1.1;have q2:j6 items.size items.size hi - j6 items.size 0 lo=items.size:=eq_of_beq q.2;exact hw ⟨by lia,by lia⟩
 show bA _ _ (if(((j6 items.size 0 lo:Nat):Int)==0 && (1:Int)==1 && (j6 items.size items.size hi - j6 items.size 0 lo)==items.size)=true then _ else _) _ _ s;rw[aG hno,U8]
 first
  |exact aE (m:=fS _) (fN (aT ⟨_,rfl,aT h⟩) htake)
  |exact aE (m:=fS _) (fN (aE (aT (aT ⟨_,rfl,aT h⟩))) htake)
  |exact aE (aE (m:=fS _) (fN (aT (aT ⟨_,rfl,aT h⟩)) htake))
  |exact aE (aE (m:=fS _) (fN (aT ⟨_,rfl,aT h⟩) htake))
end
end HT
namespace L2
open PySem PySem.Spec PyProof.Rows
abbrev TO:=St->Hp->(Option Int->Hp->Prop)->Prop
def PO(X:Cx)(e:Option Expr)(t:TO):Prop:=
 ∀(pins:List (Addr×Obj))(s:aK)(Z:St)(H:Hp)(Q:Option Int->Hp->Prop),Inv X pins Z H s->t Z H Q->
  bA (bE X.prog X.w) X.A (evalPart e X.env) (λu s'=>∃o H',Inv X pins Z H' s'/\lO u o/\Q o H') X.xe s
def BZ:TO:=λ_ H Q=>Q none H
def NQ(t:TE):TO:=λZ H Q=>t Z H λx H1=>∃i,x=.int i/\Q (some i) H1
section
variable{X:Cx}{e:Expr}{te:TE}{lo hi:Option Expr}{tl th:TO}{pos p2:Pos}
def Zo:PO X none BZ:=by
 intro pins s Z H Q I h;rw[evalPart_none];exact aT ⟨none,H,I,.none,h⟩
def Zp(h:PE X e te):PO X (some e) (NQ te):=by
 intro pins s Z H Q I hw;rw[evalPart_some];refine jv (h pins s Z H _ I hw) λu s1 ⟨x,H1,I1,r1,q1⟩=>?_;obtain⟨i,rfl,q⟩:=q1;obtain⟨t,rfl⟩:=r1;exact⟨some i,H1,I1,.int i t,q⟩
def SlR(X:Cx)(r:V->Option Int->Option Int->Hp->VK->Prop):Prop:=
 ∀(pins:List (Addr×Obj))(s:aK)(Z:St)(H:Hp)(x:V)(v vl vu:aC)(lo hi:Option Int)(sl:Addr)(Q:VK),Inv X pins Z H s->RelV x v->s.heap.IsSliceOf sl vl vu .none->lO vl lo->lO vu hi->r x lo hi H Q->
  ∃T id,typeLookup (.type T) "__getitem__"=pure (some (.builtin id))/\s.TypeIs v T/\bA (bE X.prog X.w) X.A (kY v (.ref sl)) (EP X pins Z Q) X.xe s
def SlR.or(h:SlR X r)(h':SlR X r'):SlR X (λx lo hi H Q=>r x lo hi H Q\/r' x lo hi H Q):=by
 intro pins s Z H x v vl vu lo hi sl Q I rx hs pl pu q;rcases q with q|q
 ·exact h pins s Z H x v vl vu lo hi sl Q I rx hs pl pu q
 ·exact h' pins s Z H x v vl vu lo hi sl Q I rx hs pl pu q
def US(r:V->Option Int->Option Int->Hp->VK->Prop)(te:TE)(tl th:TO):TE:=λZ H Q=>te Z H λx H1=>tl Z H1 λl H2=>th Z H2 λu H3=>r x l u H3 Q
def U3(hr:SlR X r)(he:PE X e te)(hl:PO X lo tl)(hu:PO X hi th):PE X (.Subscript e (.Slice lo hi none p2) pos) (US r te tl th):=by
 intro pins s Z H Q I h;refine Subscript_ (jv (he pins s Z H _ I h) λv s1 ⟨x,H1,I1,r1,q1⟩=>?_);refine wpAny_Slice (jv (hl pins s1 Z H1 _ I1 q1) λvl s2 ⟨l,H2,I2,pl,q2⟩=>jv (hu pins s2 Z H2 _ I2 q2) λvu s3 ⟨u,H3,I3,pu,q3⟩=>?_);rw[evalPart_none];refine aT ?_;have I4:Inv X pins Z H3 {s3 with heap:=s3.heap.push {cls:=.type "slice",data:=.fields #[vl,vu,.none]}}:=I3.kept (t':=s3.toks) λb ob q=>aR _ q;obtain⟨T,id,hT,ht,hg⟩:=hr pins {s3 with heap:=s3.heap.push {cls:=.type "slice",data:=.fields #[vl,vu,.none]}} Z H3 x v vl vu l u s3.heap.objs.size Q I4 r1 (Heap.IsSliceOf.new ..) pl pu q3;show bA (bE X.prog X.w) X.A (subscriptTail e (.Slice lo hi none p2) v (.ref s3.heap.objs.size)) (EP X pins Z Q) X.xe {s3 with heap:=s3.heap.push {cls:=.type "slice",data:=.fields #[vl,vu,.none]}};exact tail_any (ops:=[.ref s3.heap.objs.size,v]) ht hT hg (by with_unfolding_all rfl)
def Aa(xs:List V)(lo hi:Option Int):List V:=(xs.drop (HT.j6 xs.length 0 lo)).take (HT.j6 xs.length xs.length hi - HT.j6 xs.length 0 lo)
def zh(xs:List V)(lo hi:Option Int):(Aa xs lo hi).length<=xs.length:=by
 unfold Aa;rw[cN,bY]
 lia
def RS(K:aP):V->Option Int->Option Int->Hp->VK->Prop:=λx lo hi H Q=>∃a xs,x=.ref a/\SqT K H a xs/\
 ¬(HT.j6 xs.length 0 lo=0/\HT.j6 xs.length xs.length hi=xs.length)/\∀p,H p=none->Q (.ref p) (upd H p (.tup (Aa xs lo hi)))
def IV:SlR X (RS X.K):=by
 intro pins s Z H x v vl vu lo hi sl Q I rx hs pl pu h;obtain⟨a,xs,rfl,hx,hw,q⟩:=h;cases rx;obtain⟨its,r,ht,hz⟩:=I.tuple hx;have hlen:its.toArray.size=xs.length:=by rw[aZ];exact r.length.symm
 refine⟨"tuple",_,PyProof.Rows.slot_tuple_getitem.lookup,ht.typeIs,?_⟩;refine HT.xi ht hs pl pu (by rw[hlen];exact hw) ?_ (by rw[hlen];exact hz);rw[hlen];refine⟨.ref s.heap.objs.size,_,I.laid (t':=s.toks) (o:=.tup (Aa xs lo hi)) (λb ob q=>aR _ q) (aO _) ?_,rfl,q _ (I.hok.fresh (aO _))⟩;exact⟨bC (zh xs lo hi) hz,_,(r.drop (HT.j6 xs.length 0 lo)).take (HT.j6 xs.length xs.length hi - HT.j6 xs.length 0 lo),IsTup.new _ _⟩
def MQ(K:aP):R2:=λx y H Q=>∃a b xs ys,x=.ref a/\y=.ref b/\SqT K H a xs/\SqT K H b ys/\xs≠[]/\xs.length+ys.length<=aD/\
 (ys=[]->Q (.ref a) H)/\(ys≠[]->∀p,H p=none->Q (.ref p) (upd H p (.tup (xs++ys))))
def Vals.nil_iff(r:Vals xs us):us=[]↔xs=[]:=by
 cases r with
 |nil=>simp
 |cons _ _=>simp
def Ze:OpR X (fM .Add) (MQ X.K):=by
 intro pins s Z H x y v u Q I rx ry h;obtain⟨a,b,xs,ys,rfl,rfl,ha,hb,hx,hz,q1,q2⟩:=h;cases rx;cases ry;obtain⟨its,r1,p1,_⟩:=I.tuple ha;obtain⟨its2,r2,p2,_⟩:=I.tuple hb;refine HT.X6 p1 p2 (λz=>hx (r1.nil_iff.mp z)) (λz=>⟨.ref a,H,I,rfl,q1 (r2.nil_iff.mp z)⟩) (λz=>?_) (by rw[<-r1.length,<-r2.length];exact hz);refine⟨.ref s.heap.objs.size,_,I.laid (t':=s.toks) (o:=.tup (xs++ys)) (λb ob q=>aR _ q) (aO _) ?_,rfl,q2 (λw=>z (r2.nil_iff.mpr w)) _ (I.hok.fresh (aO _))⟩;exact⟨by rw[aI];exact hz,_,r1.append r2,IsTup.new _ _⟩
end
end L2
namespace L2
open PySem PySem.Spec PyProof.Rows
def CK(n:Nat)(i:Int):Option Nat:=if 0<=i then(if i<n then some i.toNat else none)else if -(n:Int)<=i then some (i+n).toNat else none
def atI(xs:List α)(i:Int):Option α:=(CK xs.length i).bind λj=>xs[j]?
def Yn(h:CK n i=some j):seqIndex? i n=some j/\j<n/\-(n:Int)<=i/\i<n:=by
 unfold CK at h
 by_cases h0:0<=i
 ·rw[aB h0]at h
  by_cases h1:i<n
  ·rw[aB h1]at h;have e:i.toNat=j:=bP h;exact⟨by rw[seqIndex_of h0 h1,e],by lia,by lia,h1⟩
  ·rw[aG h1]at h;cases h
 ·rw[aG h0]at h
  by_cases h1:-(n:Int)<=i
  ·rw[aB h1]at h;have e:(i+n).toNat=j:=bP h;exact⟨by rw[seqIndex_neg (by lia) h1,e],by lia,h1,by lia⟩
  ·rw[aG h1]at h;cases h
def Fe{xs:List α}(h:atI xs i=some v):∃j,seqIndex? i xs.length=some j/\xs[j]?=some v/\j<xs.length/\-(xs.length:Int)<=i/\i<xs.length:=by
 unfold atI at h;cases e:CK xs.length i with
 |none=>rw[e]at h;cases h
 |some j=>
  rw[e]at h;obtain⟨h1,h2,h3,h4⟩:=Yn e;exact⟨j,h1,h,h2,h3,h4⟩
def Aj{α:Type}{xs:List α}{j:Nat}{v:α}(h:xs[j]?=some v):atI xs (j:Int)=some v:=by
 have hj:j<xs.length:=(List.getElem?_eq_some_iff.mp h).1;have e:CK xs.length (j:Int)=some j:=by
  unfold CK;rw[aB (by lia),aB (by lia)];simp
 unfold atI;rw[e];exact h
def E7(b:Expr):Prop:=∀o i,subscripted b false o i=operate [o,i] (kY o i)
def IxR(X:Cx)(r:R2):Prop:=
 ∀(value slice:Expr)(pins:List (Addr×Obj))(s:aK)(Z:St)(H:Hp)(x y:V)(v u:aC)(Q:VK),Inv X pins Z H s->RelV x v->RelV y u->r x y H Q->
  subscripted slice false v u=operate [v,u] (kY v u)->bA (bE X.prog X.w) X.A (subscriptTail value slice v u) (EP X pins Z Q) X.xe s
def MtR(X:Cx)(id:String)(r:V->List V->Hp->VK->Prop):Prop:=
 ∀(pins:List (Addr×Obj))(s:aK)(Z:St)(H:Hp)(x:V)(xs:List V)(v:aC)(us:List aC)(Q:VK),Inv X pins Z H s->RelV x v->Vals xs us->r x xs H Q->
  bA (bE X.prog X.w) X.A (call (.builtin id) (v::us)) (EP X pins Z Q) X.xe s
section
variable{X:Cx}{a b:Expr}{ta tb:TE}{pos:Pos}
def IxR.or(h:IxR X r)(h':IxR X r'):IxR X (λx y H Q=>r x y H Q\/r' x y H Q):=by
 intro value slice pins s Z H x y v u Q I rx ry q hs;rcases q with q|q
 ·exact h value slice pins s Z H x y v u Q I rx ry q hs
 ·exact h' value slice pins s Z H x y v u Q I rx ry q hs
def MtR.or{id:String}{r r':V->List V->Hp->VK->Prop}(h:MtR X id r)(h':MtR X id r'):MtR X id (λx xs H Q=>r x xs H Q\/r' x xs H Q):=by
 intro pins s Z H x xs v us Q I rx rs q;rcases q with q|q
 ·exact h pins s Z H x xs v us Q I rx rs q
 ·exact h' pins s Z H x xs v us Q I rx rs q
def LJ{r:R2}(hr:IxR X r)(ha:PE X a ta)(hb:PE X b tb)(hs:E7 b):PE X (.Subscript a b pos) (NR r ta tb):=by
 intro pins s Z H Q I h;exact Subscript_ (EZ ha hb I h λv u s2 x y H2 I2 rx ry q=>hr a b pins s2 Z H2 x y v u Q I2 rx ry q (hs _ _))
def MN(K:aP):R2:=λx y H Q=>∃p xs i v,x=.ref p/\y=.int i/\SqL K H p xs/\atI xs i=some v/\Q v H
def ML(K:aP):R2:=λx y H Q=>∃p xs i v,x=.ref p/\y=.int i/\SqT K H p xs/\atI xs i=some v/\Q v H
def MM:R2:=λx y H Q=>∃z i c,x=.str z/\y=.int i/\z.length<=aD/\atI z.cps.toList i=some c/\Q (.str ⟨#[c]⟩) H
def F0:IxR X (MN X.K):=by
 intro value slice pins s Z H x y v u Q I rx ry h hs;obtain⟨p,xs,i,z,rfl,rfl,hq,he,q⟩:=h;cases rx;obtain⟨t,rfl⟩:=ry;obtain⟨its,r,pl,hz⟩:=I.list hq;obtain⟨j,h1,h2,h3,h4,h5⟩:=Fe he;obtain⟨w,ew,rw'⟩:=r.get h2;have hl:=r.length;have hn:=Br;have fin:EP X pins Z Q w s:=⟨z,H,I,rw',q⟩
 by_cases h0:0<=i
 ·have hj:i.toNat=j:=by
   rw[seqIndex_of h0 h5]at h1;exact bP h1
  exact item_listR pl.isList h0 (by lia) (by rw[hj];simpa using ew) fin hs
 ·have hj:(i+(its.toArray.size:Int)).toNat=j:=by
   rw[seqIndex_neg (by lia) h4]at h1;rw[aZ,<-hl];exact bP h1
  exact subscriptTail_builtinR (x:=w) pl.isList.typeIs slot_list_getitem.lookup
   (wpAny_getItem_list_neg (Q:=λr s'=>r=w/\EP X pins Z Q r s') pl.isList (by lia) (by rw[aZ]<;>lia) (by lia) (by rw[hj];simpa using ew) ⟨rfl,fin⟩) hs
def EE:IxR X (ML X.K):=by
 intro value slice pins s Z H x y v u Q I rx ry h hs;obtain⟨p,xs,i,z,rfl,rfl,hq,he,q⟩:=h;cases rx;obtain⟨t,rfl⟩:=ry;obtain⟨its,r,pl,hz⟩:=I.tuple hq;obtain⟨j,h1,h2,h3,h4,h5⟩:=Fe he;obtain⟨w,ew,rw'⟩:=r.get h2;have hl:=r.length;have hn:=Br;have fin:EP X pins Z Q w s:=⟨z,H,I,rw',q⟩;exact subscriptTail_builtinR (x:=w) pl.typeIs slot_tuple_getitem.lookup
  (getItem_tuple (j:=j) (Q:=λr s'=>r=w/\EP X pins Z Q r s') pl (by lia) (by lia) (by rw[aZ,<-hl];exact h1) (by simpa using ew) ⟨rfl,fin⟩) hs
def EG:IxR X MM:=by
 intro value slice pins s Z H x y v u Q I rx ry h hs;obtain⟨z,i,c,rfl,rfl,hz,he,q⟩:=h;obtain⟨t,rfl⟩:=rx;obtain⟨t',rfl⟩:=ry;obtain⟨j,h1,h2,h3,h4,h5⟩:=Fe he;have hl:z.cps.toList.length=z.length:=by simp[lP]
 rw[hl]at h1 h4 h5;have hn:=Br;exact tail_any (jD s z t) slot_str_getitem.lookup (getItem_str (c:=c) (by
  have e1:decide (i< -(2 ^ 63:Int))=false:=decide_eq_false (by lia);have e2:decide (i>=2 ^ 63)=false:=decide_eq_false (by lia);rw[e1,e2,Bool.or_false]) (by rw[h1];simpa using h2) ⟨.str ⟨#[c]⟩,H,I.tok _,⟨_,rfl⟩,q⟩) hs
def SJ(K:aP):R2:=λx y H Q=>MN K x y H Q\/ML K x y H Q\/MM x y H Q
def EH:IxR X (SJ X.K):=F0.or (EE.or EG)
theorem Inv.lst{pins:List (Addr×Obj)}{Z:St}{H:Hp}{s:aK}{p:Addr}{xs:List V}(I:Inv X pins Z H s)(h:H p=some (.lst xs)):
  ∃(its:List aC) (n:Nat),Vals xs its/\s.heap.get? p=some {cls:=.type "list",data:=.seq its.toArray n}/\xs.length<=aD:=by
 obtain⟨z,its,n,r,e⟩:=I.hok p _ h;exact⟨its,n,r,e,z⟩
def Gm(lo hi:Option Int)(n:Nat):(iM lo hi none n).1=((HT.j6 n 0 lo:Nat):Int)/\(iM lo hi none n).2.1=((HT.j6 n n hi:Nat):Int)/\(iM lo hi none n).2.2=1:=by
 refine⟨?_,?_,rfl⟩
 ·cases lo with
  |none=>simp[iM,HT.j6]
  |some i=>
   simp only[iM,HT.j6,Option.getD_none,show(1:Int)>0 by decide,if_true]
   by_cases h:i<0
   ·simp only[h,if_true]<;>lia
   ·simp only[h,if_false]<;>lia
 ·cases hi with
  |none=>simp[iM,HT.j6]
  |some i=>
   simp only[iM,HT.j6,Option.getD_none,show(1:Int)>0 by decide,if_true]
   by_cases h:i<0
   ·simp only[h,if_true]<;>lia
   ·simp only[h,if_false]<;>lia
def Dk(its:List aC)(lo hi:Option Int):slicePick its.toArray lo hi none=((its.drop (HT.j6 its.length 0 lo)).take (HT.j6 its.length its.length hi - HT.j6 its.length 0 lo)).toArray:=by
 obtain⟨h1,h2,h3⟩:=Gm lo hi its.toArray.size;unfold slicePick;rw[h1,h2,h3];simp only[sliceRange_one,pick_run,aZ]<;>rfl
def RU(K:aP):V->Option Int->Option Int->Hp->VK->Prop:=λx lo hi H Q=>∃a xs,x=.ref a/\SqL K H a xs/\∀p,H p=none->Q (.ref p) (upd H p (.lst (Aa xs lo hi)))
def AG:SlR X (RU X.K):=by
 intro pins s Z H x v vl vu lo hi sl Q I rx hs pl pu h;obtain⟨a,xs,rfl,hx,q⟩:=h;cases rx;obtain⟨its,r,ht,hz⟩:=I.list hx;have hlen:=r.length;refine⟨"list",_,slot_list_getitem.lookup,ht.isList.typeIs,?_⟩;refine wpAny_getItem_list_slice ht.isList hs pl pu .none (by simp) ?_ (by rw[aZ]<;>lia);rw[Dk,<-hlen];refine⟨.ref s.heap.objs.size,_,I.laid (t':=s.toks) (o:=.lst (Aa xs lo hi)) (λb ob q=>aR _ q) (aO _) ?_,rfl,q _ (I.hok.fresh (aO _))⟩;exact⟨bC (zh xs lo hi) hz,_,0,(r.drop (HT.j6 xs.length 0 lo)).take (HT.j6 xs.length xs.length hi - HT.j6 xs.length 0 lo),bR _ rfl⟩
def CallR.or(h:CallR X f r)(h':CallR X f r'):CallR X f (λxs H Q=>r xs H Q\/r' xs H Q):=by
 intro pins s Z H xs us Q I rs q;rcases q with q|q
 ·exact h pins s Z H xs us Q I rs q
 ·exact h' pins s Z H xs us Q I rs q
def Fi:CallR X (.type "list") (λxs H Q=>∃p ys,xs=[.ref p]/\(SqL X.K H p ys\/SqT X.K H p ys)/\∀l,H l=none->Q (.ref l) (upd H l (.lst ys))):=by
 intro pins s Z H xs us Q I r h;obtain⟨p,ys,rfl,hq,q⟩:=h;obtain⟨u,rfl,rx⟩:=s8 r;cases rx;have fin:∀(its:List aC),Vals ys its->ys.length<=aD->∀(h':Heap)(c':Nat),(∀b o',s.heap.get? b=some o'->h'.get? b=some o')->
   h'.get? s.heap.objs.size=some {cls:=.type "list",dict:=none,data:=.seq its.toArray c',slots:=#[]}->EP X pins Z Q (.ref s.heap.objs.size) {s with heap:=h'}:=λits r' hz h' c' kp e=>
  ⟨.ref s.heap.objs.size,_,I.laid (t':=s.toks) kp (aO _) (show ObjOk X.prog X.w _ h' _ (.lst ys)from⟨hz,its,c',r',e⟩),rfl,q _ (I.hok.fresh (aO _))⟩
 rcases hq with hq|hq
 ·obtain⟨its,r',pl,hz⟩:=I.list hq;have hlen:=r'.length;obtain⟨o,ho,hc,n,hd⟩:=pl.isList;exact call_list_seq p (.inl rfl) ho hc hd (λh' c' kp e=>fin its r' hz h' c' kp e) (by simp only[aZ]<;>lia)
 ·obtain⟨its,r',pl,hz⟩:=I.tuple hq;have hlen:=r'.length;obtain⟨o,ho,hc,n,hd⟩:=pl;exact call_list_seq p (.inr rfl) ho hc hd (λh' c' kp e=>fin its r' hz h' c' kp e) (by simp only[aZ]<;>lia)
def C6:CallR X (.type "tuple") (λxs H Q=>∃p ys,xs=[.ref p]/\((SqL X.K H p ys/\∀l,H l=none->Q (.ref l) (upd H l (.tup ys)))\/(SqT X.K H p ys/\Q (.ref p) H))):=by
 intro pins s Z H xs us Q I r h;obtain⟨p,ys,rfl,h⟩:=h;obtain⟨u,rfl,rx⟩:=s8 r;cases rx;rcases h with ⟨hq,q⟩|⟨hq,q⟩
 ·obtain⟨its,r',pl,hz⟩:=I.list hq;have hlen:=r'.length;refine call_tuple_list pl.isList (λh' kp=>?_) (by simp only[aZ]<;>lia);have I1:Inv X pins Z H {s with heap:=h'}:=I.kept (t':=s.toks) kp;have I2:Inv X pins Z (upd H h'.objs.size (.tup ys)) {s with heap:=h'.push {cls:=.type "tuple",data:=.seq its.toArray}}:=
   I1.laid (t':=s.toks) (λb o e=>aR _ e) (aO _) (show ObjOk X.prog X.w _ _ _ (.tup ys)from⟨hz,its,r',IsTup.new _ _⟩)
  exact⟨.ref h'.objs.size,_,I2,rfl,q _ (I1.hok.fresh (aO _))⟩
 ·obtain⟨its,r',pl,hz⟩:=I.tuple hq;exact call_tuple_same pl ⟨.ref p,H,I,rfl,q⟩
def TY(K:aP)(T:String)(x:V)(H:Hp):Prop:=match x with
 |.str _=>T="str"
 |.int _=>T="int"
 |.ref p=>(T="list"/\∃xs,SqL K H p xs)\/(T="tuple"/\∃o,K.lookup p=some o/\o.cls=.type "tuple"/\o.dict=none)\/
   (T="dict"/\((∃kvs,H p=some (.dK kvs))\/∃kvs,H p=some (.dT kvs)))\/(T="set"/\∃S n,H p=some (.set S n))
 |_=>False
def IF(I:Inv X pins Z H s)(r:RelV x v)(ty:TY X.K T x H):
  s.TypeIs v T/\∀a,v=.ref a->∃ob,s.heap.get? a=some ob/\ob.dict=none:=by
 cases x with
 |str z=>
  obtain⟨t,rfl⟩:=r;cases (show T="str" from ty);exact⟨jD s z t,λ_ e=>nomatch e⟩
 |int i=>
  obtain⟨t,rfl⟩:=r;cases (show T="int" from ty);exact⟨typeIs_int s i t,λ_ e=>nomatch e⟩
 |ref p=>
  cases r;rcases ty with ⟨rfl,xs,hq⟩|⟨rfl,o,hk,hc,hd⟩|⟨rfl,hk⟩|⟨rfl,S,n,hk⟩
  ·obtain⟨its,_,pl,_⟩:=I.list hq;refine⟨pl.isList.typeIs,λa e=>?_⟩;cases e;obtain⟨o,n,e,c,hd,_⟩:=pl;exact⟨o,e,hd⟩
  ·refine⟨⟨o,I.kIn p o hk,hc⟩,λa e=>?_⟩;cases e;exact⟨o,I.kIn _ o hk,hd⟩
  ·have z:∃o,s.heap.get? p=some o/\o.ExactDict:=by
    rcases hk with ⟨kvs,hk⟩|⟨kvs,hk⟩
    ·obtain⟨_,_,_,_,o,_,_,e,ex,_⟩:=I.hok p _ hk;exact⟨o,e,ex⟩
    ·obtain⟨_,_,_,_,o,_,_,e,ex,_⟩:=I.hok p _ hk;exact⟨o,e,ex⟩
   obtain⟨o,e,ex⟩:=z;refine⟨⟨o,e,ex.1⟩,λa e2=>?_⟩;cases e2;exact⟨o,e,ex.2.1⟩
  ·obtain⟨o,_,_,_,e,ex,_⟩:=I.hok p _ hk;refine⟨⟨o,e,ex.1⟩,λa e2=>?_⟩;cases e2;exact⟨o,e,ex.2.1⟩
 |_=>exact cZ ty
def UZ(K:aP)(T:String)(r:V->List V->Hp->VK->Prop)(to:TE)(t:TA):TE:=λZ H Q=>to Z H λx H1=>TY K T x H1/\t Z H1 λxs H2=>r x xs H2 Q
variable{o e:Expr}{es:List Expr}{to:TE}{t:TA}{name:Str}{apos cpos:Pos}{T id:String}{r:V->List V->Hp->VK->Prop}
def Nz(pa:PlainAttrs T)(slot:Slot T name id)(hty:typeOf (.builtin id)=pure (.type "method_descriptor"))(hm:MtR X id r)(ho:PE X o to)(ha:PA X (e::es) t)
  (hbase:gJ o name X.env (eval o X.env)=eval o X.env:=by rfl)
  (hfew:((cY cpos (aQ (e::es) X.env)).all (λx=> !x.1) && (mG cpos (jK [] X.env)).all (λx=>x.1.isSome)
   && decide ((e::es).length+([]:List iI).length+(if([]:List iI).isEmpty then 0 else 1)<30))=true:=by rfl)
  (hline:(apos.endLine==cpos.line)=true:=by rfl) (hs:aQ (e::es) X.env=(false,eval e X.env)::aQ es X.env:=by rfl) (hplain:(cY cpos (aQ es X.env)).any (·.1)=false:=by rfl):
  PE X (.Call (.Attribute o name apos) (e::es) [] cpos) (UZ X.K T r to t):=by
 intro pins s Z H Q I h;refine wpAny_Call_method_late hbase hfew hline rfl (jv (ho pins s Z H _ I h) λv s1 ⟨x,H1,I1,r1,ty,q1⟩=>?_);obtain⟨h1,h2⟩:=IF I1 r1 ty;refine⟨T,id,pa,slot,hty,h1,h2,?_⟩;have hA:=ha cpos pins s1 Z H1 _ I1 q1;rw[hs]at hA⊢;refine iS (by show(false||(cY cpos (aQ es X.env)).any (·.1))=false;rw[hplain]<;>rfl) (fO ?_);exact jv hA λus s2 ⟨vs,H2,I2,r2,q2⟩=>hm pins s2 Z H2 x vs v us Q I2 r1 r2 q2
end
end L2
namespace L2
open PySem PySem.Spec PyProof.Rows
def SO(X:Cx)(id:String)(r:V->List V->Hp->VK->Prop):Prop:=
 ∀(pins:List (Addr×Obj))(s:aK)(Z:St)(H:Hp)(x:V)(xs:List V)(v:aC)(us:List aC)(Q:VK),Inv X pins Z H s->RelV x v->Vals xs us->r x xs H Q->
  bA (bE X.prog X.w) X.A (call (.builtin id) (v::us)) (EP X pins Z Q) X.xe s
def Vals.one:∀{x:V}{us:List aC},Vals [x] us->∃u,us=[u]/\RelV x u
 |_,_,.cons r .nil=>⟨_,rfl,r⟩
def Vals.zero:∀{us:List aC},Vals [] us->us=[]
 |_,.nil=>rfl
theorem Vals.dropLast{xs:List V}{us:List aC}(h:Vals xs us):Vals xs.dropLast us.dropLast:=by
 induction h with
 |nil=>exact .nil
 |cons r t ih=>
  cases t with
  |nil=>exact .nil
  |cons q t'=>exact .cons r ih
section
variable{X:Cx}{pins:List (Addr×Obj)}{Z:St}{H:Hp}{s:aK}{l b:Addr}{xs ys zs:List V}
def Inv.lset{its its':List aC}{n:Nat}{f:Array aC->Array aC}{t':Nat}(I:Inv X pins Z H s)(hH:H l=some (.lst xs))
  (e:s.heap.get? l=some {cls:=.type "list",data:=.seq its.toArray n})(hf:f its.toArray=its'.toArray)(hv:Vals ys its')(hz:ys.length<=aD):
  Inv X pins Z (upd H l (.lst ys)) {s with heap:=s.heap.update l (Obj.mapSeq f),toks:=t'}:=by
 have q:=PySem.IsL.update e f;rw[hf]at q;refine I.write (x:=l) (e:=l) (by rw[hH];exact trivial) (.inl rfl) (λb' u hb hu=>(dG s.heap (Obj.mapSeq f) (fZ hb)).trans hu) ⟨_,q⟩ ?_;exact⟨hz,its',_,hv,q⟩
def Inv.lnew(I:Inv X pins Z H s)(hv:Vals ys its)(hz:ys.length<=aD):
  Inv X pins Z (upd H s.heap.objs.size (.lst ys)) {s with heap:=s.heap.push {cls:=.type "list",data:=.seq its.toArray},toks:=t'}:=
 I.laid (λ_ _ q=>aR _ q) (aO _) ⟨hz,its,0,hv,bR _ rfl⟩
theorem Inv.fresh(I:Inv X pins Z H s):H s.heap.objs.size=none:=I.hok.fresh (aO _)
def Inv.lstM(I:Inv X pins Z H s)(hH:H l=some (.lst xs)):xs.length<=aD/\∃(its:List aC) (n:Nat),Vals xs its/\xs.length=its.length/\s.heap.get? l=some {cls:=.type "list",data:=.seq its.toArray n}:=by
 obtain⟨z,its,n,r,e⟩:=I.hok l _ hH;exact⟨z,its,n,r,r.length,e⟩
def Uh(h:n<=aD):fT n=false:=by
 unfold fT;exact decide_eq_false (by lia)
end
section
variable{X:Cx}
def AY:V->List V->Hp->VK->Prop:=λx vs H Q=>∃l xs y,x=.ref l/\vs=[y]/\H l=some (.lst xs)/\xs.length<aD/\Q .non (upd H l (.lst (xs++[y])))
def Ec:SO X "list.append" AY:=by
 intro pins s Z H x vs v us Q I rx rv h;obtain⟨l,xs,y,rfl,rfl,hH,hz,q⟩:=h;cases rx;obtain⟨u,rfl,ru⟩:=rv.one;obtain⟨z,its,n,r,hl,e⟩:=I.lstM hH;refine iK F.slot_list_append ⟨_,e,rfl⟩ F.entry_list_append (F.args_list_append_2 _ _) (PySem.list_append l its.toArray n u (by rw[aZ];lia)) ⟨e,?_⟩;refine⟨.non,_,I.lset (its':=its++[u]) hH e (by simp) (r.append (.cons ru .nil)) ?_,rfl,q⟩;rw[aI,List.length_singleton]
 lia
end
end L2
namespace L2
open PySem PySem.Spec PyProof.Rows
section
variable{κ:Type}[DecidableEq κ]
def mx(kvs:List (κ×V))(k:κ):Option V:=(kvs.find? λkv=>decide (kv.1=k)).map (·.2)
noncomputable def tf(kvs:List (κ×V))(k:κ)(v:V):List (κ×V):=
 if(kvs.any λkv=>decide (kv.1=k))=true then kvs.map (λkv=>if kv.1=k then(kv.1,v)else kv)else kvs++[(k,v)]
def CT(kvs:List (κ×V))(k:κ):List (κ×V):=kvs.filter λkv=>decide (kv.1≠k)
def Kb:mx ([]:List (κ×V)) k=none:=rfl
def u9{k:κ}(e:p.1=k):mx (p::r) k=some p.2:=by simp[mx,fH,e]
def om{k:κ}(e:¬p.1=k):mx (p::r) k=mx r k:=by simp[mx,fH,e]
theorem Ka(k:κ):∀kvs:List (κ×V),(kvs.any λkv=>decide (kv.1=k))=(mx kvs k).isSome
 |[]=>rfl
 |p::r=>by
  rw[dQ]
  by_cases e:p.1=k
  ·simp only[u9 e,decide_eq_true e,Bool.true_or,Option.isSome_some]
  ·rw[om e,decide_eq_false e,Bool.false_or];exact Ka k r
def uo(kvs:List (κ×V))(k:κ)(v:V):(tf kvs k v).length<=kvs.length+1:=by
 unfold tf;split
 ·rw[aJ];lia
 ·rw[aI,aM,lY];lia
def RelO.isSome_eq{o:Option V}{u:Option aC}(r:RelO o u):o.isSome=u.isSome:=by
 cases o with
 |none=>cases u with
  |none=>rfl
  |some _=>exact(show False from r).elim
 |some _=>cases u with
  |none=>exact(show False from r).elim
  |some _=>rfl
theorem RelO.getD{o:Option V}{u:Option aC}(r:RelO o u)(rd:RelV d d'):RelV (o.getD d) (u.getD d'):=by
 cases o with
 |none=>cases u with
  |none=>exact rd
  |some _=>exact(show False from r).elim
 |some _=>cases u with
  |none=>exact(show False from r).elim
  |some _=>exact r
def KV.val(r:KV kvs vs)(k:κ):RelO (mx kvs k) (mO vs k):=by
 unfold KV at r;induction r with
 |nil=>exact gA
 |@cons p q ps qs h t ih=>
  obtain⟨h1,h2⟩:=h
  by_cases e:p.1=k
  ·have e':q.1=k:=h1.symm.trans e;have b:mO (q::qs) k=some q.2:=by simp[mO,fH,e']
   rw[u9 e,b];exact h2
  ·have e':¬q.1=k:=λz=>e (h1.trans z);have b:mO (q::qs) k=mO qs k:=by simp[mO,fH,e']
   rw[om e,b];exact ih
theorem KV.any{kvs:List (κ×V)}{vs:List (κ×aC)}(r:KV kvs vs)(k:κ):(kvs.any λkv=>decide (kv.1=k))=vs.any λkv=>decide (kv.1=k):=by
 unfold KV at r;induction r with
 |nil=>rfl
 |cons h t ih=>rw[dQ,dQ,ih,h.1]
def KV.repl(r:KV kvs vs)(k:κ)(ry:RelV y u):
  KV (kvs.map λkv=>if kv.1=k then(kv.1,y)else kv) (vs.map λkv=>if kv.1=k then(kv.1,u)else kv):=by
 unfold KV at r⊢;induction r with
 |nil=>exact .nil
 |@cons p q ps qs h t ih=>
  rw[aU,aU];refine .cons ?_ ih;obtain⟨h1,h2⟩:=h
  by_cases e:p.1=k
  ·rw[aB e,aB (h1.symm.trans e)];exact⟨h1,ry⟩
  ·rw[aG e,aG (λz=>e (h1.trans z))];exact⟨h1,h2⟩
def KV.put(r:KV kvs vs)(k:κ)(ry:RelV y u):KV (tf kvs k y) (stored vs k u):=by
 unfold tf stored;rw[r.any k]
 by_cases e:(vs.any λkv=>decide (kv.1=k))=true
 ·rw[aB e,aB e];exact r.repl k ry
 ·rw[aG e,aG e];exact Paired.snoc r ⟨rfl,ry⟩
def KV.drop(r:KV kvs vs)(k:κ):KV (CT kvs k) (without vs k):=by
 unfold KV at r⊢;unfold CT without;induction r with
 |nil=>exact .nil
 |@cons p q ps qs h t ih=>
  obtain⟨h1,h2⟩:=h;rw[jE,jE]
  by_cases e:p.1=k
  ·have a:¬decide (p.1≠k)=true:=by simp[e]
   have b:¬decide (q.1≠k)=true:=by simp[h1.symm.trans e]
   rw[aG a,aG b];exact ih
  ·have e':¬q.1=k:=λz=>e (h1.trans z);have a:decide (p.1≠k)=true:=by simp[e]
   have b:decide (q.1≠k)=true:=by simp[e']
   rw[aB a,aB b];exact .cons ⟨h1,h2⟩ ih
def KV.keys{kvs:List (κ×V)}{vs:List (κ×aC)}(r:KV kvs vs):kvs.map (·.1)=vs.map (·.1):=by
 unfold KV at r;induction r with
 |nil=>rfl
 |cons h t ih=>rw[aU,aU,ih,h.1]
theorem KV.length{kvs:List (κ×V)}{vs:List (κ×aC)}(r:KV kvs vs):kvs.length=vs.length:=lD r
end
def zt(r:RelV (kV k) u):(cw P w).is k u=true:=by
 cases k with
 |inl i=>obtain⟨t,e⟩:=(show∃t,u=Value.int i t from r);subst e;exact Iw P w i t
 |inr x=>obtain⟨t,e⟩:=(show∃t,u=Value.str x t from r);subst e;exact Iy P w x t
theorem D9:∀{ks:List j9}{us:List aC},Vals (ks.map kV) us->ItemsAre (cw P w) ks us
 |[],_,r=>by rw[hV]at r;cases r;exact .nil
 |k::ks,_,r=>by
  rw[aU]at r;cases r with
  |cons h t=>exact .cons (zt h) (D9 t)
abbrev KT(H:Hp):List (cy×V)->List (cy×Addr×aC)->Prop:=Paired λp q=>p.1=q.1/\TkAt H p.1 q.2.1/\RelV p.2 q.2.2
def KT.val(r:KT H kvs xs)(k:cy):RelO (mx kvs k) ((atKey xs k).map (·.2)):=by
 induction r with
 |nil=>exact gA
 |@cons p q ps qs h t ih=>
  obtain⟨h1,_,h2⟩:=h
  by_cases e:p.1=k
  ·have e':q.1=k:=h1.symm.trans e;have b:atKey (q::qs) k=some q.2:=by simp[atKey,fH,e']
   rw[u9 e,b];exact h2
  ·have e':¬q.1=k:=λz=>e (h1.trans z);have b:atKey (q::qs) k=atKey qs k:=by simp[atKey,fH,e']
   rw[om e,b];exact ih
def KT.repl(r:KT H kvs xs)(k:cy)(ry:RelV y u):
  KT H (kvs.map λkv=>if kv.1=k then(kv.1,y)else kv) (xs.map (putAt k u)):=by
 induction r with
 |nil=>exact .nil
 |@cons p q ps qs h t ih=>
  rw[aU,aU];refine .cons ?_ ih;obtain⟨h1,h2,h3⟩:=h;unfold putAt
  by_cases e:p.1=k
  ·rw[aB e,aB (h1.symm.trans e)];exact⟨h1,h2,ry⟩
  ·rw[aG e,aG (λz=>e (h1.trans z))];exact⟨h1,h2,h3⟩
def KT.put(r:KT H kvs xs)(k:cy)(hb:TkAt H k b)(ry:RelV y u):
  KT H (tf kvs k y) (storedH xs k b u):=by
 have e:(kvs.any λkv=>decide (kv.1=k))=(atKey xs k).isSome:=by
  rw[Ka,(r.val k).isSome_eq,kZ]
 unfold tf storedH;rw[e]
 by_cases q:(atKey xs k).isSome=true
 ·rw[aB q,aB q];exact r.repl k ry
 ·rw[aG q,aG q];exact Paired.snoc r ⟨rfl,hb,ry⟩
def KT.keeps(r:KT H kvs xs)(ht:∀b ys,H b=some (.tup ys)->H' b=some (.tup ys)):KT H' kvs xs:=
 Paired.mapP r λ_ _ z=>⟨z.1,z.2.1.mono ht,z.2.2⟩
section
variable{P:bN}{w:cH}{H:Hp}{h:Heap}{a:Addr}
def DX(ok:HOk P w H h)(e:Rd H a u):ObjOk P w H h a u:=e.ok ok
def Ba{kvs:List (j9×V)}(ok:HOk P w H h)(e:Rd H a (.dK kvs)):kvs.length<=aD/\(a==eY)=false/\∃vs,KV kvs vs/\h.DictOf (cw P w) a vs:=
 show ObjOk P w H h a (.dK kvs)from DX ok e
def Sq{kvs:List (j9×V)}(ok:HOk P w H h)(e:H a=some (.dK kvs)):kvs.length<=aD/\(a==eY)=false/\∃vs,KV kvs vs/\h.DictOf (cw P w) a vs:=Ba ok (.inl e)
def Yq{ks:List j9}(ok:HOk P w H h)(e:H a=some (.tup (ks.map kV))):IsTupleKey (cw P w) h ks a:=by
 obtain⟨_,its,r,o,h1,h2,n,h3⟩:=(show ObjOk P w H h a (.tup (ks.map kV))from ok a _ e);exact⟨o,its.toArray,n,h1,h2,h3,by simpa using D9 r⟩
theorem wq(ok:HOk P w H h):∀{ks:cy}{vs:List V}{us:List aC},NkL H ks vs->Vals vs us->NItems P w h ks us
 |[],vs,us,e,r=>by rw[show vs=[]from e]at r;cases r;exact rfl
 |.inl k::ks,vs,us,⟨v,t,e,q,e2⟩,r=>by
  subst e;cases r with
  |cons h1 t1=>exact⟨_,_,rfl,zt (by rw[<-show v=kV k from q];exact h1),wq ok e2 t1⟩
 |.inr ys::ks,vs,us,⟨v,t,e,⟨b,e3,q⟩,e2⟩,r=>by
  subst e e3;cases r with
  |cons h1 t1=>exact⟨_,_,rfl,⟨b,h1,Yq ok q⟩,wq ok e2 t1⟩
def yo(ok:HOk P w H h)(e:TkAt H ks a):(mj P w).is h ks a:=by
 obtain⟨vs,e,nk⟩:=e;obtain⟨_,its,r,o,h1,h2,n,h3⟩:=(show ObjOk P w H h a (.tup vs)from ok a _ e);exact⟨o,its.toArray,n,h1,h2,h3,by simpa using wq ok nk r⟩
def Bb{kvs:List (cy×V)}(ok:HOk P w H h)(e:Rd H a (.dT kvs)):kvs.length<=aD/\(a==eY)=false/\
  ∃xs,KT H kvs xs/\h.DictOfH (mj P w) a xs:=by
 obtain⟨z,y,xs,r,o,es,ep,h1,h2,h3,h4,h5⟩:=(show ObjOk P w H h a (.dT kvs)from DX ok e);refine⟨z,y,xs,r,o,es,ep,h1,h2,h3,h4,λx hx=>?_,h5⟩;have all:∀{l:List (cy×V)}{m:List (cy×Addr×aC)},KT H l m->∀x∈m,(mj P w).is h x.1 x.2.1:=by
  intro l m q;induction q with
  |nil=>intro x hx;exact nomatch hx
  |@cons p q ps qs hq t ih=>
   intro x hx;rcases List.mem_cons.mp hx with e|hx
   ·subst e;exact yo ok (by rw[<-hq.1];exact hq.2.1)
   ·exact ih x hx
 exact all r x hx
def KN{kvs:List (cy×V)}(ok:HOk P w H h)(e:H a=some (.dT kvs)):kvs.length<=aD/\(a==eY)=false/\
  ∃xs,KT H kvs xs/\h.DictOfH (mj P w) a xs:=Bb ok (.inl e)
end
def DGet(H:Hp)(a:Addr)(y:V)(r:Option V):Prop:=
 (∃kvs k,Rd H a (.dK kvs)/\y=kV k/\r=mx kvs k)\/∃kvs k b,Rd H a (.dT kvs)/\y=.ref b/\TkAt H k b/\r=mx kvs k
def DPut(H:Hp)(a:Addr)(y v:V)(H':Hp):Prop:=
 (∃kvs k,H a=some (.dK kvs)/\y=kV k/\kvs.length<aD/\H'=upd H a (.dK (tf kvs k v)))\/
 ∃kvs k b,H a=some (.dT kvs)/\y=.ref b/\TkAt H k b/\kvs.length<aD/\H'=upd H a (.dT (tf kvs k v))
theorem DGet.k{k:j9}(e:H a=some (.dK kvs)):DGet H a (kV k) (mx kvs k):=.inl ⟨kvs,k,.inl e,rfl,rfl⟩
def DGet.t{H:Hp}{a b:Addr}{kvs:List (cy×V)}{k:cy}(e:H a=some (.dT kvs))(eb:TkAt H k b):DGet H a (.ref b) (mx kvs k):=.inr ⟨kvs,k,b,.inl e,rfl,eb,rfl⟩
theorem DPut.k{H:Hp}{a:Addr}{kvs:List (j9×V)}{k:j9}{v:V}(e:H a=some (.dK kvs))(hl:kvs.length<aD):DPut H a (kV k) v (upd H a (.dK (tf kvs k v))):=.inl ⟨kvs,k,e,rfl,hl,rfl⟩
def DPut.t{H:Hp}{a b:Addr}{kvs:List (cy×V)}{k:cy}{v:V}(e:H a=some (.dT kvs))(eb:TkAt H k b)(hl:kvs.length<aD):
  DPut H a (.ref b) v (upd H a (.dT (tf kvs k v))):=.inr ⟨kvs,k,b,e,rfl,eb,hl,rfl⟩
section
variable{X:Cx}{pins:List (Addr×Obj)}{Z:St}{H:Hp}{s:aK}{a:Addr}{y v:V}{u r:aC}{o:Option V}{A:cO}{E:aC->aK->Prop}
def Inv.big(I:Inv X pins Z H s):eY<s.heap.objs.size:=by
 have h:cG<s.heap.objs.size:=(I.mod.glob.keeps I.bk).lt;exact lQ (by decide) h
def Po(hu:A.units+5<dO)(I:Inv X pins Z H s)(g:DGet H a y (some v))(ry:RelV y u)(h:∀w' s',Inv X pins Z H s'->RelV v w'->Q w' s'):
  bA (bE X.prog X.w) A (kY (.ref a) u) Q E s:=by
 rcases g with ⟨kvs,k,e,ey,l⟩|⟨kvs,k,b,e,ey,eb,l⟩
 ·subst ey;obtain⟨z,hd,vs,rel,dd⟩:=Ba I.hok e;obtain⟨w',hw,rw'⟩:=RelO.some_of (v:=v) (o:=mO vs k) (by rw[l];exact rel.val k);exact wpAny_getItem_of (zt ry) dd.mapOf hw (h w' _ (I.tok _) rw')
 ·subst ey;cases (show u=cD b from ry);obtain⟨z,hd,xs,rel,dd⟩:=Bb I.hok e;obtain⟨w',hw,rw'⟩:=RelO.some_of (v:=v) (o:=(atKey xs k).map (·.2)) (by rw[l];exact rel.val k);obtain⟨p,hp,hp2⟩:=Option.map_eq_some_iff.mp hw;refine wpAny_getItem_heap (gq hu) (yo I.hok eb) dd hp ?_;rw[hp2];exact h w' _ (I.tok _) rw'
def QJ(hu:A.units+5<dO)(I:Inv X pins Z H s)(g:DGet H a y o)(ry:RelV y u)(h:∀s',Inv X pins Z H s'->Q (.bool o.isSome) s'):
  bA (bE X.prog X.w) A (bX .In u (.ref a)) Q E s:=by
 rcases g with ⟨kvs,k,e,ey,l⟩|⟨kvs,k,b,e,ey,eb,l⟩
 ·subst ey;obtain⟨z,hd,vs,rel,dd⟩:=Ba I.hok e;refine wpAny_in_of (zt ry) hd dd.mapOf ?_;rw[<-(rel.val k).isSome_eq,<-l];exact h _ (I.tok _)
 ·subst ey;cases (show u=cD b from ry);obtain⟨z,hd,xs,rel,dd⟩:=Bb I.hok e;refine wpAny_in_heap (gq hu) (yo I.hok eb) hd dd ?_;have q:=(rel.val k).isSome_eq;rw[kZ]at q;rw[<-q,<-l];exact h _ (I.tok _)
def X9(hu:A.units+5<dO)(I:Inv X pins Z H s)(g:DGet H a y o)(ry:RelV y u)(h:∀s',Inv X pins Z H s'->Q (.bool (!o.isSome)) s'):
  bA (bE X.prog X.w) A (bX .NotIn u (.ref a)) Q E s:=by
 rcases g with ⟨kvs,k,e,ey,l⟩|⟨kvs,k,b,e,ey,eb,l⟩
 ·subst ey;obtain⟨z,hd,vs,rel,dd⟩:=Ba I.hok e;refine wpAny_notIn_of (zt ry) hd dd.mapOf ?_;rw[<-(rel.val k).isSome_eq,<-l];exact h _ (I.tok _)
 ·subst ey;cases (show u=cD b from ry);obtain⟨z,hd,xs,rel,dd⟩:=Bb I.hok e;refine wpAny_notIn_heap (gq hu) (yo I.hok eb) hd dd ?_;have q:=(rel.val k).isSome_eq;rw[kZ]at q;rw[<-q,<-l];exact h _ (I.tok _)
def Fq{h':Heap}(I:Inv X pins Z H s)(mu:JB (H a))(hs:fK a s.heap h')(he:∃q,h'.get? a=some q)(new:ObjOk X.prog X.w (upd H a ob) h' a ob):
  Inv X pins Z (upd H a ob) {s with heap:=h',toks:=t'}:=
 I.write (x:=a) (e:=a) mu (.inl rfl) (λb q hb z=>(hs.2 b hb).trans z) he new
def Sn{h':Heap}{kvs:List (j9×V)}(z:kvs.length<=aD)(hd:(a==eY)=false)(rel:KV kvs vs)(dd:h'.DictOf (cw P w) a vs):
  ObjOk P w H' h' a (.dK kvs):=⟨z,hd,vs,rel,dd⟩
def Pp{H':Hp}{Q:Unit->aK->Prop}(hu:A.units+5<dO)(I:Inv X pins Z H s)(g:DPut H a y v H')(ry:RelV y u)(rv:RelV v r)(h:∀s',Inv X pins Z H' s'->Q () s'):
  bA (bE X.prog X.w) A (setItem (.ref a) u r) Q E s:=by
 rcases g with ⟨kvs,k,e,ey,l,eH⟩|⟨kvs,k,b,e,ey,eb,l,eH⟩
 ·subst ey eH;obtain⟨z,hd,vs,rel,dd⟩:=Sq I.hok e;have hz:vs.length<=aD:=by rw[<-rel.length];exact z
  have hl:(tf kvs k v).length<=aD:=by have:=uo kvs k v;lia
  refine wpAny_setItem_pairs (hsz:=hz) (zt ry) dd λh' dd' hs=>h _ ?_;have he:∃q,h'.get? a=some q:=let ⟨q,_,_,hq,_⟩:=dd';⟨q,hq⟩;exact Fq I (by rw[e];exact gA) hs he (Sn hl hd (rel.put k rv) dd')
 ·subst ey eH;cases (show u=cD b from ry);obtain⟨z,hd,xs,rel,dd⟩:=KN I.hok e;have hz:xs.length<=aD:=by rw[<-lD rel];exact z
  have hl:(tf kvs k v).length<=aD:=by have:=uo kvs k v;lia
  refine wpAny_setItem_heap (hsz:=hz) (gq hu) (yo I.hok eb) dd λh' dd' hs=>h _ ?_;obtain⟨q,es,ep,hq,h2,h3,h4,_,h5⟩:=dd';refine Fq I (by rw[e];exact gA) hs ⟨q,hq⟩ ⟨hl,hd,_,(rel.put k eb rv).keeps λc ys ec=>?_,q,es,ep,hq,h2,h3,h4,h5⟩;rw[bt (LW ec e (λz=>nomatch z))];exact ec
end
def Ho{s:aK}(I:Inv X pins Z H s)(g:DGet H a y o):s.TypeIs (.ref a) "dict":=by
 rcases g with ⟨kvs,k,e,_,_⟩|⟨kvs,k,b,e,_,_,_⟩
 ·obtain⟨_,_,vs,_,dd⟩:=Ba I.hok e;exact dd.typeIs
 ·obtain⟨_,_,xs,_,dd⟩:=Bb I.hok e;exact dd.typeIs
def MG(td ty tv:TE):TS:=λD Z H=>tv Z H λv H1=>td Z H1 λx H2=>ty Z H2 λy H3=>∃a H4,x=.ref a/\DPut H3 a y v H4/\D.nx Z H4
section
variable{X:Cx}{o i e value:Expr}{pos pos' tpos:Pos}{td ty tv:TE}
def N6(hu:X.A.units+5<dO)(ho:PE X o td)(hi:PE X i ty)(hv:PE X value tv)(hs:dY value (some (.Subscript o i pos')) pos.line X.env=pure false):
  PS X (.Assign [.Subscript o i pos'] value pos) (MG td ty tv):=by
 intro pins s Z H D I h;refine wpAny_Assign_Subscript (jv (hv pins s Z H _ I h) λr s1 ⟨v,H1,I1,rv,q1⟩=>jv (ho pins s1 Z H1 _ I1 q1) λu s2 ⟨x,H2,I2,rx,q2⟩=>jv (hi pins s2 Z H2 _ I2 q2) λiv s3 ⟨y,H3,I3,ry,a,H4,ex,g,q3⟩=>?_) hs;subst ex;obtain rfl:u=cD a:=rx;exact Pp hu I3 g ry rv λs4 I4=>⟨Z,H4,I4,q3⟩
end
def Sm(h:Heap)(hb:eY<h.objs.size):ObjOk P w H (h.push {cls:=.type "dict",data:=.dict #[]}) h.objs.size (.dK []):=
 ⟨cA _,beq_eq_false_iff_ne.mpr (fZ (cI hb)),[],.nil,Heap.DictOf.new h⟩
def Ss(h:Heap)(hb:eY<h.objs.size):ObjOk P w H (h.push {cls:=.type "dict",data:=.dict #[]}) h.objs.size (.dT []):=
 ⟨cA _,beq_eq_false_iff_ne.mpr (fZ (cI hb)),[],.nil,_,#[],0,bR _ rfl,⟨rfl,rfl,rfl⟩,rfl,rfl,List.nodup_nil⟩
def Wo:TE:=λ_ H Q=>∀p,H p=none->Q (.ref p) (upd H p (.dK []))
def Wp:TE:=λ_ H Q=>∀p,H p=none->Q (.ref p) (upd H p (.dT []))
section
variable{X:Cx}{pos:Pos}
def Jd:PE X (.Dict [] [] pos) Wo:=λpins s Z H Q I h=>
 wpAny_Dict_empty ⟨.ref s.heap.objs.size,_,I.laid (a:=s.heap.objs.size) (o:=.dK []) (t':=s.toks) (λ_ _ q=>aR _ q) (aO _) (Sm s.heap I.big),rfl,h _ (I.hok.fresh (aO _))⟩
def U0:PE X (.Dict [] [] pos) Wp:=λpins s Z H Q I h=>
 wpAny_Dict_empty ⟨.ref s.heap.objs.size,_,I.laid (a:=s.heap.objs.size) (o:=.dT []) (t':=s.toks) (λ_ _ q=>aR _ q) (aO _) (Ss s.heap I.big),rfl,h _ (I.hok.fresh (aO _))⟩
end
structure M2(X:Cx)(o:Expr)(m:Str)(apos:Pos)(e f:Expr)(cpos:Pos):Prop where
 base:gJ o m X.env (eval o X.env)=eval o X.env
 few:((cY cpos (aQ [e,f] X.env)).all (λx=> !x.1) && (mG cpos (jK [] X.env)).all (λx=>x.1.isSome)
  && decide (([e,f]:List Expr).length+([]:List iI).length+(if([]:List iI).isEmpty then 0 else 1)<30))=true
 line:(apos.endLine==cpos.line)=true
 trees:cY cpos (aQ [e,f] X.env)=[(false,eval e X.env),(false,eval f X.env)]
def SQ(H:Hp)(a:Addr):Prop:=(∃kvs,Rd H a (.dK kvs))\/∃kvs,Rd H a (.dT kvs)
def Ti(I:Inv X pins Z H s)(d:SQ H a):
  s.TypeIs (.ref a) "dict"/\(∀b,cD a=.ref b->∃ob,s.heap.get? b=some ob/\ob.dict=none)/\(a==eY)=false:=by
 rcases d with ⟨kvs,e⟩|⟨kvs,e⟩
 ·obtain⟨_,hd,vs,_,dd⟩:=Ba I.hok e;refine⟨dd.typeIs,λb q=>?_,hd⟩;cases q;obtain⟨ob,_,_,h1,h2,_⟩:=dd;exact⟨ob,h1,h2.2.1⟩
 ·obtain⟨_,hd,xs,_,dd⟩:=Bb I.hok e;refine⟨dd.typeIs,λb q=>?_,hd⟩;cases q;obtain⟨ob,_,_,h1,h2,_⟩:=dd;exact⟨ob,h1,h2.2.1⟩
section
variable{X:Cx}{pins:List (Addr×Obj)}{Z:St}{H:Hp}{s:aK}{a:Addr}{y d:V}{u r:aC}{o:Option V}{A:cO}{E:aC->aK->Prop}
def EW(hu:A.units+5<dO)(I:Inv X pins Z H s)(g:DGet H a y o)(ry:RelV y u)(rd:RelV d r)(h:∀w' s',Inv X pins Z H s'->RelV (o.getD d) w'->Q w' s'):
  bA (bE X.prog X.w) A (call (.builtin "dict.get") [.ref a,u,r]) Q E s:=by
 rcases g with ⟨kvs,k,e,ey,l⟩|⟨kvs,k,b,e,ey,eb,l⟩
 ·subst ey;obtain⟨z,hd,vs,rel,dd⟩:=Ba I.hok e;refine call_meetsIn iX dd.typeIs PySem.F.entry_dict_get (PySem.F.args_dict_get_3 _ _ _) (meets_dict_get_default (cw X.prog X.w) a (zt ry) hd r) ⟨_,dd.mapOf,h _ _ (I.tok _) ?_⟩;rw[l];exact(rel.val k).getD rd
 ·subst ey;cases (show u=cD b from ry);obtain⟨z,hd,xs,rel,dd⟩:=Bb I.hok e;refine call_meetsIn iX dd.typeIs PySem.F.entry_dict_get (PySem.F.args_dict_get_3 _ _ _) (meetsH_dict_get_default (mj X.prog X.w) a b hd r) ⟨gq hu,k,xs,yo I.hok eb,dd,h _ _ (I.tok _) ?_⟩;rw[l];exact(rel.val k).getD rd
end
def IP(td ty tx:TE):TE:=λZ H Q=>td Z H λx H1=>∃a,x=.ref a/\SQ H1 a/\ty Z H1 λy H2=>tx Z H2 λz H3=>∃o,DGet H3 a y o/\Q (o.getD z) H3
section
variable{X:Cx}{o e f:Expr}{apos cpos:Pos}{td ty tx:TE}
def Uz(hu:X.A.units+5<dO)(ho:PE X o td)(he:PE X e ty)(hf:PE X f tx)(m:M2 X o "get" apos e f cpos):PE X (.Call (.Attribute o "get" apos) [e,f] [] cpos) (IP td ty tx):=by
 intro pins s Z H Q I h;refine wpAny_Call_method m.base m.few m.line PySem.F.plainAttrs_dict iX PySem.F.type_dict_get (jv (ho pins s Z H _ I h) λu s1 ⟨x,H1,I1,rx,a,ex,d,q1⟩=>?_);subst ex;obtain rfl:u=cD a:=rx;obtain⟨t1,t2,_⟩:=Ti I1 d;refine⟨t1,t2,?_⟩;rw[m.trees];refine iS rfl (fO (eZ (jv (he pins s1 Z H1 _ I1 q1) λiv s2 ⟨y,H2,I2,ry,q2⟩=>
  eZ (jv (hf pins s2 Z H2 _ I2 q2) λfv s3 ⟨z,H3,I3,rz,ov,g,q3⟩=>iQ ?_))))
 exact EW hu I3 g ry rz λw' s4 I4 rw'=>⟨_,H3,I4,rw',q3⟩
end
end L2
namespace Att
open PySem PySem.W PySem.Calls PyProof.Rows
def Ad:∀(ns:List Int)(vs:List aC),WellAll P h vs (ns.map WData.int)->IntsAre vs ns:=by
 intro ns;induction ns with
 |nil=>
  intro vs w;rw[hV]at w;cases w;exact .nil
 |cons n ns ih=>
  intro vs w;rw[aU]at w;cases w with
  |cons a b=>
   cases a;exact .cons _ _ (ih _ b)
def Q4{l:OpenLaw}(hn:l.most=some n)
  (hpre:l.row.toRowW.claim.pre args=true)(hwl:WellAll P h vals args):
  ∃a vs ns,vals=[cD a]/\args=[WData.list (ns.map WData.int)]/\h.get? a=some {cls:=.type "list",data:=.seq vs.toArray}/\IntsAre vs ns/\ns.length<=n:=by
 have hsh:WShape.hasAll [] args [.list .int]=true:=(pre_splitW hpre).1;have hc:l.pre.holds [] {args:=args}=true:=(pre_splitW hpre).2;obtain⟨d,r,rfl,h1,h2⟩:=hasAllW_cons hsh;obtain rfl:=hasAllW_nil h2;obtain⟨xs,rfl,h3⟩:=hasW_list h1;obtain⟨ns,rfl⟩:=items_int h3;have hlen:ns.length<=n:=by
  unfold OpenLaw.pre at hc;have h4:(WTm.not (.lt (.lit (.int (n:Int))) (.len (.arg 0)))).holds [] {args:=[.list (ns.map .int)]}=true:=by
   have h4:=(holds_andW hc).1;rw[hn]at h4;exact h4
  have h5:=condW_of h4 (w_not (w_lt w_lit (w_len_list (w_arg rfl))));rw[aJ]at h5;refine Nat.le_of_not_lt λq=>?_;have q':(n:Int)<((ns.length:Nat):Int):=by lia
  first
   |(rw[decide_eq_true q']at h5;exact absurd h5 (by decide))
   |(simp at h5;lia)
 cases hwl with
 |cons w1 w2=>
  cases w2;cases w1 with
  |list ho hall=>exact⟨_,_,ns,rfl,rfl,ho,Ad ns _ hall,hlen⟩
def Qt(l:OpenLaw)(args:List WData):l.row.toRowW.claim.post args (.bool true) args=true:=
 postW_of (r:=l.row.toRowW) (X:=(true==true))
  (show WShape.has [] (.bool true) .bool=true by first|rfl|decide|simp[WShape.has,WShape.arms,WShape.armsAll])
  (show(WTm.eq .res (.lit (.bool true))).value [] {args:=args,res:=some (.bool true),after:=args}=some (.bool (true==true))from w_eq_bool (w_res rfl) w_lit) rfl
def Hh{l:OpenLaw}{n:Nat}{q:bN}{loose:List Str}{XP:(Str->Option aC)->Heap->Prop}{YP:cH->Heap->Prop}{d:DefRec}
  (hn:l.most=some n)(hdf:d.params.defaults=[])
  (call:∀(w:cH)(s₀ s₁:aK)(mg mb:Str->Option aC)(fa:Addr)(o:Obj)(pm cd doc:aC)(a:Addr)(vs:List aC)(ns:List Int),
   Ground q loose [] XP w s₀ mg mb s₁.heap->YP w s₁.heap->
   s₁.heap.get? fa=some o->o.data=.func (docDef d.name d.params d.body d.scope pm cd doc)->s₁.heap.CodeRec cd d.name->mg d.name=some (.ref fa)->
   s₁.heap.get? a=some {cls:=.type "list",data:=.seq vs.toArray}->IntsAre vs ns->ns.length<=n->s₁.gens=#[]->
   kX (bE l.prog w) mP (.call (.ref fa) ⟨[.ref a],[]⟩) (λr s'=>r=.ok (.ret (.bool true))/\OldK s₁.heap s'.heap/\s'.os=s₁.os/\jZ s'.gens) s₁):
  WalkO q loose XP YP l.row.toRowW d [] (λf vs=>PySem.call f vs):=by
 intro w s₀ s₁ mg mb G Y fa o pm cd doc dV kV ho hd hcd hD hmg hg args vals as hpre hlay hrd hwl hlo;obtain rfl:dV=.none:=Dflts.none hD hdf;obtain rfl:kV=.none:=Dflts.noKw hD;obtain⟨a,vs,ns,rfl,rfl,hobj,hints,hlen⟩:=Q4 hn hpre hwl;refine enter_call (kA (call w s₀ s₁ mg mb fa o pm cd doc a vs ns G Y ho (fd_plain hd) hcd hmg hobj hints hlen hg) λr s' hq=>?_);obtain⟨rfl,h2,h3,h4⟩:=hq;exact⟨.inl ⟨.bool true,.bool true,[],rfl,λ_=>rfl,.bool true,Qt l _,λ_=>⟨List.Pairwise.nil,λ_ hm=>(nomatch hm)⟩⟩,h2,h3,h4⟩
end Att
namespace L2
open PySem PySem.Spec PyProof.Rows
theorem E3:∀{vs:List aC}{ns:List Int},IntsAre vs ns->Vals (ns.map V.int) vs
 |_,_,.nil=>.nil
 |_,_,.cons n t h=>.cons ⟨t,rfl⟩ (E3 h)
end L2
namespace L2
open PySem PySem.Spec PyProof.Rows
set_option bootstrap.genMatcherCode true in
def j5(s:Stmt):Arguments:=match s with
 |.FunctionDef _ a _ _ _ _ _ _ _ _=>a
 |_=>{posonlyargs:=[],args:=[],vararg:=none,kwonlyargs:=[],kw_defaults:=[],kwarg:=none,defaults:=[]}
set_option bootstrap.genMatcherCode true in
def gd(s:Stmt):List Stmt:=match s with
 |.FunctionDef _ _ b _ _ _ _ _ _ _=>b
 |_=>[]
set_option bootstrap.genMatcherCode true in
def bp(s:Stmt):eS:=match s with
 |.FunctionDef _ _ _ _ _ _ sc _ _ _=>sc
 |_=>{kind:=.function,names:=[],isGenerator:=false,isCoroutine:=false}
abbrev DI:Rh:=λ_ _ _ _ _ _=>False
abbrev E0:XK:=λ_ _ _=>False
structure Fun(K:aP)(x qual:Str)(st:Stmt)(f:Addr)(fd:dX):Prop where
 ex:∃(oc:aC) (od:Option Addr) (kV doc pm:aC) (an:Option Addr) (cdv ct:aC) (osl:Array (Option aC)),
  fd=dJ x qual (j5 st) (gd st) (bp st) .none kV doc pm an cdv ct/\K.lookup f=some ⟨oc,od,.func fd,osl⟩/\fY K cdv qual=true
 kp:bU K (.ref f)=true
section
variable{P:bN}{w:cH}{K:aP}{mg:Str->Option aC}{base:Heap}
def Fun.ok{x qual:Str}{st:Stmt}{f:Addr}{fd:dX}{N ps:List Str}{k:Nat}{sp:Sp}(F:Fun K x qual st f fd)(S:FnScope N ps (bp st))(len:∀vs H Q E,sp vs H Q E->vs.length=ps.length)
   (hbody:∀(cdv:aC)(A:cO)(outer:List Env)(s:aK)(H:Hp)(vs:List V)(Q:VK)(E:XK),Room k (A.deeper (lF qual (bp st) s.heap.objs.size f cdv))->sp vs H Q E->
   ∃t,PSs (yh DI P w K mg base N qual (bp st) f cdv A outer s H E).nox (gd st) t/\t {nx:=λ_ H'=>Q .non H',rt:=Q} (pd N vs) H):FnOk P w K mg base DI (k+1) f fd ps sp:=by
 obtain⟨oc,od,kV,doc,pm,an,cdv,ct,osl,rfl,lk,hcd⟩:=F.ex;refine CP lk hcd S len λA outer s H vs Q E hr hsp=>?_;obtain⟨t,h,q⟩:=hbody cdv A outer s H vs Q E hr hsp;exact⟨t,h.nox,q⟩
def Fun.binds{x qual:Str}{st:Stmt}{f:Addr}{fd:dX}{ps:List Str}(F:Fun K x qual st f fd)
  (h:∀(kV doc pm:aC)(an:Option Addr)(cdv ct:aC)(us:List aC),us.length=ps.length->bindArgs (dJ x qual (j5 st) (gd st) (bp st) .none kV doc pm an cdv ct) ⟨us,[]⟩=pure (ps.zip us)):Binds K fd ps []:=by
 obtain⟨oc,od,kV,doc,pm,an,cdv,ct,osl,rfl,lk,hcd⟩:=F.ex;exact .all (h kV doc pm an cdv ct)
def S2{x qual:Str}{st:Stmt}{f:Addr}{oc:aC}{od an:Option Addr}{osl:Array (Option aC)}{kV doc pm cdv ct:aC}(l:K.lookup f=some ⟨oc,od,.func (dJ x qual (j5 st) (gd st) (bp st) .none kV doc pm an cdv ct),osl⟩)
  (c:fY K cdv qual=true)(k:bU K (.ref f)=true):Fun K x qual st f (dJ x qual (j5 st) (gd st) (bp st) .none kV doc pm an cdv ct):=⟨⟨oc,od,kV,doc,pm,an,cdv,ct,osl,rfl,l,c⟩,k⟩
end
def Same(H H':Hp):Prop:=∀b o,H b=some o->H' b=some o
def Same.refl(H:Hp):Same H H:=λ_ _ h=>h
def Same.trans(a:Same H H1)(b:Same H1 H2):Same H H2:=λc o h=>b c o (a c o h)
def Same.free(e:Same H H')(h:H' l=Option.none):H l=Option.none:=by
 cases q:H l with
 |none=>rfl
 |some o=>
  rw[e l o q]at h;cases h
def Same.seq{K:aP}{H H':Hp}{a:Addr}{xs:List V}(e:Same H H')(h:SqL K H a xs):SqL K H' a xs:=by
 rcases h with (h|⟨o,h⟩)|h
 ·exact .inl (.inl (e _ _ h))
 ·exact .inl (.inr ⟨o,e _ _ h⟩)
 ·exact .inr h
end L2
end
section
namespace Pu
open PySem
def L4:List (Addr×Addr×Str):=[]
def UI:List Str:=["read_term","read_atom"]
def uk:List Addr:=[49]
end Pu
end
section
namespace Pu
open PySem PySem.Spec PyProof.Rows L2
abbrev St:=L2.St
structure KA where
 K:aP
 A:Str->Addr
instance:CoeOut KA aP:=⟨KA.K⟩
def y6(mg:Str->Option aC)(x:Str):Addr:=match mg x with
 |some (.ref a)=>a
 |_=>0
abbrev kx(X:Cx):KA:=⟨X.K,y6 X.mg⟩
abbrev EK:=Str->Hp->Prop
abbrev ek(K:KA)(E:XK):EK:=λc H=>E (.ref (K.A c)) none H
inductive D where
 |non
 |bl (b:Bool)
 |int (i:Int)
 |str (x:Str)
 |tup (ds:List D)
 |lst (ds:List D)
 |dct (t:Bool) (kvs:List (D×D))
 |obj (e:Expr) (fs:List (Str×D))
 |fn (f:Str)
def kD:j9->D
 |.inl i=>.int i
 |.inr x=>.str x
def gi:List (Str×fX)->List Str
 |[]=>[]
 |(n,k)::r=>if k=.free then n::gi r else gi r
def LamAt(H:Hp)(e:Expr)(a:Addr)(vs:List (Str×V)):Prop:=match e with
 |.Lambda params body scope _=>∃(qual:Str) (pm:aC) (c':Addr) (ctv:aC) (cl:List (Str×Addr)) (oc:Obj) (cvs:Array aC) (t:Tok),
   H a=some (.frz (PySem.W.kla_obj "<lambda>" qual params body scope cl pm c' ctv) (.own 0))/\H c'=some (.frz oc (.own 0))/\oc.data=.fields cvs/\cvs[1]?=some (.str qual t)/\
   (∀x y c,cl.lookup x=some c->cl.lookup y=some c->x=y)/\(∀y,(y,eU)∈scope.names->∃c,cl.lookup y=some c)/\(∀y c,cl.lookup y=some c->(y,eU)∈scope.names)/\
   (∀y c,cl.lookup y=some c->∃o v u,H c=some (.frz o (.own 0))/\o.data=.cell (some u)/\(y,v)∈vs/\RelV v u)/\vs.map (·.1)=gi scope.names
 |_=>False
def LamAt.mono(q:Same H H')(h:LamAt H e a vs):LamAt H' e a vs:=by
 unfold LamAt at h⊢;split at h
 ·obtain⟨qual,pm,c',ctv,cl,oc,cvs,t,h1,h2,h3,h4,h5,h6,h7,h8,h9⟩:=h;refine⟨qual,pm,c',ctv,cl,oc,cvs,t,q _ _ h1,q _ _ h2,h3,h4,h5,h6,h7,λy c z=>?_,h9⟩;obtain⟨o,v,u,z1,z2⟩:=h8 y c z;exact⟨o,v,u,q _ _ z1,z2⟩
 ·exact h.elim
def LV:NK->D
 |.inl k=>kD k
 |.inr ks=>.tup (ks.map kD)
def kT(k:cy):D:=.tup (k.map LV)
mutual
def Den(K:KA)(H:Hp):D->V->Prop
 |.non,v=>v=.non
 |.bl b,v=>v=.bl b
 |.int i,v=>v=.int i
 |.str x,v=>v=.str x
 |.tup ds,v=>∃a vs,v=.ref a/\H a=some (.tup vs)/\DenL K H ds vs
 |.lst ds,v=>∃a vs,v=.ref a/\SqL K H a vs/\DenL K H ds vs
 |.dct t kvs,v=>∃a,v=.ref a/\((t=false/\∃es,H a=some (.dK es)/\DenK K H kvs es)\/(t=true/\∃es,H a=some (.dT es)/\DenT K H kvs es))
 |.obj e fs,v=>∃a vs,v=.ref a/\LamAt H e a vs/\DenF K H fs vs
 |.fn f,v=>v=.ref (K.A f)
def DenL(K:KA)(H:Hp):List D->List V->Prop
 |[],vs=>vs=[]
 |d::ds,vs=>∃v r,vs=v::r/\Den K H d v/\DenL K H ds r
def DenF(K:KA)(H:Hp):List (Str×D)->List (Str×V)->Prop
 |[],vs=>vs=[]
 |(n,d)::ds,vs=>∃v r,vs=(n,v)::r/\Den K H d v/\DenF K H ds r
def DenK(K:KA)(H:Hp):List (D×D)->List (j9×V)->Prop
 |[],vs=>vs=[]
 |(k,d)::ds,vs=>∃k' v r,vs=(k',v)::r/\k=kD k'/\Den K H d v/\DenK K H ds r
def DenT(K:KA)(H:Hp):List (D×D)->List (cy×V)->Prop
 |[],vs=>vs=[]
 |(k,d)::ds,vs=>∃k' v r,vs=(k',v)::r/\k=kT k'/\Den K H d v/\DenT K H ds r
end
def SqL.mono{K:KA}{H H':Hp}{a:Addr}{xs:List V}(e:Same H H')(h:SqL K H a xs):SqL K H' a xs:=e.seq h
def SqT.mono{K:KA}{H H':Hp}{a:Addr}{xs:List V}(e:Same H H')(h:SqT K H a xs):SqT K H' a xs:=by
 rcases h with (h|⟨o,h⟩)|h
 ·exact .inl (.inl (e _ _ h))
 ·exact .inl (.inr ⟨o,e _ _ h⟩)
 ·exact .inr h
mutual
theorem Den.mono{K:KA}{H H':Hp}(e:Same H H'):∀{d:D}{v:V},Den K H d v->Den K H' d v
 |.non,_,h=>h
 |.bl _,_,h=>h
 |.int _,_,h=>h
 |.str _,_,h=>h
 |.tup _,_,⟨a,vs,h1,h2,h3⟩=>⟨a,vs,h1,e _ _ h2,DenL.mono e h3⟩
 |.lst _,_,⟨a,vs,h1,h2,h3⟩=>⟨a,vs,h1,SqL.mono e h2,DenL.mono e h3⟩
 |.dct _ _,_,⟨a,h1,h2⟩=>⟨a,h1,h2.elim (λ⟨z,es,q1,q2⟩=>.inl ⟨z,es,e _ _ q1,DenK.mono e q2⟩) λ⟨z,es,q1,q2⟩=>.inr ⟨z,es,e _ _ q1,DenT.mono e q2⟩⟩
 |.obj _ _,_,⟨a,vs,h1,h2,h3⟩=>⟨a,vs,h1,h2.mono e,DenF.mono e h3⟩
 |.fn _,_,h=>h
theorem DenL.mono{K:KA}{H H':Hp}(e:Same H H'):∀{ds:List D}{vs:List V},DenL K H ds vs->DenL K H' ds vs
 |[],_,h=>h
 |_::_,_,⟨v,r,h1,h2,h3⟩=>⟨v,r,h1,Den.mono e h2,DenL.mono e h3⟩
theorem DenF.mono{K:KA}{H H':Hp}(e:Same H H'):∀{ds:List (Str×D)}{vs:List (Str×V)},DenF K H ds vs->DenF K H' ds vs
 |[],_,h=>h
 |(_,_)::_,_,⟨v,r,h1,h2,h3⟩=>⟨v,r,h1,Den.mono e h2,DenF.mono e h3⟩
theorem DenK.mono{K:KA}{H H':Hp}(e:Same H H'):∀{ds:List (D×D)}{vs:List (j9×V)},DenK K H ds vs->DenK K H' ds vs
 |[],_,h=>h
 |(_,_)::_,_,⟨k,v,r,h1,h0,h2,h3⟩=>⟨k,v,r,h1,h0,Den.mono e h2,DenK.mono e h3⟩
theorem DenT.mono{K:KA}{H H':Hp}(e:Same H H'):∀{ds:List (D×D)}{vs:List (cy×V)},DenT K H ds vs->DenT K H' ds vs
 |[],_,h=>h
 |(_,_)::_,_,⟨k,v,r,h1,h0,h2,h3⟩=>⟨k,v,r,h1,h0,Den.mono e h2,DenT.mono e h3⟩
end
section
variable{K:KA}{G H:Hp}
theorem DenL.length:∀{ds:List D}{vs:List V},DenL K H ds vs->ds.length=vs.length
 |[],_,h=>by rw[show _=[]from h];rfl
 |_::_,_,⟨v,r,h1,_,h3⟩=>by rw[h1,aM,aM,DenL.length h3]
theorem DenL.get:∀{ds:List D}{vs:List V}{i:Nat}{d:D},DenL K H ds vs->ds[i]?=some d->∃v,vs[i]?=some v/\Den K H d v
 |[],_,_,_,_,e=>by simp at e
 |_::_,_,0,_,⟨v,r,h1,h2,_⟩,e=>by
  simp at e;subst e;subst h1;exact⟨v,rfl,h2⟩
 |_::_,_,i+1,_,⟨v,r,h1,_,h3⟩,e=>by
  obtain⟨w,q1,q2⟩:=DenL.get (i:=i) h3 (by simpa using e);subst h1;exact⟨w,by simpa using q1,q2⟩
theorem DenL.append:∀{ds es:List D}{vs ws:List V},DenL K H ds vs->DenL K H es ws->DenL K H (ds++es) (vs++ws)
 |[],_,_,_,h,q=>by rw[show _=[]from h];exact q
 |_::_,_,_,_,⟨v,r,h1,h2,h3⟩,q=>⟨v,r++_,by rw[h1];rfl,h2,DenL.append h3 q⟩
def DenL.one(h:Den K H d v):DenL K H [d] [v]:=⟨v,[],rfl,h,rfl⟩
theorem DenL.drop:∀(n:Nat){ds:List D}{vs:List V},DenL K H ds vs->DenL K H (ds.drop n) (vs.drop n)
 |0,_,_,h=>h
 |_+1,[],_,h=>by rw[show _=[]from h];exact rfl
 |n+1,_::_,_,⟨v,r,h1,_,h3⟩=>by subst h1;exact DenL.drop n h3
theorem DenL.take:∀(n:Nat){ds:List D}{vs:List V},DenL K H ds vs->DenL K H (ds.take n) (vs.take n)
 |0,_,_,_=>rfl
 |_+1,[],_,h=>by rw[show _=[]from h];exact rfl
 |n+1,_::_,_,⟨v,r,h1,h2,h3⟩=>by subst h1;exact⟨v,r.take n,rfl,h2,DenL.take n h3⟩
theorem DenL.set(q:Den K H d v):∀(n:Nat){ds:List D}{vs:List V},DenL K H ds vs->DenL K H (ds.set n d) (vs.set n v)
 |_,[],_,h=>by rw[show _=[]from h];exact rfl
 |0,_::_,_,⟨_,r,h1,_,h3⟩=>by subst h1;exact⟨v,r,rfl,q,h3⟩
 |n+1,_::_,_,⟨w,r,h1,h2,h3⟩=>by subst h1;exact⟨w,r.set n v,rfl,h2,DenL.set q n h3⟩
end
def RX:HO->Bool
 |.frz _ _=>false
 |.tup _=>false
 |_=>true
structure Ext(G H G' H':Hp):Prop where
 gg:Same G G'
 hh:Same H H'
 gh:Same G' H'
 fr:∀a o,H a=some o->G a=none->RX o=true->G' a=none
theorem Ext.refl(h:Same G H):Ext G H G H:=⟨Same.refl G,Same.refl H,h,λ_ _ _ q _=>q⟩
theorem Ext.trans(a:Ext G H G1 H1)(b:Ext G1 H1 G2 H2):Ext G H G2 H2:=
 ⟨a.gg.trans b.gg,a.hh.trans b.hh,b.gh,λx o h g z=>b.fr x o (a.hh x o h) (a.fr x o h g z) z⟩
def f7(h:H p=none)(o:HO):Same H (upd H p o):=λb u q=>by rw[bt (c7 q h)];exact q
def Ext.new(h:Same G H)(o:HO)(n:H p=none):Ext G H (upd G p o) (upd H p o):=by
 have ng:G p=none:=by
  cases e:G p with
  |none=>rfl
  |some u=>rw[h p u e]at n;cases n
 refine⟨f7 ng o,f7 n o,λb u q=>?_,λa u q g _=>?_⟩
 ·by_cases e:b=p
  ·subst e;rw[bz]at q⊢;exact q
  ·rw[bt e]at q⊢;exact h b u q
 ·rw[bt (c7 q n)];exact g
def Ext.own(h:Same G H)(o:HO)(n:H p=none):Ext G H G (upd H p o):=by
 refine⟨Same.refl G,f7 n o,λb u q=>?_,λa u q g _=>g⟩;exact f7 n o b u (h b u q)
def Arg(K:KA)(G H:Hp)(d:D)(v:V):Prop:=
 Den K G d v\/(∃ds a vs,d=.lst ds/\v=.ref a/\SqL K H a vs/\DenL K G ds vs)\/
  ∃t kvs a,d=.dct t kvs/\v=.ref a/\((t=false/\∃es,H a=some (.dK es)/\DenK K G kvs es)\/(t=true/\∃es,H a=some (.dT es)/\DenT K G kvs es))
def Arg.ext{K:KA}{G H G' H':Hp}{d:D}{v:V}(e:Ext G H G' H')(h:Arg K G H d v):Arg K G' H' d v:=by
 rcases h with h|⟨ds,a,vs,h1,h2,h3,h4⟩|⟨t,kvs,a,h1,h2,h3⟩
 ·exact .inl (h.mono e.gg)
 ·exact .inr (.inl ⟨ds,a,vs,h1,h2,SqL.mono e.hh h3,h4.mono e.gg⟩)
 ·exact .inr (.inr ⟨t,kvs,a,h1,h2,h3.elim (λ⟨z,es,q1,q2⟩=>.inl ⟨z,es,e.hh _ _ q1,q2.mono e.gg⟩) λ⟨z,es,q1,q2⟩=>.inr ⟨z,es,e.hh _ _ q1,q2.mono e.gg⟩⟩)
theorem Arg.lst{K:KA}{G H:Hp}{ds:List D}{v:V}(s:Same G H)(h:Arg K G H (.lst ds) v):∃a vs,v=.ref a/\SqL K H a vs/\DenL K G ds vs:=by
 rcases h with ⟨a,vs,h1,h2,h3⟩|⟨ds',a,vs,h1,h2,h3,h4⟩|⟨t,kvs,a,h1,_⟩
 ·exact⟨a,vs,h1,SqL.mono s h2,h3⟩
 ·cases h1;exact⟨a,vs,h2,h3,h4⟩
 ·cases h1
def Arg.tup0{K:KA}{G H:Hp}{ds:List D}{v:V}(s:Same G H)(h:Arg K G H (.tup ds) v):∃a vs,v=.ref a/\H a=some (.tup vs)/\DenL K G ds vs:=by
 rcases h with ⟨a,vs,h1,h2,h3⟩|⟨ds',a,vs,h1,_⟩|⟨t,kvs,a,h1,_⟩
 ·exact⟨a,vs,h1,s _ _ h2,h3⟩
 ·cases h1
 ·cases h1
theorem Arg.tup{K:KA}{G H:Hp}{ds:List D}{v:V}(s:Same G H)(h:Arg K G H (.tup ds) v):∃a vs,v=.ref a/\SqT K H a vs/\DenL K G ds vs:=by
 obtain⟨a,vs,h1,h2,h3⟩:=h.tup0 s;exact⟨a,vs,h1,.inl (.inl h2),h3⟩
theorem Arg.int{K:KA}{G H:Hp}{i:Int}{v:V}(h:Arg K G H (.int i) v):v=.int i:=by
 rcases h with h|⟨ds',a,vs,h1,_⟩|⟨t,kvs,a,h1,_⟩
 ·exact h
 ·cases h1
 ·cases h1
theorem Arg.bl{K:KA}{G H:Hp}{i:Bool}{v:V}(h:Arg K G H (.bl i) v):v=.bl i:=by
 rcases h with h|⟨ds',a,vs,h1,_⟩|⟨t,kvs,a,h1,_⟩
 ·exact h
 ·cases h1
 ·cases h1
theorem Arg.str{K:KA}{G H:Hp}{i:Str}{v:V}(h:Arg K G H (.str i) v):v=.str i:=by
 rcases h with h|⟨ds',a,vs,h1,_⟩|⟨t,kvs,a,h1,_⟩
 ·exact h
 ·cases h1
 ·cases h1
theorem Arg.non{K:KA}{G H:Hp}{v:V}(h:Arg K G H .non v):v=.non:=by
 rcases h with h|⟨ds',a,vs,h1,_⟩|⟨t,kvs,a,h1,_⟩
 ·exact h
 ·cases h1
 ·cases h1
theorem Arg.fn{K:KA}(h:Arg K G H (.fn f) v):v=.ref (K.A f):=by
 rcases h with h|⟨ds',a,vs,h1,_⟩|⟨t,kvs,a,h1,_⟩
 ·exact h
 ·cases h1
 ·cases h1
inductive Res where
 |ok (d:D)
 |er (c:Str)
 |st
def Res.bind(r:Res)(f:D->Res):Res:=match r with
 |.ok d=>f d
 |.er c=>.er c
 |.st=>.st
def Res.of(o:Option D):Res:=match o with
 |some d=>.ok d
 |none=>.st
inductive ResL where
 |ok (ds:List D)
 |er (c:Str)
 |st
inductive Sl where
 |no
 |pu (d:D)
 |bo (d:D)
 |ow (ds:List D)
 |od (t:Bool) (kvs:List (D×D))
abbrev En:=List Sl
def SlOk(K:KA)(B G H:Hp):Sl->Option V->Prop
 |.no,_=>True
 |.pu d,o=>∃v,o=some v/\Den K G d v
 |.bo d,o=>∃v,o=some v/\Arg K G B d v
 |.ow ds,o=>∃a vs,o=some (.ref a)/\H a=some (.lst vs)/\DenL K G ds vs
 |.od false kvs,o=>∃a es,o=some (.ref a)/\H a=some (.dK es)/\DenK K G kvs es
 |.od true kvs,o=>∃a es,o=some (.ref a)/\H a=some (.dT es)/\DenT K G kvs es
def Sl.own:Sl->Bool
 |.ow _=>true
 |.od _ _=>true
 |_=>false
def GOk(H:Hp):Prop:=∀p∈L4,H p.2.1=some (.tbl (p.2.2))
def GOk.same(e:Same H H')(h:GOk H):GOk H':=λp hp=>e _ _ (h p hp)
structure EnvR(K:KA)(B G H:Hp)(Z:St)(U:En):Prop where
 bh:Same B H
 gh:Same G H
 len:Z.length=U.length
 sl:∀(i:Nat) s,U[i]?=some s->∃o,Z[i]?=some o/\SlOk K B G H s o
 own:∀(i:Nat) s a,U[i]?=some s->s.own=true->Z[i]?=some (some (V.ref a))->G a=none/\B a=none
 dis:∀(i j:Nat) s t a,U[i]?=some s->U[j]?=some t->s.own=true->t.own=true->Z[i]?=some (some (V.ref a))->Z[j]?=some (some (V.ref a))->i=j
 gb:GOk B
def KY{K:KA}{G G' H:Hp}{d:D}{v:V}(e:Same G G')(h:Arg K G H d v):Arg K G' H d v:=by
 rcases h with h|⟨ds,a,vs,h1,h2,h3,h4⟩|⟨t,kvs,a,h1,h2,h3⟩
 ·exact .inl (h.mono e)
 ·exact .inr (.inl ⟨ds,a,vs,h1,h2,h3,h4.mono e⟩)
 ·exact .inr (.inr ⟨t,kvs,a,h1,h2,h3.elim (λ⟨z,es,q1,q2⟩=>.inl ⟨z,es,q1,q2.mono e⟩) λ⟨z,es,q1,q2⟩=>.inr ⟨z,es,q1,q2.mono e⟩⟩)
def QL{K:KA}{G H H':Hp}{d:D}{v:V}(e:Same H H')(h:Arg K G H d v):Arg K G H' d v:=by
 rcases h with h|⟨ds,a,vs,h1,h2,h3,h4⟩|⟨t,kvs,a,h1,h2,h3⟩
 ·exact .inl h
 ·exact .inr (.inl ⟨ds,a,vs,h1,h2,SqL.mono e h3,h4⟩)
 ·exact .inr (.inr ⟨t,kvs,a,h1,h2,h3.elim (λ⟨z,es,q1,q2⟩=>.inl ⟨z,es,e _ _ q1,q2⟩) λ⟨z,es,q1,q2⟩=>.inr ⟨z,es,e _ _ q1,q2⟩⟩)
def SlOk.ext{K:KA}{B G H G' H':Hp}(e:Ext G H G' H'){s:Sl}{o:Option V}(h:SlOk K B G H s o):SlOk K B G' H' s o:=by
 cases s with
 |no=>trivial
 |pu d=>obtain⟨v,h1,h2⟩:=h;exact⟨v,h1,h2.mono e.gg⟩
 |bo d=>obtain⟨v,h1,h2⟩:=h;exact⟨v,h1,KY e.gg h2⟩
 |ow ds=>obtain⟨a,vs,h1,h2,h3⟩:=h;exact⟨a,vs,h1,e.hh _ _ h2,h3.mono e.gg⟩
 |od t kvs=>
  cases t with
  |false=>obtain⟨a,vs,h1,h2,h3⟩:=h;exact⟨a,vs,h1,e.hh _ _ h2,h3.mono e.gg⟩
  |true=>obtain⟨a,vs,h1,h2,h3⟩:=h;exact⟨a,vs,h1,e.hh _ _ h2,h3.mono e.gg⟩
theorem SlOk.ref{K:KA}{B G H:Hp}{s:Sl}{o:Option V}(h:SlOk K B G H s o)(q:s.own=true):∃a,o=some (V.ref a)/\∃u,H a=some u/\RX u=true:=by
 cases s with
 |no=>cases q
 |pu d=>cases q
 |bo d=>cases q
 |ow ds=>obtain⟨a,vs,h1,h2,_⟩:=h;exact⟨a,h1,_,h2,rfl⟩
 |od t kvs=>
  cases t with
  |false=>obtain⟨a,vs,h1,h2,_⟩:=h;exact⟨a,h1,_,h2,rfl⟩
  |true=>obtain⟨a,vs,h1,h2,_⟩:=h;exact⟨a,h1,_,h2,rfl⟩
theorem EnvR.ext{K:KA}{B G H G' H':Hp}{Z:St}{U:En}(e:Ext G H G' H')(r:EnvR K B G H Z U):EnvR K B G' H' Z U where
 bh:=r.bh.trans e.hh
 gb:=r.gb
 gh:=e.gh
 len:=r.len
 sl:=λi s h=>by
  obtain⟨o,q1,q2⟩:=r.sl i s h;exact⟨o,q1,q2.ext e⟩
 own:=λi s a h1 h2 h3=>by
  obtain⟨g,b⟩:=r.own i s a h1 h2 h3;obtain⟨o,q1,q2⟩:=r.sl i s h1;rw[h3]at q1;cases q1;obtain⟨a',z,u,q3,q4⟩:=q2.ref h2;cases z;exact⟨e.fr a u q3 g q4,b⟩
 dis:=r.dis
def ResP(E:EK)(G H:Hp)(r:Res)(P:D->Prop):Prop:=match r with
 |.ok d=>P d
 |.er c=>∀G' H',Ext G H G' H'->E c H'
 |.st=>False
def ResLP(E:EK)(G H:Hp)(r:ResL)(P:List D->Prop):Prop:=match r with
 |.ok ds=>P ds
 |.er c=>∀G' H',Ext G H G' H'->E c H'
 |.st=>False
section
variable{E:EK}{G H G' H':Hp}
def ResP.mono(h:ResP E G H r P)(f:∀d,r=.ok d->P d->P' d):ResP E G H r P':=by
 cases r with
 |ok d=>exact f d rfl h
 |er c=>exact h
 |st=>exact h
def ResP.ext(e:Ext G H G' H')(h:ResP E G H r P):ResP E G' H' r P:=by
 cases r with
 |ok d=>exact h
 |er c=>exact λG2 H2 e2=>h G2 H2 (e.trans e2)
 |st=>exact h
theorem ResP.bind{r:Res}(h:ResP E G H (r.bind f) P):ResP E G H r λd=>ResP E G H (f d) P:=by
 cases r with
 |ok d=>exact h
 |er c=>exact h
 |st=>exact h
theorem ResP.of(h:ResP E G H (Res.of o) P):∃d,o=some d/\P d:=by
 cases o with
 |some d=>exact⟨d,rfl,h⟩
 |none=>exact h.elim
def ResLP.mono(h:ResLP E G H r P)(f:∀d,r=.ok d->P d->P' d):ResLP E G H r P':=by
 cases r with
 |ok d=>exact f d rfl h
 |er c=>exact h
 |st=>exact h
def ResLP.ext(e:Ext G H G' H')(h:ResLP E G H r P):ResLP E G' H' r P:=by
 cases r with
 |ok d=>exact h
 |er c=>exact λG2 H2 e2=>h G2 H2 (e.trans e2)
 |st=>exact h
end
def ArgM(K:KA)(G H:Hp)(m:Bool)(d:D)(v:V):Prop:=match m with
 |true=>Arg K G H d v
 |false=>Den K G d v
def ArgsM(K:KA)(G H:Hp):List Bool->List D->List V->Prop
 |[],ds,vs=>ds=[]/\vs=[]
 |m::ms,ds,vs=>∃d dr v vr,ds=d::dr/\vs=v::vr/\ArgM K G H m d v/\ArgsM K G H ms dr vr
theorem ArgM.ext{K:KA}{G H G' H':Hp}(e:Ext G H G' H'):∀{m:Bool}{d:D}{v:V},ArgM K G H m d v->ArgM K G' H' m d v
 |true,_,_,h=>Arg.ext e h
 |false,_,_,h=>Den.mono e.gg h
theorem ArgsM.ext{K:KA}{G H G' H':Hp}(e:Ext G H G' H'):∀{ms:List Bool}{ds:List D}{vs:List V},ArgsM K G H ms ds vs->ArgsM K G' H' ms ds vs
 |[],_,_,h=>h
 |_::_,_,_,⟨d,dr,v,vr,h1,h2,h3,h4⟩=>⟨d,dr,v,vr,h1,h2,h3.ext e,h4.ext e⟩
theorem ArgsM.length{K:KA}{G H:Hp}:∀{ms:List Bool}{ds:List D}{vs:List V},ArgsM K G H ms ds vs->ds.length=ms.length/\vs.length=ms.length
 |[],_,_,⟨h1,h2⟩=>by rw[h1,h2];exact⟨rfl,rfl⟩
 |_::_,_,_,⟨d,dr,v,vr,h1,h2,h3,h4⟩=>by
  obtain⟨q1,q2⟩:=h4.length;rw[h1,h2,aM,aM,aM,q1,q2];exact⟨rfl,rfl⟩
section
variable(K:KA)(B:Hp)(E:EK)
def JP(g:En->Res):TE:=λZ H Q=>∃G U,EnvR K B G H Z U/\ResP E G H (g U) λd=>∀v G' H',Ext G H G' H'->Den K G' d v->Q v H'
def DR(g:En->Res):TE:=λZ H Q=>∃G U,EnvR K B G H Z U/\ResP E G H (g U) λd=>∀v G' H',Ext G H G' H'->Arg K G' H' d v->Q v H'
def SD(g:En->Res):TE:=λZ H Q=>∃G U,EnvR K B G H Z U/\ResP E G H (g U) λd=>∃ds,d=.lst ds/\
 ∀a vs G' H',Ext G H G' H'->H a=none->G' a=none->H' a=some (.lst vs)->DenL K G' ds vs->Q (.ref a) H'
def SA(g:En->Res):TT:=λZ H Q=>∃G U,EnvR K B G H Z U/\ResP E G H (g U) λd=>∃b,d=.bl b/\∀G' H',Ext G H G' H'->Q b H'
def SF(ms:List Bool)(g:En->ResL):TA:=λZ H Q=>∃G U,EnvR K B G H Z U/\ResLP E G H (g U) λds=>∀vs G' H',Ext G H G' H'->ArgsM K G' H' ms ds vs->Q vs H'
end
abbrev f9(X:Cx)(B:Hp)(E:EK)(e:Expr)(g:En->Res):Prop:=PE X e (JP (kx X) B E g)
abbrev jw(X:Cx)(B:Hp)(E:EK)(e:Expr)(g:En->Res):Prop:=PE X e (DR (kx X) B E g)
abbrev Xf(X:Cx)(B:Hp)(E:EK)(e:Expr)(g:En->Res):Prop:=PE X e (SD (kx X) B E g)
abbrev Cv(X:Cx)(B:Hp)(E:EK)(e:Expr)(g:En->Res):Prop:=PT X e (SA (kx X) B E g)
abbrev Xg(X:Cx)(B:Hp)(E:EK)(e:Expr)(g:En->Res):Prop:=PW X e (SA (kx X) B E g)
abbrev Mi(X:Cx)(B:Hp)(E:EK)(ms:List Bool)(es:List Expr)(g:En->ResL):Prop:=PA X es (SF (kx X) B E ms g)
def PE.imp(h:PE X e t)(i:∀Z H Q,t' Z H Q->t Z H Q):PE X e t':=λpins s Z H Q I q=>h pins s Z H Q I (i Z H Q q)
def PT.imp(h:PT X e t)(i:∀Z H Q,t' Z H Q->t Z H Q):PT X e t':=λpins s Z H Q I q=>h pins s Z H Q I (i Z H Q q)
def PW.imp(h:PW X e t)(i:∀Z H Q,t' Z H Q->t Z H Q):PW X e t':=λwh pins s Z H Q I q=>h wh pins s Z H Q I (i Z H Q q)
def PA.imp(h:PA X e t)(i:∀Z H Q,t' Z H Q->t Z H Q):PA X e t':=λpos pins s Z H Q I q=>h pos pins s Z H Q I (i Z H Q q)
section
variable{X:Cx}{B:Hp}{E:EK}{e a b c:Expr}{es:List Expr}{g h k:En->Res}{pos:Pos}
noncomputable def dh(i:Nat):En->Res:=λU=>match U[i]? with
 |some (.pu d)=>.ok d
 |_=>.st
noncomputable def aa(i:Nat):En->Res:=λU=>match U[i]? with
 |some (.pu d)=>.ok d
 |some (.bo d)=>.ok d
 |some (.ow ds)=>.ok (.lst ds)
 |some (.od t kvs)=>.ok (.dct t kvs)
 |_=>.st
noncomputable def gC(d:D):En->Res:=λ_=>.ok d
def EnvR.var{K:KA}{G H:Hp}{Z:St}{U:En}{i:Nat}{d:D}(R:EnvR K B G H Z U)(h:U[i]?=some (.pu d)):∃v,Z[i]?=some (some v)/\Den K G d v:=by
 obtain⟨o,q1,v,q2,q3⟩:=R.sl i _ h;exact⟨v,by rw[q1,q2],q3⟩
def EnvR.arg{K:KA}{G H:Hp}{Z:St}{U:En}{i:Nat}{d:D}(R:EnvR K B G H Z U)(h:aa i U=.ok d):∃v,Z[i]?=some (some v)/\Arg K G H d v:=by
 unfold aa at h;cases e:U[i]? with
 |none=>rw[e]at h;cases h
 |some s=>
  rw[e]at h;obtain⟨o,q1,q2⟩:=R.sl i _ e;cases s with
  |no=>cases h
  |pu d'=>
   cases h;obtain⟨v,q2,q3⟩:=q2;exact⟨v,by rw[q1,q2],.inl q3⟩
  |bo d'=>
   cases h;obtain⟨v,q2,q3⟩:=q2;exact⟨v,by rw[q1,q2],QL R.bh q3⟩
  |ow ds=>
   cases h;obtain⟨a,vs,q2,q3,q4⟩:=q2;exact⟨.ref a,by rw[q1,q2],.inr (.inl ⟨ds,a,vs,rfl,rfl,SqL.of q3,q4⟩)⟩
  |od t kvs=>
   cases h;cases t with
   |false=>
    obtain⟨a,vs,q2,q3,q4⟩:=q2;exact⟨.ref a,by rw[q1,q2],.inr (.inr ⟨false,kvs,a,rfl,rfl,.inl ⟨rfl,vs,q3,q4⟩⟩)⟩
   |true=>
    obtain⟨a,vs,q2,q3,q4⟩:=q2;exact⟨.ref a,by rw[q1,q2],.inr (.inr ⟨true,kvs,a,rfl,rfl,.inr ⟨rfl,vs,q3,q4⟩⟩)⟩
def HZ(i:Nat){x:Str}(h:PE X (.Name x pos) (Dm i)):f9 X B E (.Name x pos) (dh i):=PE.imp h λZ H Q ⟨G,U,R,q⟩=>by
 unfold dh at q;cases e:U[i]? with
 |none=>rw[e]at q;exact q.elim
 |some s=>
  rw[e]at q;cases s with
  |pu d=>
   obtain⟨v,q1,q2⟩:=R.var e;exact⟨v,q1,q v G H (Ext.refl R.gh) q2⟩
  |no=>exact q.elim
  |bo d=>exact q.elim
  |ow d=>exact q.elim
  |od t d=>exact q.elim
def DF(i:Nat)(h:PE X (.Name x pos) (Dm i)):jw X B E (.Name x pos) (aa i):=PE.imp h λZ H Q ⟨G,U,R,q⟩=>by
 cases e:aa i U with
 |ok d=>
  rw[e]at q;obtain⟨v,q1,q2⟩:=R.arg e;exact⟨v,q1,q v G H (Ext.refl R.gh) q2⟩
 |er c=>
  unfold aa at e;split at e<;>cases e
 |st=>rw[e]at q;exact q.elim
def LD(h:f9 X B E e g):jw X B E e g:=PE.imp h λZ H Q ⟨G,U,R,q⟩=>⟨G,U,R,q.mono λd _ q v G' H' x y=>q v G' H' x (.inl y)⟩
def qq(h:PE X e (tC v))(r:∀H,Den (kx X) H d v):f9 X B E e (gC d):=PE.imp h λZ H Q ⟨G,U,R,q⟩=>q v G H (Ext.refl R.gh) (r G)
def GK{i j}:f9 X B E (.Constant (.int i) j pos) (gC (.int i)):=qq U1 λ_=>rfl
def LC{b j}:f9 X B E (.Constant (.bool b) j pos) (gC (.bl b)):=qq LL λ_=>rfl
def GE{j}:f9 X B E (.Constant .none j pos) (gC .non):=qq FA λ_=>rfl
def Vo{x j}:f9 X B E (.Constant (.str x) j pos) (gC (.str x)):=qq U4 λ_=>rfl
def Z4(hg:Gl X x)(hm:X.mg x=some (.str y t))(hd:(x==("__debug__":Str))=false:=by decide):f9 X B E (.Name x pos) (gC (.str y)):=qq (v:=.str y) (N0 hg hm ⟨t,rfl⟩ hd) λ_=>rfl
def kg(h:mg x=some (.ref f)):y6 mg x=f:=by unfold y6;rw[h]
def GL(hg:Gl X x)(hm:X.mg x=some (.ref f))(hd:(x==("__debug__":Str))=false:=by decide):f9 X B E (.Name x pos) (gC (.fn x)):=qq (N0 (v:=.ref f) hg hm rfl hd) λ_=>by show V.ref f=V.ref (y6 X.mg x);rw[kg hm]
noncomputable def g1(f:D->Option D)(g:En->Res):En->Res:=λU=>(g U).bind λx=>Res.of (f x)
noncomputable def g2(f:D->D->Option D)(g h:En->Res):En->Res:=λU=>(g U).bind λx=>(h U).bind λy=>Res.of (f x y)
def iw(K:KA)(f:D->D->Option D)(r:R2):Prop:=∀G H x y dx dy d,Same G H->Arg K G H dx x->Arg K G H dy y->f dx dy=some d->
 ∀Q:VK,(∀v G' H',Ext G H G' H'->Den K G' d v->Q v H')->r x y H Q
def BG(K:KA)(f:D->Option D)(r:V->Hp->VK->Prop):Prop:=∀G H x dx d,Same G H->Arg K G H dx x->f dx=some d->
 ∀Q:VK,(∀v G' H',Ext G H G' H'->Den K G' d v->Q v H')->r x H Q
def OQ{K:KA}{f:D->D->Option D}{r:R2}(hp:iw K f r){Z:St}{H:Hp}{Q:VK}(q:JP K B E (g2 f g h) Z H Q):NR r (DR K B E g) (DR K B E h) Z H Q:=by
 obtain⟨G,U,R,q⟩:=q;refine⟨G,U,R,(ResP.bind q).mono λdx _ qx x G1 H1 e1 ax=>⟨G1,U,R.ext e1,((ResP.bind qx).ext e1).mono λdy _ qy y G2 H2 e2 ay=>?_⟩⟩;obtain⟨d,ed,qd⟩:=ResP.of qy;exact hp G2 H2 x y dx dy d e2.gh (ax.ext e2) ay ed Q λv G' H' e3 dn=>qd v G' H' ((e1.trans e2).trans e3) dn
def TC{K:KA}{f:D->Option D}{r:V->Hp->VK->Prop}(hp:BG K f r){Z:St}{H:Hp}{Q:VK}(q:JP K B E (g1 f g) Z H Q):TZ r (DR K B E g) Z H Q:=by
 obtain⟨G,U,R,q⟩:=q;refine⟨G,U,R,(ResP.bind q).mono λdx _ qx x G1 H1 e1 ax=>?_⟩;obtain⟨d,ed,qd⟩:=ResP.of qx;exact hp G1 H1 x dx d e1.gh ax ed Q λv G' H' e3 dn=>qd v G' H' (e1.trans e3) dn
def Ej(ho:OpR X (fM op) r)(hp:iw (kx X) f r)(ha:jw X B E a g)(hb:jw X B E b h):f9 X B E (.BinOp a op b pos) (g2 f g h):=
 PE.imp (U2 ho ha hb) λZ H Q q=>OQ hp q
def MV(ho:OT X (unaryOp op) r)(hp:BG (kx X) f r)(ha:jw X B E a g):f9 X B E (.UnaryOp op a pos) (g1 f g):=
 PE.imp (LG ho ha) λZ H Q q=>TC hp q
def GM(ho:OpR X (bX op) r)(hp:iw (kx X) f r)(ha:jw X B E a g)(hb:jw X B E b h)(hm:iB op b=false):f9 X B E (.Compare a [op] [b] pos) (g2 f g h):=
 PE.imp (Zn ho ha hb hm) λZ H Q q=>OQ hp q
def Zz{op:CmpOp}{f:D->D->Option D}{r:R2}(ho:OpR X (bX op) r)(hp:iw (kx X) f r)(hb':∀x y d,f x y=some d->∃b,d=.bl b)(ha:jw X B E a g)(hb:jw X B E b h)(hm:iB op b=false):Cv X B E (.Compare a [op] [b] pos) (g2 f g h):=
 PT.imp (N7 ho ha hb hm) λZ H Q ⟨G,U,R,q⟩=>OQ hp ⟨G,U,R,q.mono λd ed ⟨b,eb,qb⟩ v G' H' e3 dn=>by
  subst eb;exact⟨b,dn,qb G' H' e3⟩⟩
noncomputable def Dn:D->Option Bool
 |.non=>some false
 |.bl b=>some b
 |.int i=>some (i !=0)
 |.str x=>if x.length<=aD then some ((x.length:Int) !=0)else none
 |.tup ds=>some !ds.isEmpty
 |.lst ds=>some !ds.isEmpty
 |_=>none
def bD(o:Option Bool):Option D:=o.map .bl
def zq{K:KA}{G:Hp}{ds:List D}{vs:List V}(h:DenL K G ds vs):(!ds.isEmpty)= !vs.isEmpty:=by
 have q:=h.length;cases ds<;>cases vs<;>first|rfl|(simp at q)
def BR{K:KA}{G H:Hp}{d:D}{v:V}{b:Bool}(s:Same G H)(h:Arg K G H d v)(e:Dn d=some b):DH K v H b:=by
 cases d with
 |non=>rw[h.non];cases e;rfl
 |bl i=>rw[h.bl];cases e;rfl
 |int i=>rw[h.int];cases e;rfl
 |str x=>
  rw[h.str];have e':(if x.length<=aD then some ((x.length:Int) !=0)else none)=some b:=e
  by_cases hx:x.length<=aD
  ·rw[aB hx]at e';cases e';exact⟨hx,rfl⟩
  ·rw[aG hx]at e';cases e'
 |tup ds=>
  obtain⟨a,vs,rfl,q1,q2⟩:=h.tup s;cases e;exact .inr (.inl ⟨vs,q1,zq q2⟩)
 |lst ds=>
  obtain⟨a,vs,rfl,q1,q2⟩:=h.lst s;cases e;exact .inl ⟨vs,q1,zq q2⟩
 |dct _ _=>cases e
 |obj _ _=>cases e
 |fn _=>cases e
def Vh(ha:jw X B E a g)(he:∀whole,isTrue a X.env whole=(do let v <-whole;standAt a.pos;holding [v] (truthy v)):=by intro _;rfl):Cv X B E a (g1 (λd=>bD (Dn d)) g):=
 PT.imp (Vi ha he) λZ H Q ⟨G,U,R,q⟩=>⟨G,U,R,(ResP.bind q).mono λdx _ qx x G1 H1 e1 ax=>by
  obtain⟨d,ed,b,eb,qb⟩:=ResP.of qx;dsimp only at ed;cases et:Dn dx with
  |none=>rw[et]at ed;cases ed
  |some b'=>
   rw[et]at ed;cases ed;cases eb;exact⟨b,BR e1.gh ax et,qb G1 H1 e1⟩⟩
def Xi(c a b:En->Res):En->Res:=λU=>(c U).bind λd=>match d with
 |.bl true=>a U
 |.bl false=>b U
 |_=>.st
noncomputable def fy(c:En->Res):En->Res:=λU=>(c U).bind λd=>match d with
 |.bl b=>.ok (.bl !b)
 |_=>.st
noncomputable def ro(a b:En->Res):En->Res:=Xi a b (gC (.bl false))
noncomputable def m7(a b:En->Res):En->Res:=Xi a (gC (.bl true)) b
def KH{K:KA}{P:D->Prop}{c:En->Res}{U:En}{a b:En->Res}{G H:Hp}(q:ResP E G H (Xi c a b U) P):
  ResP E G H (c U) λd=>∃t,d=.bl t/\(t=true->ResP E G H (a U) P)/\(t=false->ResP E G H (b U) P):=
 (ResP.bind q).mono λd _ q=>by
  cases d with
  |bl t=>cases t with
   |true=>exact⟨true,rfl,λ_=>q,λz=>by cases z⟩
   |false=>exact⟨false,rfl,λz=>(by cases z),λ_=>q⟩
  |non=>exact q.elim
  |int _=>exact q.elim
  |str _=>exact q.elim
  |tup _=>exact q.elim
  |lst _=>exact q.elim
  |dct _ _=>exact q.elim
  |obj _ _=>exact q.elim
  |fn _=>exact q.elim
def Z0(ha:Cv X B E a g):Cv X B E (.UnaryOp .Not a pos) (fy g):=PT.imp (GS ha) λZ H Q ⟨G,U,R,q⟩=>⟨G,U,R,(ResP.bind q).mono λd _ q=>by
 cases d with
 |bl t=>
  obtain⟨b,eb,qb⟩:=q;cases eb;exact⟨t,rfl,qb⟩
 |non=>exact q.elim
 |int _=>exact q.elim
 |str _=>exact q.elim
 |tup _=>exact q.elim
 |lst _=>exact q.elim
 |dct _ _=>exact q.elim
 |obj _ _=>exact q.elim
 |fn _=>exact q.elim⟩
def Vq(ha:Cv X B E a g):Xg X B E (.BoolOp .And [a] pos) g:=Z9 ha
def AZ(ha:Cv X B E a g):Xg X B E (.BoolOp .Or [a] pos) g:=HV ha
def Z8{cx:List Expr}(ha:Cv X B E a g)(hb:Xg X B E (.BoolOp .And (b::cx) pos) h):Xg X B E (.BoolOp .And (a::b::cx) pos) (ro g h):=
 PW.imp (HX ha hb) λZ H Q ⟨G,U,R,q⟩=>⟨G,U,R,(KH (K:=(kx X)) q).mono λd _ ⟨t,ed,qt⟩=>⟨t,ed,λG1 H1 e1=>by
  cases t with
  |true=>exact⟨G1,U,R.ext e1,((qt.1 rfl).ext e1).mono λd _ ⟨b,eb,qb⟩=>⟨b,eb,λG2 H2 e2=>qb G2 H2 (e1.trans e2)⟩⟩
  |false=>
   obtain⟨b,eb,qb⟩:=(qt.2 rfl);cases eb;exact qb G1 H1 e1⟩⟩
def HW{cx:List Expr}(ha:Cv X B E a g)(hb:Xg X B E (.BoolOp .Or (b::cx) pos) h):Xg X B E (.BoolOp .Or (a::b::cx) pos) (m7 g h):=
 PW.imp (MU ha hb) λZ H Q ⟨G,U,R,q⟩=>⟨G,U,R,(KH (K:=(kx X)) q).mono λd _ ⟨t,ed,qt⟩=>⟨t,ed,λG1 H1 e1=>by
  cases t with
  |false=>exact⟨G1,U,R.ext e1,((qt.2 rfl).ext e1).mono λd _ ⟨b,eb,qb⟩=>⟨b,eb,λG2 H2 e2=>qb G2 H2 (e1.trans e2)⟩⟩
  |true=>
   obtain⟨b,eb,qb⟩:=(qt.1 rfl);cases eb;exact qb G1 H1 e1⟩⟩
def LF(h:Xg X B E e g):Cv X B E e g:=PW.pt h
def Vn{op}(h:f9 X B E a g):f9 X B E (.BoolOp op [a] pos) g:=GY h
def GO{cx:List Expr}(ha:f9 X B E a g)(hb:f9 X B E (.BoolOp .And (b::cx) pos) h):f9 X B E (.BoolOp .And (a::b::cx) pos) (ro g h):=
 PE.imp (FD ha hb) λZ H Q ⟨G,U,R,q⟩=>⟨G,U,R,(KH (K:=(kx X)) q).mono λd _ ⟨t,ed,qt⟩ v G1 H1 e1 dn=>by
  subst ed;refine⟨t,dn,?_⟩;cases t with
  |true=>exact⟨G1,U,R.ext e1,((qt.1 rfl).ext e1).mono λd _ qb v G2 H2 e2 dn=>qb v G2 H2 (e1.trans e2) dn⟩
  |false=>exact(qt.2 rfl) _ G1 H1 e1 rfl⟩
def MW{cx:List Expr}(ha:f9 X B E a g)(hb:f9 X B E (.BoolOp .Or (b::cx) pos) h):f9 X B E (.BoolOp .Or (a::b::cx) pos) (m7 g h):=
 PE.imp (LH ha hb) λZ H Q ⟨G,U,R,q⟩=>⟨G,U,R,(KH (K:=(kx X)) q).mono λd _ ⟨t,ed,qt⟩ v G1 H1 e1 dn=>by
  subst ed;refine⟨t,dn,?_⟩;cases t with
  |false=>exact⟨G1,U,R.ext e1,((qt.2 rfl).ext e1).mono λd _ qb v G2 H2 e2 dn=>qb v G2 H2 (e1.trans e2) dn⟩
  |true=>exact(qt.1 rfl) _ G1 H1 e1 rfl⟩
def GD(ha:f9 X B E a g):f9 X B E (.UnaryOp .Not a pos) (fy g):=PE.imp (GZ ha) λZ H Q ⟨G,U,R,q⟩=>⟨G,U,R,(ResP.bind q).mono λd _ q v G1 H1 e1 dn=>by
 cases d with
 |bl t=>exact⟨t,dn,q _ G1 H1 e1 rfl⟩
 |non=>exact q.elim
 |int _=>exact q.elim
 |str _=>exact q.elim
 |tup _=>exact q.elim
 |lst _=>exact q.elim
 |dct _ _=>exact q.elim
 |obj _ _=>exact q.elim
 |fn _=>exact q.elim⟩
def MY{c:Expr}(hc:Cv X B E c k)(ha:f9 X B E a g)(hb:f9 X B E b h):f9 X B E (.IfExp c a b pos) (Xi k g h):=
 PE.imp (Je hc ha hb) λZ H Q ⟨G,U,R,q⟩=>⟨G,U,R,(KH (K:=(kx X)) q).mono λd _ ⟨t,ed,qt⟩=>⟨t,ed,λG1 H1 e1=>by
  cases t with
  |true=>exact⟨G1,U,R.ext e1,((qt.1 rfl).ext e1).mono λd _ qb v G2 H2 e2 dn=>qb v G2 H2 (e1.trans e2) dn⟩
  |false=>exact⟨G1,U,R.ext e1,((qt.2 rfl).ext e1).mono λd _ qb v G2 H2 e2 dn=>qb v G2 H2 (e1.trans e2) dn⟩⟩⟩
noncomputable def ak:En->ResL:=λ_=>.ok []
noncomputable def ae(g:En->Res)(r:En->ResL):En->ResL:=λU=>match g U with
 | .ok d => (match r U with
  |.ok ds=>.ok (d::ds)
  |.er c=>.er c
  |.st=>.st)
 |.er c=>.er c
 |.st=>.st
def CW(q:ResLP E G H (ae g r U) P):ResP E G H (g U) λd=>ResLP E G H (r U) λds=>P (d::ds):=by
 unfold ae at q;cases e:g U with
 |ok d=>
  rw[e]at q;cases e2:r U with
  |ok ds=>rw[e2]at q;exact q
  |er c=>rw[e2]at q;exact q
  |st=>rw[e2]at q;exact q
 |er c=>rw[e]at q;exact q
 |st=>rw[e]at q;exact q
def lr:Mi X B E [] [] ak:=PA.imp B0 λZ H Q ⟨G,U,R,q⟩=>q [] G H (Ext.refl R.gh) ⟨rfl,rfl⟩
def kh(ha:jw X B E e g)(hr:Mi X B E ms es r)(hs:aQ (e::es) X.env=(false,eval e X.env)::aQ es X.env:=by rfl):Mi X B E (true::ms) (e::es) (ae g r):=
 PA.imp (o8 ha hr hs) λZ H Q ⟨G,U,R,q⟩=>⟨G,U,R,(CW q).mono λd _ q x G1 H1 e1 ax=>⟨G1,U,R.ext e1,(q.ext e1).mono λds _ q vs G2 H2 e2 al=>
  q (x::vs) G2 H2 (e1.trans e2) ⟨d,ds,x,vs,rfl,rfl,ax.ext e2,al⟩⟩⟩
def A0(ha:f9 X B E e g)(hr:Mi X B E ms es r)(hs:aQ (e::es) X.env=(false,eval e X.env)::aQ es X.env:=by rfl):Mi X B E (false::ms) (e::es) (ae g r):=
 PA.imp (o8 ha hr hs) λZ H Q ⟨G,U,R,q⟩=>⟨G,U,R,(CW q).mono λd _ q x G1 H1 e1 ax=>⟨G1,U,R.ext e1,(q.ext e1).mono λds _ q vs G2 H2 e2 al=>
  q (x::vs) G2 H2 (e1.trans e2) ⟨d,ds,x,vs,rfl,rfl,ax.mono e2.gg,al⟩⟩⟩
def Fc:List Bool->Bool
 |[]=>true
 |b::r=> !b && Fc r
theorem ArgsM.den{K:KA}{G H:Hp}:∀{ms:List Bool}{ds:List D}{vs:List V},Fc ms=true->ArgsM K G H ms ds vs->DenL K G ds vs
 |[],_,_,_,⟨h1,h2⟩=>by subst h1;subst h2;exact rfl
 |true::_,_,_,h,_=>by simp[Fc]at h
 |false::ms,_,_,h,⟨d,dr,v,vr,h1,h2,h3,h4⟩=>by
  subst h1;subst h2;exact⟨v,vr,rfl,h3,ArgsM.den (by simpa[Fc]using h) h4⟩
noncomputable def k8(r:En->ResL):En->Res:=λU=>match r U with
 |.ok ds=>if ds.length<=aD then .ok (.tup ds)else .st
 |.er c=>.er c
 |.st=>.st
noncomputable def ie(r:En->ResL):En->Res:=λU=>match r U with
 |.ok ds=>if ds.length<=aD then .ok (.lst ds)else .st
 |.er c=>.er c
 |.st=>.st
def SZ(q:ResP E G H (k8 r U) P):ResLP E G H (r U) λds=>ds.length<=aD/\P (.tup ds):=by
 unfold k8 at q;cases e:r U with
 |ok ds=>
  rw[e]at q
  by_cases hl:ds.length<=aD
  ·simp only[aB hl]at q;exact⟨hl,q⟩
  ·simp only[aG hl]at q;exact q.elim
 |er c=>rw[e]at q;exact q
 |st=>rw[e]at q;exact q
def RZ(q:ResP E G H (ie r U) P):ResLP E G H (r U) λds=>ds.length<=aD/\P (.lst ds):=by
 unfold ie at q;cases e:r U with
 |ok ds=>
  rw[e]at q
  by_cases hl:ds.length<=aD
  ·simp only[aB hl]at q;exact⟨hl,q⟩
  ·simp only[aG hl]at q;exact q.elim
 |er c=>rw[e]at q;exact q
 |st=>rw[e]at q;exact q
theorem DenL.upd{K:KA}{G:Hp}{p:Addr}{ds:List D}{vs:List V}(h:DenL K G ds vs)(n:G p=none)(o:HO):DenL K (upd G p o) ds vs:=h.mono (f7 n o)
def ff(s:Same G H)(n:H p=none):G p=none:=by
 cases e:G p with
 |none=>rfl
 |some u=>rw[s p u e]at n;cases n
def uf{K:KA}{G H:Hp}{p:Addr}{ds:List D}{vs:List V}(s:Same G H)(n:H p=none)(h:DenL K G ds vs):Den K (upd G p (.tup vs)) (.tup ds) (.ref p):=
 ⟨p,vs,rfl,bz,h.upd (ff s n) _⟩
def A7{K:KA}{G H:Hp}{p:Addr}{ds:List D}{vs:List V}(s:Same G H)(n:H p=none)(h:DenL K G ds vs):Den K (upd G p (.lst vs)) (.lst ds) (.ref p):=
 ⟨p,vs,rfl,SqL.of bz,h.upd (ff s n) _⟩
def GA{x1}{ms:List Bool}{r:En->ResL}(hm:Fc ms=true)(h:Mi X B E ms es r):f9 X B E (.Tuple es x1 pos) (k8 r):=
 PE.imp (GX h) λZ H Q ⟨G,U,R,q⟩=>⟨G,U,R,(SZ q).mono λds _ ⟨hl,q⟩ vs G1 H1 e1 al=>by
  have dl:=al.den hm;refine⟨by rw[<-dl.length];exact hl,λp hp=>q _ (upd G1 p (.tup vs)) _ (e1.trans (Ext.new e1.gh _ hp)) (uf e1.gh hp dl)⟩⟩
def Ut{ms:List Bool}{r:En->ResL}(hm:Fc ms=true)(h:Mi X B E ms es r):Xf X B E (.List es pos) (ie r):=
 PE.imp (FC h) λZ H Q ⟨G,U,R,q⟩=>⟨G,U,R,(RZ q).mono λds _ ⟨hl,ds',ed,q⟩ vs G1 H1 e1 al=>by
  cases ed;have dl:=al.den hm;refine⟨by rw[<-dl.length];exact hl,λp hp=>q p vs G1 _ (e1.trans (Ext.own e1.gh _ hp)) (ff e1.hh hp) (ff e1.gh hp) bz dl⟩⟩
def Ext.freeze{G H G' H':Hp}{a:Addr}{vs:List V}(e:Ext G H G' H')(hn:H a=none)(gn:G' a=none)(h:H' a=some (.lst vs)):Ext G H (upd G' a (.lst vs)) H':=by
 refine⟨e.gg.trans (f7 gn _),e.hh,λb u q=>?_,λb u q g z=>?_⟩
 ·by_cases z:b=a
  ·subst z;rw[bz]at q;rw[h];exact q
  ·rw[bt z]at q;exact e.gh b u q
 ·rw[bt (c7 q hn)];exact e.fr b u q g z
def JE(g:En->Res):Prop:=∀U d,g U=.ok d->∃ds,d=.lst ds
def Yk:JE (ie r):=λU d h=>by
 unfold ie at h;cases e:r U with
 |ok ds=>
  rw[e]at h
  by_cases hl:ds.length<=aD
  ·simp only[aB hl]at h;cases h;exact⟨ds,rfl⟩
  ·simp only[aG hl]at h;cases h
 |er c=>rw[e]at h;cases h
 |st=>rw[e]at h;cases h
def Uu(h:Xf X B E e g)(hl:JE g):f9 X B E e g:=PE.imp h λZ H Q ⟨G,U,R,q⟩=>⟨G,U,R,q.mono λd ed q=>by
 obtain⟨ds,rfl⟩:=hl U d ed;exact⟨ds,rfl,λa vs G' H' e1 hn gn hh dl=>q _ (upd G' a (.lst vs)) H' (e1.freeze hn gn hh) ⟨a,vs,rfl,SqL.of bz,dl.mono (f7 gn _)⟩⟩⟩
def GI(hm:Fc ms=true)(h:Mi X B E ms es r):f9 X B E (.List es pos) (ie r):=Uu (Ut hm h) Yk
end
inductive Out where
 |nx (U:En)
 |bk (U:En)
 |ct (U:En)
 |rt (d:D)
 |er (c:Str)
 |st
def OutP(K:KA)(G0 B:Hp)(E:EK)(G:Hp)(o:Out)(D:Ends):Prop:=match o with
 |.nx U=>∀σ' G' H',Same G G'->EnvR K B G' H' σ' U->Ext G0 B G' H'->D.nx σ' H'
 |.bk U=>∀σ' G' H',Same G G'->EnvR K B G' H' σ' U->Ext G0 B G' H'->D.bk σ' H'
 |.ct U=>∀σ' G' H',Same G G'->EnvR K B G' H' σ' U->Ext G0 B G' H'->D.ct σ' H'
 |.rt d=>∀v G' H',Ext G0 B G' H'->Den K G' d v->D.rt v H'
 |.er c=>∀G' H',Ext G0 B G' H'->E c H'
 |.st=>False
def NN(K:KA)(G0 B:Hp)(E:EK)(F:En->Out):TS:=λD Z H=>∃G U,EnvR K B G H Z U/\Ext G0 B G H/\OutP K G0 B E G (F U) D
abbrev ph(X:Cx)(G0 B:Hp)(E:EK)(st:Stmt)(F:En->Out):Prop:=PS X st (NN (kx X) G0 B E F)
abbrev yb(X:Cx)(G0 B:Hp)(E:EK)(st:List Stmt)(F:En->Out):Prop:=PSs X st (NN (kx X) G0 B E F)
def PS.imp{X:Cx}{st:Stmt}{t t':TS}(h:PS X st t)(i:∀D Z H,t' D Z H->t D Z H):PS X st t':=λpins s Z H D I q=>h pins s Z H D I (i D Z H q)
def PSs.imp{X:Cx}{st:List Stmt}{t t':TS}(h:PSs X st t)(i:∀D Z H,t' D Z H->t D Z H):PSs X st t':=λpins s Z H D I q=>h pins s Z H D I (i D Z H q)
def OutP.same{K:KA}{G0 B:Hp}{E:EK}{G G1:Hp}{o:Out}{D:Ends}(s:Same G G1)(h:OutP K G0 B E G o D):OutP K G0 B E G1 o D:=by
 cases o with
 |nx U=>exact λσ' G' H' q=>h σ' G' H' (s.trans q)
 |bk U=>exact λσ' G' H' q=>h σ' G' H' (s.trans q)
 |ct U=>exact λσ' G' H' q=>h σ' G' H' (s.trans q)
 |rt d=>exact h
 |er c=>exact h
 |st=>exact h
def Res.then(r:Res)(f:D->Out):Out:=match r with
 |.ok d=>f d
 |.er c=>.er c
 |.st=>.st
def sx{K:KA}{G0 B:Hp}{E:EK}{G H:Hp}{r:Res}{f:D->Out}{D:Ends}(e:Ext G0 B G H)(h:OutP K G0 B E G (r.then f) D):ResP E G H r λd=>OutP K G0 B E G (f d) D:=by
 cases r with
 |ok d=>exact h
 |er c=>exact λG' H' q=>h G' H' (e.trans q)
 |st=>exact h
section
variable{X:Cx}{G0 B:Hp}{E:EK}{e c:Expr}{st:Stmt}{cx ss tt:List Stmt}{F F1 F2:En->Out}{g:En->Res}{pos:Pos}
noncomputable def fc:En->Out:=λU=>.nx U
noncomputable def ba(F1 F2:En->Out):En->Out:=λU=>match F1 U with
 |.nx δ'=>F2 δ'
 |o=>o
def IT:yb X G0 B E [] fc:=PSs.imp Zy λD Z H ⟨G,U,R,e,q⟩=>q Z G H (Same.refl G) R e
def RM{K:KA}{D:Ends}{Z:St}{H:Hp}(q:NN K G0 B E (ba F1 F2) D Z H):NO (NN K G0 B E F1) (NN K G0 B E F2) D Z H:=by
 obtain⟨G,U,R,e,q⟩:=q;refine⟨G,U,R,e,?_⟩;unfold ba at q;cases ef:F1 U with
 |nx δ'=>
  rw[ef]at q;exact λσ' G' H' s R' e'=>⟨G',δ',R',e',OutP.same s q⟩
 |bk δ'=>rw[ef]at q;exact q
 |ct δ'=>rw[ef]at q;exact q
 |rt d=>rw[ef]at q;exact q
 |er c=>rw[ef]at q;exact q
 |st=>rw[ef]at q;exact q
def AC(h1:ph X G0 B E st F1)(h2:yb X G0 B E cx F2):yb X G0 B E (st::cx) (ba F1 F2):=PSs.imp (Vf h1 h2) λD Z H q=>RM q
def IS(h1:ph X G0 B E st F1):yb X G0 B E [st] F1:=Gd h1
def Oe:En->Out:=λU=>.nx U
def MF{x j pos pos'}:ph X G0 B E (.Expr (.Constant (.str x) j pos) pos') Oe:=PS.imp GW λD Z H ⟨G,U,R,e,q⟩=>q Z G H (Same.refl G) R e
noncomputable def b9(g:En->Res):En->Out:=λU=>(g U).then .rt
def MB(h:f9 X B E e g):ph X G0 B E (.Return (some e) pos) (b9 g):=PS.imp (GU h) λD Z H ⟨G,U,R,e,q⟩=>⟨G,U,R,(sx e q).mono λd _ q v G' H' e1 dn=>q v G' H' (e.trans e1) dn⟩
noncomputable def ml(c:En->Res)(a b:En->Out):En->Out:=λU=>(c U).then λd=>match d with
 |.bl true=>a U
 |.bl false=>b U
 |_=>.st
def RN(hc:Cv X B E c g)(ha:yb X G0 B E ss F1)(hb:yb X G0 B E tt F2):ph X G0 B E (.If c ss tt pos) (ml g F1 F2):=
 PS.imp (CC hc ha hb) λD Z H ⟨G,U,R,e,q⟩=>⟨G,U,R,(sx e q).mono λd _ q=>by
  cases d with
  |bl t=>cases t with
   |true=>exact⟨true,rfl,λG1 H1 e1=>⟨G1,U,R.ext e1,e.trans e1,OutP.same e1.gg q⟩⟩
   |false=>exact⟨false,rfl,λG1 H1 e1=>⟨G1,U,R.ext e1,e.trans e1,OutP.same e1.gg q⟩⟩
  |non=>exact q.elim
  |int _=>exact q.elim
  |str _=>exact q.elim
  |tup _=>exact q.elim
  |lst _=>exact q.elim
  |dct _ _=>exact q.elim
  |obj _ _=>exact q.elim
  |fn _=>exact q.elim⟩
theorem EnvR.set{K:KA}{G H:Hp}{Z:St}{U:En}{i:Nat}{d:D}{v:V}(R:EnvR K B G H Z U)(h:Den K G d v):EnvR K B G H (Z.set i (some v)) (U.set i (.pu d)) where
 bh:=R.bh
 gb:=R.gb
 gh:=R.gh
 len:=by rw[bJ,bJ];exact R.len
 sl:=λj s q=>by
  by_cases z:i=j
  ·subst z;have hl:i<U.length:=by
    have:=(List.getElem?_eq_some_iff.mp q).1;rwa [bJ]at this
   rw[aL hl]at q;cases q;exact⟨some v,aL (by rw[R.len];exact hl),v,rfl,h⟩
  ·rw[aN z]at q⊢;exact R.sl j s q
 own:=λj s a q1 q2 q3=>by
  by_cases z:i=j
  ·subst z;have hl:i<U.length:=by
    have:=(List.getElem?_eq_some_iff.mp q1).1;rwa [bJ]at this
   rw[aL hl]at q1;cases q1;cases q2
  ·rw[aN z]at q1 q3;exact R.own j s a q1 q2 q3
 dis:=λj k s t a q1 q2 q3 q4 q5 q6=>by
  have hj:i≠j:=by
   rintro rfl
   have hl:i<U.length:=by
    have:=(List.getElem?_eq_some_iff.mp q1).1;rwa [bJ]at this
   rw[aL hl]at q1;cases q1;cases q3
  have hk:i≠k:=by
   rintro rfl
   have hl:i<U.length:=by
    have:=(List.getElem?_eq_some_iff.mp q2).1;rwa [bJ]at this
   rw[aL hl]at q2;cases q2;cases q4
  rw[aN hj]at q1 q5;rw[aN hk]at q2 q6;exact R.dis j k s t a q1 q2 q3 q4 q5 q6
noncomputable def cu(i:Nat)(g:En->Res):En->Out:=λU=>(g U).then λd=>.nx (U.set i (.pu d))
def MA{i:Nat}{x:Str}{pos':Pos}(h:f9 X B E e g)(hs:PS X (.Assign [.Name x pos'] e pos) (L1 (JP (kx X) B E g) (uh i))):ph X G0 B E (.Assign [.Name x pos'] e pos) (cu i g):=
 PS.imp hs λD Z H ⟨G,U,R,e,q⟩=>⟨G,U,R,(sx e q).mono λd _ q v G' H' e1 dn=>q _ G' H' e1.gg ((R.ext e1).set dn) (e.trans e1)⟩
def EnvR.setO{K:KA}{G H G' H':Hp}{Z:St}{U:En}{i:Nat}{ds:List D}{a:Addr}{vs:List V}(R:EnvR K B G H Z U)(e:Ext G H G' H')(hn:H a=none)(gn:G' a=none)(hh:H' a=some (.lst vs))(dl:DenL K G' ds vs):
  EnvR K B G' H' (Z.set i (some (.ref a))) (U.set i (.ow ds)):=by
 have R':=R.ext e;have bn:B a=none:=ff R.bh hn;have oth:∀(j:Nat) s,U[j]?=some s->s.own=true->Z[j]?=some (some (.ref a))->False:=λj s q1 q2 q3=>by
  obtain⟨o,z1,z2⟩:=R.sl j s q1;rw[q3]at z1;cases z1;obtain⟨a',z,u,z3,_⟩:=z2.ref q2;cases z;rw[hn]at z3;cases z3
 have at_i:∀{s:Sl},(U.set i (.ow ds))[i]?=some s->s=.ow ds/\i<U.length:=λq=>by
  have hl:i<U.length:=by
   have:=(List.getElem?_eq_some_iff.mp q).1;rwa [bJ]at this
  rw[aL hl]at q;cases q;exact⟨rfl,hl⟩
 refine⟨R'.bh,R'.gh,by rw[bJ,bJ];exact R.len,λj s q=>?_,λj s b q1 q2 q3=>?_,λj k s t b q1 q2 q3 q4 q5 q6=>?_,R.gb⟩
 ·by_cases z:i=j
  ·subst z;obtain⟨rfl,hl⟩:=at_i q;exact⟨some (.ref a),aL (by rw[R.len];exact hl),a,vs,rfl,hh,dl⟩
  ·rw[aN z]at q⊢;exact R'.sl j s q
 ·by_cases z:i=j
  ·subst z;obtain⟨rfl,hl⟩:=at_i q1;rw[aL (by rw[R.len];exact hl)]at q3;cases q3;exact⟨gn,bn⟩
  ·rw[aN z]at q1 q3;exact R'.own j s b q1 q2 q3
 ·by_cases zj:i=j
  ·subst zj;obtain⟨rfl,hl⟩:=at_i q1;rw[aL (by rw[R.len];exact hl)]at q5;cases q5
   by_cases zk:i=k
   ·exact zk
   ·rw[aN zk]at q2 q6;exact(oth k t q2 q4 q6).elim
  ·rw[aN zj]at q1 q5
   by_cases zk:i=k
   ·subst zk;obtain⟨rfl,hl⟩:=at_i q2;rw[aL (by rw[R.len];exact hl)]at q6;cases q6;exact(oth j s q1 q3 q5).elim
   ·rw[aN zk]at q2 q6;exact R'.dis j k s t b q1 q2 q3 q4 q5 q6
def lh(i:Nat)(g:En->Res):En->Out:=λU=>(g U).then λd=>match d with
 |.lst ds=>.nx (U.set i (.ow ds))
 |_=>.st
def V4{i:Nat}{x:Str}{pos':Pos}(h:Xf X B E e g)(hs:PS X (.Assign [.Name x pos'] e pos) (L1 (SD (kx X) B E g) (uh i))):ph X G0 B E (.Assign [.Name x pos'] e pos) (lh i g):=
 PS.imp hs λD Z H ⟨G,U,R,e,q⟩=>⟨G,U,R,(sx e q).mono λd _ q=>by
  cases d with
  |lst ds=>exact⟨ds,rfl,λa vs G' H' e1 hn gn hh dl=>q _ G' H' e1.gg (R.setO e1 hn gn hh dl) (e.trans e1)⟩
  |non=>exact q.elim
  |bl _=>exact q.elim
  |int _=>exact q.elim
  |str _=>exact q.elim
  |tup _=>exact q.elim
  |dct _ _=>exact q.elim
  |obj _ _=>exact q.elim
  |fn _=>exact q.elim⟩
def EnvR.wr{K:KA}{G H:Hp}{Z:St}{U:En}{i:Nat}{ds es:List D}{a:Addr}{vs ws:List V}(R:EnvR K B G H Z U)(hi:U[i]?=some (.ow ds))(hs:Z[i]?=some (some (.ref a)))(ha:H a=some (.lst vs))(dl:DenL K G es ws):
  EnvR K B G (upd H a (.lst ws)) Z (U.set i (.ow es)):=by
 obtain⟨gn,bn⟩:=R.own i _ a hi rfl hs;have hl:i<U.length:=(List.getElem?_eq_some_iff.mp hi).1;have sb:∀{F:Hp},F a=none->Same F H->Same F (upd H a (.lst ws)):=λfn s b u q=>by
  rw[bt (c7 q fn)];exact s b u q
 have ownEq:∀{j:Nat}{s:Sl},(U.set i (.ow es))[j]?=some s->s.own=true->∃s',U[j]?=some s'/\s'.own=true:=λ{j s} q o=>by
  by_cases z:i=j
  ·subst z;exact⟨_,hi,rfl⟩
  ·rw[aN z]at q;exact⟨s,q,o⟩
 refine⟨sb bn R.bh,sb gn R.gh,by rw[bJ];exact R.len,λj s q=>?_,λj s b q1 q2 q3=>?_,λj k s t b q1 q2 q3 q4 q5 q6=>?_,R.gb⟩
 ·by_cases z:i=j
  ·subst z;rw[aL hl]at q;cases q;exact⟨_,hs,a,ws,rfl,bz,dl⟩
  ·rw[aN z]at q;obtain⟨o,z1,z2⟩:=R.sl j s q;refine⟨o,z1,?_⟩;cases s with
   |no=>trivial
   |pu d=>exact z2
   |bo d=>exact z2
   |ow fs=>
    obtain⟨b,us,y1,y2,y3⟩:=z2;have nb:b≠a:=by
     rintro rfl
     subst y1;exact z (R.dis i j _ _ b hi q rfl rfl hs z1)
    exact⟨b,us,y1,by rw[bt nb];exact y2,y3⟩
   |od t fs=>
    cases t with
    |false=>
     obtain⟨b,us,y1,y2,y3⟩:=z2;have nb:b≠a:=by
      rintro rfl
      rw[ha]at y2;cases y2
     exact⟨b,us,y1,by rw[bt nb];exact y2,y3⟩
    |true=>
     obtain⟨b,us,y1,y2,y3⟩:=z2;have nb:b≠a:=by
      rintro rfl
      rw[ha]at y2;cases y2
     exact⟨b,us,y1,by rw[bt nb];exact y2,y3⟩
 ·obtain⟨s',z1,z2⟩:=ownEq q1 q2;exact R.own j s' b z1 z2 q3
 ·obtain⟨s',z1,z2⟩:=ownEq q1 q3;obtain⟨t',y1,y2⟩:=ownEq q2 q4;exact R.dis j k s' t' b z1 y1 z2 y2 q5 q6
def Ext.wr(e:Ext G0 B G H)(gn:G a=none)(bn:B a=none):Ext G0 B G (upd H a o):=
 ⟨e.gg,λb u q=>by rw[bt (c7 q bn)];exact e.hh b u q,λb u q=>by rw[bt (c7 q gn)];exact e.gh b u q,e.fr⟩
def wk:D->Option (List D)
 |.lst ds=>some ds
 |.tup ds=>some ds
 |_=>none
def turns(tg:D->En->Option En)(F:En->Out):List D->En->Out
 |[],U=>.nx U
 |d::r,U=>match tg d U with
  |none=>.st
  |some δ1=>match F δ1 with
   |.nx δ'=>turns tg F r δ'
   |.ct δ'=>turns tg F r δ'
   |.bk δ'=>.nx δ'
   |.rt d=>.rt d
   |.er c=>.er c
   |.st=>.st
end
section
variable{X:Cx}{G0 B:Hp}{E:EK}{e c tg iter:Expr}{st:Stmt}{cx ss tt:List Stmt}{F F1 F2:En->Out}{g:En->Res}{pos:Pos}
def H8(i:Nat):En->Res:=λU=>match U[i]? with
 |some (.pu d)=>.ok d
 |some (.bo d)=>.ok d
 |_=>.st
def UY(K:KA)(B:Hp)(E:EK)(g:En->Res):TE:=λZ H Q=>∃G U,EnvR K B G H Z U/\ResP E G H (g U) λd=>∀v G' H',Ext G H G' H'->Arg K G' B d v->Q v H'
abbrev JX(X:Cx)(B:Hp)(E:EK)(e:Expr)(g:En->Res):Prop:=PE X e (UY (kx X) B E g)
def EX(i:Nat)(h:PE X (.Name x pos) (Dm i)):JX X B E (.Name x pos) (H8 i):=PE.imp h λZ H Q ⟨G,U,R,q⟩=>by
 unfold H8 at q;cases e:U[i]? with
 |none=>rw[e]at q;exact q.elim
 |some s=>
  rw[e]at q;obtain⟨o,q1,q2⟩:=R.sl i _ e;cases s with
  |pu d=>
   obtain⟨v,q3,q4⟩:=q2;exact⟨v,by rw[q1,q3],q v G H (Ext.refl R.gh) (.inl q4)⟩
  |bo d=>
   obtain⟨v,q3,q4⟩:=q2;exact⟨v,by rw[q1,q3],q v G H (Ext.refl R.gh) q4⟩
  |no=>exact q.elim
  |ow d=>exact q.elim
  |od t d=>exact q.elim
def KQ(h:f9 X B E e g):JX X B E e g:=PE.imp h λZ H Q ⟨G,U,R,q⟩=>⟨G,U,R,q.mono λd _ q v G' H' x y=>q v G' H' x (.inl y)⟩
def Cu(K:KA)(J:It)(ds:List D)(S:Hp->Hp->Prop):Prop:=∀(i:Nat) G H,S G H->Same G H->
 (∀d,ds[i]?=some d->J.go i H/\∀x H',J.yld i H x H'->∃G',Ext G H G' H'/\Den K G' d x)/\(ds.length<=i->J.stop i H)
def UU(K:KA)(B:Hp)(E:EK)(g:En->ResL):TI:=λZ H R=>∃G U,EnvR K B G H Z U/\ResLP E G H (g U) λds=>∀J G' H',Ext G H G' H'->Cu K J ds (λG2 H2=>Same G' G2/\Same B H2)->R J H'
def UW(K:KA)(B:Hp)(E:EK)(g:En->ResL):TI:=λZ H R=>∃G U,EnvR K B G H Z U/\ResLP E G H (g U) λds=>∀J G' H',Ext G H G' H'->Cu K J ds (λG2 H2=>Ext G' H' G2 H2)->R J H'
abbrev JW(X:Cx)(B:Hp)(E:EK)(tg iter:Expr)(g:En->ResL):Prop:=PI X tg iter (UU (kx X) B E g)
abbrev Pf(X:Cx)(B:Hp)(E:EK)(tg iter:Expr)(g:En->ResL):Prop:=PI X tg iter (UW (kx X) B E g)
def PI.imp(h:PI X tg iter wi)(i:∀Z H R,wi' Z H R->wi Z H R):PI X tg iter wi':=λpins s Z H R I q=>h pins s Z H R I (i Z H R q)
def K2{K:KA}{a:Addr}{G1:Hp}{ds:List D}{vs:List V}{S:Hp->Hp->Prop}(h:∀G H,S G H->Same G H->SqL K H a vs/\Same G1 G)(dl:DenL K G1 ds vs):Cu K (QR K a) ds S:=λi G H hS sg=>by
 obtain⟨q,g⟩:=h G H hS sg;refine⟨λd ed=>?_,λhl=>⟨vs,q,by rw[<-dl.length];exact hl⟩⟩;obtain⟨v,ev,dv⟩:=dl.get ed;refine⟨⟨vs,v,q,ev⟩,λx H' ⟨e,y⟩=>?_⟩;subst e;have z:=y vs q;rw[ev]at z;cases z;exact⟨G,Ext.refl sg,dv.mono g⟩
def Tr{K:KA}{a:Addr}{G1:Hp}{ds:List D}{vs:List V}{S:Hp->Hp->Prop}(h:∀G H,S G H->Same G H->SqT K H a vs/\Same G1 G)(dl:DenL K G1 ds vs):Cu K (QQ K a) ds S:=λi G H hS sg=>by
 obtain⟨q,g⟩:=h G H hS sg;refine⟨λd ed=>?_,λhl=>⟨vs,q,by rw[<-dl.length];exact hl⟩⟩;obtain⟨v,ev,dv⟩:=dl.get ed;refine⟨⟨vs,v,q,ev⟩,λx H' ⟨e,y⟩=>?_⟩;subst e;have z:=y vs q;rw[ev]at z;cases z;exact⟨G,Ext.refl sg,dv.mono g⟩
def gx(lo:Int)(n:Nat):List D:=(cF n).map λ(i:Nat)=>.int (lo+i)
noncomputable def mv(r:En->ResL):En->ResL:=λU=>match r U with
 |.ok [.int j]=>if -(2 ^ 62)<=j/\j<2 ^ 62 then .ok (gx 0 j.toNat)else .st
 |.ok [.int i,.int j]=>if(-(2 ^ 62)<=i/\i<2 ^ 62)/\(-(2 ^ 62)<=j/\j<2 ^ 62)then .ok (gx i (j - i).toNat)else .st
 |.ok _=>.st
 |.er c=>.er c
 |.st=>.st
def EI{K:KA}{lo:Int}{n:Nat}{S:Hp->Hp->Prop}:Cu K (OV lo n) (gx lo n) S:=λi G H hS sg=>by
 refine⟨λd ed=>?_,λhl=>?_⟩
 ·unfold gx at ed;rw[bW]at ed;cases e:(cF n)[i]? with
  |none=>rw[e]at ed;cases ed
  |some j=>
   rw[e]at ed;have hi:i<n:=by
    have:=(List.getElem?_eq_some_iff.mp e).1;rwa [gN]at this
   rw[List.getElem?_range hi]at e;cases e;cases ed;exact⟨hi,λx H' ⟨z,y⟩=>by subst z;exact⟨G,Ext.refl sg,y⟩⟩
 ·unfold gx at hl;rw[aJ,gN]at hl;exact hl
def ArgsM.one{K:KA}{G H:Hp}{m:Bool}{d:D}{vs:List V}(h:ArgsM K G H [m] [d] vs):∃v,vs=[v]/\Arg K G H d v:=by
 obtain⟨d',dr,v,vr,h1,h2,h3,h4,h5⟩:=h;cases h1;subst h5;refine⟨v,h2,?_⟩;cases m
 ·exact .inl h3
 ·exact h3
def HR(q:ResLP E G H (mv r U) P):ResLP E G H (r U) λds=>
  (∃j,ds=[.int j]/\-(2 ^ 62)<=j/\j<2 ^ 62/\P (gx 0 j.toNat))\/∃i j,ds=[.int i,.int j]/\(-(2 ^ 62)<=i/\i<2 ^ 62/\-(2 ^ 62)<=j/\j<2 ^ 62)/\P (gx i (j - i).toNat):=by
 unfold mv at q;cases e:r U with
 |ok ds=>
  rw[e]at q;show _\/_;split at q
  ·rename_i z;cases z;split at q
   ·rename_i hc;exact .inl ⟨_,rfl,hc.1,hc.2,q⟩
   ·exact q.elim
  ·rename_i z;cases z;split at q
   ·rename_i hc;exact .inr ⟨_,_,rfl,⟨hc.1.1,hc.1.2,hc.2.1,hc.2.2⟩,q⟩
   ·exact q.elim
  ·exact q.elim
  ·rename_i z;cases z
  ·rename_i z;cases z
 |er c=>rw[e]at q;exact q
 |st=>rw[e]at q;exact q
def N2{a:Expr}{m:Bool}{r:En->ResL}{p:Pos}(hg:Gl X "range")(hm:X.mg "range"=none)(ha:Mi X B E [m] [a] r)(hs:aQ [a] X.env=[(false,eval a X.env)]:=by rfl):JW X B E tg (.Call (.Name "range" p) [a] [] pos) (mv r):=
 PI.imp (Qr hg hm ha hs) λZ H R ⟨G,U,Rr,q⟩=>⟨G,U,Rr,(HR q).mono λds _ q vs G1 H1 e1 al=>by
  rcases q with ⟨j,rfl,h1,h2,q⟩|⟨i,j,rfl,_⟩
  ·obtain⟨v,rfl,av⟩:=ArgsM.one al;exact⟨j,by rw[av.int],h1,h2,q _ G1 H1 e1 EI⟩
  ·have:=al.length.1;simp at this⟩
def U7(h:JW X B E tg iter r):Pf X B E tg iter r:=PI.imp h λZ H R ⟨G,U,Rr,q⟩=>⟨G,U,Rr,q.mono λds _ q J G' H' e ok=>q J G' H' e λi G2 H2 x sg=>ok i G2 H2 ⟨x.gg,(Rr.bh.trans e.hh).trans x.hh⟩ sg⟩
structure TgOk(X:Cx)(B:Hp)(tge:Expr)(gl:TG)(tgD:D->En->Option En):Prop where
 pg:PG X tge gl
 ok:∀{G H:Hp}{Z:St}{U δ':En}{d:D}{v:V}{Q:St->Hp->Prop},EnvR (kx X) B G H Z U->Den (kx X) G d v->tgD d U=some δ'->(∀σ',EnvR (kx X) B G H σ' δ'->Q σ' H)->gl v Z H Q
def br(i:Nat):D->En->Option En:=λd U=>some (U.set i (.pu d))
def BV(h:PG X (.Name x p) (uh i)):TgOk X B (.Name x p) (uh i) (br i):=⟨h,λR dn e q=>by
 cases e;exact q _ (R.set dn)⟩
noncomputable def k6(tgD:D->En->Option En)(r:En->ResL)(F:En->Out):En->Out:=λU=>match r U with
 |.ok ds=>turns tgD F ds U
 |.er c=>.er c
 |.st=>.st
def QF{K:KA}{tgD:D->En->Option En}{r:En->ResL}{G H:Hp}{U:En}{D:Ends}(e:Ext G0 B G H)(q:OutP K G0 B E G (k6 tgD r F U) D):ResLP E G H (r U) λds=>OutP K G0 B E G (turns tgD F ds U) D:=by
 unfold k6 at q;cases er:r U with
 |ok ds=>rw[er]at q;exact q
 |er c=>rw[er]at q;exact λG' H' x=>q G' H' (e.trans x)
 |st=>rw[er]at q;exact q
def ME{gl:TG}{tgD:D->En->Option En}{r:En->ResL}(hp:PassesOwn (bE X.prog X.w) X.A X.env X.xe)(hc:X.calm=true)(hi:JW X B E tg iter r)(hg:TgOk X B tg gl tgD)(hb:yb X G0 B E ss F)
  (hs:∀x,fL iter X.env x=pure x:=by intro _;rfl):ph X G0 B E (.For tg iter ss [] pos) (k6 tgD r F):=
 PS.imp (GV hp hc hi hg.pg hb hs) λD Z H ⟨G,U,R,e,q⟩=>⟨G,U,R,(QF e q).mono λds _ q J G1 H1 e1 ok=>by
  refine⟨λi m Z H=>m=ds.length - i/\i<=ds.length/\∃G2 δ2,Same G1 G2/\EnvR (kx X) B G2 H Z δ2/\Ext G0 B G2 H/\OutP (kx X) G0 B E G2 (turns tgD F (ds.drop i) δ2) D,
   ⟨ds.length,by simp,cA _,G1,U,Same.refl G1,R.ext e1,e.trans e1,OutP.same e1.gg q⟩,?_⟩
  rintro i m σ2 H2 ⟨rfl,hi2,G2,δ2,s2,R2,x2,q2⟩
  obtain⟨okg,oks⟩:=ok i G2 H2 ⟨s2,R2.bh⟩ R2.gh
  by_cases hl:i<ds.length
  ·obtain⟨go,yl⟩:=okg ds[i] (by simp[hl]);rw[List.drop_eq_getElem_cons hl]at q2;refine .inr ⟨go,λσ' H'=>i+1<=ds.length/\∃G3 δ3,Same G1 G3/\EnvR (kx X) B G3 H' σ' δ3/\Ext G0 B G3 H'/\OutP (kx X) G0 B E G3 (turns tgD F (ds.drop (i+1)) δ3) D,
    λσ' H' ⟨n1,n2⟩=>⟨ds.length - (i+1),by lia,rfl,n1,n2⟩,λx H3 y=>?_⟩
   obtain⟨G3,e3,dn⟩:=yl x H3 y;unfold turns at q2;cases et:tgD ds[i] δ2 with
   |none=>rw[et]at q2;exact q2.elim
   |some δ3=>
    rw[et]at q2;dsimp only at q2;refine hg.ok (R2.ext e3) dn et λσ3 R3=>⟨G3,δ3,R3,x2.trans e3,?_⟩;have s3:Same G1 G3:=s2.trans e3.gg;cases ef:F δ3 with
    |nx δ4=>
     rw[ef]at q2;exact λσ' G' H' s R' x'=>⟨hl,G',δ4,s3.trans s,R',x',OutP.same (e3.gg.trans s) q2⟩
    |ct δ4=>
     rw[ef]at q2;exact λσ' G' H' s R' x'=>⟨hl,G',δ4,s3.trans s,R',x',OutP.same (e3.gg.trans s) q2⟩
    |bk δ4=>
     rw[ef]at q2;exact λσ' G' H' s R' x'=>q2 σ' G' H' (e3.gg.trans s) R' x'
    |rt d=>rw[ef]at q2;exact q2
    |er c=>rw[ef]at q2;exact q2
    |st=>rw[ef]at q2;exact q2
  ·have z:i=ds.length:=by lia
   subst z;rw[List.drop_length]at q2;exact .inl ⟨oks (aO _),q2 σ2 G2 H2 (Same.refl G2) R2 x2⟩⟩
def bx:List Bool->List D->En
 |_,[]=>[]
 |true::ms,d::ds=>.bo d::bx ms ds
 |false::ms,d::ds=>.pu d::bx ms ds
 |[],_::_=>[]
def cj:Out->Res
 |.rt d=>.ok d
 |.nx _=>.ok .non
 |.er c=>.er c
 |_=>.st
def QG(ms:List Bool)(n:Nat)(F:En->Out)(ds:List D):Res:=cj (F (bx ms ds++aS (n - ds.length) .no))
def Lu(K:KA)(ms:List Bool)(f:List D->Res):Sp:=λvs H Q E=>vs.length=ms.length/\GOk H/\∃G ds,Same G H/\ArgsM K G H ms ds vs/\ResP (ek K E) G H (f ds) λd=>∀v G' H',Ext G H G' H'->Den K G' d v->Q v H'
theorem D3{K:KA}{G H:Hp}:∀{ms:List Bool}{ds:List D}{vs:List V},ArgsM K G H ms ds vs->(bx ms ds).length=vs.length
 |[],_,_,⟨h1,h2⟩=>by subst h1;subst h2;rfl
 |m::ms,_,_,⟨d,dr,v,vr,h1,h2,h3,h4⟩=>by
  subst h1;subst h2;have ih:=D3 h4;cases m<;>simp only[bx,aM,ih]
theorem qg{K:KA}{G H:Hp}:∀{ms:List Bool}{ds:List D}{vs:List V},ArgsM K G H ms ds vs->∀(i:Nat) s,(bx ms ds)[i]?=some s->s.own=false/\∃v,vs[i]?=some v/\SlOk K H G H s (some v)
 |[],_,_,⟨h1,h2⟩,i,s,q=>by subst h1;simp[bx]at q
 |m::ms,_,_,⟨d,dr,v,vr,h1,h2,h3,h4⟩,i,s,q=>by
  subst h1;subst h2;cases i with
  |zero=>
   cases m with
   |true=>
    simp only[bx,cE,Option.some.injEq]at q;subst q;exact⟨rfl,v,rfl,v,rfl,h3⟩
   |false=>
    simp only[bx,cE,Option.some.injEq]at q;subst q;exact⟨rfl,v,rfl,v,rfl,h3⟩
  |succ i=>
   cases m with
   |true=>
    simp only[bx,eJ]at q;obtain⟨q1,u,q2,q3⟩:=qg h4 i s q;exact⟨q1,u,by simpa using q2,q3⟩
   |false=>
    simp only[bx,eJ]at q;obtain⟨q1,u,q2,q3⟩:=qg h4 i s q;exact⟨q1,u,by simpa using q2,q3⟩
def Kr{K:KA}{G H:Hp}{ms:List Bool}{ds:List D}{vs:List V}{N:List Str}(gb:GOk H)(s:Same G H)(al:ArgsM K G H ms ds vs):EnvR K H G H (L2.pd N vs) (bx ms ds++aS (N.length - ds.length) .no):=by
 have l1:=D3 al;obtain⟨l2,l3⟩:=al.length;have key:∀(i:Nat) t,(bx ms ds++aS (N.length - ds.length) Sl.no)[i]?=some t->t=.no\/(i<vs.length/\(bx ms ds)[i]?=some t):=λi t q=>by
  by_cases z:i<(bx ms ds).length
  ·rw[bL z]at q;exact .inr ⟨by rw[<-l1];exact z,q⟩
  ·rw[bI (by lia)]at q;have:=cB q;exact .inl (List.eq_of_mem_replicate this)
 refine⟨Same.refl H,s,?_,λi t q=>?_,λi t a q1 q2 q3=>?_,λi j t u a q1 q2 q3 q4 q5 q6=>?_,gb⟩
 ·unfold L2.pd;rw[aI,aI,aJ,cQ,cQ,l1,l2,l3]
 ·rcases key i t q with rfl|⟨hi,qe⟩
  ·have hl:i<(L2.pd N vs).length:=by
    have:=(List.getElem?_eq_some_iff.mp q).1;rw[aI,cQ,l1]at this;unfold L2.pd;rw[aI,aJ,cQ]
    lia
   exact⟨_,dB hl,trivial⟩
  ·obtain⟨_,v,ev,ok⟩:=qg al i t qe;refine⟨some v,?_,ok⟩;unfold L2.pd;rw[bL (by rw[aJ];exact hi),bW,ev];rfl
 ·rcases key i t q1 with rfl|⟨hi,qe⟩
  ·cases q2
  ·obtain⟨z,_⟩:=qg al i t qe;rw[z]at q2;cases q2
 ·rcases key i t q1 with rfl|⟨hi,qe⟩
  ·cases q3
  ·obtain⟨z,_⟩:=qg al i t qe;rw[z]at q3;cases q3
def Zk{K:KA}{G H:Hp}{E:EK}{Q:VK}{o:Out}(s:Same G H)(h:ResP E G H (cj o) λd=>∀v G' H',Ext G H G' H'->Den K G' d v->Q v H'):
  OutP K G H E G o {nx:=λ_ H'=>Q .non H',rt:=Q}:=by
 cases o with
 |nx U=>exact λσ' G' H' _ _ e=>h .non G' H' e rfl
 |bk U=>exact h.elim
 |ct U=>exact h.elim
 |rt d=>exact λv G' H' e dn=>h v G' H' e dn
 |er c=>exact h
 |st=>exact h
end
section
variable{X:Cx}{B:Hp}{E:EK}{e:Expr}{es:List Expr}{pos p:Pos}{x:Str}
noncomputable def ao(f:List D->Res)(r:En->ResL):En->Res:=λU=>match r U with
 |.ok ds=>f ds
 |.er c=>.er c
 |.st=>.st
def BC(q:ResP E G H (ao f r U) P):ResLP E G H (r U) λds=>ResP E G H (f ds) P:=by
 unfold ao at q;cases e:r U with
 |ok ds=>rw[e]at q;exact q
 |er c=>rw[e]at q;exact q
 |st=>rw[e]at q;exact q
def Z1{E:XK}(F:FnOk X.prog X.w X.K X.mg X.base CX k f fd ps (Lu (kx X) ms fD))(hr:Room k X.A)(hg:Gl X x)(hm:X.mg x=some (.ref f))(hk:bU X.K (.ref f)=true)
  (hb:Binds X.K fd ps [])(hx:tm CX X E)(ha:Mi X B (ek (kx X) E) ms (e::es) r)(hdb:(x==("__debug__":Str))=false:=by decide)(he:aQ (e::es) X.env=(false,eval e X.env)::aQ es X.env:=by rfl)(hpl:(cY pos (aQ es X.env)).any (·.1)=false:=by rfl):
  f9 X B (ek (kx X) E) (.Call (.Name x p) (e::es) [] pos) (ao fD r):=
 PE.imp (Zm F hr hg hm hk hb .nil hx ha hdb he hpl) λZ H Q ⟨G,U,R,q⟩=>⟨G,U,R,(BC q).mono λds _ q vs G1 H1 e1 al=>
  ⟨by rw[cM];exact al.length.2,R.gb.same (R.bh.trans e1.hh),G1,ds,e1.gh,by rw[cM];exact al,(q.ext e1).mono λd _ q v G' H' e2 dn=>q v G' H' (e1.trans e2) dn⟩⟩
def Vj{E:XK}(F:FnOk X.prog X.w X.K X.mg X.base CX k f fd ps (Lu (kx X) [] fD))(hr:Room k X.A)(hg:Gl X x)(hm:X.mg x=some (.ref f))(hk:bU X.K (.ref f)=true)
  (hb:Binds X.K fd ps [])(hx:tm CX X E)(hdb:(x==("__debug__":Str))=false:=by decide):f9 X B (ek (kx X) E) (.Call (.Name x p) [] [] pos) (λ_=>fD []):=
 PE.imp (Ux F hr hg hm hk hb .nil hx hdb) λZ H Q ⟨G,U,R,q⟩=>⟨rfl,R.gb.same R.bh,G,[],R.gh,⟨rfl,rfl⟩,q⟩
end
mutual
def gj:D->Option mH
 |.non=>some .none
 |.bl b=>some (.bool b)
 |.int i=>some (.int i)
 |.str x=>some (.str x)
 |.tup ds=>match fh ds with
  |some ps=>some (.tuple ps)
  |none=>none
 |.lst ds=>match fh ds with
  |some ps=>some (.list ps)
  |none=>none
 |.dct _ _=>none
 |.obj _ _=>none
 |.fn _=>none
def fh:List D->Option (List mH)
 |[]=>some []
 |d::ds=>match gj d with
  | some p => (match fh ds with
   |some ps=>some (p::ps)
   |none=>none)
  |none=>none
end
section
variable{X:Cx}{pins:List (Addr×Obj)}{Z:St}{G H:Hp}{s:aK}
mutual
theorem Jl(I:Inv X pins Z H s)(sg:Same G H):∀{d:D}{v:V}{u:aC}{p:mH},Den (kx X) G d v->RelV v u->gj d=some p->∃as,Reads s.heap u p as
 |.non,v,u,p,h,r,e=>by
  cases (show v=.non from h);cases (show u=dD from r);cases e;exact⟨_,Reads.none⟩
 |.bl b,v,u,p,h,r,e=>by
  cases (show v=.bl b from h);cases (show u=gR b from r);cases e;exact⟨_,Reads.bool b⟩
 |.int i,v,u,p,h,r,e=>by
  cases (show v=.int i from h);obtain⟨t,q⟩:=(show∃t,u=Value.int i t from r);cases q;cases e;exact⟨_,Reads.int i t⟩
 |.str x,v,u,p,h,r,e=>by
  cases (show v=.str x from h);obtain⟨t,q⟩:=(show∃t,u=Value.str x t from r);cases q;cases e;exact⟨_,Reads.str x t⟩
 |.tup ds,v,u,p,h,r,e=>by
  obtain⟨a,vs,rfl,sq,dl⟩:=h;cases (show u=cD a from r);unfold gj at e;cases e2:fh ds with
  |none=>rw[e2]at e;cases e
  |some ps=>
   rw[e2]at e;cases e;obtain⟨its,rv,⟨o,ho,hc,n,hd⟩,_⟩:=I.tuple (SqT.of (sg _ _ sq));obtain⟨as,ra⟩:=vk I sg dl rv e2;exact⟨as,Reads.tuple ho hc hd (by simpa using ra)⟩
 |.lst ds,v,u,p,h,r,e=>by
  obtain⟨a,vs,rfl,sq,dl⟩:=h;cases (show u=cD a from r);unfold gj at e;cases e2:fh ds with
  |none=>rw[e2]at e;cases e
  |some ps=>
   rw[e2]at e;cases e;obtain⟨its,rv,pl,_⟩:=I.list (SqL.mono sg sq);obtain⟨o,ho,hc,n,hd⟩:=pl.isList;obtain⟨as,ra⟩:=vk I sg dl rv e2;exact⟨_,Reads.list ho hc hd (by simpa using ra)⟩
 |.dct _ _,_,_,_,_,_,e=>by cases e
 |.obj _ _,_,_,_,_,_,e=>by cases e
 |.fn _,_,_,_,_,_,e=>by cases e
theorem vk(I:Inv X pins Z H s)(sg:Same G H):∀{ds:List D}{vs:List V}{us:List aC}{ps:List mH},DenL (kx X) G ds vs->Vals vs us->fh ds=some ps->∃as,ReadsAll s.heap us ps as
 |[],vs,us,ps,h,r,e=>by
  cases (show vs=[]from h);cases r;cases e;exact⟨_,ReadsAll.nil⟩
 |d::ds,vs,us,ps,h,r,e=>by
  obtain⟨v,vr,rfl,dv,dl⟩:=h;cases r with
  |cons rv rr=>
   unfold fh at e;cases e1:gj d with
   |none=>rw[e1]at e;cases e
   |some p=>
    rw[e1]at e;dsimp only at e;cases e2:fh ds with
    |none=>rw[e2]at e;cases e
    |some ps'=>
     rw[e2]at e;cases e;obtain⟨as,ra⟩:=Jl I sg dv rv e1;obtain⟨bs,rb⟩:=vk I sg dl rr e2;exact⟨_,ReadsAll.cons ra rb⟩
end
def df(I:Inv X pins Z H s)(sg:Same G H)(h:Arg (kx X) G H d v)(r:RelV v u)(e:gj d=some p):∃as,Reads s.heap u p as:=by
 rcases h with h|⟨ds,a,vs,rfl,rfl,sq,dl⟩|⟨t,kvs,a,rfl,_⟩
 ·exact Jl I sg h r e
 ·cases (show u=cD a from r);unfold gj at e;cases e2:fh ds with
  |none=>rw[e2]at e;cases e
  |some ps=>
   rw[e2]at e;cases e;obtain⟨its,rv,pl,_⟩:=I.list sq;obtain⟨o,ho,hc,n,hd⟩:=pl.isList;obtain⟨as,ra⟩:=vk I sg dl rv e2;exact⟨_,Reads.list ho hc hd (by simpa using ra)⟩
 ·cases e
end
def Px(d e:D):Option Bool:=match gj d,gj e with
 |some p,some q=>if bV p && bV q then some (cC p q)else none
 |_,_=>none
def f6(d e:D):Option D:=(Px d e).map .bl
def i9(d e:D):Option D:=(Px d e).map λb=>.bl !b
def Hx(h:Px d e=some b):∃p q,gj d=some p/\gj e=some q/\bV p=true/\bV q=true/\b=cC p q:=by
 unfold Px at h;cases e1:gj d with
 |none=>rw[e1]at h;cases h
 |some p=>
  cases e2:gj e with
  |none=>rw[e1,e2]at h;cases h
  |some q=>
   rw[e1,e2]at h;dsimp only at h
   by_cases hs:(bV p && bV q)=true
   ·rw[aB hs]at h;cases h;rw[aA]at hs;exact⟨p,q,rfl,rfl,hs.1,hs.2,rfl⟩
   ·rw[aG hs]at h;cases h
section
variable{X:Cx}{B:Hp}{E:EK}{e a b:Expr}{es:List Expr}{g h:En->Res}{pos:Pos}
def AW(K:KA)(neg:Bool):R2:=λx y H Q=>∃G dx dy b,Same G H/\Arg K G H dx x/\Arg K G H dy y/\Px dx dy=some b/\Q (.bl (if neg then !b else b)) H
def FM(hu:X.A.units+64<dO):OpR X (bX .Eq) (AW (kx X) false):=by
 intro pins s Z H x y v u Q I rx ry q;obtain⟨G,dx,dy,b,sg,ax,ay,eb,q⟩:=q;obtain⟨p,p',e1,e2,s1,s2,rfl⟩:=Hx eb;obtain⟨as,ra⟩:=df I sg ax rx e1;obtain⟨bs,rb⟩:=df I sg ay ry e2;exact eq_dataH ra rb s1 s2 hu ⟨.bl (cC p p'),H,I,rfl,q⟩
def FG(hu:X.A.units+64<dO):OpR X (bX .NotEq) (AW (kx X) true):=by
 intro pins s Z H x y v u Q I rx ry q;obtain⟨G,dx,dy,b,sg,ax,ay,eb,q⟩:=q;obtain⟨p,p',e1,e2,s1,s2,rfl⟩:=Hx eb;obtain⟨as,ra⟩:=df I sg ax rx e1;obtain⟨bs,rb⟩:=df I sg ay ry e2;exact ne_dataH ra rb s1 s2 hu ⟨.bl (!PyData.eqv p p'),H,I,rfl,q⟩
def Zq{K:KA}:iw K f6 (AW K false):=λG H x y dx dy d sg ax ay ed Q q=>by
 unfold f6 at ed;cases e:Px dx dy with
 |none=>rw[e]at ed;cases ed
 |some b=>rw[e]at ed;cases ed;exact⟨G,dx,dy,b,sg,ax,ay,e,q _ G H (Ext.refl sg) rfl⟩
def Zt{K:KA}:iw K i9 (AW K true):=λG H x y dx dy d sg ax ay ed Q q=>by
 unfold i9 at ed;cases e:Px dx dy with
 |none=>rw[e]at ed;cases ed
 |some b=>rw[e]at ed;cases ed;exact⟨G,dx,dy,b,sg,ax,ay,e,q _ G H (Ext.refl sg) rfl⟩
def F6{o:Option Bool}{f:Bool->Bool}(h:(o.map λb=>D.bl (f b))=some d):∃b,d=.bl b:=by
 cases o with
 |none=>cases h
 |some b=>cases h;exact⟨_,rfl⟩
def HU(f:Int->Int->Option D):D->D->Option D
 |.int i,.int j=>f i j
 |_,_=>none
def Ob:D->D->Option D:=HU λi j=>some (.int (i - j))
def ig:D->D->Option D:=HU λi j=>if 0<j then some (.int (i % j))else none
def mw:D->D->Option D:=HU λi j=>if 0<j/\j<1073741824 then some (.int (i / j))else none
def Ji:D->D->Option D:=HU λi j=>if 0<=j/\j<=1000000/\i.natAbs<2 ^ 64 then some (.int (i ^ j.toNat))else none
def Lg{K:KA}{f:Int->Int->Option D}{C:Int->Int->Prop}{r:Int->Int->V}(hf:∀i j d,f i j=some d->C i j/\∀G,Den K G d (r i j)):iw K (HU f) (rI C r):=λG H x y dx dy d sg ax ay ed Q q=>by
 cases dx with
 |int i=>
  cases dy with
  |int j=>
   obtain⟨c,dn⟩:=hf i j d ed;exact⟨i,j,ax.int,ay.int,c,q _ G H (Ext.refl sg) (dn G)⟩
  |_=>cases ed
 |_=>cases ed
def N5{K:KA}{f:Int->Int->Option D}{r:Int->Int->V}(hf:∀i j d,f i j=some d->∀G,Den K G d (r i j)):iw K (HU f) (Xk r):=λG H x y dx dy d sg ax ay ed Q q=>by
 cases dx with
 |int i=>
  cases dy with
  |int j=>exact⟨i,j,ax.int,ay.int,q _ G H (Ext.refl sg) (hf i j d ed G)⟩
  |_=>cases ed
 |_=>cases ed
def GB(ha:jw X B E a g)(hb:jw X B E b h):f9 X B E (.BinOp a .Sub b pos) (g2 Ob g h):=Ej FE (N5 λi j d e G=>by cases e;rfl) ha hb
def GH(ha:jw X B E a g)(hb:jw X B E b h):f9 X B E (.BinOp a .Mod b pos) (g2 ig g h):=Ej FI (Lg λi j d e=>by
 by_cases hj:0<j
 ·rw[aB hj]at e;cases e;exact⟨hj,λ_=>rfl⟩
 ·rw[aG hj]at e;cases e) ha hb
def Z2(ha:jw X B E a g)(hb:jw X B E b h):f9 X B E (.BinOp a .FloorDiv b pos) (g2 mw g h):=Ej Zf (Lg λi j d e=>by
 by_cases hj:0<j/\j<1073741824
 ·rw[aB hj]at e;cases e;exact⟨hj,λ_=>rfl⟩
 ·rw[aG hj]at e;cases e) ha hb
def GC(ha:jw X B E a g)(hb:jw X B E b h):f9 X B E (.BinOp a .Pow b pos) (g2 Ji g h):=Ej FF (Lg λi j d e=>by
 by_cases hj:0<=j/\j<=1000000/\i.natAbs<2 ^ 64
 ·rw[aB hj]at e;cases e;exact⟨hj,λ_=>rfl⟩
 ·rw[aG hj]at e;cases e) ha hb
def Ek(f:Int->Int->Bool):D->D->Option D:=HU λi j=>some (.bl (f i j))
def Ag:D->D->Option D:=Ek λi j=>decide (i<=j)
def Di:D->D->Option D:=Ek λi j=>decide (j<i)
def MT:D->D->Option D:=Ek λi j=>decide (j<=i)
def gz:D->D->Option D:=Ek λi j=>decide (i<j)
def xn{K:KA}{f:Int->Int->Bool}:iw K (Ek f) (Xk λi j=>.bl (f i j)):=N5 λi j d e G=>by cases e;rfl
def Fl:∀x y d,Ek f x y=some d->∃b,d=.bl b:=λx y d h=>by
 cases x<;>cases y<;>first|(cases h;exact⟨_,rfl⟩)|cases h
noncomputable def rq(f f':D->D->Option D)(g h k:En->Res):En->Res:=λU=>(g U).bind λx=>(h U).bind λy=>(Res.of (f x y)).bind λz=>match z with
 |.bl true=>(k U).bind λw=>Res.of (f' y w)
 |.bl false=>.ok (.bl false)
 |_=>.st
def Sg{K:KA}{k:En->Res}{f f':D->D->Option D}{r r':R2}(hp:iw K f r)(hp':iw K f' r'){Z:St}{H:Hp}{Q:VK}(q:JP K B E (rq f f' g h k) Z H Q):L3 r r' (DR K B E g) (DR K B E h) (DR K B E k) Z H Q:=by
 obtain⟨G,U,R,q⟩:=q;refine⟨G,U,R,(ResP.bind q).mono λdx _ qx x G1 H1 e1 ax=>⟨G1,U,R.ext e1,((ResP.bind qx).ext e1).mono λdy _ qy y G2 H2 e2 ay=>?_⟩⟩;have e12:=e1.trans e2;obtain⟨d,ed,qd⟩:=ResP.of (ResP.bind qy);refine hp G2 H2 x y dx dy d e2.gh (ax.ext e2) ay ed _ λv G3 H3 e3 dn=>?_;cases d with
 |bl t=>
  refine⟨t,dn,?_⟩;cases t with
  |true=>
   show DR K B E k Z H3 _;refine⟨G3,U,R.ext (e12.trans e3),((ResP.bind qd).ext (e12.trans e3)).mono λdw _ qw w G4 H4 e4 aw=>?_⟩;obtain⟨d',ed',qd'⟩:=ResP.of qw;exact hp' G4 H4 y w dy dw d' e4.gh ((ay.ext e3).ext e4) aw ed' Q λv G5 H5 e5 dn=>qd' v G5 H5 (((e12.trans e3).trans e4).trans e5) dn
  |false=>exact qd _ G3 H3 (e12.trans e3) rfl
 |non=>exact qd.elim
 |int _=>exact qd.elim
 |str _=>exact qd.elim
 |tup _=>exact qd.elim
 |lst _=>exact qd.elim
 |dct _ _=>exact qd.elim
 |obj _ _=>exact qd.elim
 |fn _=>exact qd.elim
def Vk(ho:OpR X (bX op) r)(hp:iw (kx X) f r)(ho':OpR X (bX op') r')(hp':iw (kx X) f' r')(ha:jw X B E a g)(hb:jw X B E b h)(hc:jw X B E c k)
  (hm:mL [op,op'] [b,c]=false:=by with_unfolding_all rfl):f9 X B E (.Compare a [op,op'] [b,c] pos) (rq f f' g h k):=PE.imp (Uy ho ho' ha hb hc hm) λZ H Q q=>Sg hp hp' q
def Qu{c:Expr}{k:En->Res}{op op':CmpOp}{f f':D->D->Option D}{r r':R2}(ho:OpR X (bX op) r)(hp:iw (kx X) f r)(ho':OpR X (bX op') r')(hp':iw (kx X) f' r')(hb1:∀x y d,f' x y=some d->∃b,d=.bl b)(ha:jw X B E a g)(hb:jw X B E b h)(hc:jw X B E c k)
  (hm:mL [op,op'] [b,c]=false:=by with_unfolding_all rfl):Cv X B E (.Compare a [op,op'] [b,c] pos) (rq f f' g h k):=
 PT.imp (Vg ho ho' ha hb hc hm) λZ H Q ⟨G,U,R,q⟩=>Sg hp hp' ⟨G,U,R,q.mono λd ed ⟨b,eb,qb⟩ v G' H' e3 dn=>by
  subst eb;exact⟨b,dn,qb G' H' e3⟩⟩
noncomputable def aj:D->D->Option D
 |.int i,.int j=>some (.int (i+j))
 |.str x,.str y=>if x.length+y.length<=aD then some (.str (x++y))else none
 |.lst xs,.lst ys=>if xs.length+ys.length<=aD then some (.lst (xs++ys))else none
 |.tup xs,.tup ys=>if xs.length+ys.length<=aD then some (.tup (xs++ys))else none
 |_,_=>none
def DY(K:KA):R2:=λx y H Q=>∃G dx dy d,Same G H/\Arg K G H dx x/\Arg K G H dy y/\aj dx dy=some d/\∀v G' H',Ext G H G' H'->Den K G' d v->Q v H'
def Rq{prog:bN}{w:cH}{A:cO}{E:aC->aK->Prop}{s:aK}{l b:Addr}{its its2:List aC}{Q:aC->aK->Prop}(hl:PlainL s.heap l its.toArray)(hb:PlainL s.heap b its2.toArray)(hz:its.length+its2.length<=aD)
  (h:Q (.ref s.heap.objs.size) {s with heap:=s.heap.push {cls:=.type "list",data:=.seq (its++its2).toArray}}):bA (bE prog w) A (fM .Add (.ref l) (.ref b)) Q E s:=by
 obtain⟨⟨cls,dd,data,sl⟩,n,ho,c,d,q⟩:=hl;obtain⟨⟨cls2,dd2,data2,sl2⟩,n2,ho2,c2,d2,q2⟩:=hb;simp only at c d q c2 d2 q2;subst c d q c2 d2 q2;have ea:its.toArray++its2.toArray=(its++its2).toArray:=by simp
 refine lN ⟨_,ho,rfl⟩ ⟨_,ho2,rfl⟩ noFill_list_add seq_list_add PySem.F.slot_list_add PySem.F.entry_list_add (PySem.F.args_list_add_2 _ _) (list_addW l b its.toArray its2.toArray n n2 _ _ sl sl2 (by simpa using hz)) ⟨ho,ho2,?_⟩;rw[ea];exact h
def Se{prog:bN}{w:cH}{A:cO}{E:aC->aK->Prop}{s:aK}{t b:Addr}{vs ws:List aC}{Q:aC->aK->Prop}(ht:IsTup s.heap t vs.toArray)(hb:IsTup s.heap b ws.toArray)(hv:vs=[])(h1:Q (.ref b) s):
  bA (bE prog w) A (fM .Add (.ref t) (.ref b)) Q E s:=by
 obtain⟨⟨cls,dd,data,sl⟩,ho,hc,n,hd⟩:=id ht;obtain⟨⟨cls2,dd2,data2,sl2⟩,ho2,hc2,n2,hd2⟩:=id hb;simp only at hc hd hc2 hd2;subst hc hd hc2 hd2;exact lN ⟨_,ho,rfl⟩ ⟨_,ho2,rfl⟩ lI seq_tuple_add iR iL (iC _ _)
  (tuple_addW0 t b vs.toArray ws.toArray n n2 dd dd2 sl sl2 (by simp[hv])) ⟨ho,ho2,h1⟩
def Zd:OpR X (fM .Add) (DY (kx X)):=by
 intro pins s Z H x y v u Q I rx ry q;obtain⟨G,dx,dy,d,sg,ax,ay,ed,q⟩:=q;unfold aj at ed;split at ed
 ·cases ed;rw[ax.int]at rx;rw[ay.int]at ry;exact Lc pins s Z H _ _ _ _ Q I rx ry ⟨_,_,rfl,rfl,q _ G H (Ext.refl sg) rfl⟩
 ·split at ed
  ·rename_i hz;cases ed;rw[ax.str]at rx;rw[ay.str]at ry;exact Ld pins s Z H _ _ _ _ Q I rx ry ⟨_,_,rfl,rfl,hz,q _ G H (Ext.refl sg) rfl⟩
  ·cases ed
 ·split at ed
  ·rename_i xs ys hz;cases ed;obtain⟨l,vs,rfl,sq,dl⟩:=ax.lst sg;obtain⟨b,ws,rfl,sq2,dl2⟩:=ay.lst sg;cases rx;cases ry;obtain⟨its,rv,pl,_⟩:=I.list sq;obtain⟨its2,rv2,pl2,_⟩:=I.list sq2;have l1:=dl.length;have l2:=dl2.length;have l3:=rv.length;have l4:=rv2.length;refine Rq pl pl2 (by lia) ⟨.ref _,_,I.lnew (t':=s.toks) (rv.append rv2) (by rw[aI];lia),rfl,?_⟩;exact q _ (upd G s.heap.objs.size (.lst (vs++ws))) _ (Ext.new sg _ I.fresh) (A7 sg I.fresh (dl.append dl2))
  ·cases ed
 ·split at ed
  ·rename_i xs ys hz;cases ed;obtain⟨l,vs,rfl,sq,dl⟩:=ax.tup sg;obtain⟨b,ws,rfl,sq2,dl2⟩:=ay.tup sg;have l1:=dl.length;have l2:=dl2.length
   by_cases hx:vs=[]
   ·cases rx;cases ry;obtain⟨its,rv,p1,_⟩:=I.tuple sq;obtain⟨its2,rv2,p2,_⟩:=I.tuple sq2;refine Se p1 p2 (rv.nil_iff.mpr hx) ⟨.ref b,H,I,rfl,?_⟩;subst hx;have:xs=[]:=by cases xs with
     |nil=>rfl
     |cons _ _=>simp at l1
    subst this;rcases ay with ad|⟨_,_,_,z,_⟩|⟨_,_,_,z,_⟩
    ·exact q _ G H (Ext.refl sg) ad
    ·cases z
    ·cases z
   ·refine Ze pins s Z H _ _ _ _ Q I rx ry ⟨l,b,vs,ws,rfl,rfl,sq,sq2,hx,by lia,λz=>?_,λz p hp=>?_⟩
    ·subst z;have:ys=[]:=by cases ys with
      |nil=>rfl
      |cons _ _=>simp at l2
     subst this;rw[cM]at q;rcases ax with ad|⟨_,_,_,z,_⟩|⟨_,_,_,z,_⟩
     ·exact q _ G H (Ext.refl sg) ad
     ·cases z
     ·cases z
    ·exact q _ (upd G p (.tup (vs++ws))) _ (Ext.new sg _ hp) (uf sg hp (dl.append dl2))
  ·cases ed
 ·cases ed
def Va{K:KA}:iw K aj (DY K):=λG H x y dx dy d sg ax ay ed Q q=>⟨G,dx,dy,d,sg,ax,ay,ed,q⟩
def GQ(ha:jw X B E a g)(hb:jw X B E b h):f9 X B E (.BinOp a .Add b pos) (g2 aj g h):=Ej Zd Va ha hb
theorem DenL.atI{K:KA}{G:Hp}{ds:List D}{vs:List V}{i:Int}{d:D}(dl:DenL K G ds vs)(h:atI ds i=some d):∃v,atI vs i=some v/\Den K G d v:=by
 unfold L2.atI at h⊢;rw[dl.length]at h;cases e:CK vs.length i with
 |none=>rw[e]at h;cases h
 |some j=>
  rw[e]at h;exact dl.get h
def JS{K:KA}{f:D->Option D}{rr:List V->Hp->VK->Prop}(hp:∀G H x dx d,Same G H->Arg K G H dx x->f dx=some d->∀Q:VK,(∀v G' H',Ext G H G' H'->Den K G' d v->Q v H')->rr [x] H Q){Z:St}{H:Hp}{Q:VK}(q:JP K B E (g1 f g) Z H Q):
  RK rr (SF K B E [true] (ae g ak)) Z H Q:=by
 obtain⟨G,U,R,q⟩:=q;refine⟨G,U,R,?_⟩;unfold ae;unfold g1 at q;cases e:g U with
 |ok dx=>
  rw[e]at q;obtain⟨d,ed,qd⟩:=ResP.of (show ResP E G H (Res.of (f dx)) _ from q);intro vs G1 H1 e1 al;obtain⟨v,rfl,av⟩:=ArgsM.one al;exact hp G1 H1 v dx d e1.gh av ed Q λv G' H' e2 dn=>qd v G' H' (e1.trans e2) dn
 |er c=>rw[e]at q;exact q
 |st=>rw[e]at q;exact q
noncomputable def bj:D->Option D
 |.str x=>if x.length<=aD then some (.int x.length)else none
 |.tup ds=>some (.int ds.length)
 |.lst ds=>some (.int ds.length)
 |_=>none
def GJ{p:Pos}(hg:Gl X "len")(hm:X.mg "len"=none)(ha:jw X B E e g)(he:aQ [e] X.env=(false,eval e X.env)::aQ [] X.env:=by rfl)(hpl:(cY pos (aQ [] X.env)).any (·.1)=false:=by rfl):f9 X B E (.Call (.Name "len" p) [e] [] pos) (g1 bj g):=
 PE.imp (uw Sd hg hm PySem.boot_len (kh ha lr he) (by decide) (by decide) he hpl) λZ H Q q=>JS (λG H x dx d sg ax ed Q q=>by
  unfold bj at ed;split at ed
  ·split at ed
   ·rename_i hz;cases ed;rw[ax.str];exact⟨_,_,rfl,⟨hz,rfl⟩,q _ G H (Ext.refl sg) rfl⟩
   ·cases ed
  ·cases ed;obtain⟨l,vs,rfl,sq,dl⟩:=ax.tup sg;exact⟨_,_,rfl,.inr ⟨vs,sq,dl.length⟩,q _ G H (Ext.refl sg) rfl⟩
  ·cases ed;obtain⟨l,vs,rfl,sq,dl⟩:=ax.lst sg;exact⟨_,_,rfl,.inl ⟨vs,sq,dl.length⟩,q _ G H (Ext.refl sg) rfl⟩
  ·cases ed) q
noncomputable def BJ:D->Option String
 |.non=>some "NoneType"
 |.bl _=>some "bool"
 |.int _=>some "int"
 |.str _=>some "str"
 |.tup _=>some "tuple"
 |.lst _=>some "list"
 |.dct _ _=>some "dict"
 |_=>none
def Xj(t c:String):Bool:=t==c||(t=="bool" && c=="int")
def bq(c:String)(d:D):Option D:=match BJ d with
 |some t=>some (.bl (Xj t c))
 |none=>none
end
end Pu
end
section
namespace L2
open PySem PySem.Spec PyProof.Rows
structure Noted(fr:List Addr)(e:Addr)(h h':Heap):Prop where
 keep:∀b o,b≠e->b∉fr->h.get? b=some o->h'.get? b=some o
 slot:∀b o,b≠e->h.get? b=some o->∃sl,h'.get? b=some {o with slots:=sl}
 size:h.objs.size<=h'.objs.size
structure Rec(h:Heap)(e T:Addr)(cls:aC)(v2:Option aC):Prop where
 exc:∃oe vs,h.get? e=some oe/\oe.cls=cls/\oe.data=.fields vs/\vs[1]?=some (.ref T)/\vs[2]?=v2
 tb:∃oT ts,h.get? T=some oT/\oT.data=.fields ts/\3<ts.size
 ne:T≠e
structure Chg(fr:List Addr)(ch:Addr->Prop)(h h':Heap):Prop where
 keep:∀b o,¬ch b->b∉fr->h.get? b=some o->h'.get? b=some o
 slot:∀b o,¬ch b->h.get? b=some o->∃sl,h'.get? b=some {o with slots:=sl}
 size:h.objs.size<=h'.objs.size
def JC(cls:aC):Prop:=∃C,C∈Pu.uk/\cls=.ref C
structure ExAt(h0 h:Heap)(H:Hp)(a:Addr)(cls:aC):Prop where
 new:h0.get? a=none
 free:H a=none
 obj:∃oe vs,h.get? a=some oe/\oe.cls=cls/\oe.data=.fields vs/\1<vs.size/\(vs[2]?=some .none\/JC cls)/\(vs[1]?=some .none\/∃T oT ts,vs[1]?=some (.ref T)/\h0.get? T=none/\T≠a/\H T=none/\h.get? T=some oT/\oT.data=.fields ts/\3<ts.size)
def Ri(h:Heap)(a:Addr):Prop:=∃oe vs T,h.get? a=some oe/\oe.data=.fields vs/\vs[1]?=some (.ref T)
def ExAt.old{h0 h1 h:Heap}{H:Hp}{a:Addr}{cls:aC}(x:ExAt h0 h H a cls)(f:∀b,h0.get? b=none->h1.get? b=none):ExAt h1 h H a cls:=by
 obtain⟨oe,vs,he,hc,hd,hsz,hcx,htb⟩:=x.obj;exact⟨f a x.new,x.free,oe,vs,he,hc,hd,hsz,hcx,htb.imp_right λ⟨T,oT,ts,z1,z0,z⟩=>⟨T,oT,ts,z1,f T z0,z⟩⟩
def ExAt.same{h0 h h':Heap}{H:Hp}{a:Addr}{cls:aC}(x:ExAt h0 h H a cls)(f:∀b o,h0.get? b=none->h.get? b=some o->h'.get? b=some o):ExAt h0 h' H a cls:=by
 obtain⟨oe,vs,he,hc,hd,hsz,hcx,htb⟩:=x.obj;exact⟨x.new,x.free,oe,vs,f a oe x.new he,hc,hd,hsz,hcx,htb.imp_right λ⟨T,oT,ts,z1,z0,z2,z3,z4,z5⟩=>⟨T,oT,ts,z1,z0,z2,z3,f T oT z0 z4,z5⟩⟩
section
variable{M:Model}{A:cO}{E:aC->aK->Prop}{s:aK}
def I9
  (hfr:A.frames=some (env::outer))(hl:s.heap.FunFrames base (env::outer))(hf:env.frame=some L)(he:s.heap.get? e=some oe)(hd:oe.data=.fields vs)(hsz:1<vs.size)
  (h:∀h' T,s.heap.objs.size<=T->Noted (wg (env::outer)) e s.heap h'->Rec h' e T oe.cls vs[2]?->Q () {s with heap:=h'}):
  bA M A (do let a <-frameOf env;let pl <-entryPlaceOf L nx;let b <-EntryCells.newEntry head a .none (lE L) .none pl;setField (.ref e) 1 b) Q E s:=by
 have nfr:e∉wg (env::outer):=λz=>by
  obtain⟨_,u,hu,nf⟩:=hl.mem z;rw[he]at hu;cases hu;exact nf vs hd
 refine aE (wpAny_frameOf_fun hfr hl hf λh1 k1=>aE (wpAny_entryPlaceOf λpl ipl=>?_));unfold EntryCells.newEntry newFields;refine aE (fN ?_ (ipl.sizeOk5 _ _ _ _ _));have g1:h1.get? e=some oe:=(k1.2.1 e nfr).trans he;generalize hto:({cls:=Value.type "traceback",dict:=none,data:=.fields ([head,cD L,dD,lE L,dD]++(if pl.isEmpty then aS 6 dD else pl)).toArray}:Obj)=tO;have g2:=aR (h:=h1) tO g1;have ne:h1.objs.size≠e:=Nat.ne_of_gt (aX g1);have d3:=kK hd (·.setIfInBounds 1 (cD h1.objs.size));have g3:=fA (dR (·.setIfInBounds 1 (cD h1.objs.size))) g2 (Obj.isFreed_of_fields d3);have hfreed:tO.isFreed=false:=by rw[<-hto];rfl
 have t3:=(dG (h1.push tO) (dR (·.setIfInBounds 1 (cD h1.objs.size))) (fZ ne)).trans (bR h1 hfreed);have dT:∃ts,tO.data=.fields ts/\3<ts.size:=by
  rw[<-hto];exact⟨_,rfl,by simp only[aZ,aI,aM,lY]<;>lia⟩
 obtain⟨ts,dT,s3⟩:=dT;have all:∀b o,b≠e->h1.get? b=some o->((h1.push tO).update e (dR (·.setIfInBounds 1 (cD h1.objs.size)))).get? b=some o:=λb o hb q=>by
  rw[dG _ _ (fZ hb)];exact aR _ q
 refine gU g2 hd hsz (h _ h1.objs.size (by rw[k1.1];exact aO _) ⟨λb o hb hn q=>all b o hb ((k1.2.1 b hn).trans q),λb o hb q=>?_,?_⟩ ⟨⟨_,_,g3,Obj.cls_mapFields _ _,d3,by simp[hsz],by simp⟩,⟨_,_,t3,dT,s3⟩,ne⟩)
 ·obtain⟨sl,q'⟩:=k1.2.2 b o q;exact⟨sl,all b _ hb q'⟩
 ·rw[lJ,kH,k1.1];exact jL _
def F7{e:aC}{env env':Env}(h:env'.frame=env.frame):iN e env'=iN e env:=by
 unfold iN PySem.frameOf;rw[h]
def Ao{h0:Heap}{H:Hp}{base:Heap}{env env':Env}{outer:List Env}{L a:Addr}{cls:aC}{Q:Unit->aK->Prop}
  (hfr:A.frames=some (env::outer))(hl:s.heap.FunFrames base (env::outer))(hf:env.frame=some L)(hf':env'.frame=some L)(x:ExAt h0 s.heap H a cls)(fresh:∀T,s.heap.objs.size<=T->h0.get? T=none/\H T=none)
  (h:∀h' ch,(∀b,ch b->h0.get? b=none/\H b=none)->Chg (wg (env::outer)) ch s.heap h'->ExAt h0 h' H a cls->Ri h' a->Q () {s with heap:=h'}):bA M A (iN (.ref a) env') Q E s:=by
 rw[F7 (hf'.trans hf.symm)];obtain⟨oe,vs,he,hc,hd,hsz,hcx,htb⟩:=x.obj;unfold iN;simp only[hf];have fin:∀{h' T},s.heap.objs.size<=T->Rec h' a T oe.cls vs[2]?->ExAt h0 h' H a cls/\Ri h' a:=λ{h' T} hT hR=>by
  obtain⟨⟨oe',vs',x1,x2,x3,x4,x5⟩,⟨oT,ts,y1,y2,y3⟩,hne⟩:=hR;exact⟨⟨x.new,x.free,oe',vs',x1,x2.trans hc,x3,(Array.getElem?_eq_some_iff.mp x4).1,by rw[x5];exact hcx,.inr ⟨T,oT,ts,x4,(fresh T hT).1,hne,(fresh T hT).2,y1,y2,y3⟩⟩,oe',vs',T,x1,x3,x4⟩
 rcases htb with h1|⟨T,oT,ts,h1,hn0,hne,hHT,hT,hdT,h3⟩
 ·refine aE (eT he hd h1 ?_);rw[aG (by decide)];exact I9 hfr hl hf he hd hsz λh' T q b c=>h h' (λb=>b=a) (λb z=>z▸⟨x.new,x.free⟩) ⟨λb' o q r z=>b.keep b' o q r z,λb' o q z=>b.slot b' o q z,b.size⟩ (fin q c).1 (fin q c).2
 ·refine aE (eT he hd h1 ?_);rw[aB (show(cD T !=dD)=true by simp)];refine aE (eT hT hdT (fC h3) ?_)
  by_cases q3:(ts[3]==lE L)=true
  ·rw[aB q3];exact aT (h s.heap (λ_=>False) (λ_ z=>z.elim) ⟨λb o _ _ q=>q,λb o _ q=>⟨o.slots,q⟩,aO _⟩ x ⟨oe,vs,T,he,hd,h1⟩)
  ·rw[aG q3];refine aE (gU hT hdT h3 ?_);have oth:∀b,b≠T->(s.heap.update T (dR (·.setIfInBounds 3 dD))).get? b=s.heap.get? b:=λb hb=>dG _ _ (fZ hb);have hrec:∀b o,s.heap.get? b=some o->(∀vs,o.data≠.fields vs)->b≠T:=λb o q nf z=>by rw[z,hT]at q;cases q;exact nf ts hdT
   have sz:(s.heap.update T (dR (·.setIfInBounds 3 dD))).objs.size=s.heap.objs.size:=lJ ..;refine I9 hfr (hl.of_keeps λb o q nf=>⟨o,(oth b (hrec b o q nf)).trans q,rfl⟩) hf ((oth a (fZ hne)).trans he) hd hsz λh' T' q b c=>h h' (λb=>b=a\/b=T) (λb z=>?_) ⟨λb' o q z w=>b.keep b' o (λy=>q (.inl y)) z ((oth b' λy=>q (.inr y)).trans w),λb' o q w=>b.slot b' o (λy=>q (.inl y)) ((oth b' λy=>q (.inr y)).trans w),bC (eC sz.symm) b.size⟩ (fin (bC (eC sz.symm) q) c).1 (fin (bC (eC sz.symm) q) c).2;rcases z with rfl|rfl
   ·exact⟨x.new,x.free⟩
   ·exact⟨hn0,hHT⟩
def Bf{h0:Heap}{H:Hp}{a:Addr}{cls:aC}{fo:Option Addr}{fr:List Addr}{Q:Unit->aK->Prop}(x:ExAt h0 s.heap H a cls)
  (h:∀h' ch,(∀b,ch b->h0.get? b=none/\H b=none)->Chg fr ch s.heap h'->ExAt h0 h' H a cls->Q () {s with heap:=h'}):bA M A (setFlight (.ref a) fo) Q E s:=by
 obtain⟨oe,vs,he,hc,hd,hsz,hcx,htb⟩:=x.obj;unfold setFlight;rcases htb with h1|⟨T,oT,ts,h1,hn0,hne,hHT,hT,hdT,h3⟩
 ·refine aE (eT he hd h1 ?_);rw[aG (by decide)];exact aT (h s.heap (λ_=>False) (λ_ z=>z.elim) ⟨λb o _ _ q=>q,λb o _ q=>⟨o.slots,q⟩,aO _⟩ x)
 ·refine aE (eT he hd h1 ?_);rw[aB (show(cD T !=dD)=true by simp)];refine gU hT hdT h3 (h _ (λb=>b=T) (λb z=>z▸⟨hn0,hHT⟩) ⟨λb o hb _ q=>?_,λb o hb q=>⟨o.slots,?_⟩,eC (lJ ..).symm⟩ ⟨x.new,x.free,oe,vs,?_,hc,hd,hsz,hcx,.inr ⟨T,_,_,h1,hn0,hne,hHT,fA _ hT (Obj.isFreed_of_fields (kK hdT _)),kK hdT _,by simp[h3]⟩⟩)
  ·rw[dG _ _ (fZ hb)];exact q
  ·rw[dG _ _ (fZ hb)];exact q
  ·rw[dG _ _ hne];exact he
def Qq{α:Type}{h0:Heap}{H:Hp}{a:Addr}{cls:aC}{what:String}{env:Env}{fr:List Addr}{Q:α->aK->Prop}(x:ExAt h0 s.heap H a cls)(t:Ri s.heap a)
  (h:∀h' ch,(∀b,ch b->h0.get? b=none/\H b=none)->Chg fr ch s.heap h'->ExAt h0 h' H a cls->E (.ref a) {s with heap:=h'}):bA M A (lR what (.ref a) env:Sem α) Q E s:=by
 obtain⟨oe,vs,T,he,hd,h1⟩:=t;unfold lR;refine aE (eT he hd h1 ?_);rw[aG (show¬((cD T==dD)=true) by simp)];exact aE (Bf (fr:=fr) x λh' ch a b c=>wpAny_throw (h h' ch a b c))
end
section
variable{X:Cx}{pins:List (Addr×Obj)}{Z:St}{H:Hp}{s:aK}
def Inv.noted(J:Inv X pins Z H s){h':Heap}(ch:Addr->Prop)(hch:∀b,ch b->X.s₀.heap.get? b=none/\H b=none/\b≠X.env.locals/\(∀x c,X.env.cells.lookup x=some c->c≠b)/\∀p∈X.pn++pins,p.1≠b)
  (k1:∀b o,¬ch b->b∉wg X.stack->s.heap.get? b=some o->h'.get? b=some o)(k2:∀b o,¬ch b->s.heap.get? b=some o->∃sl,h'.get? b=some {o with slots:=sl}):Inv X pins Z H {s with heap:=h'}:=by
 have nch:∀b o,X.s₀.heap.get? b=some o->¬ch b:=λb o e z=>by rw[(hch b z).1]at e;cases e
 have i7:∀b,b≠X.env.locals->b∉X.fs->b∉wg X.stack:=λb h1 h2 z=>(List.mem_cons.mp (J.stkSub b z)).elim h1 h2;have neL:∀b o,X.s₀.heap.get? b=some o->b≠X.env.locals:=λb o e=>cI (aW (aX e) J.ok.above);have cellK:∀x c,X.env.cells.lookup x=some c->∀v,s.heap.IsCell c v->h'.IsCell c v:=λx c e v ⟨o,ho,hd⟩=>by
  obtain⟨sl,q⟩:=k2 c o (λz=>(hch c z).2.2.2.1 x c e rfl) ho;exact⟨_,q,hd⟩
 refine⟨J.ok,J.os,J.bare,⟨λb o e n hb hx=>?_,λb o e n hb hx=>?_,J.base.free,λb o e hx=>?_,J.base.tups,J.base.frzs,J.base.tbls⟩,?_,λx c e=>?_,J.free,J.freeC,λp hp=>?_,λb o q=>?_,J.len⟩
 ·exact k1 b o (nch b o e) (i7 b (neL b o e) hb) (J.base.keep b o e n hb hx)
 ·obtain⟨sl,e1⟩:=J.base.slot b o e n hb hx;obtain⟨sl',e2⟩:=k2 b _ (nch b o e) e1;exact⟨sl',e2⟩
 ·obtain⟨o',e1⟩:=J.base.there b o e hx;obtain⟨sl,e2⟩:=k2 b o' (nch b o e) e1;exact⟨_,e2⟩
 ·obtain⟨m,⟨o,es,ep,ho,r⟩,hl⟩:=J.loc;obtain⟨sl,q⟩:=k2 X.env.locals o (λz=>(hch _ z).2.2.1 rfl) ho;refine⟨m,⟨_,es,ep,q,r⟩,λi x v e1 e2 e3=>?_⟩;obtain⟨u,rv,l⟩:=hl i x v e1 e2 e3;refine⟨u,rv,?_⟩;rcases l with l|⟨k,c,e,z⟩
  ·exact .inl l
  ·exact .inr ⟨k,c,e,cellK x c e _ z⟩
 ·obtain⟨v,z⟩:=J.cell x c e;exact⟨v,cellK x c e v z⟩
 ·obtain⟨a1,a2,a3,a4,a5⟩:=J.pin p hp;exact⟨k1 p.1 p.2 (λz=>(hch _ z).2.2.2.2 p hp rfl) (i7 _ a3 a4) a1,a2,a3,a4,a5⟩
 ·refine(J.hok b o q).stay (λc u hc r=>?_) (λ_ z=>z) λ_ _ z=>z;have tr:∃v,H c=some v:=by
   rcases hc with rfl|hc
   ·exact⟨o,q⟩
   ·exact⟨_,hc⟩
  obtain⟨v,tr⟩:=tr;refine k1 c u (λz=>?_) (λz=>?_) r
  ·rw[(hch c z).2.1]at tr;cases tr
  ·rw[J.stkFree c z]at tr;cases tr
def Inv.young{H1:Hp}{s1:aK}(I:Inv X pins Z H1 s1)(hx:X.ex=[]){b:Addr}(z:s1.heap.get? b=none):X.s₀.heap.get? b=none/\b≠X.env.locals/\(∀x c,X.env.cells.lookup x=some c->c≠b)/\∀p∈X.pn++pins,p.1≠b:=by
 refine⟨?_,?_,λx c e y=>?_,λp hp y=>?_⟩
 ·cases r:X.s₀.heap.get? b with
  |none=>rfl
  |some o=>
   obtain⟨o',r'⟩:=I.base.there b o r (by rw[hx];simp);rw[z]at r';cases r'
 ·rintro rfl
  obtain⟨m,⟨o,es,ep,ho,r⟩,hl⟩:=I.loc;rw[z]at ho;cases ho
 ·subst y;obtain⟨v,o,ho,_⟩:=I.cell x c e;rw[z]at ho;cases ho
 ·subst y;rw[(I.pin p hp).1]at z;cases z
end
def Ja{h:Heap}(x:ObjOk P w H h a o):∃u,h.get? a=some u:=by
 cases o with
 |lst xs=>obtain⟨_,_,_,_,e⟩:=x;exact⟨_,e⟩
 |tup xs=>obtain⟨_,_,_,u,e,_⟩:=x;exact⟨_,e⟩
 |dK kvs=>obtain⟨_,_,_,_,o,_,_,e,_⟩:=x;exact⟨_,e⟩
 |dT kvs=>obtain⟨_,_,_,_,o,_,_,e,_⟩:=x;exact⟨_,e⟩
 |set S n=>obtain⟨o,_,_,_,e,_⟩:=x;exact⟨_,e⟩
 |ins C dx fs=>obtain⟨_,_,_,e,_⟩:=x;exact⟨_,e⟩
 |own y=>exact x
 |xd fs=>obtain⟨_,⟨_,_,_,e,_⟩,_⟩:=x;exact⟨_,e⟩
 |rng lo hi=>obtain⟨_,_,_,e⟩:=x;exact⟨_,e⟩
 |frz ob u=>obtain⟨e,_⟩:=x;exact⟨_,e⟩
 |tbl q=>obtain⟨ps,e,_⟩:=x;exact⟨_,e⟩
 |met f y=>exact⟨_,x⟩
 |ext φ=>obtain⟨_,e,_⟩:=x;exact e
def Ie{h:Heap}(x:HOk P w H h)(e:h.get? a=none):H a=none:=by
 cases q:H a with
 |none=>rfl
 |some o=>
  obtain⟨u,z⟩:=Ja (x a o q);rw[e]at z;cases z
def Aw(P:bN)(w:cH):Rh:=λouter H s E e s'=>∃a cls H',e=.ref a/\s'.os=s.os/\jZ s'.gens/\Un (wg outer) [] H H' s.heap s'.heap/\HOk P w H' s'.heap/\ExAt s.heap s'.heap H' a cls/\E cls none H'
def Acc(X:Cx)(E:XK):Prop:=∀(pins:List (Addr×Obj))(Z:St)(H1:Hp)(s1:aK)(H:Hp)(s:aK)(a:Addr)(cls:aC),Inv X pins Z H1 s1->Inv X pins Z H s->(∀T,s.heap.objs.size<=T->s1.heap.get? T=none)->ExAt s1.heap s.heap H a cls->E cls none H->X.xe (.ref a) s
def Acc.goes{X:Cx}{E:XK}(A:Acc X E):tm (Aw X.prog X.w) X E:=λpins Z H s e s' I c=>by
 obtain⟨a,cls,H',rfl,os,bare,un,hok,ex,q⟩:=c;refine A pins Z H s H' s' a cls I (I.call' os un hok bare (λb z=>absurd z (by simp))) (λT hT=>?_) ex q;cases r:s.heap.get? T with
 |none=>rfl
 |some o=>
  obtain⟨o',r'⟩:=un.there T o r (by simp);exact absurd (aW (aX r') hT) (cK _)
def wz{X:Cx}:Acc X E0:=λ_ _ _ _ _ _ _ _ _ _ _ _ q=>q.elim
def Inv.chg{X:Cx}{pins:List (Addr×Obj)}{Z:St}{H1 H:Hp}{s1 s:aK}{h':Heap}{ch:Addr->Prop}(hx:X.ex=[])(I:Inv X pins Z H1 s1)(J:Inv X pins Z H s)(n:∀b,ch b->s1.heap.get? b=none/\H b=none)(c:Chg (wg X.stack) ch s.heap h'):Inv X pins Z H {s with heap:=h'}:=
 J.noted ch (λb hb=>have y:=I.young hx (n b hb).1;⟨y.1,(n b hb).2,y.2⟩) c.keep c.slot
def G9{P:bN}{w:cH}{K:aP}{mg:Str->Option aC}{base:Heap}{N:List Str}{qual:Str}{scope:eS}{f:Addr}{cd:aC}{A:cO}{outer:List Env}{s₀:aK}{H₀:Hp}{E:XK}:
  Acc (yh (Aw P w) P w K mg base N qual scope f cd A outer s₀ H₀ E) E:=λpins Z H1 s1 H s a cls I J th ex q=>by
 show bA _ _ (leaving _ (.ref a)) _ _ _;unfold leaving;refine aE (Ao J.ok.frames J.stack rfl rfl ex (λT hT=>⟨th T hT,J.hok.fresh hT⟩) λh1 ch1 n1 c1 x1 _=>Bf (fr:=wg (yh (Aw P w) P w K mg base N qual scope f cd A outer s₀ H₀ E).stack) x1 λh2 ch2 n2 c2 x2=>?_);have J1:=Inv.chg rfl I J n1 c1;have J2:=Inv.chg (h':=h2) rfl I J1 n2 c2;exact⟨a,cls,H,rfl,J2.os,J2.bare,J2.base,J2.hok,x2.old λb z=>(I.young rfl z).1,q⟩
end L2
end
section
namespace Pu
open PySem PySem.Spec PyProof.Rows L2
def vi(h:a<b):a≠b+1:=by lia
def Uc:b+1≠b:=by lia
instance:Inhabited D:=⟨.non⟩
def Fm(I:Nat->aK->Prop)
   (turn:∀n s,I n s->bA (bE prog w) A (pyNext it) (λr s₁=>match r with
   |none=>R (.ok .next) s₁
   |some v=>bA (bE prog w) A (jS target it v) (λ_ s₁=>bA (bE prog w) A (assign target env v) (λ_ s₂=>
     bA (bE prog w) A (lW ifs true λc r=>if r=true then do let ok <-isTrue c env (eval c env);pure (jT ok)else pure (jT r)) (λok s₃=>
      if ok=true then bA (bE prog w) A (eval elt env) (λx s₄=>
       bA (bE prog w) A (call (.builtin "list.append") [acc,x]) (λ_ s₅=>∃m,m<n/\I m s₅) (kB (bE prog w) A env λe s'=>R (.error e) s') s₄) (kB (bE prog w) A env λe s'=>R (.error e) s') s₃
      else∃m,m<n/\I m s₃) (kB (bE prog w) A env λe s'=>R (.error e) s') s₂) (kB (bE prog w) A env λe s'=>R (.error e) s') s₁) (kB (bE prog w) A env λe s'=>R (.error e) s') s₁) (kB (bE prog w) A env λe s'=>R (.error e) s') s)
  (n:Nat) (h:I n s):
  kX (bE prog w) A (.compLoop (.ListComp elt [⟨target,iter,ifs,0⟩] scope pos) 0 it acc env) R s:=by
 refine codeAny_loop rfl I (λn s hI=>?_) n h;show bA _ A ((compTurn (.ListComp elt [⟨target,iter,ifs,0⟩] scope pos) 0 it acc env).onRaise (λx=>do iN x env;theTreesLotGoes x)) _ _ s;refine wpAny_noted ?_;rw[compTurn_list];refine aE (iD (aE (bQ (turn n s hI) (λr s₁ h₁=>?_) λ_ _ h'=>h')));cases r with
 |none=>exact aT h₁
 |some v=>
  refine aE (bQ h₁ (λ_ s₁' h₁=>?_) λ_ _ h'=>h');refine aE (bQ h₁ (λ_ s₂ h₂=>aE (bQ h₂ (λok s₃ h₃=>?_) λ_ _ h'=>h')) λ_ _ h'=>h');cases ok with
  |false=>exact aT ⟨rfl,h₃⟩
  |true=>
   exact aE (aE (bQ h₃ (λx s₄ h₄=>aE (bQ h₄ (λ_ s₅ h₅=>aT (aT ⟨rfl,h₅⟩)) λ_ _ h'=>h')) λ_ _ h'=>h'))
noncomputable def kl(env:Env):List (Str×fX)->List (Str×Addr)->Option (List (Str×Addr))
 |[],cs=>some cs
 | (n, k) :: r, cs => if k = .free then (match env.cells.lookup n with
  |some c=>kl env r ((n,c)::cs)
  |none=>none)else kl env r cs
theorem ye(env:Env):∀(names:List (Str×fX))(cs cl:List (Str×Addr)),kl env names cs=some cl->
  (lW names cs λx (c:List (Str×Addr))=>(if(x.2==eU)=true then do let a <-cellOf env x.1;pure (jT ((x.1,a)::c))else pure (jT c):Sem _))=pure cl
 |[],cs,cl,h=>by cases h;rfl
 |(n,k)::r,cs,cl,h=>by
  unfold kl at h;rw[iJ]
  by_cases hk:k=.free
  ·subst hk;simp only[if_true]at h;cases hc:env.cells.lookup n with
   |none=>rw[hc]at h;cases h
   |some c=>
    rw[hc]at h;have:cellOf env n=pure c:=by unfold cellOf;rw[hc]
    simp only[beq_self_eq_true,if_true,this,pure_bind];exact ye env r _ cl h
  ·rw[aG hk]at h;have hb:(k==eU)=false:=by simpa using hk
   simp only[hb,Bool.false_eq_true,if_false,pure_bind];exact ye env r _ cl h
def vt{scope:eS}(h:kl env scope.names []=some cl):closureFor scope env=pure cl:=by
 have q:=ye env scope.names [] cl h;unfold closureFor;exact(congrArg (λt=>t>>=λcs=>pure cs) q).trans (pure_bind _ _)
theorem we(env:Env):∀(names:List (Str×fX))(cs cl:List (Str×Addr)),kl env names cs=some cl->(∀p∈cs,env.cells.lookup p.1=some p.2)->∀p∈cl,env.cells.lookup p.1=some p.2
 |[],cs,cl,h,q=>by cases h;exact q
 |(n,k)::r,cs,cl,h,q=>by
  unfold kl at h
  by_cases hk:k=.free
  ·subst hk;simp only[if_true]at h;cases hc:env.cells.lookup n with
   |none=>rw[hc]at h;cases h
   |some c=>
    rw[hc]at h;refine we env r _ cl h λp hp=>?_;rcases List.mem_cons.mp hp with rfl|hp
    ·exact hc
    ·exact q p hp
  ·rw[aG hk]at h;exact we env r _ cl h q
theorem r9:∀{l:List (Str×β)}{x:Str}{c:β},l.lookup x=some c->(x,c)∈l
 |[],_,_,h=>by simp at h
 |(n,b)::r,x,c,h=>by
  rw[lK]at h
  by_cases e:x=n
  ·subst e;simp only[beq_self_eq_true]at h;cases h;exact aH
  ·have hb:(x==n)=false:=by simpa using e
   rw[hb]at h;exact aF _ (r9 h)
def SU(X:Cx)(scope:eS)(cl:List (Str×Addr))(C:Addr):aC->aK->Prop:=kB (bE X.prog X.w) X.A (compEnvC scope cl C X.env) λe s'=>∃m,s'.heap.Ns C m/\∀h',fK C s'.heap h'->∀cenv:Env,cenv.locals=C->bA (bE X.prog X.w) X.A (lR "comprehension.variables-let-go" e cenv:Sem aC) (λ_ _=>False) X.xe {s' with heap:=h'}
noncomputable def ic(X:Cx)(scope:eS)(cl:List (Str×Addr))(N:List Str)(xs:List Str)(C:Addr)(s₀:aK)(H₀:Hp)(ex:List Addr)(pn:List (Addr×Obj)):Cx where
 prog:=X.prog
 w:=X.w
 K:=(kx X)
 mg:=X.mg
 base:=X.base
 A:=X.A
 N:=N
 s₀:=s₀
 H₀:=H₀
 env:=compEnvC scope cl C X.env
 outer:=X.stack
 stack:=X.stack
 ex:=ex
 fn:=λy=>decide (y∈xs)
 calm:=X.calm
 pn:=pn
 xe:=SU X scope cl C
structure CapOk(X:Cx)(scope:eS)(cl:List (Str×Addr))(y:Str)(i:Nat):Prop where
 at_:X.N[i]?=some y
 vis:JU X.env.scope y
 nloc:X.env.kindOf y≠some .local
 cell:∃c,cl.lookup y=some c
 kind:(kC scope X.env).names.lookup y=some .cell\/(kC scope X.env).names.lookup y=some .free
def Caps(X:Cx)(scope:eS)(cl:List (Str×Addr)):List Str->List Nat->Prop
 |[],ix=>ix=[]
 |y::M,ix=>∃i r,ix=i::r/\CapOk X scope cl y i/\Caps X scope cl M r
theorem Caps.get:∀{M:List Str}{ix:List Nat},Caps X scope cl M ix->∀(j:Nat) y,M[j]?=some y->∃i,ix[j]?=some i/\CapOk X scope cl y i
 |[],_,_,j,y,h=>by simp at h
 |_::_,_,⟨i,r,h1,h2,h3⟩,0,y,h=>by
  simp at h;subst h;subst h1;exact⟨i,rfl,h2⟩
 |_::_,_,⟨i,r,h1,h2,h3⟩,j+1,y,h=>by
  subst h1;obtain⟨k,q1,q2⟩:=Caps.get h3 j y (by simpa using h);exact⟨k,by simpa using q1,q2⟩
theorem Caps.length:∀{M:List Str}{ix:List Nat},Caps X scope cl M ix->M.length=ix.length
 |[],_,h=>by rw[show _=[]from h];rfl
 |_::_,_,⟨i,r,h1,h2,h3⟩=>by rw[h1,aM,aM,Caps.length h3]
structure CompOk(X:Cx)(scope:eS)(cl:List (Str×Addr))(xs:List Str)(M:List Str)(ix:List Nat):Prop where
 clos:kl X.env scope.names []=some cl
 kind:scope.kind=.function
 ncell:∀y∈scope.names,y.2≠.cell
 names:∀y∈scope.names,y.2=.local->scope.names.lookup y.1=some .local
 loc:∀x∈xs,scope.names.lookup x=some .local
 xcl:∀x∈xs,cl.lookup x=none
 nd:(xs++M).Nodup
 ixd:ix.Nodup
 cap:Caps X scope cl M ix
section
variable{X:Cx}{scope:eS}{cl:List (Str×Addr)}{xs:List Str}{M:List Str}{ix:List Nat}{pins:List (Addr×Obj)}{Z:St}{H:Hp}{s:aK}{fp:List Addr}
theorem ox(env:Env):∀(names:List (Str×fX))(cs cl:List (Str×Addr)),kl env names cs=some cl->∀y,((∃c,cs.lookup y=some c)\/(y,eU)∈names)->∃c,cl.lookup y=some c
 |[],cs,cl,h,y,q=>by
  cases h;rcases q with q|q
  ·exact q
  ·simp at q
 |(n,k)::r,cs,cl,h,y,q=>by
  unfold kl at h
  by_cases hk:k=.free
  ·subst hk;simp only[if_true]at h;cases hc:env.cells.lookup n with
   |none=>rw[hc]at h;cases h
   |some c=>
    rw[hc]at h;refine ox env r _ cl h y ?_
    by_cases e:y=n
    ·subst e;exact .inl ⟨c,by simp⟩
    ·rcases q with ⟨c',q⟩|q
     ·refine .inl ⟨c',?_⟩;have hb:(y==n)=false:=by simpa using e
      rw[lK,hb];exact q
     ·rcases List.mem_cons.mp q with z|z
      ·cases z;exact absurd rfl e
      ·exact .inr z
  ·rw[aG hk]at h;refine ox env r _ cl h y ?_;rcases q with q|q
   ·exact .inl q
   ·rcases List.mem_cons.mp q with z|z
    ·cases z;exact absurd rfl hk
    ·exact .inr z
def CompOk.free(O:CompOk X scope cl xs M ix):∀y,(y,eU)∈scope.names->∃c,cl.lookup y=some c:=λy h=>ox X.env _ _ cl O.clos y (.inr h)
theorem CompOk.cells(O:CompOk X scope cl xs M ix)(h:cl.lookup y=some c):X.env.cells.lookup y=some c:=
 we X.env _ _ cl O.clos (λp hp=>by simp at hp) (y,c) (r9 h)
def F3{scope:eS}(h:(kC scope env).names.lookup y=some .cell\/(kC scope env).names.lookup y=some .free)(hn:∀z∈scope.names,z.2≠.cell):(y,eU)∈scope.names:=by
 have key:∃k,(y,k)∈(kC scope env).names/\(k=.cell\/k=.free):=by
  rcases h with h|h
  ·exact⟨_,r9 h,.inl rfl⟩
  ·exact⟨_,r9 h,.inr rfl⟩
 obtain⟨k,hm,hk⟩:=key;obtain⟨⟨n,k'⟩,hm',e⟩:=List.mem_map.mp hm
 by_cases hc:(k'==eU && env.scope.kind==.function && env.kindOf n==some .cell)=true
 ·simp only[hc,if_true]at e;cases e;have:k'=.free:=by
   simp only[aA]at hc;simpa using hc.1.1
  subst this;exact hm'
 ·simp only[hc,if_false]at e;cases e;rcases hk with hk|hk
  ·exact absurd hk (hn _ hm')
  ·subst hk;exact hm'
def X8(O:CompOk X scope cl xs M ix)(I:Inv X pins Z H s)(hf:∀b∈fp,Ax X pins H b)(hfs:∀b∈fp,b<s.heap.objs.size){h1:Heap}(hk:∀b o,s.heap.get? b=some o->h1.get? b=some o)(hz:h1.objs.size=s.heap.objs.size+1):
  (ic X scope cl (xs++M) xs (s.heap.objs.size+1) {s with heap:=h1,toks:=tk} (upd H s.heap.objs.size (.lst [])) fp (X.pn++pins)).Ok:=by
 have fresh:H s.heap.objs.size=none:=I.hok.fresh (aO _);have old:∀{b:Addr}{o:Obj},s.heap.get? b=some o->b≠s.heap.objs.size:=λe z=>by
  have:=aX e;rw[z]at this;exact cK _ this
 have cne:∀y c,cl.lookup y=some c->c<s.heap.objs.size:=λy c e=>by
  obtain⟨v,q⟩:=I.cell y c (O.cells e);exact q.lt
 have kO:=I.ok;refine⟨kO.mod,O.kind,kO.glob,kO.blt,?_,?_,?_,?_,kO.hd,kO.frames,.inl rfl,?_,?_,?_,?_,?_,?_,?_⟩
 ·show h1.objs.size<=s.heap.objs.size+1
  lia
 ·intro a b c h1 h2;exact kO.inj a b c (O.cells h1) (O.cells h2)
 ·intro y hy;have:=F3 (env:=X.env) (scope:=scope) (y:=y) hy O.ncell;exact O.free _ this
 ·intro y c hy hc;have hm:y∈xs:=of_decide_eq_true hy;rw[show(ic X scope cl (xs++M) xs (s.heap.objs.size+1) {s with heap:=h1,toks:=tk} (upd H s.heap.objs.size (.lst [])) fp (X.pn++pins)).env.cells=cl from rfl,O.xcl y hm]at hc;cases hc
 ·intro b hb;have:=hfs b hb;refine⟨?_,λy c e=>?_⟩
  ·exact vi this
  ·exact(hf b hb).2.2.2.2.1 y c (O.cells e)
 ·intro b o e;obtain⟨q1,q2⟩:=I.bs b o e;refine⟨hk b o q1,?_⟩;show upd H s.heap.objs.size (.lst []) b=none;rw[bt (old q1)];exact q2
 ·show X.base.objs.size<=h1.objs.size;have:=kO.bsz;have:=I.sz
  lia
 ·intro b o e hb;rcases(hf b hb).2.2.2.1 with q|q
  ·exact kO.noex b o e q
  ·exact absurd (aW (aX e) (bC kO.bsz q)) (cK _)
 ·intro b hb hfb;rcases List.mem_cons.mp (I.stkSub b hfb)with e|e
  ·exact(hf b hb).2.1 e
  ·exact(hf b hb).2.2.1 e
 ·exact I.stack.of_keeps λb o e _=>⟨o,hk b o e,rfl⟩
 ·intro b hb;show upd H s.heap.objs.size (.lst []) b=none;have q:=I.stkFree b hb;obtain⟨_,o,ho,_⟩:=I.stack.mem hb;rw[bt (old ho)];exact q
def j8(Z:St)(ix:List Nat)(os:List (Option V)):St:=os++ix.map λi=>(Z[i]?).join
def Kj{os:List (Option V)}(hn:os.length=xs.length)(O:CompOk X scope cl xs M ix):(j8 Z ix os).length=(xs++M).length:=by
 unfold j8;rw[aI,aI,aJ,hn,O.cap.length]
def Si(O:CompOk X scope cl xs M ix)(I:Inv X pins Z H s)(hf:∀b∈fp,Ax X pins H b)(hfs:∀b∈fp,b<s.heap.objs.size){h1 h2:Heap}(hk:∀b o,s.heap.get? b=some o->h1.get? b=some o)(hz:h1.objs.size=s.heap.objs.size+1)
  (ha:h1.get? s.heap.objs.size=some {cls:=.type "list",data:=.seq #[] 0})(hk2:∀b o,h1.get? b=some o->h2.get? b=some o)(hn:h2.Ns (s.heap.objs.size+1) m):
  Inv (ic X scope cl (xs++M) xs (s.heap.objs.size+1) {s with heap:=h1,toks:=tk} (upd H s.heap.objs.size (.lst [])) fp (X.pn++pins)) [] (j8 Z ix (aS xs.length none)) (upd H s.heap.objs.size (.lst [])) {s with heap:=h2,toks:=tk2}:=by
 have fresh:H s.heap.objs.size=none:=I.hok.fresh (aO _);have old:∀{b:Addr}{o:Obj},s.heap.get? b=some o->b≠s.heap.objs.size:=λe z=>by
  have:=aX e;rw[z]at this;exact cK _ this
 have hn1:h1.get? (s.heap.objs.size+1)=none:=jJ (by lia);have frC:H (s.heap.objs.size+1)=none:=I.hok.fresh (jL _);refine⟨X8 O I hf hfs hk hz,rfl,I.bare,Un.kept hk2,⟨m,hn,?_⟩,?_,?_,?_,?_,?_,Kj cQ O⟩
 ·intro i y v hi hv _
  by_cases hx:i<xs.length
  ·unfold j8 at hv;rw[bL (by rw[cQ];exact hx),List.getElem?_replicate_of_lt hx]at hv;cases hv
  ·obtain⟨j,rfl⟩:∃j,i=xs.length+j:=⟨i - xs.length,by lia⟩;have hy:M[j]?=some y:=by
    have q:(xs++M)[xs.length+j]?=some y:=hi;rw[bI (hW _ _)]at q;simpa using q
   obtain⟨k,hk',C⟩:=O.cap.get j y hy;have hv':((ix.map λi=>(Z[i]?).join)[j]?)=some (some v):=by
    unfold j8 at hv;rw[bI (by rw[cQ];exact hW _ _)]at hv;simpa using hv
   rw[bW,hk']at hv';have hs:(Z[k]?).join=some v:=by simpa using hv'
   have hs':Z[k]?=some (some v):=by
    cases e:Z[k]? with
    |none=>rw[e]at hs;simp at hs
    |some o=>rw[e]at hs;simp at hs;rw[hs]
   obtain⟨mX,_,hl⟩:=I.loc;obtain⟨u,r,lk⟩:=hl k y v C.at_ hs' C.vis;refine⟨u,r,.inr ⟨C.kind,?_⟩⟩;rcases lk with ⟨q,_⟩|⟨_,c,hc,hcell⟩
   ·exact absurd q C.nloc
   ·obtain⟨c',hc'⟩:=C.cell;have:=O.cells hc';rw[hc]at this;cases this;exact⟨c,hc',hcell.keeps λb o e=>hk2 b o (hk b o e)⟩
 ·intro y c hc;obtain⟨v,q⟩:=I.cell y c (O.cells hc);exact⟨v,q.keeps λb o e=>hk2 b o (hk b o e)⟩
 ·show upd H s.heap.objs.size (.lst []) (s.heap.objs.size+1)=none;rw[bt Uc];exact frC
 ·intro y c hc;obtain⟨v,q⟩:=I.cell y c (O.cells hc);have hne:(ic X scope cl (xs++M) xs (s.heap.objs.size+1) {s with heap:=h1,toks:=tk} (upd H s.heap.objs.size (.lst [])) fp (X.pn++pins)).fn y=false:=decide_eq_false λz=>by
   have hc':cl.lookup y=some c:=hc;rw[O.xcl y z]at hc';cases hc'
  rcases I.freeC y c (O.cells hc)with fr|⟨_,o,fr⟩
  ·refine .inl ?_;show upd H s.heap.objs.size (.lst []) c=none;rw[bt (cI q.lt)];exact fr
  ·refine .inr ⟨hne,o,?_⟩;show upd H s.heap.objs.size (.lst []) c=_;rw[bt (cI q.lt)];exact fr
 ·intro p hp;have hp':p∈X.pn++pins:=by simpa[ic]using hp
  obtain⟨q1,q2,q3,q4,q5⟩:=I.pin p hp';refine⟨hk2 _ _ (hk _ _ q1),?_,?_,?_,q5⟩
  ·show upd H s.heap.objs.size (.lst []) p.1=none;rw[bt (old q1)];exact q2
  ·exact vi (aX q1)
  ·intro hfb;rcases List.mem_cons.mp (I.stkSub p.1 hfb)with e|e
   ·exact q3 e
   ·exact q4 e
 ·refine I.hok.laid (λb o e=>hk2 b o (hk b o e)) (aO _) ⟨cA _,[],0,.nil,hk2 _ _ ha⟩
end
noncomputable def oz(f:D->Option (Option D)):List D->Option (List D)
 |[]=>some []
 |d::r=>match f d with
  |none=>none
  |some o=>match oz f r with
   |none=>none
   |some ys=>some (o.toList++ys)
inductive TR where
 |ok (o:Option D)
 |er (c:Str)
 |st
def lb(F:D->TR):List D->ResL
 |[]=>.ok []
 |d::r=>match F d with
  | .ok o => (match lb F r with
   |.ok ys=>.ok (o.toList++ys)
   |.er c=>.er c
   |.st=>.st)
  |.er c=>.er c
  |.st=>.st
def NI:Option (Option D)->TR
 |some o=>.ok o
 |none=>.st
def RA:Res->TR
 |.ok y=>.ok (some y)
 |.er c=>.er c
 |.st=>.st
theorem Fo{f:D->Option (Option D)}:∀ds:List D,lb (λd=>NI (f d)) ds=match oz f ds with
  |some ys=>.ok ys
  |none=>.st
 |[]=>rfl
 |d::r=>by
  unfold lb oz;cases f d with
  |none=>rfl
  |some o=>
   show(match lb (λd=>NI (f d)) r with
    |.ok ys=>ResL.ok (o.toList++ys)
    |.er c=>.er c
    |.st=>.st)=_
   rw[Fo r];cases oz f r<;>rfl
def M3(zs:List D):ResL->ResL
 |.ok r=>.ok (zs++r)
 |.er c=>.er c
 |.st=>.st
def S8(R:ResL):R=M3 [] R:=by cases R<;>rfl
def P0(zs:List D)(o:Option D)(R:ResL):M3 zs (match R with
  |.ok ys=>.ok (o.toList++ys)
  |.er c=>.er c
  |.st=>.st)=M3 (zs++o.toList) R:=by
 cases R with
 |ok r=>exact congrArg ResL.ok (aV ..).symm
 |er c=>rfl
 |st=>rfl
def de(ix:List Nat)(U:En)(s:Sl):En:=s::ix.map λi=>(U[i]?).getD .no
noncomputable def v8(ix:List Nat)(t:En->Res)(g:En->Res)(U:En)(d:D):Option (Option D):=match t (de ix U (.pu d))with
 |.ok (.bl true)=>(match g (de ix U (.pu d))with
  |.ok y=>some (some y)
  |_=>none)
 |.ok (.bl false)=>some none
 |_=>none
noncomputable def cm(r:En->ResL)(ix:List Nat)(t:En->Res)(g:En->Res):En->Res:=λU=>match r U with
 | .ok ds => if ds.length <= aD then (match oz (v8 ix t g U) ds with
  |some ys=>.ok (.lst ys)
  |none=>.st)else .st
 |.er c=>.er c
 |.st=>.st
noncomputable def ug(r:En->ResL)(f:En->D->Option (Option D)):En->Res:=λU=>match r U with
 | .ok ds => if ds.length <= aD then (match oz (f U) ds with
  |some ys=>.ok (.lst ys)
  |none=>.st)else .st
 |.er c=>.er c
 |.st=>.st
def wj(r:En->ResL)(ix:List Nat)(g:En->Res):En->Res:=λU=>match r U with
 |.ok ds=>if ds.length<=aD then(match lb (λd=>RA (g (de ix U (.pu d)))) ds with
  |.ok ys=>.ok (.lst ys)
  |.er c=>.er c
  |.st=>.st)else .st
 |.er c=>.er c
 |.st=>.st
def r8(r:En->ResL)(F:En->D->TR):En->Res:=λU=>match r U with
 | .ok ds => if ds.length <= aD then (match lb (F U) ds with
  |.ok ys=>.ok (.lst ys)
  |.er c=>.er c
  |.st=>.st)else .st
 |.er c=>.er c
 |.st=>.st
def Bi{r:En->ResL}{f:En->D->Option (Option D)}:ug r f=r8 r λU d=>NI (f U d):=by
 funext U
 unfold ug r8;cases r U with
 |ok ds=>
  dsimp only;rw[Fo];cases oz (f U) ds<;>rfl
 |er c=>rfl
 |st=>rfl
def P6{r:En->ResL}{F:En->D->TR}:JE (r8 r F):=λU d h=>by
 unfold r8 at h;cases e:r U with
 |ok ds=>
  rw[e]at h;dsimp only at h
  by_cases hl:ds.length<=aD
  ·rw[aB hl]at h;cases e2:lb (F U) ds with
   |ok ys=>rw[e2]at h;cases h;exact⟨_,rfl⟩
   |er c=>rw[e2]at h;cases h
   |st=>rw[e2]at h;cases h
  ·rw[aG hl]at h;cases h
 |er c=>rw[e]at h;cases h
 |st=>rw[e]at h;cases h
def CZ{F:En->D->TR}(q:ResP E G H (r8 r F U) P):
  ResLP E G H (r U) λds=>ds.length<=aD/\ResLP E G H (lb (F U) ds) λys=>P (.lst ys):=by
 unfold r8 at q;cases e:r U with
 |ok ds=>
  rw[e]at q;dsimp only at q
  by_cases hl:ds.length<=aD
  ·rw[aB hl]at q;refine⟨hl,?_⟩;cases e2:lb (F U) ds with
   |ok ys=>rw[e2]at q;exact q
   |er c=>rw[e2]at q;exact q
   |st=>rw[e2]at q;exact q
  ·rw[aG hl]at q;exact q.elim
 |er c=>rw[e]at q;exact q
 |st=>rw[e]at q;exact q
def k9(ix:List Nat)(U:En):En:=ix.map λi=>(U[i]?).getD .no
def Yb{K:KA}{G:Hp}:∀{ds:List D}{vs:List V},DenL K G ds vs->∀{j:Nat}{t:Sl},(ds.map Sl.pu)[j]?=some t->∃d v,t=.pu d/\(vs.map some)[j]?=some (some v)/\Den K G d v:=λ{ds vs} dl j t h=>by
 rw[bW]at h;cases e:ds[j]? with
 |none=>rw[e]at h;cases h
 |some d=>
  rw[e]at h;cases h;obtain⟨v,ev,dv⟩:=dl.get e;exact⟨d,v,rfl,by rw[bW,ev];rfl,dv⟩
def Ki{K:KA}{B G H:Hp}{Z:St}{U:En}{ix:List Nat}{ds:List D}{vs:List V}(R:EnvR K B G H Z U)(nd:ix.Nodup)(dl:DenL K G ds vs):EnvR K B G H (j8 Z ix (vs.map some)) (ds.map Sl.pu++k9 ix U):=by
 have key:∀(j:Nat) t,(k9 ix U)[j]?=some t->∃i,ix[j]?=some i/\((t=.no)\/U[i]?=some t)/\(ix.map λi=>(Z[i]?).join)[j]?=some ((Z[i]?).join):=λj t h=>by
  unfold k9 at h;rw[bW]at h;cases e:ix[j]? with
  |none=>rw[e]at h;cases h
  |some i=>
   rw[e]at h;refine⟨i,rfl,?_,by rw[bW,e];rfl⟩;cases e2:U[i]? with
   |none=>rw[lZ,e2]at h;cases h;exact .inl rfl
   |some u=>rw[lZ,e2]at h;cases h;exact .inr rfl
 have jo:∀(i:Nat) a,(Z[i]?).join=some (V.ref a)->Z[i]?=some (some (.ref a)):=λi a h=>by
  cases e:Z[i]? with
  |none=>rw[e]at h;simp at h
  |some o=>rw[e]at h;simp at h;rw[h]
 have hl:(vs.map some).length=(ds.map Sl.pu).length:=by rw[aJ,aJ,dl.length]
 have at_:∀{j:Nat}{t:Sl},(ds.map Sl.pu++k9 ix U)[j]?=some t->(∃d v,t=.pu d/\(j8 Z ix (vs.map some))[j]?=some (some v)/\Den K G d v)\/∃k,j=ds.length+k/\(k9 ix U)[k]?=some t/\(j8 Z ix (vs.map some))[j]?=(ix.map λi=>(Z[i]?).join)[k]?:=λ{j t} h=>by
  unfold j8
  by_cases hj:j<(ds.map Sl.pu).length
  ·rw[bL hj]at h;rw[bL (by rw[hl];exact hj)];exact .inl (Yb dl h)
  ·obtain⟨k,rfl⟩:∃k,j=ds.length+k:=⟨j - ds.length,by rw[aJ]at hj;lia⟩;rw[bI (by rw[aJ];exact hW _ _),aJ,Nat.add_sub_cancel_left]at h;exact .inr ⟨k,rfl,h,by rw[bI (by rw[hl,aJ];exact hW _ _),hl,aJ,Nat.add_sub_cancel_left]⟩
 refine⟨R.bh,R.gh,?_,λj t h=>?_,λj t a h1 h2 h3=>?_,λj k t u a h1 h2 h3 h4 h5 h6=>?_,R.gb⟩
 ·unfold j8 k9;rw[aI,aI,hl,aJ (as:=ix),aJ (as:=ix)]
 ·rcases at_ h with ⟨d,v,rfl,e,dv⟩|⟨k,rfl,h,e⟩
  ·exact⟨some v,e,v,rfl,dv⟩
  ·obtain⟨i,q1,q2,q3⟩:=key k t h;refine⟨_,e.trans q3,?_⟩;rcases q2 with rfl|q2
   ·trivial
   ·obtain⟨o',z1,z2⟩:=R.sl i t q2;rw[z1];exact z2
 ·rcases at_ h1 with ⟨d,v,rfl,e,dv⟩|⟨k,rfl,h,e⟩
  ·cases h2
  ·obtain⟨i,q1,q2,q3⟩:=key k t h;rw[e,q3]at h3;rcases q2 with rfl|q2
   ·cases h2
   ·exact R.own i t a q2 h2 (jo i a (bP h3))
 ·rcases at_ h1 with ⟨d,v,rfl,e,dv⟩|⟨j',rfl,h,e⟩
  ·cases h3
  ·rcases at_ h2 with ⟨d,v,rfl,e',dv⟩|⟨k',rfl,h',e'⟩
   ·cases h4
   ·obtain⟨i,q1,q2,q3⟩:=key j' t h;obtain⟨i',y1,y2,y3⟩:=key k' u h';rw[e,q3]at h5;rw[e',y3]at h6;rcases q2 with rfl|q2
    ·cases h3
    ·rcases y2 with rfl|y2
     ·cases h4
     ·have z:=R.dis i i' t u a q2 y2 h3 h4 (jo i a (bP h5)) (jo i' a (bP h6));subst z;have lj:j'<ix.length:=(List.getElem?_eq_some_iff.mp q1).1;rw[(List.getElem?_inj lj nd).mp (q1.trans y1.symm)]
structure TgB(X:Cx)(n:Nat)(tg:Expr)(td:D->Option (List D)):Prop where
 ex:∃gl,PG X tg gl/\∀{G H:Hp}{os:List (Option V)}{cs:St}{d:D}{v:V}{ds:List D}{Q:St->Hp->Prop},os.length=n->Same G H->Den (kx X) G d v->td d=some ds->(∀vs,DenL (kx X) G ds vs->vs.length=n->Q (vs.map some++cs) H)->gl v (os++cs) H Q
section
variable{X:Cx}{B:Hp}{E:EK}{E':XK}{scope:eS}{cl:List (Str×Addr)}{xs:List Str}{M:List Str}{ix:List Nat}{elt iter:Expr}{ifs:List Expr}{pos:Pos}{r:En->ResL}{t g:En->Res}{tg:Expr}{td:D->Option (List D)}
abbrev EF:EK:=λ_ _=>False
structure BlockOk(X:Cx)(B:Hp)(E:XK)(scope:eS)(cl:List (Str×Addr))(xs:List Str)(M:List Str)(tg:Expr)(td:D->Option (List D))(elt:Expr)(ifs:List Expr)(t g:En->Res):Prop where
 tgt:∀C s₀ H₀ ex pn,TgB (ic X scope cl (xs++M) xs C s₀ H₀ ex pn) xs.length tg td
 test:(ifs=[]/\t=gC (.bl true))\/∃c,ifs=[c]/\∀C s₀ H₀ ex pn,Cv (ic X scope cl (xs++M) xs C s₀ H₀ ex pn) B EF c t
 elt:∀C s₀ H₀ ex pn,Acc (ic X scope cl (xs++M) xs C s₀ H₀ ex pn) E->f9 (ic X scope cl (xs++M) xs C s₀ H₀ ex pn) B (ek (kx X) E) elt g
def JO(d:D):Option (List D):=some [d]
def Gu(O:CompOk X scope cl [x] M ix)(C s₀ H₀ ex pn):TgB (ic X scope cl ([x]++M) [x] C s₀ H₀ ex pn) 1 (.Name x px) JO:=
 ⟨_,Aq (i:=0) O.nd rfl (.inl (jM (O.loc x aH))) (.inl (decide_eq_true aH)),λ{G H os cs d v ds Q} h0 sg dn e q=>by
  cases e
  match os,h0 with
  |[o],_=>exact q [v] (DenL.one dn) rfl⟩
def NJ:D->Option (List D)
 |.tup [a,b]=>some [a,b]
 |_=>none
def Ww(O:CompOk X scope cl [x,y] M ix)(hc:X.calm=true)(C s₀ H₀ ex pn):TgB (ic X scope cl ([x,y]++M) [x,y] C s₀ H₀ ex pn) 2 (.Tuple [.Name x px,.Name y py] k tp) NJ:=
 ⟨_,U5 (X:=ic X scope cl ([x,y]++M) [x,y] C s₀ H₀ ex pn) hc (B2 (Aq (i:=0) O.nd rfl (.inl (jM (O.loc x aH))) (.inl (decide_eq_true aH)))
  (B2 (Aq (i:=1) O.nd rfl (.inl (jM (O.loc y (aF _ aH)))) (.inl (decide_eq_true (aF _ aH)))) N1)),λ{G H os cs d v ds Q} h0 sg dn e q=>by
  unfold NJ at e;split at e
  ·rename_i a b;cases e;obtain⟨l,vs,rfl,sq,dl⟩:=dn;obtain⟨v1,r1,rfl,d1,v2,r2,rfl,d2,e3⟩:=dl;cases e3
   match os,h0 with
   |[o1,o2],_=>exact⟨l,[v1,v2],rfl,SqT.of (sg _ _ sq),rfl,v1,_,rfl,v2,_,rfl,rfl,q [v1,v2] ⟨v1,_,rfl,d1,v2,_,rfl,d2,rfl⟩ rfl⟩
  ·cases e⟩
def TurnF(td:D->Option (List D))(cap:En)(t g:En->Res)(f:D->Option (Option D)):Prop:=∀d o,f d=some o->∃ds,td d=some ds/\
 ((t (ds.map Sl.pu++cap)=.ok (.bl true)/\∃y,g (ds.map Sl.pu++cap)=.ok y/\o=some y)\/(t (ds.map Sl.pu++cap)=.ok (.bl false)/\o=none))
def u4(ix:List Nat)(g:En->Res)(U:En)(d:D):Option (Option D):=match NJ d with
 |some ds=>(match g (ds.map Sl.pu++ix.map λi=>(U[i]?).getD .no)with
  |.ok y=>some (some y)
  |_=>none)
 |none=>none
def IH:TurnF NJ (k9 ix U) (gC (.bl true)) g (u4 ix g U):=λd o h=>by
 unfold u4 at h;split at h
 ·rename_i ds e;split at h
  ·rename_i y hg;cases h;exact⟨ds,e,.inl ⟨rfl,y,hg,rfl⟩⟩
  ·cases h
 ·cases h
def W4:TurnF JO (k9 ix U) t g (v8 ix t g U):=λd o h=>by
 refine⟨[d],rfl,?_⟩
 ·unfold v8 at h;have e:[d].map Sl.pu++k9 ix U=de ix U (.pu d):=rfl;rw[e];split at h
  ·rename_i ht;split at h
   ·rename_i y hg;cases h;exact .inl ⟨ht,y,hg,rfl⟩
   ·cases h
  ·rename_i ht;cases h;exact .inr ⟨ht,rfl⟩
  ·cases h
def Az(td:D->Option (List D))(cap:En)(t g:En->Res)(F:D->TR):Prop:=∀d,F d≠.st->∃ds,td d=some ds/\
 ((t (ds.map Sl.pu++cap)=.ok (.bl true)/\((∃y,g (ds.map Sl.pu++cap)=.ok y/\F d=.ok (some y))\/∃c,g (ds.map Sl.pu++cap)=.er c/\F d=.er c))\/(t (ds.map Sl.pu++cap)=.ok (.bl false)/\F d=.ok none))
def TurnF.tr{td:D->Option (List D)}{cap:En}{t g:En->Res}{f:D->Option (Option D)}(h:TurnF td cap t g f):Az td cap t g λd=>NI (f d):=λd hn=>by
 dsimp only at hn⊢;cases e:f d with
 |none=>rw[e]at hn;exact absurd rfl hn
 |some o=>
  obtain⟨ds,q,z⟩:=h d o e;refine⟨ds,q,z.imp (λ⟨a,y,b,c⟩=>⟨a,.inl ⟨y,b,by rw[c];rfl⟩⟩) λ⟨a,c⟩=>⟨a,by rw[c];rfl⟩⟩
def NH{ix:List Nat}{U:En}{g:En->Res}:Az JO (k9 ix U) (gC (.bl true)) g λd=>RA (g (de ix U (.pu d))):=λd hn=>by
 refine⟨[d],rfl,.inl ⟨rfl,?_⟩⟩;dsimp only at hn⊢;have e:[d].map Sl.pu++k9 ix U=de ix U (.pu d):=rfl;rw[e];cases q:g (de ix U (.pu d))with
 |ok y=>exact .inl ⟨y,rfl,rfl⟩
 |er c=>exact .inr ⟨c,rfl,rfl⟩
 |st=>rw[q]at hn;exact absurd rfl hn
def ResP.ok0{E:EK}{G H:Hp}{r:Res}{P:D->Prop}(d:D)(e:r=.ok d)(h:P d):ResP E G H r P:=by rw[e];exact h
def CJ(Y:Cx)(a:Addr)(k:Nat)(Z:St)(ix:List Nat)(fp:List Addr)(tn:Nat->Heap->Prop)(G H:Hp)(F:D->TR)(ds:List D)(r0:ResL)(n:Nat)(s1:aK):Prop:=
 ∃i os H1 G1 vs zs,os.length=k/\n=ds.length - i/\i<=ds.length/\Inv Y [] (j8 Z ix os) H1 s1/\tn i s1.heap/\(∀b∈fp,H1 b=none)/\
   H1 a=some (.lst vs)/\G1 a=none/\Ext G H G1 H1/\DenL (kx Y) G1 zs vs/\zs.length<=i/\r0=M3 zs (lb F (ds.drop i))
def Pn{Y:Cx}{a:Addr}{k:Nat}{Z:St}{U:En}{G H:Hp}{s:aK}{it:Addr}{fp:List Addr}{tn:Nat->Heap->Prop}{J:It}{ds:List D}{r0:ResL}{F:D->TR}{RR:Result->aK->Prop}{n:Nat}
  (TB:TgB Y k tg td)(TE:f9 Y B (ek (kx Y) E') elt g)(TT:(ifs=[]/\t=gC (.bl true))\/∃c,ifs=[c]/\Cv Y B EF c t)(hc:Y.calm=true)(hx:∀v s,Y.xe v s->kB (bE Y.prog Y.w) Y.A Y.env (λe s'=>RR (.error e) s') v s)(T:Turn Y.prog Y.w (kx Y) tg J fp it tn)(hfC:∀{H1:Hp},(∀b∈fp,H1 b=none)->∀b∈fp,Ax Y [] H1 b)
  (R:EnvR (kx Y) B G H Z U) (ixd:ix.Nodup) (fresh:H a=none) (ok:Cu (kx Y) J ds (λG2 H2=>Ext G H G2 H2)) (hl:ds.length<=aD) (hF:Az td (k9 ix U) t g F) (hst:r0≠.st) (her:∀c,r0=.er c->∀G' H',Ext G H G' H'->ek (kx Y) E' c H')
  (fin:∀s1 H1 G1 vs zs os,Inv Y [] (j8 Z ix os) H1 s1->H1 a=some (.lst vs)->G1 a=none->Ext G H G1 H1->DenL (kx Y) G1 zs vs->r0=.ok zs->RR (.ok .next) s1)
  (j:CJ Y a k Z ix fp tn G H F ds r0 n s):kX (bE Y.prog Y.w) Y.A (.compLoop (.ListComp elt [⟨tg,iter,ifs,0⟩] scope pos) 0 (.ref it) (.ref a) Y.env) RR s:=by
 refine Fm (CJ Y a k Z ix fp tn G H F ds r0) ?_ n j
 rintro n s1 ⟨i,os,H1,G1,vs,zs,hos,rfl,hi,I1,st1,fr1,ha1,ga1,x1,dl1,zl,er⟩
 obtain⟨okg,oks⟩:=ok i G1 H1 x1 x1.gh
 by_cases hlt:i<ds.length
 ·obtain⟨go,yl⟩:=okg ds[i] (dB hlt);rw[List.drop_eq_getElem_cons hlt]at er;unfold lb at er;have i7:F ds[i]≠.st:=λz=>by rw[z]at er;exact hst er
  refine bQ (T.item Y rfl rfl rfl hc i [] s1 _ H1 _ I1 (hfC fr1) st1 go) (λrr s2 ⟨u,hr,h2⟩=>?_) hx;subst hr;refine bQ h2 (λ_ s3 ⟨xv,H3,I3,r3,y3,st3,fr3⟩=>?_) hx;obtain⟨G3,e3,dn⟩:=yl xv H3 y3;have I3':=I3.pinned (hfC fr3) (T.obj _ _ st3);have x3:=x1.trans e3;have ha3:=e3.hh _ _ ha1;have ga3:=e3.fr _ _ ha1 ga1 rfl;obtain⟨dx,htd,hor⟩:=hF _ i7;obtain⟨gl,TO1,TO2⟩:=TB.ex;refine bQ (TO1 _ s3 _ H3 xv u (λσ' H'=>H'=H3/\∃vx,DenL (kx Y) G3 dx vx/\vx.length=k/\σ'=j8 Z ix (vx.map some)) I3' r3 (TO2 hos e3.gh dn htd λvx dl hv=>⟨rfl,vx,dl,hv,rfl⟩)) (λ_ s4 ⟨σ4,H4,I4,e4,vx,dlx,hvx,e5⟩=>?_) hx;subst e4 e5;have R4:=Ki (R.ext x3) ixd dlx;have next:∀{s5:aK}{H5:Hp}{G5:Hp}{us:List V}{ws:List D}{oy:Option D},F ds[i]=.ok oy->Inv Y ([]++yt fp s3.heap) (j8 Z ix (vx.map some)) H5 s5->
    H5 a=some (.lst us)->G5 a=none->Ext G H G5 H5->DenL (kx Y) G5 ws us->ws=zs++oy.toList->∃m,m<ds.length - i/\CJ Y a k Z ix fp tn G H F ds r0 m s5:=λ{s5 H5 G5 us ws oy} ef I5 ha5 ga5 x5 dl5 ew=>by
   have pn:=λb hb ob e=>I5.pin (b,ob) (cJ _ (cJ _ (wo hb e)));refine⟨_,Nat.sub_succ_lt_self _ _ hlt,i+1,vx.map some,H5,G5,us,ws,(aJ _).trans hvx,rfl,hlt,I5.unpinned,T.keep _ _ _ st3 λb hb ob e=>(pn b hb ob e).1,λb hb=>?_,ha5,ga5,x5,dl5,?_,?_⟩
   ·obtain⟨ob,e,d⟩:=T.obj _ _ st3 b hb;exact(pn b hb ob e).2.1
   ·rw[ew,aI];exact Nat.add_le_add zl (by cases oy<;>simp)
   ·rw[er,ef,ew];exact P0 zs oy _
  have val:∀{s5:aK}{H5 G5:Hp},Inv Y ([]++yt fp s3.heap) (j8 Z ix (vx.map some)) H5 s5->Ext G3 H4 G5 H5->((∃y,g (dx.map Sl.pu++k9 ix U)=.ok y/\F ds[i]=.ok (some y))\/∃c,g (dx.map Sl.pu++k9 ix U)=.er c/\F ds[i]=.er c)->
    bA (bE Y.prog Y.w) Y.A (eval elt Y.env) (λxx s₄=>bA (bE Y.prog Y.w) Y.A (call (.builtin "list.append") [.ref a,xx]) (λ_ s₅=>∃m,m<ds.length - i/\CJ Y a k Z ix fp tn G H F ds r0 m s₅) (kB (bE Y.prog Y.w) Y.A Y.env λe s'=>RR (.error e) s') s₄) (kB (bE Y.prog Y.w) Y.A Y.env λe s'=>RR (.error e) s') s5:=λ{s5 H5 G5} I5 e5 hv=>by
    refine bQ (TE _ s5 _ H5 (λv H6=>∃y G6,F ds[i]=.ok (some y)/\Ext G5 H5 G6 H6/\Den (kx Y) G6 y v) I5 ⟨G5,_,R4.ext e5,?_⟩) (λxx s6 ⟨v6,H6,I6,r6,y,G6,ef,e6,d6⟩=>?_) hx
    ·rcases hv with ⟨y,eg,ef⟩|⟨c,eg,ef⟩
     ·exact ResP.ok0 y eg λv G6 H6 e6 d6=>⟨y,G6,ef,e6,d6⟩
     ·rw[eg];rw[ef]at er;exact λG6 H6 e6=>her c er G6 H6 (x3.trans (e5.trans e6))
    ·have e56:=e5.trans e6;have ga6:=e56.fr _ _ ha3 ga3 rfl;refine bQ (Ec _ s6 _ H6 (.ref a) [v6] (.ref a) [xx] (λ_ H7=>H7=upd H6 a (.lst (vs++[v6]))) I6 rfl (.cons r6 .nil) ⟨_,vs,v6,rfl,rfl,e56.hh _ _ ha3,?_,rfl⟩) (λ_ s7 ⟨_,H7,I7,_,e7⟩=>?_) hx
     ·rw[<-dl1.length];exact Nat.lt_of_le_of_lt zl (aW hlt hl)
     ·subst e7;exact next ef I7 bz ga6 ((x3.trans e56).wr ga6 fresh) ((dl1.mono (e3.gg.trans e56.gg)).append (DenL.one d6)) rfl
  rcases TT with ⟨rfl,rfl⟩|⟨c,rfl,ht⟩
  ·refine wpAny_tests_nil ?_;rcases hor with ⟨_,hv⟩|⟨hb,_⟩
   ·exact val I4 (Ext.refl R4.gh) hv
   ·cases hb
  ·refine wpAny_tests_one ?_;rcases hor with ⟨et,hv⟩|⟨et,ef⟩
   ·refine bQ (ht _ s4 _ H4 (λb H6=>b=true/\∃G6,Ext G3 H4 G6 H6) I4 ⟨G3,_,R4,ResP.ok0 (.bl true) et ⟨true,rfl,λG6 H6 e6=>⟨rfl,G6,e6⟩⟩⟩) (λb s6 ⟨H6,I6,eb,G6,e6⟩=>?_) hx;subst eb;exact val I6 e6 hv
   ·refine bQ (ht _ s4 _ H4 (λb H6=>b=false/\∃G6,Ext G3 H4 G6 H6) I4 ⟨G3,_,R4,ResP.ok0 (.bl false) et ⟨false,rfl,λG6 H6 e6=>⟨rfl,G6,e6⟩⟩⟩) (λb s6 ⟨H6,I6,eb,G6,e6⟩=>?_) hx;subst eb;exact next ef I6 (e6.hh _ _ ha3) (e6.fr _ _ ha3 ga3 rfl) (x3.trans e6) (dl1.mono (e3.gg.trans e6.gg)) (cM _).symm
 ·obtain rfl:i=ds.length:=Nat.le_antisymm hi (Nat.le_of_not_lt hlt);rw[List.drop_length]at er;refine bQ (T.done Y rfl rfl rfl hc _ [] s1 _ H1 _ I1 (hfC fr1) st1 (oks (aO _))) (λrr s2 ⟨hr,I2⟩=>?_) hx;subst hr;exact fin s2 H1 G1 vs zs os I2 ha1 ga1 x1 dl1 (er.trans (congrArg ResL.ok (cM _)))
def Ro(X:Cx)(E:XK):Prop:=E=E0\/(X.ex=[]/\X.stack=X.env::X.outer/\X.env.frame=some X.env.locals/\Acc X E)
def Rp{N:List Str}{C:Addr}{s₀:aK}{H₀ He:Hp}{fp:List Addr}{pn pins:List (Addr×Obj)}{Z:St}{se:aK}(hA:Ro X E')(I:Inv X pins Z He se)(hC:se.heap.get? C=none)(back:∀{pins' σ' H1 s1},Inv (ic X scope cl N xs C s₀ H₀ fp pn) pins' σ' H1 s1->Inv X pins Z H1 s1):Acc (ic X scope cl N xs C s₀ H₀ fp pn) E':=by
 rcases hA with rfl|⟨hx,hstk,hfr,AX⟩
 ·exact wz
 intro pins' σ' H1 s1 H s a cls I1 J th ex q;have IX1:=back I1;have IX:=back J;have fr:=IX.ok.frames;have st:=IX.stack;rw[hstk]at fr st;have inC:∃o,s1.heap.get? C=some o:=by
  obtain⟨m,⟨o,es,ep,ho,r⟩,_⟩:=I1.loc;exact⟨o,ho⟩
 obtain⟨oC,inC⟩:=inC;have neC:∀b,s1.heap.get? b=none->b≠C:=λb z y=>by rw[y,inC]at z;cases z
 show bA _ _ (iN _ _) _ _ _;refine Ao fr st hfr (env':=compEnvC scope cl C X.env) hfr ex (λT hT=>⟨th T hT,J.hok.fresh hT⟩) λh1 ch1 n1 c1 x1 t1=>?_;obtain⟨m,⟨o,es,ep,ho,r⟩,_⟩:=J.loc;obtain⟨sl,ho'⟩:=c1.slot C o (λz=>neC C (n1 C z).1 rfl) ho;refine⟨m,⟨_,es,ep,ho',r⟩,λh2 sb cenv _=>?_⟩;have x2:=x1.same (h':=h2) λb o z e=>(sb.2 b (neC b z)).trans e;obtain⟨oe,vs,T,t2,t3,t4⟩:=t1;refine Qq (fr:=wg X.stack) x2 ⟨oe,vs,T,(sb.2 a (neC a x1.new)).trans t2,t3,t4⟩ λh3 ch3 n3 c3 x3=>?_;have J1:=Inv.chg hx IX1 IX n1 (by rw[hstk];exact c1);have y:=I.young hx hC;have J2:=J1.noted (h':=h2) (λb=>b=C) (λb hb=>hb▸⟨y.1,J.free,y.2⟩) (λb o hb _ e=>(sb.2 b hb).trans e) λb o hb e=>⟨o.slots,(sb.2 b hb).trans e⟩;have J3:=Inv.chg (h':=h3) hx IX1 J2 n3 c3;refine AX pins Z H1 s1 H _ a cls IX1 J3 (λT hT=>th T (bC ?_ hT)) x3 q;exact bC c1.size (bC (eC sb.1.symm) c3.size)
def Hm(O:CompOk X scope cl xs M ix)(hc:X.calm=true)(hA:Ro X E')(Bk:BlockOk X B E' scope cl xs M tg td elt ifs t g){pins:List (Addr×Obj)}{Z:St}{U:En}{G H:Hp}{s:aK}{it:Addr}{fp:List Addr}{tn:Nat->Heap->Prop}{J:It}{ds:List D}{F:D->TR}
  (I:Inv X pins Z H s)(T:Turn X.prog X.w (kx X) tg J fp it tn)(st:tn 0 s.heap)(hf:∀b∈fp,Ax X pins H b)(R:EnvR (kx X) B G H Z U)(ok:Cu (kx X) J ds (λG2 H2=>Ext G H G2 H2))(hl:ds.length<=aD)(hF:Az td (k9 ix U) t g F)
  {RR:aC->Addr->Result->aK->Prop} (err:∀e s',(∃m,s'.heap.Ns (s.heap.objs.size+1) m/\∀h',fK (s.heap.objs.size+1) s'.heap h'->∀cenv:Env,cenv.locals=s.heap.objs.size+1->bA (bE X.prog X.w) X.A (lR "comprehension.variables-let-go" e cenv:Sem aC) (λ_ _=>False) X.xe {s' with heap:=h'})->RR (.ref s.heap.objs.size) (s.heap.objs.size+1) (.error e) s')
  (fin:ResLP (ek (kx X) E') G H (lb F ds) λys=>∀s1 H1 G1 vs m,Inv X pins Z H1 s1->s1.heap.Ns (s.heap.objs.size+1) m->H1 (s.heap.objs.size+1)=none->Ext G H G1 H1->G1 s.heap.objs.size=none->H1 s.heap.objs.size=some (.lst vs)->DenL (kx X) G1 ys vs->RR (.ref s.heap.objs.size) (s.heap.objs.size+1) (.ok .next) s1):
  bA (bE X.prog X.w) X.A (newList []) (λacc s₃=>bA (bE X.prog X.w) X.A (newFunctionEnv scope X.env.globals cl [] X.env.qual none .none (some X.env)) (λcenv s₄=>
   kX (bE X.prog X.w) X.A (.compStart (.ListComp elt [⟨tg,iter,ifs,0⟩] scope pos) 0 (.ref it) acc {cenv with scope:=kC scope X.env}) (RR acc cenv.locals) s₄) X.xe s₃) X.xe s:=by
 have hfs:∀b∈fp,b<s.heap.objs.size:=λb hb=>by
  obtain⟨o,e,_⟩:=T.obj 0 _ st b hb;exact aX e
 refine fN (wpAny_newFunctionEnv O.ncell (by intro y hy;simp at hy) (λh₂ hns₂ hsb₂=>?_) O.kind);dsimp only at hns₂ hsb₂⊢;generalize hH2:s.heap.push {cls:=.type "list",dict:=none,data:=.seq ([]:List aC).toArray}=h₁ at hns₂ hsb₂⊢;have hz:h₁.objs.size=s.heap.objs.size+1:=by rw[<-hH2,kH]
 rw[hz]at hns₂ hsb₂⊢;have hk:∀b o,s.heap.get? b=some o->h₁.get? b=some o:=λb o e=>by rw[<-hH2];exact aR _ e
 have hk2:∀b o,h₁.get? b=some o->h₂.get? b=some o:=λb o e=>by
  have:b<s.heap.objs.size+1:=by rw[<-hz];exact aX e
  exact hsb₂.extBut b o (cI this) (aR _ e)
 have ha:h₁.get? s.heap.objs.size=some {cls:=.type "list",data:=.seq #[] 0}:=by rw[<-hH2];exact bR _ rfl
 have I0:=Si (tk:=s.toks) (tk2:=s.toks+([]:List (Str×aC)).length) O I hf hfs hk hz ha hk2 hns₂;have fresh:H s.heap.objs.size=none:=I.hok.fresh (aO _);have e0:Ext G H G (upd H s.heap.objs.size (.lst [])):=Ext.own R.gh _ fresh;have g0:G s.heap.objs.size=none:=ff R.gh fresh;have hfC:∀{H1:Hp},(∀b∈fp,H1 b=none)->∀b∈fp,Ax (ic X scope cl (xs++M) xs (s.heap.objs.size+1) {s with heap:=h₁,toks:=s.toks} (upd H s.heap.objs.size (.lst [])) fp (X.pn++pins)) [] H1 b:=λ{H1} hn b hb=>by
  obtain⟨f0,f1,f2,f3,f4,f5⟩:=hf b hb;refine⟨hn b hb,?_,?_,.inl hb,λy c e=>f4 y c (O.cells e),λp hp=>f5 p (by simpa[ic]using hp)⟩
  ·exact vi (hfs b hb)
  ·intro hfb;rcases List.mem_cons.mp (I.stkSub b hfb)with e|e
   ·exact f1 e
   ·exact f2 e
 have u1:Un (wg X.stack) fp H (upd H s.heap.objs.size (.lst [])) s.heap h₁:=Un.laid hk (aO _) fresh;have back:∀{pins' σ' H1 s1},Inv (ic X scope cl (xs++M) xs (s.heap.objs.size+1) {s with heap:=h₁,toks:=s.toks} (upd H s.heap.objs.size (.lst [])) fp (X.pn++pins)) pins' σ' H1 s1->Inv X pins Z H1 s1:=λ{pins' σ' H1 s1} I2=>by
  have u2:Un (wg X.stack) fp (upd H s.heap.objs.size (.lst [])) H1 h₁ s1.heap:=I2.base;exact I.call' I2.os (u1.trans u2) I2.hok I2.bare λb hb=>by
   obtain⟨f0,f1,f2,f3,f4,f5⟩:=hf b hb;exact⟨f3,f1,f4,f5⟩
 have aY:=Rp hA I (jJ (jL _)) back;have loop:kX (bE X.prog X.w) X.A (.compLoop (.ListComp elt [⟨tg,iter,ifs,0⟩] scope pos) 0 (.ref it) (.ref s.heap.objs.size) (compEnvC scope cl (s.heap.objs.size+1) X.env)) (RR (.ref s.heap.objs.size) (s.heap.objs.size+1))
   {s with heap:=h₂,toks:=s.toks+([]:List (Str×aC)).length}:=
  Pn (Y:=ic X scope cl (xs++M) xs (s.heap.objs.size+1) {s with heap:=h₁,toks:=s.toks} (upd H s.heap.objs.size (.lst [])) fp (X.pn++pins)) (E':=E') (r0:=lb F ds) (Bk.tgt _ _ _ _ _) (Bk.elt _ _ _ _ _ aY) (Bk.test.imp_right λ⟨c,e,h⟩=>⟨c,e,h _ _ _ _ _⟩) hc (λv s' q=>bQ q (λ_ s2 z=>err v s2 z) λe s2 z=>err e s2 z) T hfC R O.ixd fresh ok hl hF (λz=>by rw[z]at fin;exact fin) (λc z=>by rw[z]at fin;exact fin)
   (λs2 H1 G1 vs zs os I2 ha1 ga1 x1 dl1 z=>by
    obtain⟨m2,hm2,_⟩:=I2.loc;rw[z]at fin;exact fin s2 H1 G1 vs m2 (back I2) hm2 I2.free x1 ga1 ha1 dl1)
   ⟨0,aS xs.length none,_,G,[],[],cQ,rfl,cA _,I0,T.keep 0 _ _ st (λb _ o e=>hk2 b o (hk b o e)),λb hb=>by rw[bt (cI (hfs b hb))];exact(hf b hb).1,bz,g0,e0,rfl,aO _,S8 _⟩
 exact codeAny_compStart_list loop (T.self _ 0 _ _ _ (T.keep 0 _ _ st (λb _ o e=>hk2 b o (hk b o e))) loop)
def Xm(E E2:EK)(F:En->D->TR):Prop:=∀U ds c,lb (F U) ds=.er c->∀H,E c H->E2 c H
def Kt{E E2:EK}{f:En->D->Option (Option D)}:Xm E E2 λU d=>NI (f U d):=λU ds c h=>by
 rw[Fo]at h;cases e:oz (f U) ds with
 |none=>rw[e]at h;cases h
 |some ys=>rw[e]at h;cases h
theorem ResLP.er{E E2:EK}{G H:Hp}{r:ResL}{P:List D->Prop}(h:ResLP E G H r P)(f:∀c,r=.er c->∀H,E c H->E2 c H):ResLP E2 G H r P:=by
 cases r with
 |ok ds=>exact h
 |er c=>exact λG' H' e=>f c rfl H' (h G' H' e)
 |st=>exact h
def Ur{F:En->D->TR}(O:CompOk X scope cl xs M ix)(hc:X.calm=true)(hA:Ro X E')(Bk:BlockOk X B E' scope cl xs M tg td elt ifs t g)(hF:∀U,Az td (k9 ix U) t g (F U))(hE:Xm E (ek (kx X) E') F)(hi:Pf X B E tg iter r)
  (hs:∀x,fL iter X.env x=pure x:=by intro _;rfl):Xf X B E (.ListComp elt [⟨tg,iter,ifs,0⟩] scope pos) (r8 r F):=by
 intro pins s Z H Q I q;rw[eval_ListComp];obtain⟨G,U,R,q⟩:=q;refine wpAny_comprehension_free (use:=none) rfl hs (vt O.clos) O.kind O.names ?_;refine bQ (hi pins s Z H (λJ H1=>∃G1 ds,Ext G H G1 H1/\Cu (kx X) J ds (λG2 H2=>Ext G1 H1 G2 H2)/\ds.length<=aD/\ResLP E G H (lb (F U) ds) λys=>
  ∀a vs G' H',Ext G H G' H'->H a=none->G' a=none->H' a=some (.lst vs)->DenL (kx X) G' ys vs->Q (.ref a) H') I
  ⟨G,U,R,(CZ q).mono λds _ ⟨hl,q⟩ J G1 H1 e1 ok=>⟨G1,ds,e1,ok,hl,q.mono λys _ ⟨ds',ed,q⟩=>by cases ed;exact q⟩⟩) (λv s1 h1=>bQ h1 (λitv s2 h2=>?_) λ_ _ e=>e) λ_ _ e=>e
 obtain⟨it,fp,tn,J,H1,rfl,I1,T,st,hf,G1,ds,e1,ok,hl,q⟩:=h2;refine Hm (RR:=λacc C=>compPost (bE X.prog X.w) X.A X.xe none (EP X pins Z Q) acc C) O hc hA Bk I1 T st hf (R.ext e1) ok hl (hF U) (λ_ _ z=>z) (((q.ext e1).er (hE U ds)).mono λys _ q=>?_);intro s3 H3 G3 vs m I3 hm hC e3 g3 h3 dl;refine⟨m,hm,λh' hs'=>⟨.ref s2.heap.objs.size,H3,?_,rfl,q _ vs G3 H3 (e1.trans e3) (ff e1.hh (I1.hok.fresh (aO _))) g3 h3 dl⟩⟩;have hsz:s2.heap.objs.size<=s2.heap.objs.size+1:=jL _;refine I3.turned (t':=s3.toks) (it:=s2.heap.objs.size+1) (λb o hb e=>hs'.extBut b o hb e) hC ?_ (.inr (bC I1.sz hsz)) ?_ ?_
 ·exact λz=>absurd (aW I1.lt (bC hsz (eC z))) (cK _)
 ·intro y c hc' z;obtain⟨v',q'⟩:=I1.cell y c hc';exact absurd (aW q'.lt (bC hsz (eC z.symm))) (cK _)
 ·intro p hp z;exact absurd (aW (aX (I1.pin p hp).1) (bC hsz (eC z.symm))) (cK _)
end
section
variable{K:KA}
def Ys(h:BJ d=some t):gV K (.type t) (.type "int")=some (Xj t "int"):=by cases d<;>cases h<;>rfl
def Tu(h:BJ d=some t):gV K (.type t) (.type "bool")=some (Xj t "bool"):=by cases d<;>cases h<;>rfl
def Yt(h:BJ d=some t):gV K (.type t) (.type "str")=some (Xj t "str"):=by cases d<;>cases h<;>rfl
def Tv(h:BJ d=some t):gV K (.type t) (.type "list")=some (Xj t "list"):=by cases d<;>cases h<;>rfl
def Qb(h:BJ d=some t):gV K (.type t) (.type "tuple")=some (Xj t "tuple"):=by cases d<;>cases h<;>rfl
end
section
variable{X:Cx}{B:Hp}{E:EK}{e a b:Expr}{es:List Expr}{g h:En->Res}{pos:Pos}
def JD(K:KA)(c:String):Prop:=∀{d:D}{t:String},BJ d=some t->gV K (.type t) (.type c)=some (Xj t c)
def RW(K:KA)(c:String):List V->Hp->VK->Prop:=λxs H Q=>∃G d x t,xs=[x,.ty c]/\Same G H/\Arg K G H d x/\BJ d=some t/\Q (.bl (Xj t c)) H
def Sb(hk:JD (kx X) c):CallR X (.builtin "isinstance") (RW (kx X) c):=by
 intro pins s Z H xs us Q I r q;obtain⟨G,d,x,t,rfl,sg,ax,et,q⟩:=q;obtain⟨u,u2,rfl,ru,ru2⟩:=DM r;cases ru2;have e:=hk et;have fin:∀tk,EP X pins Z Q (.bool (Xj t c)) {s with toks:=tk}:=λtk=>⟨.bl (Xj t c),H,I.tok tk,rfl,q⟩;cases d with
 |non=>
  cases et;rw[ax.non]at ru;cases ru;exact eK PySem.W.kitx_none I.kIn gA e (λz=>nomatch z) fin
 |bl y=>
  cases et;rw[ax.bl]at ru;cases ru;exact eK PySem.W.kitx_bool I.kIn gA e (λz=>nomatch z) fin
 |int i=>
  cases et;rw[ax.int]at ru;obtain⟨t,rfl⟩:=ru;exact eK PySem.W.kitx_int I.kIn gA e (λz=>nomatch z) fin
 |str y=>
  cases et;rw[ax.str]at ru;obtain⟨t,rfl⟩:=ru;exact eK PySem.W.kitx_str I.kIn gA e (λz=>nomatch z) fin
 |tup ds=>
  cases et;obtain⟨l,vs,rfl,sq,dl⟩:=ax.tup sg;cases ru;obtain⟨its,rv,⟨o,ho,hc,n,hd⟩,_⟩:=I.tuple sq;exact eK PySem.W.kitx_tuple I.kIn ⟨o,ho,hc⟩ e (λz=>nomatch z) fin
 |lst ds=>
  cases et;obtain⟨l,vs,rfl,sq,dl⟩:=ax.lst sg;cases ru;obtain⟨its,rv,pl,_⟩:=I.list sq;obtain⟨o,ho,hc,_⟩:=pl.isList;exact eK PySem.W.kitx_list I.kIn ⟨o,ho,hc⟩ e (λz=>nomatch z) fin
 |dct tt kvs=>
  cases et;have key:∃a,x=.ref a/\((∃es,H a=some (.dK es))\/∃es,H a=some (.dT es)):=by
   rcases ax with ⟨a,h1,h2⟩|⟨_,_,_,z,_⟩|⟨t',kvs',a,z,h1,h2⟩
   ·exact⟨a,h1,h2.elim (λ⟨_,es,q,_⟩=>.inl ⟨es,sg _ _ q⟩) λ⟨_,es,q,_⟩=>.inr ⟨es,sg _ _ q⟩⟩
   ·cases z
   ·exact⟨a,h1,h2.elim (λ⟨_,es,q,_⟩=>.inl ⟨es,q⟩) λ⟨_,es,q,_⟩=>.inr ⟨es,q⟩⟩
  obtain⟨a,rfl,h2⟩:=key;cases ru;rcases h2 with ⟨es,ea⟩|⟨es,ea⟩
  ·obtain⟨_,_,vs,_,p⟩:=(show ObjOk X.prog X.w H s.heap a (.dK es)from I.hok a _ ea);obtain⟨o,es',ep,h1,h2,_⟩:=p;exact eK PySem.W.kitx_dict I.kIn ⟨o,h1,h2.1⟩ e (λz=>nomatch z) fin
  ·obtain⟨_,_,xs,_,o,es',ep,h1,h2,_⟩:=(show ObjOk X.prog X.w H s.heap a (.dT es)from I.hok a _ ea);exact eK PySem.W.kitx_dict I.kIn ⟨o,h1,h2.1⟩ e (λz=>nomatch z) fin
 |obj _ _=>cases et
 |fn _=>cases et
def B3(hk:JD (kx X) c)(hg:Gl X "isinstance")(hm:X.mg "isinstance"=none)(hg2:Gl X x)(hm2:X.mg x=none)(hv2:eN x=some (.type c))(ha:jw X B E e g)
  (hn2:x≠"__name__":=by decide)(hd2:(x==("__debug__":Str))=false:=by decide)
  (he:aQ [e,.Name x p2] X.env=(false,eval e X.env)::aQ [.Name x p2] X.env:=by rfl) (he2:aQ [.Name x p2] X.env=(false,eval (.Name x p2) X.env)::aQ [] X.env:=by rfl) (hpl:(cY pos (aQ [.Name x p2] X.env)).any (·.1)=false:=by rfl):
  f9 X B E (.Call (.Name "isinstance" p) [e,.Name x p2] [] pos) (g1 (bq c) g):=
 PE.imp (uw (Sb hk) hg hm boot_isinstance (o8 ha (o8 (Ny (v:=.ty c) hg2 hm2 hv2 rfl hn2 hd2) B0 he2) he) (by decide) (by decide) he hpl) λZ H Q ⟨G,U,R,q⟩=>⟨G,U,R,(ResP.bind q).mono λdx _ qx x G1 H1 e1 ax=>by
  obtain⟨d,ed,qd⟩:=ResP.of qx;unfold bq at ed;cases et:BJ dx with
  |none=>rw[et]at ed;cases ed
  |some t=>
   rw[et]at ed;cases ed;exact⟨G1,dx,x,t,rfl,e1.gh,ax,et,qd _ G1 H1 e1 rfl⟩⟩
noncomputable def z6(d:D):D->Option Bool
 |.lst xs=>match fh xs,gj d with
  |some ps,some q=>if bB ps && bV q then some (ps.any λy=>cC y q)else none
  |_,_=>none
 |.tup xs=>match fh xs,gj d with
  |some ps,some q=>if bB ps && bV q then some (ps.any λy=>cC y q)else none
  |_,_=>none
 |.str z=>match d with
  |.str x=>some (!(bM z x 0 z.length 1).isEmpty)
  |_=>none
 |_=>none
def Ge(d e:D):Option D:=(z6 d e).map .bl
def pb(d e:D):Option D:=(z6 d e).map λb=>.bl !b
def Am{b:Bool}(h:(match fh xs,gj d with
  |some ps,some q=>if bB ps && bV q then some (ps.any λy=>cC y q)else none
  |_,_=>none)=some b):∃ps q,fh xs=some ps/\gj d=some q/\bB ps=true/\bV q=true/\b=ps.any λy=>cC y q:=by
 cases e1:fh xs with
 |none=>rw[e1]at h;cases h
 |some ps=>
  cases e2:gj d with
  |none=>rw[e1,e2]at h;cases h
  |some q=>
   rw[e1,e2]at h;dsimp only at h
   by_cases hs:(bB ps && bV q)=true
   ·rw[aB hs]at h;cases h;rw[aA]at hs;exact⟨ps,q,rfl,rfl,hs.1,hs.2,rfl⟩
   ·rw[aG hs]at h;cases h
def Qz(K:KA)(neg:Bool):R2:=λx y H Q=>∃G dx dy b,Same G H/\Arg K G H dx x/\Arg K G H dy y/\z6 dx dy=some b/\Q (.bl (if neg then !b else b)) H
def FL(hu:X.A.units+65<dO):OpR X (bX .In) (Qz (kx X) false):=by
 intro pins s Z H x y v u Q I rx ry q;obtain⟨G,dx,dy,b,sg,ax,ay,eb,q⟩:=q;cases dy with
 |lst xs=>
  obtain⟨ps,p,e1,e2,s1,s2,rfl⟩:=Am eb;obtain⟨as,ra⟩:=df I sg ax rx e2;obtain⟨bs,rb⟩:=df (p:=.list ps) I sg ay ry (by unfold gj;rw[e1]);exact SeqAt.in_list_reads rb ra s1 (dU s2) (gW s2 hu) ⟨.bl _,H,I,rfl,q⟩
 |tup xs=>
  obtain⟨ps,p,e1,e2,s1,s2,rfl⟩:=Am eb;obtain⟨as,ra⟩:=df I sg ax rx e2;obtain⟨bs,rb⟩:=df (p:=.tuple ps) I sg ay ry (by unfold gj;rw[e1]);exact SeqAt.in_tuple_reads rb ra s1 (dU s2) (gW s2 hu) ⟨.bl _,H,I,rfl,q⟩
 |str z=>
  cases dx with
  |str w=>
   cases eb;rw[ax.str]at rx;rw[ay.str]at ry;exact Qo pins s Z H _ _ _ _ Q I rx ry ⟨_,_,rfl,rfl,q⟩
  |_=>cases eb
 |_=>cases eb
def Qp(hu:X.A.units+65<dO):OpR X (bX .NotIn) (Qz (kx X) true):=by
 intro pins s Z H x y v u Q I rx ry q;obtain⟨G,dx,dy,b,sg,ax,ay,eb,q⟩:=q;cases dy with
 |lst xs=>
  obtain⟨ps,p,e1,e2,s1,s2,rfl⟩:=Am eb;obtain⟨as,ra⟩:=df I sg ax rx e2;obtain⟨bs,rb⟩:=df (p:=.list ps) I sg ay ry (by unfold gj;rw[e1]);exact SeqAt.notIn_list_reads rb ra s1 (dU s2) (gW s2 hu) ⟨.bl _,H,I,rfl,q⟩
 |tup xs=>
  obtain⟨ps,p,e1,e2,s1,s2,rfl⟩:=Am eb;obtain⟨as,ra⟩:=df I sg ax rx e2;obtain⟨bs,rb⟩:=df (p:=.tuple ps) I sg ay ry (by unfold gj;rw[e1]);exact SeqAt.notIn_tuple_reads rb ra s1 (dU s2) (gW s2 hu) ⟨.bl _,H,I,rfl,q⟩
 |str z=>
  cases dx with
  |str w=>
   cases eb;rw[ax.str]at rx;rw[ay.str]at ry;exact F8 pins s Z H _ _ _ _ Q I rx ry ⟨_,_,rfl,rfl,q⟩
  |_=>cases eb
 |_=>cases eb
def Zr:iw (kx X) Ge (Qz (kx X) false):=λG H x y dx dy d sg ax ay ed Q q=>by
 unfold Ge at ed;cases e:z6 dx dy with
 |none=>rw[e]at ed;cases ed
 |some b=>rw[e]at ed;cases ed;exact⟨G,dx,dy,b,sg,ax,ay,e,q _ G H (Ext.refl sg) rfl⟩
def Lh:iw (kx X) pb (Qz (kx X) true):=λG H x y dx dy d sg ax ay ed Q q=>by
 unfold pb at ed;cases e:z6 dx dy with
 |none=>rw[e]at ed;cases ed
 |some b=>rw[e]at ed;cases ed;exact⟨G,dx,dy,b,sg,ax,ay,e,q _ G H (Ext.refl sg) rfl⟩
def gf:D->Option D
 |.lst ds=>some (.tup ds)
 |.tup ds=>some (.tup ds)
 |_=>none
def MS:D->Option D
 |.int i=>some (.int i)
 |.bl b=>some (.int (if b then 1 else 0))
 |_=>none
def Vp(hg:Gl X "tuple")(hm:X.mg "tuple"=none)(ha:jw X B E e g)(he:aQ [e] X.env=(false,eval e X.env)::aQ [] X.env:=by rfl)(hpl:(cY pos (aQ [] X.env)).any (·.1)=false:=by rfl):f9 X B E (.Call (.Name "tuple" p) [e] [] pos) (g1 gf g):=
 PE.imp (qp C6 hg hm PyProof.Rows.boot_tuple (kh ha lr he) (by decide) (by decide) he hpl) λZ H Q q=>JS (λG H x dx d sg ax ed Q q=>by
  unfold gf at ed;split at ed
  ·cases ed;obtain⟨l,vs,rfl,sq,dl⟩:=ax.lst sg;exact⟨l,vs,rfl,.inl ⟨sq,λp hp=>q _ (upd G p (.tup vs)) _ (Ext.new sg _ hp) (uf sg hp dl)⟩⟩
  ·cases ed;have ax':=ax;obtain⟨l,vs,rfl,sq,dl⟩:=ax.tup sg;rcases ax' with ad|⟨_,_,_,z,_⟩|⟨_,_,_,z,_⟩
   ·exact⟨l,vs,rfl,.inr ⟨sq,q _ G H (Ext.refl sg) ad⟩⟩
   ·cases z
   ·cases z
  ·cases ed) q
end
section
variable{X:Cx}{G0 B:Hp}{E:EK}{e a b:Expr}{es:List Expr}{g h:En->Res}{pos:Pos}
noncomputable def Dj(i:Nat)(g:En->Res):En->Out:=λU=>match U[i]? with
 |some (.ow ds)=>(g U).then λd=>if ds.length<aD then .nx (U.set i (.ow (ds++[d])))else .st
 |_=>.st
def EnvR.owAt{K:KA}{G H:Hp}{Z:St}{U:En}{i:Nat}{ds:List D}(R:EnvR K B G H Z U)(h:U[i]?=some (.ow ds)):∃a vs,Z[i]?=some (some (V.ref a))/\H a=some (.lst vs)/\DenL K G ds vs/\G a=none/\B a=none:=by
 obtain⟨o,q1,a,vs,q2,q3,q4⟩:=R.sl i _ h;subst q2;obtain⟨g,b⟩:=R.own i _ a h rfl q1;exact⟨a,vs,q1,q3,q4,g,b⟩
def V2{i:Nat}{x:Str}{p apos cpos:Pos}(hv:PE X (.Name x p) (Dm i))(ha:f9 X B E e g)
  (hbase:gJ (.Name x p) "append" X.env (eval (.Name x p) X.env)=eval (.Name x p) X.env:=by rfl)
  (hfew:((cY cpos (aQ [e] X.env)).all (λx=> !x.1) && (mG cpos (jK [] X.env)).all (λx=>x.1.isSome)
   && decide (([e]:List Expr).length+([]:List iI).length+(if([]:List iI).isEmpty then 0 else 1)<30))=true:=by rfl)
  (hline:(apos.endLine==cpos.line)=true:=by rfl) (hs:aQ [e] X.env=(false,eval e X.env)::aQ [] X.env:=by rfl) (hplain:(cY cpos (aQ [] X.env)).any (·.1)=false:=by rfl)
  (hsw:dY (.Call (.Attribute (.Name x p) "append" apos) [e] [] cpos) none pos.line X.env=pure false:=by rfl):
  ph X G0 B E (.Expr (.Call (.Attribute (.Name x p) "append" apos) [e] [] cpos) pos) (Dj i g):=
 PS.imp (Ar (Nz iO PySem.F.slot_list_append PySem.F.type_list_append Ec hv (A0 ha lr hs) hbase hfew hline hs hplain) hsw) λD Z H ⟨G,U,R,ex,q⟩=>by
  unfold Dj at q;cases ed:U[i]? with
  |none=>rw[ed]at q;exact q.elim
  |some sl=>
   rw[ed]at q;cases sl with
   |ow ds=>
    dsimp only at q;obtain⟨l,vs,q1,q2,q3,q4,q5⟩:=R.owAt ed;refine⟨.ref l,q1,.inl ⟨rfl,vs,SqL.of q2⟩,G,U,R,?_⟩;have q':=sx ex q;unfold ae;cases eg:g U with
    |er c=>rw[eg]at q';exact q'
    |st=>rw[eg]at q';exact q'
    |ok d=>
     rw[eg]at q';have q':OutP (kx X) G0 B E G (if ds.length<aD then .nx (U.set i (.ow (ds++[d])))else .st) D:=q'
     by_cases hl:ds.length<aD
     ·rw[aB hl]at q';intro ws G1 H1 e1 al;obtain⟨d',dr,v,vr,z1,z2,dv,z3,z4⟩:=al;cases z1;subst z2 z4;have h1:=e1.hh _ _ q2;have g1:=e1.fr _ _ q2 q4 rfl;refine⟨l,vs,v,rfl,rfl,h1,by rw[<-q3.length];exact hl,?_⟩;exact q' Z G1 _ e1.gg (EnvR.wr (R.ext e1) ed q1 h1 ((q3.mono e1.gg).append (DenL.one dv))) (Ext.wr (ex.trans e1) g1 q5)
     ·rw[aG hl]at q';exact q'.elim
   |no=>exact q.elim
   |pu _=>exact q.elim
   |bo _=>exact q.elim
   |od _ _=>exact q.elim
def Hy(T:String)(hT:T="list"\/T="tuple")(l:Addr)(items:Array aC)(n:Nat)(b:Addr)(items2:Array aC)(n2:Nat)(dd2:Option Addr)(sl2:Array (Option aC))(hs0:¬(!items.isEmpty && fT (items.size+items2.size))=true)(hs1:items.size<=aD)(hs2:items.size+items2.size<=aD+1):
  Meets (Builtin.«list.extend» ⟨[.ref l,.ref b],[]⟩) (λ_ R s=>s.heap.get? l=some {cls:=.type "list",dict:=none,data:=.seq items n,slots:=#[]}/\s.heap.get? b=some {cls:=.type T,dict:=dd2,data:=.seq items2 n2,slots:=sl2}/\R (.ok (.ret dD)) {s with heap:=s.heap.update l (Obj.mapSeq λx=>x++items2),toks:=s.toks}):=
 .of_wp λprog w A R s h=>by
  obtain⟨hp,g,d,tk,os⟩:=s;obtain⟨hl,hb,h⟩:=h;have f1:=AutoSeq1.idx_int;have f2:=AutoSeq1.sub_tuple_tuple;have f3:=AutoSeq1.sub_list_list;have f4:=AutoSeq1.sub_tuple_list;have f5:=AutoSeq1.sub_list_tuple;have hz':(items++items2).size<=aD+1:=by rw[Array.size_append];exact hs2
  rcases hT with rfl|rfl
  ·wp_walk using(wpAny_updateSeq hl rfl (hz:=hs1) (_hz':=hz')),fU hl,fU hb;exact⟨_,rfl,h⟩
  ·wp_walk using(wpAny_updateSeq hl rfl (hz:=hs1) (_hz':=hz')),fU hl,fU hb;exact⟨_,rfl,h⟩
def MP(K:KA):V->List V->Hp->VK->Prop:=λx vs H Q=>∃l b xs zs,x=.ref l/\vs=[.ref b]/\H l=some (.lst xs)/\(SqL K H b zs\/SqT K H b zs)/\xs.length+zs.length<=aD/\Q .non (upd H l (.lst (xs++zs)))
def Y5:SO X "list.extend" (MP (kx X)):=by
 intro pins s Z H x vs v us Q I rx rv h;obtain⟨l,b,xs,zs,rfl,rfl,hH,hB,hz,q⟩:=h;cases rx;obtain⟨u,rfl,ru⟩:=rv.one;cases ru;obtain⟨z,its,n,r,hl,e⟩:=I.lstM hH;have key:∃T its2 n2 dd2 sl2,(T="list"\/T="tuple")/\Vals zs its2/\s.heap.get? b=some {cls:=.type T,dict:=dd2,data:=.seq its2.toArray n2,slots:=sl2}:=by
  rcases hB with hB|hB
  ·obtain⟨its2,r2,pl,_⟩:=I.list hB;obtain⟨⟨cls,dd,data,sl⟩,n2,ho,c,d,q⟩:=pl;simp only at c d q;subst c d q;exact⟨_,its2,n2,_,sl,.inl rfl,r2,ho⟩
  ·obtain⟨its2,r2,pl,_⟩:=I.tuple hB;obtain⟨⟨cls,dd,data,sl⟩,ho,c,n2,q⟩:=pl;simp only at c q;subst c q;exact⟨_,its2,n2,_,sl,.inr rfl,r2,ho⟩
 obtain⟨T,its2,n2,dd2,sl2,hT,r2,e2⟩:=key;have hl2:=r2.length;have hsz:its.toArray.size+its2.toArray.size<=aD:=by rw[aZ,aZ];lia
 have hlong:¬(!its.toArray.isEmpty && fT (its.toArray.size+its2.toArray.size))=true:=by
  rw[Uh hsz,Bool.and_false];exact Bool.false_ne_true
 refine iK F.slot_list_extend ⟨_,e,rfl⟩ F.entry_list_extend (F.args_list_extend_2 _ _)
  (Hy T hT l its.toArray n b its2.toArray n2 dd2 sl2 hlong (by rw[aZ];lia) (by lia)) ⟨e,e2,?_⟩
 refine⟨.non,_,I.lset (its':=its++its2) hH e (by simp) (r.append r2) ?_,rfl,q⟩;rw[aI]
 lia
noncomputable def xq(i:Nat)(g:En->Res):En->Out:=λU=>match U[i]? with
 |some (.ow ds)=>(g U).then λd=>match wk d with
  |some es=>if ds.length+es.length<=aD then .nx (U.set i (.ow (ds++es)))else .st
  |none=>.st
 |_=>.st
def V3{i:Nat}{x:Str}{p apos cpos:Pos}(hv:PE X (.Name x p) (Dm i))(ha:jw X B E e g)
  (hbase:gJ (.Name x p) "extend" X.env (eval (.Name x p) X.env)=eval (.Name x p) X.env:=by rfl)
  (hfew:((cY cpos (aQ [e] X.env)).all (λx=> !x.1) && (mG cpos (jK [] X.env)).all (λx=>x.1.isSome)
   && decide (([e]:List Expr).length+([]:List iI).length+(if([]:List iI).isEmpty then 0 else 1)<30))=true:=by rfl)
  (hline:(apos.endLine==cpos.line)=true:=by rfl) (hs:aQ [e] X.env=(false,eval e X.env)::aQ [] X.env:=by rfl) (hplain:(cY cpos (aQ [] X.env)).any (·.1)=false:=by rfl)
  (hsw:dY (.Call (.Attribute (.Name x p) "extend" apos) [e] [] cpos) none pos.line X.env=pure false:=by rfl):
  ph X G0 B E (.Expr (.Call (.Attribute (.Name x p) "extend" apos) [e] [] cpos) pos) (xq i g):=
 PS.imp (Ar (Nz iO PySem.F.slot_list_extend PySem.F.type_list_extend Y5 hv (kh ha lr hs) hbase hfew hline hs hplain) hsw) λD Z H ⟨G,U,R,ex,q⟩=>by
  unfold xq at q;cases ed:U[i]? with
  |none=>rw[ed]at q;exact q.elim
  |some sl=>
   rw[ed]at q;cases sl with
   |ow ds=>
    dsimp only at q;obtain⟨l,vs,q1,q2,q3,q4,q5⟩:=R.owAt ed;refine⟨.ref l,q1,.inl ⟨rfl,vs,SqL.of q2⟩,G,U,R,?_⟩;have q':=sx ex q;unfold ae;cases eg:g U with
    |er c=>rw[eg]at q';exact q'
    |st=>rw[eg]at q';exact q'
    |ok d=>
     rw[eg]at q';cases ei:wk d with
     |none=>
      have q':OutP (kx X) G0 B E G (match wk d with
       |some es=>if ds.length+es.length<=aD then .nx (U.set i (.ow (ds++es)))else .st
       |none=>.st) D:=q'
      rw[ei]at q';exact q'.elim
     |some es=>
      have q':OutP (kx X) G0 B E G (match wk d with
       |some es=>if ds.length+es.length<=aD then .nx (U.set i (.ow (ds++es)))else .st
       |none=>.st) D:=q'
      rw[ei]at q';dsimp only at q'
      by_cases hl:ds.length+es.length<=aD
      ·rw[aB hl]at q';intro ws G1 H1 e1 al;obtain⟨v,rfl,av⟩:=ArgsM.one al;have h1:=e1.hh _ _ q2;have g1:=e1.fr _ _ q2 q4 rfl;have key:∃b zs,v=.ref b/\(SqL (kx X) H1 b zs\/SqT (kx X) H1 b zs)/\DenL (kx X) G1 es zs:=by
        cases d with
        |lst ds'=>cases ei;obtain⟨b,zs,z1,z2,z3⟩:=av.lst e1.gh;exact⟨b,zs,z1,.inl z2,z3⟩
        |tup ds'=>cases ei;obtain⟨b,zs,z1,z2,z3⟩:=av.tup e1.gh;exact⟨b,zs,z1,.inr z2,z3⟩
        |_=>cases ei
       obtain⟨b,zs,rfl,sq,dl⟩:=key;have l1:=q3.length;have l2:=dl.length;refine⟨l,b,vs,zs,rfl,rfl,h1,sq,by lia,?_⟩;exact q' Z G1 _ e1.gg (EnvR.wr (R.ext e1) ed q1 h1 ((q3.mono e1.gg).append dl)) (Ext.wr (ex.trans e1) g1 q5)
      ·rw[aG hl]at q';exact q'.elim
   |no=>exact q.elim
   |pu _=>exact q.elim
   |bo _=>exact q.elim
   |od _ _=>exact q.elim
end
def cg:D->Option j9
 |.int i=>some (.inl i)
 |.str x=>some (.inr x)
 |_=>none
def uj(k:j9):cg (kD k)=some k:=by cases k<;>rfl
noncomputable def cf:List (D×D)->j9->Option D
 |[],_=>none
 |(k,d)::r,j=>if cg k=some j then some d else cf r j
def P1(kvs:List (D×D))(j:j9):Bool:=kvs.any λp=>decide (cg p.1=some j)
def sf(kvs:List (D×D))(j:j9)(v:D):List (D×D):=if P1 kvs j=true then kvs.map (λp=>if cg p.1=some j then(p.1,v)else p)else kvs++[(kD j,v)]
section
variable{K:KA}{G:Hp}
theorem DenK.length:∀{kvs:List (D×D)}{es:List (j9×V)},DenK K G kvs es->kvs.length=es.length
 |[],_,h=>by rw[show _=[]from h];rfl
 |(_,_)::_,_,⟨k,v,r,h1,_,_,h3⟩=>by rw[h1,aM,aM,DenK.length h3]
theorem DenK.look:∀{kvs:List (D×D)}{es:List (j9×V)},DenK K G kvs es->∀j,(∀d,cf kvs j=some d->∃v,mx es j=some v/\Den K G d v)/\(cf kvs j=none->mx es j=none)
 |[],es,h,j=>by
  rw[show es=[]from h];exact⟨λd e=>(by cases e),λ_=>Kb⟩
 |(k,d)::r,es,h,j=>by
  obtain⟨k',v,t,rfl,rfl,dv,dt⟩:=h;obtain⟨i1,i2⟩:=DenK.look dt j;unfold cf;rw[uj]
  by_cases e:k'=j
  ·subst e;rw[aB rfl];exact⟨λd' z=>⟨v,u9 rfl,by cases z;exact dv⟩,λz=>by cases z⟩
  ·rw[aG (λz=>e (bP z))];refine⟨λd' z=>?_,λz=>?_⟩
   ·obtain⟨u,q1,q2⟩:=i1 d' z;exact⟨u,(om e).trans q1,q2⟩
   ·exact(om e).trans (i2 z)
theorem DenK.has:∀{kvs:List (D×D)}{es:List (j9×V)},DenK K G kvs es->∀j,P1 kvs j=es.any λkv=>decide (kv.1=j)
 |[],es,h,j=>by rw[show es=[]from h];rfl
 |(k,d')::r,es,h,j=>by
  obtain⟨k',u,t,rfl,rfl,du,dt⟩:=h;have ih:=DenK.has dt j;unfold P1 at ih⊢;rw[dQ,dQ,ih]
  congr 1
  rw[uj]
  by_cases e:k'=j
  ·simp[e]
  ·rw[decide_eq_false e,decide_eq_false λz=>e (bP z)]
theorem DenK.repl(dv:Den K G d v):∀{kvs:List (D×D)}{es:List (j9×V)},DenK K G kvs es->∀j,DenK K G (kvs.map λp=>if cg p.1=some j then(p.1,d)else p) (es.map λkv=>if kv.1=j then(kv.1,v)else kv)
 |[],es,h,j=>by rw[show es=[]from h];rfl
 |(k,d')::r,es,h,j=>by
  obtain⟨k',u,t,rfl,rfl,du,dt⟩:=h;have ih:=DenK.repl dv dt j;rw[aU,aU];dsimp only;rw[uj]
  by_cases e:k'=j
  ·rw[aB e,aB (by rw[e])];exact⟨k',v,_,rfl,rfl,dv,ih⟩
  ·rw[aG e,aG λz=>e (bP z)];exact⟨k',u,_,rfl,rfl,du,ih⟩
theorem DenK.snoc(dv:Den K G d v):∀{kvs:List (D×D)}{es:List (j9×V)},DenK K G kvs es->∀j,DenK K G (kvs++[(kD j,d)]) (es++[(j,v)])
 |[],es,h,j=>by rw[show es=[]from h];exact⟨j,v,[],rfl,rfl,dv,rfl⟩
 |(k,d')::r,es,h,j=>by
  obtain⟨k',u,t,rfl,rfl,du,dt⟩:=h;exact⟨k',u,_,rfl,rfl,du,DenK.snoc dv dt j⟩
def DenK.put(dv:Den K G d v)(h:DenK K G kvs es)(j:j9):DenK K G (sf kvs j d) (tf es j v):=by
 unfold sf tf;rw[h.has j]
 by_cases e:(es.any λkv=>decide (kv.1=j))=true
 ·rw[aB e,aB e];exact h.repl dv j
 ·rw[aG e,aG e];exact h.snoc dv j
end
section
variable{X:Cx}{G0 B:Hp}{E:EK}{e a b:Expr}{es:List Expr}{g h k:En->Res}{pos:Pos}
def Arg.dctK{K:KA}{G H:Hp}{kvs:List (D×D)}{v:V}(s:Same G H)(h:Arg K G H (.dct false kvs) v):∃a es,v=.ref a/\H a=some (.dK es)/\DenK K G kvs es:=by
 rcases h with ⟨a,h1,h2⟩|⟨_,_,_,z,_⟩|⟨t',kvs',a,z,h1,h2⟩
 ·rcases h2 with ⟨_,es,q,r⟩|⟨z,_⟩
  ·exact⟨a,es,h1,s _ _ q,r⟩
  ·cases z
 ·cases z
 ·cases z;rcases h2 with ⟨_,es,q,r⟩|⟨z,_⟩
  ·exact⟨a,es,h1,q,r⟩
  ·cases z
def Es(i:Nat):En->Out:=λU=>.nx (U.set i (.od false []))
def EnvR.setD{K:KA}{G H:Hp}{Z:St}{U:En}{i:Nat}{a:Addr}(R:EnvR K B G H Z U)(hn:H a=none):EnvR K B G (upd H a (.dK [])) (Z.set i (some (.ref a))) (U.set i (.od false [])):=by
 have e:Ext G H G (upd H a (.dK [])):=Ext.own R.gh _ hn;have R':=R.ext e;have gn:G a=none:=ff R.gh hn;have bn:B a=none:=ff R.bh hn;have oth:∀(j:Nat) s,U[j]?=some s->s.own=true->Z[j]?=some (some (V.ref a))->False:=λj s q1 q2 q3=>by
  obtain⟨o,z1,z2⟩:=R.sl j s q1;rw[q3]at z1;cases z1;obtain⟨a',z,u,z3,_⟩:=z2.ref q2;cases z;rw[hn]at z3;cases z3
 have at_i:∀{s:Sl},(U.set i (.od false []))[i]?=some s->s=.od false []/\i<U.length:=λq=>by
  have hl:i<U.length:=by
   have:=(List.getElem?_eq_some_iff.mp q).1;rwa [bJ]at this
  rw[aL hl]at q;cases q;exact⟨rfl,hl⟩
 refine⟨R'.bh,R'.gh,by rw[bJ,bJ];exact R.len,λj s q=>?_,λj s b q1 q2 q3=>?_,λj k s t b q1 q2 q3 q4 q5 q6=>?_,R.gb⟩
 ·by_cases z:i=j
  ·subst z;obtain⟨rfl,hl⟩:=at_i q;exact⟨some (.ref a),aL (by rw[R.len];exact hl),a,[],rfl,bz,rfl⟩
  ·rw[aN z]at q⊢;exact R'.sl j s q
 ·by_cases z:i=j
  ·subst z;obtain⟨rfl,hl⟩:=at_i q1;rw[aL (by rw[R.len];exact hl)]at q3;cases q3;exact⟨gn,bn⟩
  ·rw[aN z]at q1 q3;exact R'.own j s b q1 q2 q3
 ·by_cases zj:i=j
  ·subst zj;obtain⟨rfl,hl⟩:=at_i q1;rw[aL (by rw[R.len];exact hl)]at q5;cases q5
   by_cases zk:i=k
   ·exact zk
   ·rw[aN zk]at q2 q6;exact(oth k t q2 q4 q6).elim
  ·rw[aN zj]at q1 q5
   by_cases zk:i=k
   ·subst zk;obtain⟨rfl,hl⟩:=at_i q2;rw[aL (by rw[R.len];exact hl)]at q6;cases q6;exact(oth j s q1 q3 q5).elim
   ·rw[aN zk]at q2 q6;exact R'.dis j k s t b q1 q2 q3 q4 q5 q6
def HF(hs:PS X (.Assign [.Name x pos'] (.Dict [] [] p) pos) (L1 Wo (uh i))):ph X G0 B E (.Assign [.Name x pos'] (.Dict [] [] p) pos) (Es i):=
 PS.imp hs λD Z H ⟨G,U,R,e,q⟩=>λa ha=>q _ G _ (Same.refl G) (R.setD ha) (e.trans (Ext.own R.gh _ ha))
def EnvR.odAt{K:KA}{G H:Hp}{Z:St}{U:En}{i:Nat}{kvs:List (D×D)}(R:EnvR K B G H Z U)(h:U[i]?=some (.od false kvs)):∃a es,Z[i]?=some (some (V.ref a))/\H a=some (.dK es)/\DenK K G kvs es/\G a=none/\B a=none:=by
 obtain⟨o,q1,a,vs,q2,q3,q4⟩:=R.sl i _ h;subst q2;obtain⟨g,b⟩:=R.own i _ a h rfl q1;exact⟨a,vs,q1,q3,q4,g,b⟩
def EnvR.wrD{K:KA}{G H:Hp}{Z:St}{U:En}{i:Nat}{kvs kvs':List (D×D)}{a:Addr}{es es':List (j9×V)}(R:EnvR K B G H Z U)(hi:U[i]?=some (.od false kvs))(hs:Z[i]?=some (some (V.ref a)))(ha:H a=some (.dK es))(dl:DenK K G kvs' es'):
  EnvR K B G (upd H a (.dK es')) Z (U.set i (.od false kvs')):=by
 obtain⟨gn,bn⟩:=R.own i _ a hi rfl hs;have hl:i<U.length:=(List.getElem?_eq_some_iff.mp hi).1;have sb:∀{F:Hp},F a=none->Same F H->Same F (upd H a (.dK es')):=λfn s b u q=>by
  rw[bt (c7 q fn)];exact s b u q
 have ownEq:∀{j:Nat}{s:Sl},(U.set i (.od false kvs'))[j]?=some s->s.own=true->∃s',U[j]?=some s'/\s'.own=true:=λ{j s} q o=>by
  by_cases z:i=j
  ·subst z;exact⟨_,hi,rfl⟩
  ·rw[aN z]at q;exact⟨s,q,o⟩
 refine⟨sb bn R.bh,sb gn R.gh,by rw[bJ];exact R.len,λj s q=>?_,λj s b q1 q2 q3=>?_,λj k s t b q1 q2 q3 q4 q5 q6=>?_,R.gb⟩
 ·by_cases z:i=j
  ·subst z;rw[aL hl]at q;cases q;exact⟨_,hs,a,es',rfl,bz,dl⟩
  ·rw[aN z]at q;obtain⟨o,z1,z2⟩:=R.sl j s q;refine⟨o,z1,?_⟩;cases s with
   |no=>trivial
   |pu d=>exact z2
   |bo d=>exact z2
   |ow fs=>
    obtain⟨b,us,y1,y2,y3⟩:=z2;have nb:b≠a:=by
     rintro rfl
     rw[ha]at y2;cases y2
    exact⟨b,us,y1,by rw[bt nb];exact y2,y3⟩
   |od t fs=>
    cases t with
    |false=>
     obtain⟨b,us,y1,y2,y3⟩:=z2;have nb:b≠a:=by
      rintro rfl
      subst y1;exact z (R.dis i j _ _ b hi q rfl rfl hs z1)
     exact⟨b,us,y1,by rw[bt nb];exact y2,y3⟩
    |true=>
     obtain⟨b,us,y1,y2,y3⟩:=z2;have nb:b≠a:=by
      rintro rfl
      rw[ha]at y2;cases y2
     exact⟨b,us,y1,by rw[bt nb];exact y2,y3⟩
 ·obtain⟨s',z1,z2⟩:=ownEq q1 q2;exact R.own j s' b z1 z2 q3
 ·obtain⟨s',z1,z2⟩:=ownEq q1 q3;obtain⟨t',y1,y2⟩:=ownEq q2 q4;exact R.dis j k s' t' b z1 y1 z2 y2 q5 q6
def rm{K:KA}{G H:Hp}{d:D}{v:V}{k:j9}(h:Arg K G H d v)(e:cg d=some k):v=kV k:=by
 cases d with
 |int i=>cases e;exact h.int
 |str x=>cases e;exact h.str
 |_=>cases e
noncomputable def B5(i:Nat)(gk gv:En->Res):En->Out:=λU=>match U[i]? with
 |some (.od false kvs)=>(gv U).then λv=>(gk U).then λk=>match cg k with
  |some j=>if kvs.length<aD then .nx (U.set i (.od false (sf kvs j v)))else .st
  |none=>.st
 |_=>.st
def HJ{i:Nat}{x:Str}{p pos':Pos}{kxx vx:Expr}(hu:X.A.units+5<dO)(hv:PE X (.Name x p) (Dm i))(hk:jw X B E kxx g)(hval:f9 X B E vx h)
  (hs:dY vx (some (.Subscript (.Name x p) kxx pos')) pos.line X.env=pure false:=by rfl):ph X G0 B E (.Assign [.Subscript (.Name x p) kxx pos'] vx pos) (B5 i g h):=
 PS.imp (N6 hu hv hk hval hs) λD Z H ⟨G,U,R,ex,q⟩=>by
  unfold B5 at q;cases ed:U[i]? with
  |none=>rw[ed]at q;exact q.elim
  |some sl=>
   rw[ed]at q;cases sl with
   |od t kvs=>
    cases t with
    |true=>exact q.elim
    |false=>
     dsimp only at q;obtain⟨l,es,q1,q2,q3,q4,q5⟩:=R.odAt ed;refine⟨G,U,R,(sx ex q).mono λdv _ q v G1 H1 e1 dn=>⟨.ref l,q1,G1,U,R.ext e1,(sx (K:=(kx X)) (ex.trans e1) (OutP.same e1.gg q)).mono λdk _ q y G2 H2 e2 ay=>?_⟩⟩;have e12:=e1.trans e2;cases ej:cg dk with
     |none=>rw[ej]at q;exact q.elim
     |some j=>
      rw[ej]at q;dsimp only at q
      by_cases hl:kvs.length<aD
      ·rw[aB hl]at q;have h2:=e12.hh _ _ q2;have g2:=e12.fr _ _ q2 q4 rfl;rw[rm ay ej];refine⟨l,_,rfl,DPut.k h2 (by rw[<-q3.length];exact hl),?_⟩;exact q Z G2 _ e2.gg (EnvR.wrD (R.ext e12) ed q1 h2 ((q3.mono e12.gg).put (dn.mono e2.gg) j)) (Ext.wr (ex.trans e12) g2 q5)
      ·rw[aG hl]at q;exact q.elim
   |no=>exact q.elim
   |pu _=>exact q.elim
   |bo _=>exact q.elim
   |ow _=>exact q.elim
noncomputable def xh(d k x:En->Res):En->Res:=λU=>(d U).bind λdd=>match dd with
 |.dct false kvs=>(k U).bind λdk=>(x U).bind λdx=>match cg dk with
  |some j=>.ok ((cf kvs j).getD dx)
  |none=>.st
 |_=>.st
def Z3{o ke xe:Expr}{apos cpos:Pos}(hu:X.A.units+5<dO)(ho:jw X B E o g)(hk:jw X B E ke h)(hx:f9 X B E xe k)(m:M2 X o "get" apos ke xe cpos):
  f9 X B E (.Call (.Attribute o "get" apos) [ke,xe] [] cpos) (xh g h k):=
 PE.imp (Uz hu ho hk hx m) λZ H Q ⟨G,U,R,q⟩=>⟨G,U,R,(ResP.bind q).mono λdd _ q v G1 H1 e1 av=>by
  cases dd with
  |dct t kvs=>
   cases t with
   |true=>exact q.elim
   |false=>
    obtain⟨l,es,rfl,h1,dl⟩:=Arg.dctK e1.gh av;refine⟨l,rfl,.inl ⟨es,.inl h1⟩,G1,U,R.ext e1,((ResP.bind q).ext e1).mono λdk _ q y G2 H2 e2 ay=>⟨G2,U,R.ext (e1.trans e2),((ResP.bind q).ext (e1.trans e2)).mono λdx _ q z G3 H3 e3 dz=>?_⟩⟩;have e13:=(e1.trans e2).trans e3;cases ej:cg dk with
    |none=>rw[ej]at q;exact q.elim
    |some j=>
     rw[ej]at q;have q:∀v G' H',Ext G H G' H'->Den (kx X) G' ((cf kvs j).getD dx) v->Q v H':=q;rw[rm ay ej];have h3:=(e2.trans e3).hh _ _ h1;refine⟨_,DGet.k h3,?_⟩;obtain⟨k1,k2⟩:=(dl.mono (e2.trans e3).gg).look j;cases el:cf kvs j with
     |none=>
      rw[k2 el];rw[el]at q;exact q _ G3 H3 e13 dz
     |some d'=>
      obtain⟨v',z1,z2⟩:=k1 d' el;rw[z1];rw[el]at q;exact q _ G3 H3 e13 z2
  |non=>exact q.elim
  |bl _=>exact q.elim
  |int _=>exact q.elim
  |str _=>exact q.elim
  |tup _=>exact q.elim
  |lst _=>exact q.elim
  |obj _ _=>exact q.elim
  |fn _=>exact q.elim⟩
end
def i7:Expr->Bool
 |.Starred _ _=>false
 |_=>true
def az(h:i7 e=true):aQ (e::es) env=(false,eval e env)::aQ es env:=by
 cases e<;>first|rfl|cases h
theorem mn:∀{es:List Expr}{env:Env}{pos:Pos},es.all i7=true->(cY pos (aQ es env)).any (·.1)=false
 |[],_,_,_=>rfl
 |e::es,env,pos,h=>by
  rw[bK,aA]at h;rw[az h.1];show((false||(cY pos (aQ es env)).any (·.1)))=false;rw[mn h.2];rfl
theorem q9:∀{es:List Expr}{env:Env}{pos:Pos},es.all i7=true->(cY pos (aQ es env)).all (λx=> !x.1)=true
 |[],_,_,_=>rfl
 |e::es,env,pos,h=>by
  rw[bK,aA]at h;rw[az h.1];show((true && (cY pos (aQ es env)).all (λx=> !x.1)))=true;rw[q9 h.2];rfl
def Ju(h:i7 e=true)(h2:i7 f=true):cY pos (aQ [e,f] env)=[(false,eval e env),(false,eval f env)]:=by
 rw[az h,az h2];rfl
def Gc:Expr->Bool
 |.UnaryOp .Not _ _=>false
 |.BoolOp _ _ _=>false
 |.IfExp _ _ _ _=>false
 |.Compare _ _ _ _=>false
 |_=>true
def Eh{a:Expr}(h:Gc a=true):∀whole,isTrue a env whole=(do let v <-whole;standAt a.pos;holding [v] (truthy v)):=by
 intro whole;cases a<;>first|rfl|(cases h;done)|skip
 rename_i op x p;cases op<;>first|rfl|cases h
def wt:Expr->Bool
 |.Slice _ _ _ _=>false
 |_=>true
def Qs(h:wt b=true):E7 b:=by
 intro o i;cases b<;>first|rfl|cases h
def my:Expr->Bool
 |.Set _ _ _=>false
 |_=>true
def o6(h:my b=true):iB op b=false:=by
 cases b<;>first|rfl|cases h
def nz(h:my e=true):∀x,fL e env x=pure x:=by
 intro x;cases e<;>first|rfl|cases h
def Bw(h:my c=true):mL [op,op'] [b,c]=false:=o6 h
def kr:Expr->Bool
 |.ListComp _ _ _ _=>false
 |.SetComp _ _ _ _=>false
 |.DictComp _ _ _ _ _=>false
 |_=>true
def gu(h:kr e=true):dY e t n env=pure false:=by
 cases e<;>first|rfl|cases h
def ur:Expr->Bool
 |.Call _ _ _ _=>false
 |_=>true
def gr(h:ur o=true):gJ o a env w=w:=by
 cases o<;>first|rfl|cases h
end Pu
end
section
namespace L2
open PySem PySem.Spec PyProof.Rows
def Uv{K:aP}(X:K.In h)(hm:mg x=some (.ref C))(q:eD K C bmB newId=true):OwnCls x C bmB newId mg h:=by
 refine⟨hm,?_⟩;unfold eD at q;split at q
 ·rename_i dd cd sl ho;split at q
  ·rename_i C' bm k0 k1 k2 k3 n k5 hro hs;simp only[aA,beq_iff_eq,gO]at q;obtain⟨⟨⟨⟨⟨rfl,rfl⟩,hdel⟩,ht⟩,hk⟩,hni⟩:=q;obtain⟨nm,bs,mro,ns,qn,hd,sn,sub,ab,col,del⟩:=cd;dsimp only at hro hdel hk hni;subst hro hdel;obtain⟨l⟩:=sl;obtain rfl:l=[k0,k1,k2,k3,some (.builtin n),k5]:=hs;exact⟨bm,ns,nm,qn,bs,hd,sn,sub,ab,col,dd,k0,k1,k2,k3,k5,_,X _ _ ho,.of_isNs (PySem.W.isNs_of_in X hk),PySem.W.nsMap_none_of_in X hk hni,PySem.W.tail_of_in X ht⟩
  ·cases q
 ·cases q
structure ExBase(bmB:List aC)(newId:String):Prop where
 facts:∃Bn inN bmN B nid initId,lS Bn newId inN bmN/\bmB.contains (.type Bn)=true/\lS B nid initId bmB
def IM(C:Addr)(E:XK)(t:TA):TS:=λ_ Z H=>t Z H λvs H1=>vs.length<=aD/\E (.ref C) none H1
def Vd{X:Cx}{x:Str}{C:Addr}{bmB:List aC}{newId:String}{E:XK}{e₀:Expr}{cx:List Expr}{t:TA}{np cpos pos:Pos}(hc:X.calm=true)(hg:Gl X x)(hm:X.mg x=some (.ref C))(hx:eD X.K C bmB newId=true)(B:ExBase bmB newId)
  (hp:tm (Aw X.prog X.w) X E)(ha:PA X (e₀::cx) t)(hdb:(x==("__debug__":Str))=false:=by decide)(he:aQ (e₀::cx) X.env=(false,eval e₀ X.env)::aQ cx X.env:=by rfl)(hpl:(cY cpos (aQ cx X.env)).any (·.1)=false:=by rfl):
  PS X (.Raise (some (.Call (.Name x np) (e₀::cx) [] cpos)) none pos) (IM C E t):=by
 intro pins s Z H D I h;obtain⟨Bn,inN,bmN,B',nid,initId,Fn,hBn,FB⟩:=B.facts;obtain⟨tl,N,nm,q,bs,hdct,sn,sub,ab,col,dd,k0,k1,k2,k3,k5,mN,hC,hN,hni,T⟩:=(Uv I.ok.mod.kin hm hx).obj;refine wpAny_Raise_call_subU (C:=C) (nm:=nm) (q:=q) (N:=N) (bs:=bs) (bm:=tl) (hdct:=hdct) (sn:=sn) (sub:=sub) (ab:=ab) (col:=col) (dd:=dd) (k0:=k0) (k1:=k1) (k2:=k2) (k3:=k3) (k5:=k5) Fn hBn FB (mN:=mN) (T.hasType FB.hasBase) (I.ok.hd hc)
  (by rw[he];show(false||(cY cpos (aQ cx X.env)).any (·.1))=false;rw[hpl];rfl) hni (nh I hg hm ⟨rfl,?_⟩ hdb)
 have h2:=ha cpos pins s Z H _ I h;rw[he]at h2⊢;refine fO (bQ h2 (λus s2 ⟨vs,H1,I1,r,hl,qE⟩=>⟨rfl,?_,I1.bk _ _ hC,hN.keeps I1.bk,T.keeps I1.bk,λh' e made=>?_⟩) λ_ _ y=>y)
 ·show us.length<=aD;rw[<-r.length];exact hl
 ·obtain⟨tt,ge,_,_⟩:=made.there;refine hp pins Z H1 s2 (.ref e) _ I1 ⟨e,.ref C,H1,rfl,rfl,I1.bare,Un.kept made.keeps,I1.hok.kept made.keeps,⟨made.new,Ie I1.hok made.new,⟨_,_,ge,rfl,rfl,by simp,.inl (by simp),.inl (by simp)⟩⟩,qE⟩
section
variable{X:Cx}{pins:List (Addr×Obj)}{Z:St}{H:Hp}{s:aK}
abbrev Cx.marked(X:Cx)(a:Addr):Cx:={X with A:=X.A.mark (some (.ref a)),calm:=false}
theorem Cx.Ok.marked(ok:X.Ok)(a:Addr):(X.marked a).Ok:=
 ⟨ok.mod,ok.kind,ok.glob,ok.blt,ok.above,ok.inj,ok.has,ok.cab,λz=>absurd (show false=true from z) (by decide),ok.frames,ok.stk,ok.exf,ok.bs,ok.bsz,ok.noex,ok.exfs,ok.funs,ok.frf⟩
theorem Inv.marked(I:Inv X pins Z H s)(a:Addr):Inv (X.marked a) pins Z H s:=⟨I.ok.marked a,I.os,I.bare,I.base,I.loc,I.cell,I.free,I.freeC,I.pin,I.hok,I.len⟩
def Inv.unmarked{a:Addr}(ok:X.Ok)(I:Inv (X.marked a) pins Z H s):Inv X pins Z H s:=⟨ok,I.os,I.bare,I.base,I.loc,I.cell,I.free,I.freeC,I.pin,I.hok,I.len⟩
def Kg{H1 H':Hp}{s1 s':aK}{a:Addr}{cls:aC}{Q:Unit->aK->Prop}{E:aC->aK->Prop}(hstk:X.stack=X.env::X.outer)(hfr:X.env.frame=some X.env.locals)(hx:X.ex=[])(I:Inv X pins Z H1 s1)(J:Inv X pins Z H' s')(un:Un (wg X.stack) [] H1 H' s1.heap s'.heap)(ex:ExAt s1.heap s'.heap H' a cls)
  (h:∀h',Inv X pins Z H' {s' with heap:=h'}->ExAt s1.heap h' H' a cls->Q () {s' with heap:=h'}):
  bA (bE X.prog X.w) X.A (iN (.ref a) X.env) (λ_ s2=>bA (bE X.prog X.w) X.A (setFlight (.ref a) none) Q E s2) E s':=by
 have fr:=J.ok.frames;have st:=J.stack;rw[hstk]at fr st;refine Ao fr st hfr hfr ex (λT hT=>⟨?_,J.hok.fresh hT⟩) λh1 ch1 n1 c1 x1 _=>Bf (fr:=wg X.stack) x1 λh2 ch2 n2 c2 x2=>h h2 (Inv.chg (s:={s' with heap:=h1}) (h':=h2) hx I (Inv.chg (h':=h1) hx I J n1 (by rw[hstk];exact c1)) n2 c2) x2;cases r:s1.heap.get? T with
 |none=>rfl
 |some o=>
  obtain⟨o',r'⟩:=un.there T o r (by simp);exact absurd (aW (aX r') hT) (cK _)
def Kv{M:Model}{A':cO}{H1 H':Hp}{s1 s':aK}{a:Addr}{cls:aC}{Q:Unit->aK->Prop}{E:aC->aK->Prop}(hx:X.ex=[])(I:Inv X pins Z H1 s1)(J:Inv X pins Z H' s')(ex:ExAt s1.heap s'.heap H' a cls)
  (h:∀h',Inv X pins Z H' {s' with heap:=h'}->ExAt s1.heap h' H' a cls->Q () {s' with heap:=h'}):bA M A' (setFlight (.ref a) none) Q E s':=
 Bf (fr:=wg X.stack) ex λh' ch n c x=>h h' (Inv.chg hx I J n c) x
end
theorem SP.unmarked{X:Cx}{pins:List (Addr×Obj)}{a:Addr}{D:Ends}{f:Flow}{s':aK}(ok:X.Ok)(h:SP (X.marked a) pins D f s'):SP X pins D f s':=by
 cases f with
 |next=>obtain⟨σ',H',I,q⟩:=h;exact⟨σ',H',I.unmarked ok,q⟩
 |brk=>obtain⟨σ',H',I,q⟩:=h;exact⟨σ',H',I.unmarked ok,q⟩
 |cont=>obtain⟨σ',H',I,q⟩:=h;exact⟨σ',H',I.unmarked ok,q⟩
 |ret u=>obtain⟨v,σ',H',I,r,q⟩:=h;exact⟨v,σ',H',I.unmarked ok,r,q⟩
def RD(sp:Sp)(K:aP)(Cy:Addr)(t:TA)(u:TS):TS:=λD Z H=>t Z H λvs H1=>sp vs H1 (λ_ H2=>D.nx Z H2) λcls _ H2=>cU K cls (.ref Cy)=some true/\u D Z H2
section
variable{X:Cx}{k:Nat}{f Cy:Addr}{fd:dX}{ps:List Str}{sp:Sp}{x y:Str}{p yp cpos epos hpos pos:Pos}{e:Expr}{es:List Expr}{t:TA}{u:TS}{b₀:Stmt}{suite:List Stmt}
def ya{pins:List (Addr×Obj)}{Z:St}{H:Hp}{s:aK}{Q:VK}{E1:XK}{Qf:aC->aK->Prop}{Ef:aC->aK->Prop}(F:FnOk X.prog X.w X.K X.mg X.base (Aw X.prog X.w) k f fd ps sp)(hr:Room k X.A)(hg:Gl X x)(hm:X.mg x=some (.ref f))(hk:bU X.K (.ref f)=true)(hb:Binds X.K fd ps [])
  (ha:PA X.nox (e::es) t)(I:Inv X pins Z H s)(h:t Z H λvs H1=>sp vs H1 Q E1)(hdb:(x==("__debug__":Str))=false)(he:aQ (e::es) X.env=(false,eval e X.env)::aQ es X.env)(hpl:(cY cpos (aQ es X.env)).any (·.1)=false)
  (hq:∀v H2 u s2,Inv X pins Z H2 s2->RelV v u->Q v H2->Qf u s2) (hx:∀H1 s1 H2 s2 a cls,Inv X pins Z H1 s1->Inv X pins Z H2 s2->Un (wg X.stack) [] H1 H2 s1.heap s2.heap->ExAt s1.heap s2.heap H2 a cls->E1 cls none H2->Ef (.ref a) s2):
  bA (bE X.prog X.w) X.A (eval (.Call (.Name x p) (e::es) [] cpos) X.env) Qf Ef s:=by
 refine dZ (nh I hg hm ?_ hdb);refine kJ (h₀:=X.base) I.ok.mod.kin hk (bQ (ha cpos pins s Z H _ (I.wish _) h) (λus s1 ⟨vs,H1,I1,r,q⟩=>⟨I1.kIn,?_⟩) λ_ _ z=>cZ z) he hpl;have I1:=I1.unwish;have hl:us.length=ps.length:=by rw[<-r.length];exact F.len _ _ _ _ q
 have hbd:=hb s1 us I1.kIn (by rw[cM];exact hl);rw[cM]at hbd;refine wpAny_call (kA (F.run X.A X.stack s1 H1 ⟨us,[]⟩ us vs Q E1 hr I1.env0 hbd r q) λrs s2 z=>?_);cases rs with
 |ok fl=>
  cases fl with
  |ret u=>
   obtain⟨v,H2,I2,rv,qv⟩:=I1.after z;exact hq v H2 u s2 I2 rv qv
  |next=>exact cZ z
  |brk=>exact cZ z
  |cont=>exact cZ z
 |error ev=>
  obtain⟨a,cls,H2,rfl,os,bare,un,hok,ex,qE⟩:=z;exact hx H1 s1 H2 s2 a cls I1 (I1.call' os un hok bare λb z=>absurd z (by simp)) un ex qE
def Zv(F:FnOk X.prog X.w X.K X.mg X.base (Aw X.prog X.w) k f fd ps sp)(hr:Room k X.A)(hg:Gl X x)(hm:X.mg x=some (.ref f))(hk:bU X.K (.ref f)=true)(hb:Binds X.K fd ps [])(ha:PA X.nox (e::es) t)
  (hstk:X.stack=X.env::X.outer)(hfr:X.env.frame=some X.env.locals)(hex:X.ex=[])(hgy:Gl X y)(hmy:X.mg y=some (.ref Cy))(hs:∀a,PSs (X.marked a).nox (b₀::suite) u)(hsw:dY (.Call (.Name x p) (e::es) [] cpos) none epos.line X.env=pure false:=by rfl)
  (hdb:(x==("__debug__":Str))=false:=by decide) (hdy:(y==("__debug__":Str))=false:=by decide) (he:aQ (e::es) X.env=(false,eval e X.env)::aQ es X.env:=by rfl) (hpl:(cY cpos (aQ es X.env)).any (·.1)=false:=by rfl):
  PS X (.Try [.Expr (.Call (.Name x p) (e::es) [] cpos) epos] [.ExceptHandler (some (.Name y yp)) none (b₀::suite) hpos] [] [] pos) (RD sp X.K Cy t u):=by
 intro pins s Z H D I h;refine jF (eW (wpAny_Expr_any (ya F hr hg hm hk hb ha I h hdb he hpl (λv H2 w s2 I2 _ q=>?_) λH1 s1 H2 s2 a cls I1 J un ex ⟨hc,hu⟩=>?_) I.quiet hsw))
 ·exact fG (fG ⟨Z,H2,I2,q⟩)
 ·refine Kg hstk hfr hex I1 J un ex λh' J' ex'=>?_;refine jW (iY (nh (X:=X.marked a) (J'.marked a) hgy hmy ?_ hdy)) (by intro q;cases q);have LT:iE (bE X.prog X.w) h' (typeOf (.ref a)) cls:=by
   obtain⟨oe,vs,g,rfl,_⟩:=ex'.obj;exact(jG g).andThen .now
  refine mB J'.kIn LT hc _ _ _ _ (λ_ _ q=>q) (codeAny_handlers_suite (Kv hex I1 J' ex' λh2 J2 ex2=>?_));exact bQ (hs a pins _ Z H2 D ((J2.marked a).wish _) hu) (λfl s4 q=>(SP.unwish q).unmarked I.ok) λ_ _ z=>cZ z
end
section
open PySem.W PySem.Calls
variable{K:aP}{x t c:aC}{H:Heap->Prop}
def Yl(ty:∀(M:Model)(h:Heap),K.In h->H h->iE M h (typeOf x) t)(e:kitCls K t c=some true)(q:(t==c)=false):Answers (λs=>K.In s.heap/\H s.heap) x c true:=by
 intro dep tk prog w A R s hs;obtain⟨h0,g,d,tt,os⟩:=s;obtain⟨⟨X,p⟩,hq⟩:=hs;have LT:=ty (bE prog w) h0 X p;unfold Builtin.«isinstance.nested»;refine aE (LT.at ?_);rw[aG (by rw[q];decide)];obtain⟨hty,his,hsub⟩:=kit_cls (M:=bE prog w) X e;have LI:iE (bE prog w) h0 (isInstance x c) true:=LT.andThen hsub;refine aE (hty.at ?_);rw[aB (by decide)]
 k_delta "plainIsInstance";refine aE (aE (his.at ?_))
 simp only[dP,Bool.false_eq_true,if_false];refine aE (LI.at ?_)
 first|exact aT (aT (hq tt))|(simp only[if_true];first|exact aT (aT (hq tt))|exact aT (hq tt))
def Ym{prog:bN}{w:cH}{A:cO}{E:aC->aK->Prop}{s:aK}{Q:aC->aK->Prop}(ty:∀(M:Model)(h:Heap),K.In h->H h->iE M h (typeOf x) t)(e:kitCls K t c=some true)(q:(t==c)=false)
  (X:K.In s.heap)(p:H s.heap)(hx:x≠.builtin "__main__.__loader__#opaque")(h:∀tk,Q (.bool true) {s with toks:=tk}):bA (bE prog w) A (call (.builtin "isinstance") [x,c]) Q E s:=
 call_isinstance (S:=λ_ R s=>(K.In s.heap/\H s.heap)/\∀tk,R (.ok (.ret (.bool true))) {s with toks:=tk}) (λprog w A R s hs=>isinstance_outer (Yl ty e q 0 _ prog w A R s hs) hx) ⟨⟨X,p⟩,h⟩
end
section
variable{X:Cx}{pins:List (Addr×Obj)}{Z:St}{H:Hp}{s:aK}{a:Addr}{oe:Obj}
abbrev Cx.held(X:Cx)(a:Addr)(oe:Obj):Cx:={X with A:=X.A.mark (some (.ref a)),calm:=false,pn:=(a,oe)::X.pn}
theorem Cx.Ok.held(ok:X.Ok)(a:Addr)(oe:Obj):(X.held a oe).Ok:=
 ⟨ok.mod,ok.kind,ok.glob,ok.blt,ok.above,ok.inj,ok.has,ok.cab,λz=>absurd (show false=true from z) (by decide),ok.frames,ok.stk,ok.exf,ok.bs,ok.bsz,ok.noex,ok.exfs,ok.funs,ok.frf⟩
theorem Inv.held(I:Inv X pins Z H s)(g:s.heap.get? a=some oe)(f:H a=none)(n:a≠X.env.locals)(nf:a∉X.fs)(nc:∀v,oe.data≠.cell v):Inv (X.held a oe) pins Z H s:=
 ⟨I.ok.held a oe,I.os,I.bare,I.base,I.loc,I.cell,I.free,I.freeC,λp hp=>by
  rcases List.mem_cons.mp (show p∈(a,oe)::(X.pn++pins)from hp)with rfl|hp
  ·exact⟨g,f,n,nf,nc⟩
  ·exact I.pin p hp,I.hok,I.len⟩
def Inv.unheld(ok:X.Ok)(I:Inv (X.held a oe) pins Z H s):Inv X pins Z H s:=⟨ok,I.os,I.bare,I.base,I.loc,I.cell,I.free,I.freeC,λp hp=>I.pin p (aF _ hp),I.hok,I.len⟩
def Sa{T:String}{E:aC->aK->Prop}(e:gX X.K oe.cls (.type T)=some true)(q:(oe.cls==.type T)=false):CallR ((X.held a oe).wish E) (.builtin "isinstance") (λxs H Q=>xs=[.ref a,.ty T]/\Q (.bl true) H):=by
 intro pins s Z H xs us Q I r h;obtain⟨rfl,h⟩:=h;obtain⟨u,u2,rfl,ru,ru2⟩:=DM r;cases ru;cases ru2;have g:=(I.pin (a,oe) aH).1;exact Ym (K:=X.K) (H:=λh=>h.get? a=some oe) (λM h _ g=>(jG g).andThen .now) e q I.kIn g (λz=>nomatch z) λtk=>⟨.bl true,H,I.tok tk,rfl,h⟩
def Rc{M:Model}{A:cO}{E:aC->aK->Prop}{i:Nat}{n:Str}{pos:Pos}{Q:Unit->aK->Prop}(I:Inv X pins Z H s)(hN:X.N.Nodup)(hi:X.N[i]?=some n)(hk:X.env.scope.names.lookup n=some .local)
  (h:∀s',Inv X pins (Z.set i none) H s'->Q () s'):bA M A (do bindName X.env n .none;unbindBehindTheSuite X.env n pos) Q E s:=by
 obtain⟨m,hn,hl⟩:=id I.loc;have hiσ:i<Z.length:=by rw[I.len];exact(List.getElem?_eq_some_iff.mp hi).1
 have old:∀b o,X.s₀.heap.get? b=some o->b≠X.env.locals:=λb o e=>cI (aW (aX e) I.ok.above);have cne:=I.cne;refine wpAny_nameGoes_keeps hk hn (by rw[I.ok.kind];rfl) λh' v hn' hs=>h _ ⟨I.ok,I.os,I.bare,⟨λb o e n hb hx=>(hs.2 b (old b o e)).trans (I.base.keep b o e n hb hx),λb o e n hb hx=>?_,I.base.free,λb o e hx=>?_,I.base.tups,I.base.frzs,I.base.tbls⟩,⟨_,hn',λj y v' e1 e2 e3=>?_⟩,λy c e=>?_,I.free,I.freeC,λp hp=>?_,λb ob e=>?_,by simpa using I.len⟩
 ·obtain⟨sl,e1⟩:=I.base.slot b o e n hb hx;exact⟨sl,(hs.2 b (old b o e)).trans e1⟩
 ·obtain⟨o',e1⟩:=I.base.there b o e hx;exact⟨o',(hs.2 b (old b o e)).trans e1⟩
 ·by_cases hj:j=i
  ·subst hj;rw[aL hiσ]at e2;cases e2
  ·rw[aN (fZ hj)]at e2;obtain⟨u',r',q⟩:=hl j y v' e1 e2 e3;refine⟨u',r',?_⟩;rcases q with ⟨k,e⟩|⟨k,c,e,z⟩
   ·have:y≠n:=λe=>hj (Bx hN e1 (e▸hi));exact .inl ⟨k,by simp[this,e]⟩
   ·exact .inr ⟨k,c,e,z.sameBut hs (cne y c e)⟩
 ·obtain⟨w',z⟩:=I.cell y c e;exact⟨w',z.sameBut hs (cne y c e)⟩
 ·obtain⟨e,n,ne,nf,d⟩:=I.pin p hp;exact⟨(hs.2 p.1 ne).trans e,n,ne,nf,d⟩
 ·refine(I.hok b ob e).stay (λc w' hc q=>(hs.2 c ?_).trans q) (λ_ q=>q) λ_ _ q=>q
  rintro rfl
  rcases hc with rfl|hc
  ·rw[I.free]at e;cases e
  ·rw[I.free]at hc;cases hc
end
def EN(r n T:Str)(rp rp2 ip sp np tp icpos ccpos bpos apos:Pos):Stmt:=.Assign [.Name r rp] (.BinOp (.Name r rp2) .Add (.Call (.Name "int" ip) [.Call (.Name "isinstance" sp) [.Name n np,.Name T tp] [] icpos] [] ccpos) bpos) apos
def IL(sp:Sp)(K:aP)(Cy:Addr)(T:String)(i j:Nat)(t:TA):TS:=λD Z H=>t Z H λvs H1=>sp vs H1 (λ_ H2=>D.nx Z H2) λcls _ H2=>cU K cls (.ref Cy)=some true/\gX K cls (.type T)=some true/\(cls==.type T)=false/\
 ∃z,Z[j]?=some (some (.int z))/\D.nx ((Z.set j (some (.int (z+1)))).set i none) H2
section
variable{X:Cx}{k:Nat}{f Cy:Addr}{fd:dX}{ps:List Str}{sp:Sp}{x y r n xT:Str}{T:String}{i j:Nat}{p yp cpos epos hpos pos rp rp2 ip isp np tp icpos ccpos bpos apos:Pos}{e:Expr}{es:List Expr}{t:TA}
def EM{a:Addr}{oe:Obj}(hN:X.N.Nodup)(hi:X.N[i]?=some n)(hj:X.N[j]?=some r)(hn:X.env.scope.names.lookup n=some .local)(hr:X.env.scope.names.lookup r=some .local)(hnd:(n==("__debug__":Str))=false)(hnc:(n==("__classdict__":Str))=false)(hrd:(r==("__debug__":Str))=false)(hrc:(r==("__classdict__":Str))=false)
  (h1:Gl X "int")(m1:X.mg "int"=none)(h2:Gl X "isinstance")(m2:X.mg "isinstance"=none)(h3:Gl X xT)(m3:X.mg xT=none)(b3:eN xT=some (.type T))(n3:xT≠"__name__")(d3:(xT==("__debug__":Str))=false)
  (e1:gX X.K oe.cls (.type T)=some true) (q1:(oe.cls==.type T)=false):
  PS (X.held a oe).nox (EN r n xT rp rp2 ip isp np tp icpos ccpos bpos apos) (λD Z H=>Z[i]?=some (some (.ref a))/\∃z,Z[j]?=some (some (.int z))/\D.nx (Z.set j (some (.int (z+1)))) H):=by
 have P:=Li (X:=(X.held a oe).nox) (pos:=apos) (pos':=rp) hN hj (.inl hr) (U2 (pos:=bpos) Lc (Gb (pos:=rp2) (i:=j) hj (.inl hr) hrd hrc) (qp (p:=ip) (pos:=ccpos) Dv h1 m1 iZ (o8 (uw (p:=isp) (pos:=icpos) (Sa e1 q1) h2 m2 boot_isinstance (o8 (Gb (pos:=np) (i:=i) hi (.inl hn) hnd hnc) (o8 (Ny (v:=.ty T) (pos:=tp) h3 m3 b3 rfl n3 d3) B0))) B0))) rfl (.inr hr);intro pins s Z H D I h;obtain⟨a1,z,a2,q⟩:=h;exact P pins s Z H D I ⟨_,a2,_,a1,rfl,.inr ⟨true,rfl,_,_,rfl,rfl,q⟩⟩
def Ve(F:FnOk X.prog X.w X.K X.mg X.base (Aw X.prog X.w) k f fd ps sp)(hr:Room k X.A)(hg:Gl X x)(hm:X.mg x=some (.ref f))(hk:bU X.K (.ref f)=true)(hb:Binds X.K fd ps [])(ha:PA X.nox (e::es) t)
  (hstk:X.stack=X.env::X.outer)(hfr:X.env.frame=some X.env.locals)(hex:X.ex=[])(hgy:Gl X y)(hmy:X.mg y=some (.ref Cy))(hij:i≠j)
  (hN:X.N.Nodup) (hi:X.N[i]?=some n) (hj:X.N[j]?=some r) (hn:X.env.scope.names.lookup n=some .local) (hlr:X.env.scope.names.lookup r=some .local) (hnd:(n==("__debug__":Str))=false) (hnc:(n==("__classdict__":Str))=false) (hrd:(r==("__debug__":Str))=false) (hrc:(r==("__classdict__":Str))=false)
  (h1:Gl X "int") (m1:X.mg "int"=none) (h2:Gl X "isinstance") (m2:X.mg "isinstance"=none) (h3:Gl X xT) (m3:X.mg xT=none) (b3:eN xT=some (.type T)) (n3:xT≠"__name__") (d3:(xT==("__debug__":Str))=false)
  (hsw:dY (.Call (.Name x p) (e::es) [] cpos) none epos.line X.env=pure false:=by rfl)
  (hdb:(x==("__debug__":Str))=false:=by decide) (hdy:(y==("__debug__":Str))=false:=by decide) (he:aQ (e::es) X.env=(false,eval e X.env)::aQ es X.env:=by rfl) (hpl:(cY cpos (aQ es X.env)).any (·.1)=false:=by rfl):
  PS X (.Try [.Expr (.Call (.Name x p) (e::es) [] cpos) epos] [.ExceptHandler (some (.Name y yp)) (some n) [EN r n xT rp rp2 ip isp np tp icpos ccpos bpos apos] hpos] [] [] pos) (IL sp X.K Cy T i j t):=by
 intro pins s Z H D I h;refine jF (eW (wpAny_Expr_any (ya F hr hg hm hk hb ha I h hdb he hpl (λv H2 w s2 I2 _ q=>?_) λH1 s1 H2 s2 a cls I1 J un ex ⟨hc,hT,hTn,z,hz,hu⟩=>?_) I.quiet hsw))
 ·exact fG (fG ⟨Z,H2,I2,q⟩)
 ·refine Kg hstk hfr hex I1 J un ex λh' J' ex'=>?_;refine jW (iY (nh (X:=X.marked a) (J'.marked a) hgy hmy ?_ hdy)) (by intro q;cases q);have LT:iE (bE X.prog X.w) h' (typeOf (.ref a)) cls:=by
   obtain⟨oe,vs,g,rfl,_⟩:=ex'.obj;exact(jG g).andThen .now
  refine mB J'.kIn LT hc _ _ _ _ (λ_ _ q=>q) (codeAny_handlers_suite_as (Kv hex I1 J' ex' λhh J2 ex2=>?_));have yg:=I1.young hex ex2.new;have hiσ:i<Z.length:=by rw[I.len];exact(List.getElem?_eq_some_iff.mp hi).1
  refine y0 J2 hN hi (.inl hn) (v:=.ref a) (u:=.ref a) rfl (λs4 J4 hsb=>?_) (.inr hn);obtain⟨oe,vs,g,hcl,hd,_⟩:=ex2.obj;have g4:s4.heap.get? a=some oe:=by
   obtain⟨b,sb,hb⟩:=hsb;refine(sb.2 a λz=>?_).trans g;rcases hb with hb|hb
   ·exact yg.2.1 (z.trans hb)
   ·exact yg.2.2.1 n b hb z.symm
  have nfs:a∉X.fs:=λz=>by
   have st:a∈wg X.stack:=by rw[hstk];unfold wg;rw[cR,hfr];exact aF _ z
   obtain⟨_,o,ho,_⟩:=I1.stack.mem st;rw[ex2.new]at ho;cases ho
  subst hcl;have Jh:=J4.held g4 ex2.free yg.2.1 nfs (λv z=>by rw[hd]at z;cases z);have P:=EM (X:=X) (a:=a) (oe:=oe) (rp:=rp) (rp2:=rp2) (ip:=ip) (isp:=isp) (np:=np) (tp:=tp) (icpos:=icpos) (ccpos:=ccpos) (bpos:=bpos) (apos:=apos) hN hi hj hn hlr hnd hnc hrd hrc h1 m1 h2 m2 h3 m3 b3 n3 d3 hT hTn;have hset:((Z.set i (some (V.ref a))).set j (some (.int (z+1)))).set i none=(Z.set j (some (.int (z+1)))).set i none:=by
   rw[List.set_comm _ _ hij,List.set_set]
  refine bQ (Gd P pins s4 _ H2 {nx:=λσ' H'=>D.nx (σ'.set i none) H',rt:=λ_ _=>False} (Jh.wish _) ⟨aL hiσ,z,by rw[aN hij];exact hz,by show D.nx _ _;rw[hset];exact hu⟩) (λfl s5 q=>?_) λ_ _ z=>cZ z;cases fl with
  |next=>
   obtain⟨σ',H',I',q⟩:=q;exact Rc (I'.unwish.unheld I.ok) hN hi hn λs6 I6=>⟨_,H',I6,q⟩
  |ret u=>obtain⟨_,_,_,_,_,q⟩:=q;exact q.elim
  |brk=>obtain⟨_,_,_,q⟩:=q;exact q.elim
  |cont=>obtain⟨_,_,_,q⟩:=q;exact q.elim
end
section
variable{P:bN}{w:cH}{K:aP}{mg:Str->Option aC}{base:Heap}
def Fun.okE{x qual:Str}{st:Stmt}{f:Addr}{fd:dX}{N ps:List Str}{k:Nat}{sp:Sp}(F:Fun K x qual st f fd)(S:FnScope N ps (bp st))(len:∀vs H Q E,sp vs H Q E->vs.length=ps.length)
   (hbody:∀(cdv:aC)(A:cO)(outer:List Env)(s:aK)(H:Hp)(vs:List V)(Q:VK)(E:XK),fd.code=cdv->Room k (A.deeper (lF qual (bp st) s.heap.objs.size f cdv))->sp vs H Q E->
   ∃t,PSs (yh (Aw P w) P w K mg base N qual (bp st) f cdv A outer s H E) (gd st) t/\t {nx:=λ_ H'=>Q .non H',rt:=Q} (pd N vs) H):FnOk P w K mg base (Aw P w) (k+1) f fd ps sp:=by
 obtain⟨oc,od,kV,doc,pm,an,cdv,ct,osl,rfl,lk,hcd⟩:=F.ex;exact CP lk hcd S len λA outer s H vs Q E hr hsp=>hbody cdv A outer s H vs Q E rfl hr hsp
def FnOk.calm(F:FnOk P w K mg base (Aw P w) k f fd ps sp):FnOk P w K mg base DI k f fd ps (λvs H Q _=>sp vs H Q E0):=by
 refine⟨λvs H Q E h=>F.len vs H Q E0 h,λA outer s H args us vs Q E hr e0 hb r h=>kA (F.run A outer s H args us vs Q E0 hr e0 hb r h) λrs s' z=>?_⟩;cases rs with
 |ok fl=>cases fl<;>exact z
 |error e=>
  obtain⟨_,_,_,_,_,_,_,_,_,q⟩:=z;exact q.elim
end
end L2
namespace Pu
open PySem PySem.Spec PyProof.Rows L2
def Sz{P:bN}{w:cH}{Kf:aP}{mg:Str->Option aC}{base:Heap}{x qual:Str}{st:Stmt}{f:Addr}{fd:dX}{N ps:List Str}{k:Nat}{ms:List Bool}{Fb:En->Out}(F:Fun Kf x qual st f fd)(S:FnScope N ps (bp st))(hm:ms.length=ps.length)
   (hbody:∀(cdv:aC)(A:cO)(outer:List Env)(s:aK)(H G0:Hp)(E:XK),fd.code=cdv->Room k (A.deeper (lF qual (bp st) s.heap.objs.size f cdv))->
   yb (yh (Aw P w) P w Kf mg base N qual (bp st) f cdv A outer s H E) G0 H (ek ⟨Kf,y6 mg⟩ E) (gd st) Fb):
  FnOk P w Kf mg base (Aw P w) (k+1) f fd ps (Lu ⟨Kf,y6 mg⟩ ms (QG ms N.length Fb)):=by
 refine F.okE S (λvs H Q E h=>h.1.trans hm) λcdv A outer s H vs Q E hc hr h=>?_;obtain⟨hl,gb,G,ds,sg,al,q⟩:=h;exact⟨_,hbody cdv A outer s H G E hc hr,G,_,Kr gb sg al,Ext.refl sg,Zk sg q⟩
end Pu
end
section
namespace L2
open PySem PySem.Spec PyProof.Rows
def NM(sp:Sp)(t:TA):TS:=λD Z H=>t Z H λvs H1=>sp vs H1 (λv H2=>D.rt v H2) λ_ _ _=>False
section
variable{X:Cx}{k:Nat}{f Cy:Addr}{fd:dX}{ps:List Str}{sp:Sp}{x y:Str}{p yp cpos epos hpos pos:Pos}{e:Expr}{es:List Expr}{t:TA}{u:TS}{h₀:fV}{hs:List fV}
def Zw(F:FnOk X.prog X.w X.K X.mg X.base (Aw X.prog X.w) k f fd ps sp)(hr:Room k X.A)(hg:Gl X x)(hm:X.mg x=some (.ref f))(hk:bU X.K (.ref f)=true)(hb:Binds X.K fd ps [])(ha:PA X.nox (e::es) t)
  (hdb:(x==("__debug__":Str))=false:=by decide)(he:aQ (e::es) X.env=(false,eval e X.env)::aQ es X.env:=by rfl)(hpl:(cY cpos (aQ es X.env)).any (·.1)=false:=by rfl):
  PS X (.Try [.Return (some (.Call (.Name x p) (e::es) [] cpos)) epos] (h₀::hs) [] [] pos) (NM sp t):=by
 intro pins s Z H D I h;refine jF (eW (kW (ya F hr hg hm hk hb ha I h hdb he hpl (λv H2 w s2 I2 r2 q=>?_) λH1 s1 H2 s2 a cls I1 J un ex hf=>hf.elim)));exact⟨v,Z,H2,I2,r2,q⟩
end
end L2
end
section
namespace Pu
open PySem PySem.Spec PyProof.Rows L2
def NZ(K:KA)(ms:List Bool)(f:List D->Res):Sp:=λvs H Q E=>vs.length=ms.length/\GOk H/\∃G ds,Same G H/\ArgsM K G H ms ds vs/\ResP (ek K E) G H (f ds) λd=>∃es,d=.lst es/\
 ∀a ws G' H',Ext G H G' H'->H a=none->G' a=none->H' a=some (.lst ws)->DenL K G' es ws->Q (.ref a) H'
structure SC where
 N:List Str
 sc:eS
 td:List Str
 lam:Bool
 blk:Bool
structure FS where
 ms:List Bool
 f:List D->Res
structure XT where
 exc:Str->Bool
 sub:Str->Str->Bool
 ve:Str->Bool
 nsub:Str->Str->Bool
 late:Str->Bool
 nlate:Str->Bool
structure GT where
 fns:Str->Option FS
 gstr:Str->Option Str
 xs:XT
 lam:Expr->List (Str×D)->List D->Res
 own:Str->Bool
noncomputable def wd:List Str:=["len","list","tuple","int","isinstance","range","all","any","sorted","set","min","max","abs","str","bool","dict","enumerate","zip","reversed","ValueError"]
def Rj(X:Cx):Prop:=∃c P,(c,P,X.env.qual++"<lambda>")∈L4/\X.env.code=.ref c/\PySem.W.CodeHd X.base c P/\
 (∃bm o,X.mg "__builtins__"=some (.ref bm)/\bm≠jC/\bm≠cG/\X.base.get? bm=some o/\o.cls=.type "module"/\o.dict=some jC/\o.data=.plain)/\
 (∀y c,X.env.cells.lookup y=some c->X.s₀.heap.objs.size<=c)/\∀y∈vg,X.fn y=false
structure RoomL(k:Nat)(A:cO):Prop where
 hd:A.handled=none
 dp:A.depth+3 * k+5<kI
 un:A.units+16 * k+190<dO
def RoomL.of(r:Room k A):RoomL k A:=⟨r.hd,r.dp,by have:=r.un;lia⟩
theorem RoomL.depth{A:cO}(r:RoomL k A):A.depth<kI:=by have:=r.dp;lia
theorem RoomL.deeper{A:cO}(r:RoomL (k+1) A)(env:Env):Room k (A.deeper env):=
 ⟨r.hd,by have:=r.dp;show A.depth+1+3 * k+5<_;lia,by have:=r.un;show A.units+3+16 * k+200<_;lia⟩
def Rk(P:bN)(w:cH)(K:aP)(mg:Str->Option aC)(base:Heap)(k:Nat)(e:Expr)(fs:List (Str×D))(ds:List D)(d:D):Prop:=
 ∀(A:cO)(outer:List Env)(s:aK)(H G:Hp)(a:Addr)(us:List aC)(vs:List V)(Q:VK),RoomL k A->Env0 P w K mg base A outer s H->GOk H->Same G H->Den ⟨K,y6 mg⟩ G (.obj e fs) (.ref a)->DenL ⟨K,y6 mg⟩ G ds vs->Vals vs us->
  (∀v G' H',Ext G H G' H'->Den ⟨K,y6 mg⟩ G' d v->Q v H')->kX (bE P w) A (.call (.ref a) ⟨us,[]⟩) (CR (Aw P w) outer P w H s Q E0) s
structure XOk(X:Cx)(C:SC)(T:GT)(E:XK):Prop where
 n:X.N=C.N
 s:X.env.scope=C.sc
 nd:C.N.Nodup
 calm:X.calm=true
 units:X.A.units+65<dO
 fns:∀x s,T.fns x=some s->∃k f fd ps,Room k X.A/\X.mg x=some (.ref f)/\bU X.K (.ref f)=true/\Binds X.K fd ps []/\FnOk X.prog X.w X.K X.mg X.base (Aw X.prog X.w) k f fd ps (Lu (kx X) s.ms s.f)
 gstr:∀x y,T.gstr x=some y->∃t,X.mg x=some (.str y t)
 bl:∀x∈wd,X.mg x=none
 exc:∀x,T.xs.exc x=true->∃C bm newId,X.mg x=some (.ref C)/\eD X.K C bm newId=true/\ExBase bm newId
 sub:∀c y,T.xs.sub c y=true->∃Cy,X.mg y=some (.ref Cy)/\cU X.K (.ref (y6 X.mg c)) (.ref Cy)=some true
 ve:∀c,T.xs.ve c=true->gX X.K (.ref (y6 X.mg c)) (.type "ValueError")=some true
 nsub:∀c y,T.xs.nsub c y=true->∃Cy,X.mg y=some (.ref Cy)/\cU X.K (.ref (y6 X.mg c)) (.ref Cy)=some false
 late:∀x,T.xs.late x=true->∃C,C∈uk/\X.mg x=some (.ref C)
 nlate:∀c,T.xs.nlate c=true->y6 X.mg c∉uk
 acc:Acc X E
 top:C.blk=false->X.ex=[]/\X.stack=X.env::X.outer/\X.env.frame=some X.env.locals
 lamc:C.lam=true->Rj X
 lams:∀e fs ds d,T.lam e fs ds=.ok d->∃k,Room k X.A/\Rk X.prog X.w X.K X.mg X.base k e fs ds d
 own:∀x s,T.own x=true->T.fns x=some s->∃k f fd ps,Room k X.A/\X.mg x=some (.ref f)/\bU X.K (.ref f)=true/\Binds X.K fd ps []/\FnOk X.prog X.w X.K X.mg X.base (Aw X.prog X.w) k f fd ps (NZ (kx X) s.ms s.f)
def vis(sc:eS)(x:Str):Bool:=match sc.names.lookup x with
 |some .local=>true
 |some .cell=>true
 |some .free=>true
 |_=>false
def Mg(h:vis sc x=true):JU sc x:=by
 unfold vis at h;unfold JU;cases e:sc.names.lookup x with
 |none=>rw[e]at h;cases h
 |some k=>rw[e]at h;cases k<;>first|exact .inl rfl|exact .inr (.inl rfl)|exact .inr (.inr rfl)|cases h
def Ig(sc:eS)(x:Str):Bool:=match sc.names.lookup x with
 |some .local=>true
 |some .cell=>true
 |_=>false
def xk(h:Ig sc x=true):L2.Xo sc x:=by
 unfold Ig at h;unfold L2.Xo;cases e:sc.names.lookup x with
 |none=>rw[e]at h;cases h
 |some k=>rw[e]at h;cases k<;>first|exact .inl rfl|exact .inr rfl|cases h
def pz(x:Str):Bool:= !(x==("__debug__":Str)) && !(x==("__classdict__":Str))
def uu(h:pz x=true):(x==("__debug__":Str))=false:=by
 unfold pz at h;simp only[aA,gO]at h;exact h.1
def xm(h:pz x=true):(x==("__classdict__":Str))=false:=by
 unfold pz at h;simp only[aA,gO]at h;exact h.2
def Ts(x:Str):List Str->Nat->Option Nat
 |[],_=>none
 |y::r,i=>if x=y then some i else Ts x r (i+1)
theorem Fz:∀{l:List Str}{i j:Nat},Ts x l i=some j->i<=j/\l[j - i]?=some x
 |[],_,_,h=>by cases h
 |y::r,i,j,h=>by
  unfold Ts at h
  by_cases e:x=y
  ·rw[aB e]at h;cases h;subst e;exact⟨aO _,by simp⟩
  ·rw[aG e]at h;obtain⟨h1,h2⟩:=Fz h;refine⟨by lia,?_⟩;rw[show j - i=(j - (i+1))+1 by lia];simpa using h2
def slot(C:SC)(x:Str):Option Nat:=if vis C.sc x && pz x then Ts x C.N 0 else none
def vm{C:SC}(h:slot C x=some i):C.N[i]?=some x/\vis C.sc x=true/\pz x=true:=by
 unfold slot at h
 by_cases e:(vis C.sc x && pz x)=true
 ·rw[aB e]at h;rw[aA]at e;obtain⟨_,q⟩:=Fz h;exact⟨by simpa using q,e.1,e.2⟩
 ·rw[aG e]at h;cases h
def rh(C:SC)(x:Str):Bool:=decide (C.sc.names.lookup x=some .globalImplicit) && pz x
section
variable{X:Cx}{C:SC}{T:GT}{B:Hp}{E:EK}{x:Str}{i:Nat}{pos:Pos}
def XOk.var(O:XOk X C T E')(h:slot C x=some i):PE X (.Name x pos) (Dm i):=by
 obtain⟨h1,h2,h3⟩:=vm h;exact Gb (by rw[O.n];exact h1) (by rw[O.s];exact Mg h2) (uu h3) (xm h3)
def XOk.gl(O:XOk X C T E')(h:rh C x=true):Gl X x/\(x==("__debug__":Str))=false:=by
 unfold rh at h;rw[aA]at h;refine⟨?_,uu h.2⟩;show X.env.scope.names.lookup x=_;rw[O.s];exact of_decide_eq_true h.1
end
def ko:En->Res:=λ_=>.st
def ER:En->ResL:=λ_=>.st
def ri:En->Out:=λ_=>.st
section
variable{X:Cx}{B G0:Hp}{E:EK}{e tg:Expr}{es:List Expr}
def c8:f9 X B E e ko:=λpins s Z H Q I ⟨G,U,R,q⟩=>q.elim
def LM:Xf X B E e ko:=λpins s Z H Q I ⟨G,U,R,q⟩=>q.elim
def zy:Cv X B E e ko:=λpins s Z H Q I ⟨G,U,R,q⟩=>q.elim
def BF:Mi X B E ms es ER:=λpos pins s Z H Q I ⟨G,U,R,q⟩=>q.elim
def j4{st:Stmt}:ph X G0 B E st ri:=λpins s Z H D I ⟨G,U,R,x,q⟩=>q.elim
end
theorem ym:∀{l:List (Str×fX)},(y,eU)∈l↔y∈gi l
 |[]=>by simp[gi]
 |(n,k)::r=>by
  unfold gi
  by_cases h:k=.free
  ·subst h;rw[aB rfl,cP,cP,ym];constructor
   ·rintro (z|z)
    ·cases z;exact .inl rfl
    ·exact .inr z
   ·rintro (z|z)
    ·subst z;exact .inl rfl
    ·exact .inr z
  ·rw[aG h,cP,ym];constructor
   ·rintro (z|z)
    ·cases z;exact absurd rfl h
    ·exact z
   ·exact .inr
def og(scope sc:eS):eS:=
 {scope with names:=scope.names.map λ(n,k)=>if(k==.free && sc.kind==.function && sc.names.lookup n==some .cell)then(n,.cell)else(n,k)}
def slots(C:SC):List Str->Option (List Nat)
 |[]=>some []
 |y::r=>match slot C y,slots C r with
  |some i,some is=>some (i::is)
  |_,_=>none
noncomputable def Mp(C:SC)(scope:eS)(y:Str):Bool:=
 (decide (C.sc.names.lookup y=some .cell)||decide (C.sc.names.lookup y=some .free)) &&
 (decide ((og scope C.sc).names.lookup y=some .cell)||decide ((og scope C.sc).names.lookup y=some .free))
noncomputable def ub(C:SC)(scope:eS)(xs:List Str):Bool:=
 decide (scope.kind=.function) && (scope.names.all λy=>decide (y.2≠.cell)) && (scope.names.all λy=> !decide (y.2=.local)||decide (scope.names.lookup y.1=some .local)) &&
 (xs.all λx=>decide (scope.names.lookup x=some .local)) && decide ((xs++gi scope.names).Nodup) && (gi scope.names).all (Mp C scope)
theorem Jr{C:SC}:∀{M:List Str}{ix:List Nat},slots C M=some ix->∀{X:Cx}{scope:eS}{cl:List (Str×Addr)},X.N=C.N->X.env.scope=C.sc->(∀y∈M,∃c,cl.lookup y=some c)->M.all (Mp C scope)=true->Caps X scope cl M ix
 |[],ix,h,X,scope,cl,_,_,_,_=>by cases h;exact rfl
 |y::r,ix,h,X,scope,cl,hn,hs,hc,ha=>by
  unfold slots at h;cases e1:slot C y with
  |none=>rw[e1]at h;cases h
  |some i=>
   cases e2:slots C r with
   |none=>rw[e1,e2]at h;cases h
   |some is=>
    rw[e1,e2]at h;cases h;rw[bK,aA]at ha;obtain⟨q1,q2,q3⟩:=vm e1;have q4:=ha.1;unfold Mp at q4;rw[aA,cT,cT,decide_eq_true_eq,decide_eq_true_eq,decide_eq_true_eq,decide_eq_true_eq]at q4;refine⟨i,is,rfl,⟨by rw[hn];exact q1,by rw[hs];exact Mg q2,?_,hc y (aH),?_⟩,Jr e2 hn hs (λz hz=>hc z (aF _ hz)) ha.2⟩
    ·show X.env.scope.names.lookup y≠_;rw[hs];rcases q4.1 with z|z<;>rw[z]<;>decide
    ·have:kC scope X.env=og scope C.sc:=by
      unfold kC og;rw[<-hs];rfl
     rw[this];exact q4.2
theorem Jq{C:SC}(nd:C.N.Nodup):∀{M:List Str}{ix:List Nat},slots C M=some ix->M.Nodup->ix.Nodup/\∀i∈ix,∃y∈M,C.N[i]?=some y
 |[],ix,h,_=>by cases h;exact⟨List.nodup_nil,λi hi=>by simp at hi⟩
 |y::r,ix,h,hM=>by
  unfold slots at h;cases e1:slot C y with
  |none=>rw[e1]at h;cases h
  |some i=>
   cases e2:slots C r with
   |none=>rw[e1,e2]at h;cases h
   |some is=>
    rw[e1,e2]at h;cases h;obtain⟨m1,m2⟩:=List.nodup_cons.mp hM;obtain⟨n1,n2⟩:=Jq nd e2 m2;obtain⟨q1,_,_⟩:=vm e1;refine⟨List.nodup_cons.mpr ⟨λhi=>?_,n1⟩,λj hj=>?_⟩
    ·obtain⟨z,hz,ez⟩:=n2 i hi;rw[q1]at ez;cases ez;exact m1 hz
    ·rcases List.mem_cons.mp hj with rfl|hj
     ·exact⟨y,aH,q1⟩
     ·obtain⟨z,hz,ez⟩:=n2 j hj;exact⟨z,aF _ hz,ez⟩
theorem ua(env:Env):∀(names:List (Str×fX))(cs:List (Str×Addr)),(∀y∈gi names,∃c,env.cells.lookup y=some c)->∃cl,kl env names cs=some cl
 |[],cs,_=>⟨cs,rfl⟩
 |(n,k)::r,cs,h=>by
  unfold kl
  by_cases hk:k=.free
  ·subst hk;rw[aB rfl];obtain⟨c,e⟩:=h n (by unfold gi;rw[aB rfl];exact aH);rw[e];exact ua env r _ λy hy=>h y (by unfold gi;rw[aB rfl];exact aF _ hy)
  ·rw[aG hk];exact ua env r cs λy hy=>h y (by unfold gi;rw[aG hk];exact hy)
theorem t9(env:Env):∀(names:List (Str×fX))(cs cl:List (Str×Addr)),kl env names cs=some cl->∀y,(cs.lookup y=none)->y∉gi names->cl.lookup y=none
 |[],cs,cl,h,y,q,_=>by cases h;exact q
 |(n,k)::r,cs,cl,h,y,q,m=>by
  unfold kl at h
  by_cases hk:k=.free
  ·subst hk;rw[aB rfl]at h;unfold gi at m;rw[aB rfl,cP,not_or]at m;cases hc:env.cells.lookup n with
   |none=>rw[hc]at h;cases h
   |some c=>
    rw[hc]at h;refine t9 env r _ cl h y ?_ m.2;have hb:(y==n)=false:=by simpa using m.1
    rw[lK,hb];exact q
  ·rw[aG hk]at h;unfold gi at m;rw[aG hk]at m;exact t9 env r cs cl h y q m
def o3{X:Cx}{scope:eS}(O:XOk X C T E')(ok:X.Ok)(h:ub C scope xs=true)(hx:slots C (gi scope.names)=some ix):∃cl,CompOk X scope cl xs (gi scope.names) ix:=by
 unfold ub at h;simp only[aA,decide_eq_true_eq]at h;obtain⟨⟨⟨⟨⟨h1,h2⟩,h3⟩,h4⟩,h5⟩,h6⟩:=h;have hcells:∀y∈gi scope.names,∃c,X.env.cells.lookup y=some c:=λy hy=>by
  have q:=List.all_eq_true.mp h6 y hy;unfold Mp at q;rw[aA,cT,decide_eq_true_eq,decide_eq_true_eq,<-O.s]at q;exact ok.has y q.1
 obtain⟨cl,hcl⟩:=ua X.env scope.names [] hcells;obtain⟨n0,n2,n1⟩:=List.nodup_append.mp h5;have hfree:∀y∈gi scope.names,∃c,cl.lookup y=some c:=λy hy=>ox X.env _ _ cl hcl y (.inr (ym.mpr hy));refine⟨cl,hcl,h1,λy hy=>?_,λy hy e=>?_,λx hx=>of_decide_eq_true (List.all_eq_true.mp h4 x hx),λx hx=>t9 X.env _ _ cl hcl x rfl (λhm=>n1 x hx x hm rfl),h5,(Jq O.nd hx n2).1,Jr hx O.n O.s hfree h6⟩
 ·exact of_decide_eq_true (List.all_eq_true.mp h2 y hy)
 ·have q:=List.all_eq_true.mp h3 y hy;rw[decide_eq_true e]at q;exact of_decide_eq_true (by simpa using q)
def j7(C:SC)(scope:eS)(xs:List Str):SC:=⟨xs++gi scope.names,og scope C.sc,[],false,true⟩
def ud{scope:eS}(O:XOk X C T E')(h:ub C scope xs=true)(Cc s₀ H₀ ex pn){E2:XK}(ac:Acc (ic X scope cl (xs++gi scope.names) xs Cc s₀ H₀ ex pn) E2):XOk (ic X scope cl (xs++gi scope.names) xs Cc s₀ H₀ ex pn) (j7 C scope xs) T E2 where
 n:=rfl
 s:=by
  show kC scope X.env=_;unfold kC;show _=og scope C.sc;unfold og;rw[<-O.s];rfl
 nd:=by
  unfold ub at h;simp only[aA,decide_eq_true_eq]at h;exact h.1.2
 calm:=O.calm
 units:=O.units
 fns:=O.fns
 gstr:=O.gstr
 bl:=O.bl
 exc:=O.exc
 sub:=O.sub
 ve:=O.ve
 nsub:=O.nsub
 late:=O.late
 nlate:=O.nlate
 acc:=ac
 top:=λh=>by cases h
 lamc:=λh=>by cases h
 lams:=O.lams
 own:=O.own
theorem XOk.goes{X:Cx}{C:SC}{T:GT}{E:XK}(O:XOk X C T E):tm (Aw X.prog X.w) X E:=O.acc.goes
def XOk.none(O:XOk X C T E):XOk X C T E0:=⟨O.n,O.s,O.nd,O.calm,O.units,O.fns,O.gstr,O.bl,O.exc,O.sub,O.ve,O.nsub,O.late,O.nlate,wz,O.top,O.lamc,O.lams,O.own⟩
theorem XOk.nox{X:Cx}(O:XOk X C T E):XOk X.nox C T E0:=⟨O.n,O.s,O.nd,O.calm,O.units,O.fns,O.gstr,O.bl,O.exc,O.sub,O.ve,O.nsub,O.late,O.nlate,wz,O.top,O.lamc,O.lams,O.own⟩
def j0(d e:D):Option D:=match e with
 |.dct false kvs=>(cg d).map λj=>.bl (cf kvs j).isSome
 |e=>Ge d e
def gw(d e:D):Option D:=match e with
 |.dct false kvs=>(cg d).map λj=>.bl !(cf kvs j).isSome
 |e=>pb d e
section
variable{X:Cx}
def B4(neg:Bool):R2:=λx y H Q=>∃a o,y=.ref a/\DGet H a x o/\Q (.bl (if neg then !o.isSome else o.isSome)) H
def Um(hu:X.A.units+5<dO):OpR X (bX .In) (B4 false):=by
 intro pins s Z H x y v u Q I rx ry q;obtain⟨a,o,rfl,dg,q⟩:=q;cases ry;exact QJ hu I dg rx λs' I'=>⟨.bl o.isSome,H,I',rfl,q⟩
def Jb(hu:X.A.units+5<dO):OpR X (bX .NotIn) (B4 true):=by
 intro pins s Z H x y v u Q I rx ry q;obtain⟨a,o,rfl,dg,q⟩:=q;cases ry;exact X9 hu I dg rx λs' I'=>⟨.bl !o.isSome,H,I',rfl,q⟩
def Tg{K:KA}{neg:Bool}{G H:Hp}{x y:V}{dx d:D}{kvs:List (D×D)}(sg:Same G H)(ax:Arg K G H dx x)(ay:Arg K G H (.dct false kvs) y)(ed:((cg dx).map λj=>D.bl (if neg then !(cf kvs j).isSome else(cf kvs j).isSome))=some d)(Q:VK)(q:∀v G' H',Ext G H G' H'->Den K G' d v->Q v H'):B4 neg x y H Q:=by
 cases ek:cg dx with
 |none=>rw[ek]at ed;cases ed
 |some j=>
  rw[ek]at ed;cases ed;obtain⟨l,es,rfl,h1,dl⟩:=Arg.dctK sg ay;rw[rm ax ek];have e:(cf kvs j).isSome=(mx es j).isSome:=by
   cases el:cf kvs j with
   |none=>rw[(dl.look j).2 el];rfl
   |some d=>obtain⟨v,ev,_⟩:=(dl.look j).1 d el;rw[ev];rfl
  refine⟨l,mx es j,rfl,DGet.k h1,q _ G H (Ext.refl sg) ?_⟩;show Den K G (.bl (if neg=true then !(cf kvs j).isSome else(cf kvs j).isSome)) _;rw[e];rfl
def Vb:iw (kx X) j0 (λx y H Q=>Qz (kx X) false x y H Q\/B4 false x y H Q):=λG H x y dx dy d sg ax ay ed Q q=>by
 unfold j0 at ed;split at ed
 ·exact .inr (Tg (neg:=false) sg ax ay ed Q q)
 ·exact .inl (Zr G H x y dx _ d sg ax ay ed Q q)
def Jg:iw (kx X) gw (λx y H Q=>Qz (kx X) true x y H Q\/B4 true x y H Q):=λG H x y dx dy d sg ax ay ed Q q=>by
 unfold gw at ed;split at ed
 ·exact .inr (Tg (neg:=true) sg ax ay ed Q q)
 ·exact .inl (Lh G H x y dx _ d sg ax ay ed Q q)
def EO(x y d:D)(h:j0 x y=some d):∃b,d=.bl b:=by
 unfold j0 at h;split at h
 ·obtain⟨j,_,rfl⟩:=Option.map_eq_some_iff.mp h;exact⟨_,rfl⟩
 ·exact F6 (f:=id) h
def Qj(x y d:D)(h:gw x y=some d):∃b,d=.bl b:=by
 unfold gw at h;split at h
 ·obtain⟨j,_,rfl⟩:=Option.map_eq_some_iff.mp h;exact⟨_,rfl⟩
 ·exact F6 (f:=λb=> !b) h
end
abbrev Ev:=SC->Expr->En->Res
def g8(T:GT)(ev:Ev):Prop:=∀X C B (E:XK) e,XOk X C T E->f9 X B (ek (kx X) E) e (ev C e)
def C3(T:GT)(tv:Ev):Prop:=∀X C B (E:XK) e,XOk X C T E->Cv X B (ek (kx X) E) e (tv C e)
section
variable{X:Cx}{B:Hp}{E:EK}{e a b:Expr}{es:List Expr}{g h:En->Res}{pos:Pos}
def dj:D->Option D
 |.int i=>some (.int (-i))
 |_=>none
def GF(ha:jw X B E a g):f9 X B E (.UnaryOp .USub a pos) (g1 dj g):=MV IE (λG H x dx d sg ax ed Q q=>by
 cases dx with
 |int i=>cases ed;exact⟨i,ax.int,q _ G H (Ext.refl sg) rfl⟩
 |_=>cases ed) ha
def qi:D->Bool
 |.non=>true
 |_=>false
def qr:D->D->Option D
 |d,.non=>some (.bl (qi d))
 |.bl b,.bl c=>some (.bl (b==c))
 |.non,.bl _=>some (.bl false)
 |_,_=>none
noncomputable def qu:D->D->Option D
 |d,.non=>some (.bl (!qi d))
 |.bl b,.bl c=>some (.bl (!(b==c)))
 |.non,.bl _=>some (.bl true)
 |_,_=>none
def y7{K:KA}{G H:Hp}{d:D}{v:V}(h:Arg K G H d v):decide (v=.non)=qi d:=by
 rcases h with h|⟨ds,a,vs,rfl,rfl,_⟩|⟨t,kvs,a,rfl,rfl,_⟩
 ·cases d with
  |non=>cases (show v=.non from h);rfl
  |bl b=>cases (show v=.bl b from h);rfl
  |int b=>cases (show v=.int b from h);rfl
  |str b=>cases (show v=.str b from h);rfl
  |tup ds=>obtain⟨a,vs,rfl,_⟩:=h;rfl
  |lst ds=>obtain⟨a,vs,rfl,_⟩:=h;rfl
  |dct t kvs=>obtain⟨a,rfl,_⟩:=h;rfl
  |obj C fs=>obtain⟨a,vs,rfl,_⟩:=h;rfl
  |fn f=>cases (show v=.ref _ from h);rfl
 ·rfl
 ·rfl
def AV(f:Bool->Bool):R2:=λx y H Q=>(∃b c,x=.bl b/\y=.bl c/\Q (.bl (f (b==c))) H)\/∃c,x=.non/\y=.bl c/\Q (.bl (f false)) H
def FK:OpR X (bX .Is) (AV id):=by
 intro pins s Z H x y v u Q I rx ry h;rcases h with ⟨b,c,rfl,rfl,q⟩|⟨c,rfl,rfl,q⟩
 ·cases rx;cases ry;exact wpAny_is_plain rfl ⟨.bl (b==c),H,I,(by cases b<;>cases c<;>rfl),q⟩
 ·cases rx;cases ry;exact wpAny_is_plain rfl ⟨.bl false,H,I,rfl,q⟩
def Zh:OpR X (bX .IsNot) (AV λb=> !b):=by
 intro pins s Z H x y v u Q I rx ry h;rcases h with ⟨b,c,rfl,rfl,q⟩|⟨c,rfl,rfl,q⟩
 ·cases rx;cases ry;exact wpAny_isNot_plain rfl ⟨.bl (!(b==c)),H,I,(by cases b<;>cases c<;>rfl),q⟩
 ·cases rx;cases ry;exact wpAny_isNot_plain rfl ⟨.bl true,H,I,rfl,q⟩
def Vc{K:KA}:iw K qr (λx y H Q=>(y=.non/\Q (.bl (decide (x=.non))) H)\/AV id x y H Q):=λG H x y dx dy d sg ax ay ed Q q=>by
 unfold qr at ed;split at ed
 ·cases ed;refine .inl ⟨ay.non,?_⟩;rw[y7 ax];exact q _ G H (Ext.refl sg) rfl
 ·cases ed;exact .inr (.inl ⟨_,_,ax.bl,ay.bl,q _ G H (Ext.refl sg) rfl⟩)
 ·cases ed;exact .inr (.inr ⟨_,ax.non,ay.bl,q _ G H (Ext.refl sg) rfl⟩)
 ·cases ed
def Jf{K:KA}:iw K qu (λx y H Q=>(y=.non/\Q (.bl (!decide (x=.non))) H)\/AV (λb=> !b) x y H Q):=λG H x y dx dy d sg ax ay ed Q q=>by
 unfold qu at ed;split at ed
 ·cases ed;refine .inl ⟨ay.non,?_⟩;rw[y7 ax];exact q _ G H (Ext.refl sg) rfl
 ·cases ed;exact .inr (.inl ⟨_,_,ax.bl,ay.bl,q _ G H (Ext.refl sg) rfl⟩)
 ·cases ed;exact .inr (.inr ⟨_,ax.non,ay.bl,q _ G H (Ext.refl sg) rfl⟩)
 ·cases ed
def Tj(hf:f=qr\/f=qu)(x y d:D)(h:f x y=some d):∃b,d=.bl b:=by
 rcases hf with rfl|rfl
 ·unfold qr at h;split at h<;>first|(cases h;exact⟨_,rfl⟩)|cases h
 ·unfold qu at h;split at h<;>first|(cases h;exact⟨_,rfl⟩)|cases h
noncomputable def Fk:CmpOp->Option (D->D->Option D)
 |.Eq=>some f6
 |.NotEq=>some i9
 |.Lt=>some gz
 |.LtE=>some Ag
 |.Gt=>some Di
 |.GtE=>some MT
 |.In=>some j0
 |.NotIn=>some gw
 |.Is=>some qr
 |.IsNot=>some qu
def Ak(hf:Fk op=some f)(hu:X.A.units+65<dO):∃r,OpR X (bX op) r/\iw (kx X) f r/\∀x y d,f x y=some d->∃b,d=.bl b:=by
 cases op<;>cases hf
 ·exact⟨_,FM (by lia),Zq,λ_ _ _ h=>F6 (f:=id) h⟩
 ·exact⟨_,FG (by lia),Zt,λ_ _ _ h=>F6 (f:=λb=> !b) h⟩
 ·exact⟨_,LO,xn,Fl⟩
 ·exact⟨_,LP,xn,Fl⟩
 ·exact⟨_,LQ,xn,Fl⟩
 ·exact⟨_,LR,xn,Fl⟩
 ·exact⟨_,FJ.or FK,Vc,Tj (.inl rfl)⟩
 ·exact⟨_,Zi.or Zh,Jf,Tj (.inr rfl)⟩
 ·exact⟨_,(FL hu).or (Um (by lia)),Vb,EO⟩
 ·exact⟨_,(Qp hu).or (Jb (by lia)),Jg,Qj⟩
end
def oo(ev:Ev)(C:SC)(e:Expr):En->Res:=match e with
 | .Name x _ => (match slot C x with
  |some i=>aa i
  |none=>ev C e)
 |_=>ev C e
noncomputable def D4(ev:Ev)(C:SC):List Bool->List Expr->En->ResL
 |[],[]=>ak
 |m::ms,e::es=>ae (if m then oo ev C e else ev C e) (D4 ev C ms es)
 |_,_=>ER
def vw(ev:Ev)(C:SC):List Expr->En->ResL
 |[]=>ak
 |e::es=>ae (ev C e) (vw ev C es)
noncomputable def Cb(T:GT)(C:SC)(x:Str):En->Res:=match slot C x with
 |some i=>dh i
 | none => if rh C x then (match T.gstr x with
  |some y=>gC (.str y)
  | none => (match T.fns x with
   |some _=>gC (.fn x)
   |none=>ko))else ko
def H0(f:Expr->En->Res):List Expr->En->Res
 |[]=>ko
 |[a]=>f a
 |a::r=>ro (f a) (H0 f r)
def S5(f:Expr->En->Res):List Expr->En->Res
 |[]=>ko
 |[a]=>f a
 |a::r=>m7 (f a) (S5 f r)
noncomputable def xw(ev:Ev)(C:SC)(l:Expr)(ops:List CmpOp)(rs:List Expr):En->Res:=match ops,rs with
 | [op], [r] => (match Fk op with
  |some f=>if my r then g2 f (oo ev C l) (oo ev C r)else ko
  |none=>ko)
 | [op, op'], [m, r] => (match Fk op, Fk op' with
  |some f,some f'=>if my r then rq f f' (oo ev C l) (oo ev C m) (oo ev C r)else ko
  |_,_=>ko)
 |_,_=>ko
section
variable{T:GT}{ev tv:Ev}{X:Cx}{C:SC}{B:Hp}{E:XK}{pos:Pos}
def di(h:g8 T ev)(O:XOk X C T E)(e:Expr):jw X B (ek (kx X) E) e (oo ev C e):=by
 have d:jw X B (ek (kx X) E) e (ev C e):=LD (h X C B E e O);cases e with
 |Name x p=>
  show jw X B _ _ (match slot C x with
   |some i=>aa i
   |none=>ev C (.Name x p))
  cases es:slot C x with
  |none=>exact d
  |some i=>exact DF i (O.var es)
 |_=>exact d
theorem tq(h:g8 T ev)(O:XOk X C T E):∀{ms:List Bool}{es:List Expr},es.all i7=true->Mi X B (ek (kx X) E) ms es (D4 ev C ms es)
 |[],[],_=>lr
 |[],_::_,_=>BF
 |_::_,[],_=>BF
 |m::ms,e::es,hs=>by
  rw[bK,aA]at hs;cases m with
  |true=>exact kh (di h O e) (tq h O hs.2) (az hs.1)
  |false=>exact A0 (h X C B E e O) (tq h O hs.2) (az hs.1)
theorem xb(h:g8 T ev)(O:XOk X C T E):∀{es:List Expr},es.all i7=true->Mi X B (ek (kx X) E) (es.map λ_=>false) es (vw ev C es)
 |[],_=>lr
 |e::es,hs=>by
  rw[bK,aA]at hs;exact A0 (h X C B E e O) (xb h O hs.2) (az hs.1)
theorem w8:∀{es:List Expr},Fc (es.map λ_=>false)=true
 |[]=>rfl
 |_::es=>by
  show(!false && Fc (es.map λ_=>false))=true;rw[w8 (es:=es)];rfl
def Y6(O:XOk X C T E):f9 X B (ek (kx X) E) (.Name x pos) (Cb T C x):=by
 unfold Cb;cases es:slot C x with
 |some i=>exact HZ i (O.var es)
 |none=>
  dsimp only
  by_cases hg:rh C x=true
  ·rw[aB hg];obtain⟨g1,g2⟩:=O.gl hg;cases e1:T.gstr x with
   |some y=>
    obtain⟨t,q⟩:=O.gstr x y e1;exact Z4 g1 q g2
   |none=>
    cases e2:T.fns x with
    |some s=>
     obtain⟨k,f,fd,ps,_,q,_⟩:=O.fns x s e2;exact GL g1 q g2
    |none=>exact c8
  ·rw[aG hg];exact c8
theorem Mj{E:EK}(h:∀e,f9 X B E e (f e)):∀{vs:List Expr},f9 X B E (.BoolOp .And vs pos) (H0 f vs)
 |[]=>c8
 |[a]=>Vn (h a)
 |a::b::r=>GO (h a) (Mj h (vs:=b::r))
theorem Uo{E:EK}(h:∀e,f9 X B E e (f e)):∀{vs:List Expr},f9 X B E (.BoolOp .Or vs pos) (S5 f vs)
 |[]=>c8
 |[a]=>Vn (h a)
 |a::b::r=>MW (h a) (Uo h (vs:=b::r))
def CA{E:EK}{e:Expr}:Xg X B E e ko:=λwh pins s Z H Q I ⟨G,U,R,q⟩=>q.elim
theorem Ml{E:EK}(h:∀e,Cv X B E e (f e)):∀{vs:List Expr},Xg X B E (.BoolOp .And vs pos) (H0 f vs)
 |[]=>CA
 |[a]=>Vq (h a)
 |a::b::r=>Z8 (h a) (Ml h (vs:=b::r))
theorem Up{E:EK}(h:∀e,Cv X B E e (f e)):∀{vs:List Expr},Xg X B E (.BoolOp .Or vs pos) (S5 f vs)
 |[]=>CA
 |[a]=>AZ (h a)
 |a::b::r=>HW (h a) (Up h (vs:=b::r))
def Sh(h:g8 T ev)(O:XOk X C T E):f9 X B (ek (kx X) E) (.Compare l ops rs pos) (xw ev C l ops rs)/\Cv X B (ek (kx X) E) (.Compare l ops rs pos) (xw ev C l ops rs):=by
 unfold xw;split
 ·rename_i op r;cases hf:Fk op with
  |none=>exact⟨c8,zy⟩
  |some f=>
   dsimp only
   by_cases hs:my r=true
   ·rw[aB hs];obtain⟨rr,h1,h2,h3⟩:=Ak (X:=X) hf O.units;exact⟨GM h1 h2 (di h O l) (di h O r) (o6 hs),Zz h1 h2 h3 (di h O l) (di h O r) (o6 hs)⟩
   ·rw[aG hs];exact⟨c8,zy⟩
 ·rename_i op op' m r;cases hf:Fk op with
  |none=>exact⟨c8,zy⟩
  |some f=>
   cases hf':Fk op' with
   |none=>exact⟨c8,zy⟩
   |some f'=>
    dsimp only
    by_cases hs:my r=true
    ·rw[aB hs];obtain⟨rr,h1,h2,h3⟩:=Ak (X:=X) hf O.units;obtain⟨rr',h1',h2',h3'⟩:=Ak (X:=X) hf' O.units;exact⟨Vk h1 h2 h1' h2' (di h O l) (di h O m) (di h O r) (Bw hs),Qu h1 h2 h1' h2' h3' (di h O l) (di h O m) (di h O r) (Bw hs)⟩
    ·rw[aG hs];exact⟨c8,zy⟩
 ·exact⟨c8,zy⟩
end
section
variable{X:Cx}{pins:List (Addr×Obj)}{Z:St}{G H:Hp}{s:aK}{B:Hp}{E:EK}{e a b:Expr}{g h:En->Res}{pos p:Pos}
def mz:List D->Option (List Bool)
 |[]=>some []
 |.bl b::r=>(mz r).map (b::·)
 |_::_=>none
theorem zb{K:KA}:∀{ds:List D}{bs:List Bool}{vs:List V}{us:List aC},mz ds=some bs->DenL K G ds vs->Vals vs us->us=bs.map gR
 |[],bs,vs,us,h,d,r=>by cases h;cases (show vs=[]from d);cases r;rfl
 |d::ds,bs,vs,us,h,dl,r=>by
  obtain⟨v,vr,rfl,dv,dr⟩:=dl;cases d with
  |bl b=>
   unfold mz at h;cases e:mz ds with
   |none=>rw[e]at h;cases h
   |some bs'=>
    rw[e]at h;cases h;cases r with
    |cons r1 rr=>
     cases (show v=.bl b from dv);cases (show _=gR b from r1);rw[aU,zb e dr rr]
  |_=>cases h
def C4(bs:List Bool)(f:List Bool->(Nat->Bool))(hf:f=λbs i=>bs.getD i false):(cF bs.length).all (f bs)=bs.all id/\(cF bs.length).any (f bs)=bs.any id:=by
 subst hf;have e:(cF bs.length).map (λi=>bs.getD i false)=bs:=by
  apply List.ext_getElem
  ·simp
  ·intro i h1 h2;simp[List.getD_eq_getElem?_getD,h2]
 constructor
 ·have:=congrArg (λl=>l.all id) e;simp only[List.all_map]at this;simpa[Function.comp_def]using this
 ·have:=congrArg (λl=>l.any id) e;simp only[List.any_map]at this;simpa[Function.comp_def]using this
def MR(K:KA)(an:Bool):List V->Hp->VK->Prop:=λxs H Q=>∃G l vs ds bs,xs=[.ref l]/\SqL K H l vs/\DenL K G ds vs/\mz ds=some bs/\Q (.bl (if an then bs.any id else bs.all id)) H
def Hi{bs:List Bool}{items:Array aC}(e:items.toList=bs.map gR):TruthOf prog w A (λi v=>items[i]?=some v) (λi=>bs.getD i false):=by
 intro i v s Q E hv hQ;have hv':items.toList[i]?=some v:=by simpa using hv
 rw[e,bW]at hv';cases eb:bs[i]? with
 |none=>rw[eb]at hv';cases hv'
 |some b=>
  rw[eb]at hv';cases hv';have hQ':Q (bs.getD i false) s:=hQ;rw[List.getD_eq_getElem?_getD,eb]at hQ';exact dE hQ'
def Pj(hc:X.calm=true):CallR X (.builtin "all") (MR (kx X) false):=by
 intro pins s Z H xs us Q I r q;obtain⟨G,l,vs,ds,bs,rfl,sq,dl,eb,q⟩:=q;obtain⟨u,rfl,ru⟩:=s8 r;cases ru;obtain⟨its,rv,pl,_⟩:=I.list sq;have e:=zb eb dl rv;have hl:l<s.heap.objs.size:=by obtain⟨o,ho,_⟩:=pl.isList;exact aX ho
 have W:=Walks.list (prog:=X.prog) (w:=X.w) (A:=X.A.in1) (show X.A.in1.handled=none from I.ok.hd hc) s.heap.objs.size l (cI hl) its.toArray;refine call_all_walk (wpAny_pyIter_list pl.isList ⟨s.heap.objs.size,_,_,_,_,_,λi=>bs.getD i false,rfl,W,⟨⟨_,bR _ rfl,rfl,rfl⟩,pl.isList.at λo ho=>aR _ ho⟩,Hi (by simpa using e),λh' tk hk=>?_⟩);refine⟨.bl _,H,I.kept λb o e=>hk b o (by simpa using cI (aX e)) (aR _ e),?_,q⟩;have hsz:its.toArray.size=bs.length:=by rw[aZ,e,aJ]
 rw[hsz,(C4 bs _ rfl).1];rfl
def su:D->Option D
 |.lst ds=>(mz ds).map λbs=>.bl (bs.all id)
 |_=>none
def GP(hc:X.calm=true)(hg:Gl X "all")(hm:X.mg "all"=none)(ha:jw X B E e g)(he:aQ [e] X.env=(false,eval e X.env)::aQ [] X.env):f9 X B E (.Call (.Name "all" p) [e] [] pos) (g1 su g):=
 PE.imp (uw (Pj hc) hg hm PyProof.Rows.boot_all (kh ha lr he) (by decide) (by decide) he rfl) λZ H Q q=>JS (λG H x dx d sg ax ed Q q=>by
  cases dx with
  |lst ds=>
   unfold su at ed;dsimp only at ed;cases eb:mz ds with
   |none=>rw[eb]at ed;cases ed
   |some bs=>
    rw[eb]at ed;cases ed;obtain⟨l,vs,rfl,sq,dl⟩:=ax.lst sg;exact⟨G,l,vs,ds,bs,rfl,sq,dl,eb,q _ G H (Ext.refl sg) rfl⟩
  |_=>cases ed) q
end
def Om(x:Str):List D:=x.cps.toList.map λc=>.str ⟨#[c]⟩
def OU(x:Str):It:=⟨λi _=>i<x.cps.size,λi H v H'=>H'=H/\∃c,x.cps[i]?=some c/\v=.str ⟨#[c]⟩,λi _=>x.cps.size<=i⟩
def L9{P:bN}{w:cH}{K:aP}{tg:Expr}(it:Addr)(x:Str)(t:Tok):Turn P w K tg (OU x) [it] it (λi h=>h.IsStrIter it "str_ascii_iterator" x t i) where
 mem:=by simp
 obj:=λi h st b hb=>by
  have e:b=it:=by simpa using hb
  subst e;obtain⟨o,e,c,d⟩:=st;exact⟨o,e,λv z=>by rw[d]at z;cases z⟩
 keep:=λi h h' st k=>let ⟨o,ho,r⟩:=st;⟨o,k it (by simp) o ho,r⟩
 item:=by
  intro X hP hw hK hc i pins s Z H E I hf st hg;subst hP hw hK;obtain⟨f0,f1,f2,f3,f4,f5⟩:=hf it (by simp);have hg':i<x.cps.size:=hg;refine wpAny_pyNext_ascii_item st (c:=x.cps[i]) (by simp[hg']) λh' st' sb=>?_;have I1:Inv X pins Z H {s with heap:=h',toks:=s.toks+1}:=I.turned (t':=s.toks+1) (λb o hb e=>(sb.2 b hb).trans e) f0 f1 f3 f4 f5;obtain⟨o,e,c,d⟩:=id st';exact⟨_,rfl,Ic (s:={s with heap:=h',toks:=s.toks+1}) e c d (by decide) ⟨.str ⟨#[x.cps[i]]⟩,H,I1,⟨_,rfl⟩,⟨rfl,_,by simp[hg'],rfl⟩,st',λb hb=>(hf b hb).1⟩⟩
 done:=by
  intro X hP hw hK hc i pins s Z H E I hf st hg;subst hP hw hK;obtain⟨f0,f1,f2,f3,f4,f5⟩:=hf it (by simp);have hg':x.cps.size<=i:=hg;exact wpAny_pyNext_ascii_end (I.ok.hd hc) st (by simp[hg']) λh' eb=>⟨rfl,I.turned (t':=s.toks) (λb o hb e=>eb b o hb e) f0 f1 f3 f4 f5⟩
 self:=λ_ _ _ _ _ st h=>wpAny_pyIter_striter_ascii st h
def Rb{P:bN}{w:cH}{K:aP}{tg:Expr}(it:Addr)(x:Str)(t:Tok):Turn P w K tg (OU x) [it] it (λi h=>h.IsStrIter it "str_iterator" x t i) where
 mem:=by simp
 obj:=λi h st b hb=>by
  have e:b=it:=by simpa using hb
  subst e;obtain⟨o,e,c,d⟩:=st;exact⟨o,e,λv z=>by rw[d]at z;cases z⟩
 keep:=λi h h' st k=>let ⟨o,ho,r⟩:=st;⟨o,k it (by simp) o ho,r⟩
 item:=by
  intro X hP hw hK hc i pins s Z H E I hf st hg;subst hP hw hK;obtain⟨f0,f1,f2,f3,f4,f5⟩:=hf it (by simp);have hg':i<x.cps.size:=hg;refine wpAny_pyNext_wide_item st (c:=x.cps[i]) (by simp[hg']) λh' st' sb=>?_;have I1:Inv X pins Z H {s with heap:=h',toks:=s.toks+1}:=I.turned (t':=s.toks+1) (λb o hb e=>(sb.2 b hb).trans e) f0 f1 f3 f4 f5;obtain⟨o,e,c,d⟩:=id st';exact⟨_,rfl,Ic (s:={s with heap:=h',toks:=s.toks+1}) e c d (by decide) ⟨.str ⟨#[x.cps[i]]⟩,H,I1,⟨_,rfl⟩,⟨rfl,_,by simp[hg'],rfl⟩,st',λb hb=>(hf b hb).1⟩⟩
 done:=by
  intro X hP hw hK hc i pins s Z H E I hf st hg;subst hP hw hK;obtain⟨f0,f1,f2,f3,f4,f5⟩:=hf it (by simp);have hg':x.cps.size<=i:=hg;exact wpAny_pyNext_wide_end (I.ok.hd hc) st (by simp[hg']) λh' eb=>⟨rfl,I.turned (t':=s.toks) (λb o hb e=>eb b o hb e) f0 f1 f3 f4 f5⟩
 self:=λ_ _ _ _ _ st h=>wpAny_pyIter_striter_wide st h
def Tq{K:KA}{x:Str}{S:Hp->Hp->Prop}:Cu K (OU x) (Om x) S:=λi G H hS sg=>by
 unfold Om;refine⟨λd ed=>?_,λhl=>?_⟩
 ·rw[bW]at ed;cases e:x.cps.toList[i]? with
  |none=>rw[e]at ed;cases ed
  |some c=>
   rw[e]at ed;cases ed;have hi:i<x.cps.size:=by simpa using(List.getElem?_eq_some_iff.mp e).1
   refine⟨hi,λv H' ⟨z,c',ec,ev⟩=>?_⟩;subst z;have:x.cps.toList[i]?=some c':=by simpa using ec
   rw[e]at this;cases this;exact⟨G,Ext.refl sg,ev⟩
 ·rw[aJ]at hl;show x.cps.size<=i;simpa using hl
section
variable{X:Cx}{G0 B:Hp}{E:EK}{e a b c tg iter:Expr}{g h:En->Res}{pos p:Pos}
def KI(K:aP)(tl:TE):TI:=λZ H R=>tl Z H λx H1=>(∃a,x=.ref a/\(((∃xs,SqL K H1 a xs)/\R (QR K a) H1)\/((∃xs,SqT K H1 a xs)/\R (QQ K a) H1)))\/∃z,x=.str z/\R (OU z) H1
def N3{l:Expr}{tl:TE}(hl:PE X l tl):PI X tg l (KI X.K tl):=by
 intro pins s Z H R I h;refine jv (hl pins s Z H _ I h) λv s1 ⟨x,H1,I1,r1,q1⟩=>?_;rcases q1 with ⟨a,e,⟨⟨xs,hq⟩,q⟩|⟨⟨xs,hq⟩,q⟩⟩|⟨z,e,q⟩
 ·subst e;cases r1;obtain⟨its,rv,p,hz⟩:=I1.list hq;refine wpAny_pyIter_list p.isList ?_;refine⟨s1.heap.objs.size,[s1.heap.objs.size],_,_,H1,rfl,I1.kept (t':=s1.toks) λb o e=>aR _ e,Ra a _,⟨_,bR _ rfl,rfl,rfl⟩,λb hb=>?_,q⟩;have e:b=s1.heap.objs.size:=by simpa using hb
  subst e;exact I1.fpOk (aO _) (I1.hok.fresh (aO _))
 ·subst e;cases r1;obtain⟨its,rv,p,hz⟩:=I1.tuple hq;refine wpAny_pyIter_tuple (show s1.heap.IsTuple a its.toArray from p) ?_;refine⟨s1.heap.objs.size,[s1.heap.objs.size],_,_,H1,rfl,I1.kept (t':=s1.toks) λb o e=>aR _ e,Mb a _,⟨_,bR _ rfl,rfl,rfl⟩,λb hb=>?_,q⟩;have e:b=s1.heap.objs.size:=by simpa using hb
  subst e;exact I1.fpOk (aO _) (I1.hok.fresh (aO _))
 ·subst e;obtain⟨t,rfl⟩:=r1;cases ha:z.cps.all (· <128)
  ·refine wpAny_pyIter_wide ha ⟨s1.heap.objs.size,[s1.heap.objs.size],_,_,H1,rfl,I1.kept (t':=s1.toks) λb o e=>aR _ e,Rb _ z t,⟨_,bR _ rfl,rfl,rfl⟩,λb hb=>?_,q⟩;have e:b=s1.heap.objs.size:=by simpa using hb
   subst e;exact I1.fpOk (aO _) (I1.hok.fresh (aO _))
  ·refine wpAny_pyIter_ascii ha ⟨s1.heap.objs.size,[s1.heap.objs.size],_,_,H1,rfl,I1.kept (t':=s1.toks) λb o e=>aR _ e,L9 _ z t,⟨_,bR _ rfl,rfl,rfl⟩,λb hb=>?_,q⟩;have e:b=s1.heap.objs.size:=by simpa using hb
   subst e;exact I1.fpOk (aO _) (I1.hok.fresh (aO _))
def E4:D->Option (List D)
 |.lst ds=>some ds
 |.tup ds=>some ds
 |.str x=>some (Om x)
 |_=>none
noncomputable def bc(g:En->Res):En->ResL:=λU=>match g U with
 | .ok d => (match E4 d with
  |some ds=>.ok ds
  |none=>.st)
 |.er c=>.er c
 |.st=>.st
def DL(q:ResLP E G H (bc g U) P):ResP E G H (g U) λd=>∃ds,E4 d=some ds/\P ds:=by
 unfold bc at q;cases e:g U with
 |ok d=>
  rw[e]at q;dsimp only at q;cases e2:E4 d with
  |some ds=>rw[e2]at q;exact⟨ds,e2,q⟩
  |none=>rw[e2]at q;exact q.elim
 |er c=>rw[e]at q;exact q
 |st=>rw[e]at q;exact q
def U6(h:JX X B E e g):JW X B E tg e (bc g):=PI.imp (N3 h) λZ H R ⟨G,U,Rr,q⟩=>⟨G,U,Rr,(DL q).mono λd _ ⟨ds,ed,q⟩ v G1 H1 e1 ax=>by
 have bh:Same B H1:=Rr.bh.trans e1.hh;cases d with
 |lst ds'=>
  cases ed;rcases ax with ⟨a,vs,rfl,s,dl⟩|⟨ds2,a,vs,z,rfl,s,dl⟩|⟨t,kvs,a,z,_⟩
  ·exact .inl ⟨a,rfl,.inl ⟨⟨vs,SqL.mono e1.gh s⟩,q _ G1 H1 e1 (K2 (λG2 H2 ⟨x1,x2⟩ sg=>⟨SqL.mono (x1.trans sg) s,x1⟩) dl)⟩⟩
  ·cases z;exact .inl ⟨a,rfl,.inl ⟨⟨vs,SqL.mono bh s⟩,q _ G1 H1 e1 (K2 (λG2 H2 ⟨x1,x2⟩ sg=>⟨SqL.mono x2 s,x1⟩) dl)⟩⟩
  ·cases z
 |tup ds'=>
  cases ed;rcases ax with ⟨a,vs,rfl,s,dl⟩|⟨ds2,a,vs,z,rfl,s,dl⟩|⟨t,kvs,a,z,_⟩
  ·exact .inl ⟨a,rfl,.inr ⟨⟨vs,SqT.of (e1.gh _ _ s)⟩,q _ G1 H1 e1 (Tr (λG2 H2 ⟨x1,x2⟩ sg=>⟨SqT.of ((x1.trans sg) _ _ s),x1⟩) dl)⟩⟩
  ·cases z
  ·cases z
 |str z=>cases ed;exact .inr ⟨z,ax.str,q _ G1 H1 e1 Tq⟩
 |non=>cases ed
 |bl _=>cases ed
 |int _=>cases ed
 |dct _ _=>cases ed
 |obj _ _=>cases ed
 |fn _=>cases ed⟩
def N4(h:jw X B E e g):Pf X B E tg e (bc g):=PI.imp (N3 h) λZ H R ⟨G,U,Rr,q⟩=>⟨G,U,Rr,(DL q).mono λd _ ⟨ds,ed,q⟩ v G1 H1 e1 ax=>by
 cases d with
 |lst ds'=>
  cases ed;obtain⟨a,vs,rfl,s,dl⟩:=ax.lst e1.gh;exact .inl ⟨a,rfl,.inl ⟨⟨vs,s⟩,q _ G1 H1 e1 (K2 (λG2 H2 x sg=>⟨SqL.mono x.hh s,x.gg⟩) dl)⟩⟩
 |tup ds'=>
  cases ed;obtain⟨a,vs,rfl,s,dl⟩:=ax.tup e1.gh;exact .inl ⟨a,rfl,.inr ⟨⟨vs,s⟩,q _ G1 H1 e1 (Tr (λG2 H2 x sg=>⟨SqT.mono x.hh s,x.gg⟩) dl)⟩⟩
 |str z=>cases ed;exact .inr ⟨z,ax.str,q _ G1 H1 e1 Tq⟩
 |non=>cases ed
 |bl _=>cases ed
 |int _=>cases ed
 |dct _ _=>cases ed
 |obj _ _=>cases ed
 |fn _=>cases ed⟩
def Sx(ps:List mH)(q:mH):Option Nat:=ps.findIdx? λy=>cC y q
noncomputable def o9:D->D->Option D
 | .lst xs, d => (match fh xs, gj d with
  |some ps,some q=>if bB ps && bV q && decide (xs.length<=aD)then(Sx ps q).map λj=>.int (j:Nat)else none
  |_,_=>none)
 |_,_=>none
def As:D->D->Option D
 | .lst xs, d => (match fh xs, gj d with
  |some ps,some q=>if bB ps && bV q then some (.int (ps.countP (λy=>cC y q):Nat))else none
  |_,_=>none)
 |_,_=>none
def RV(K:KA)(f:D->D->Option D):V->List V->Hp->VK->Prop:=λx vs H Q=>∃G dx dy y d,Same G H/\Arg K G H dx x/\vs=[y]/\Arg K G H dy y/\f dx dy=some d/\∀v,Den K G d v->Q v H
def Qi(hu:X.A.units+65<dO):MtR X "list.index" (RV (kx X) o9):=by
 intro pins s Z H x vs v us Q I rx rv q;obtain⟨G,dx,dy,y,d,sg,ax,rfl,ay,ed,q⟩:=q;obtain⟨u,rfl,ru⟩:=rv.one;cases dx with
 |lst xs=>
  unfold o9 at ed;dsimp only at ed;cases e1:fh xs with
  |none=>rw[e1]at ed;cases ed
  |some ps=>
   cases e2:gj dy with
   |none=>rw[e1,e2]at ed;cases ed
   |some q'=>
    rw[e1,e2]at ed;dsimp only at ed
    by_cases hs:(bB ps && bV q' && decide (xs.length<=aD))=true
    ·rw[aB hs]at ed;simp only[aA,decide_eq_true_eq]at hs;obtain⟨⟨h1,h2⟩,h3⟩:=hs;cases ej:Sx ps q' with
     |none=>rw[ej]at ed;cases ed
     |some j=>
      rw[ej]at ed;cases ed;obtain⟨as,ra⟩:=df (p:=.list ps) I sg ax rx (by unfold gj;rw[e1]);obtain⟨bs,rb⟩:=df I sg ay ru e2;cases ra with
      |@list l o items n _ _ g1 g2 g3 g4=>
       obtain⟨cls,dd,data,sl⟩:=o;simp only at g2 g3;subst g2 g3;have hm:=SeqAt.readsAll_map ps _ _ h1 g4;have hlen:items.size=ps.length:=by rw[<-hm,aJ];simp
       unfold Sx at ej;obtain⟨w1,w2,w3⟩:=List.findIdx?_eq_some_iff_getElem.mp ej;have at_:∀(k:Nat)(hk:k<items.size),cC (hZ s.heap items[k]) q'=cC (ps[k]'(by lia)) q':=λk hk=>by
        congr 1
        have:(items.toList.map (hZ s.heap))[k]?=ps[k]?:=by rw[hm]
        rw[bW,dB (by simpa using hk),dB (by lia)]at this;simpa using this
       have hz:ps.length<=aD:=by
        have:xs.length=ps.length:=by
         obtain⟨l',vs',rfl,sq,dl⟩:=ax.lst sg;cases rx;obtain⟨its,rv',pl,_⟩:=I.list sq;obtain⟨o',ho',hc',n',hd'⟩:=pl.isList;rw[g1]at ho';cases ho';cases hd';rw[dl.length,rv'.length,<-hlen];simp
        lia
       have hbig:(aD:Int)<2 ^ 63 - 1:=by decide
       refine iK PySem.F.slot_list_index ⟨_,g1,rfl⟩ PySem.F.entry_list_index (PySem.F.args_list_index_2 _ _)
        (PySem.SeqAt.list_indexAt l items n dd sl u (λy=>cC (hZ s.heap y) q') j (by lia) (by lia) ?_ ?_) ⟨g1,λy hy=>SeqAt.items_eqAt g4 rb h1 (dU h2) (gW h2 hu) y hy,?_⟩
       ·show cC (hZ s.heap items[j]) q'=true;rw[at_ j (by lia)];exact w2
       ·intro k hk hlt;show cC (hZ s.heap items[k]) q'=false;rw[at_ k hk];have:=w3 k hlt;simpa using this
       ·exact⟨.int j,H,I.tok _,⟨_,rfl⟩,q _ rfl⟩
    ·rw[aG hs]at ed;cases ed
 |_=>cases ed
end
section
variable{X:Cx}{G0 B:Hp}{E:EK}{e a b c tg iter:Expr}{g h:En->Res}{pos p:Pos}
def Qh(hu:X.A.units+65<dO):MtR X "list.count" (RV (kx X) As):=by
 intro pins s Z H x vs v us Q I rx rv q;obtain⟨G,dx,dy,y,d,sg,ax,rfl,ay,ed,q⟩:=q;obtain⟨u,rfl,ru⟩:=rv.one;cases dx with
 |lst xs=>
  unfold As at ed;dsimp only at ed;cases e1:fh xs with
  |none=>rw[e1]at ed;cases ed
  |some ps=>
   cases e2:gj dy with
   |none=>rw[e1,e2]at ed;cases ed
   |some q'=>
    rw[e1,e2]at ed;dsimp only at ed
    by_cases hs:(bB ps && bV q')=true
    ·rw[aB hs]at ed;simp only[aA]at hs;obtain⟨h1,h2⟩:=hs;cases ed;obtain⟨as,ra⟩:=df (p:=.list ps) I sg ax rx (by unfold gj;rw[e1]);obtain⟨bs,rb⟩:=df I sg ay ru e2;cases ra with
     |@list l o items n _ _ g1 g2 g3 g4=>
      obtain⟨cls,dd,data,sl⟩:=o;simp only at g2 g3;subst g2 g3;have hm:=SeqAt.readsAll_map ps _ _ h1 g4;refine iK PySem.F.slot_list_count ⟨_,g1,rfl⟩ PySem.F.entry_list_count (PySem.F.args_list_count_2 _ _)
       (PySem.SeqAt.list_countAt l items n dd sl u (λy=>cC (hZ s.heap y) q')) ⟨g1,λy hy=>SeqAt.items_eqAt g4 rb h1 (dU h2) (gW h2 hu) y hy,?_⟩
      have ec:items.toList.countP (λy=>cC (hZ s.heap y) q')=ps.countP (λy=>cC y q'):=by
       rw[<-hm,List.countP_map];rfl
      rw[ec];exact⟨.int _,H,I.tok _,⟨_,rfl⟩,q _ rfl⟩
    ·rw[aG hs]at ed;cases ed
 |_=>cases ed
def gM(f:D->D->Option D)(g h:En->Res):En->Res:=λU=>(g U).bind λx=>match x with
 |.lst xs=>(h U).bind λy=>Res.of (f (.lst xs) y)
 |_=>.st
def CB{f:D->D->Option D}{m:Str}{id:String}{ap cp:Pos}(slot:Slot "list" m id)(hty:typeOf (.builtin id)=pure (.type "method_descriptor"))(hm:MtR X id (RV (kx X) f))(ho:jw X B E a g)(he:jw X B E e h)
  (hb:gJ a m X.env (eval a X.env)=eval a X.env)(hn:i7 e=true)(hl:(ap.endLine==cp.line)=true):f9 X B E (.Call (.Attribute a m ap) [e] [] cp) (gM f g h):=
 PE.imp (Nz iO slot hty hm ho (kh he lr (az hn)) hb (by rw[q9 (by rw[bK,hn];rfl)];rfl) hl (az hn) rfl) λZ H Q ⟨G,U,R,q⟩=>⟨G,U,R,(ResP.bind q).mono λdx _ qx x G1 H1 e1 ax=>by
  cases dx with
  |lst xs=>
   have ax':=ax;obtain⟨l,vs,rfl,sq,dl⟩:=ax.lst e1.gh;refine⟨.inl ⟨rfl,vs,sq⟩,G1,U,R.ext e1,?_⟩;have qx:ResP E G1 H1 ((h U).bind λy=>Res.of (f (.lst xs) y)) _:=ResP.ext e1 qx;unfold ae;cases eh:h U with
   |ok dy=>
    rw[eh]at qx;obtain⟨d,ed,qd⟩:=ResP.of (show ResP E G1 H1 (Res.of (f (.lst xs) dy)) _ from qx);intro ws G2 H2 e2 al;obtain⟨y,rfl,ay⟩:=ArgsM.one al;exact⟨G2,.lst xs,dy,y,d,e2.gh,ax'.ext e2,rfl,ay,ed,λv dn=>qd v G2 H2 (e1.trans e2) dn⟩
   |er c=>rw[eh]at qx;exact qx
   |st=>rw[eh]at qx;exact qx
  |_=>exact qx.elim⟩
def Vm{ap cp:Pos}(hu:X.A.units+65<dO)(ho:jw X B E a g)(he:jw X B E e h)(hb:ur a=true)(hn:i7 e=true)(hl:(ap.endLine==cp.line)=true):f9 X B E (.Call (.Attribute a "index" ap) [e] [] cp) (gM o9 g h):=
 CB PySem.F.slot_list_index PySem.F.type_list_index (Qi hu) ho he (gr hb) hn hl
def Vl{ap cp:Pos}(hu:X.A.units+65<dO)(ho:jw X B E a g)(he:jw X B E e h)(hb:ur a=true)(hn:i7 e=true)(hl:(ap.endLine==cp.line)=true):f9 X B E (.Call (.Attribute a "count" ap) [e] [] cp) (gM As g h):=
 CB PySem.F.slot_list_count PySem.F.type_list_count (Qh hu) ho he (gr hb) hn hl
noncomputable def jc:D->D->Option D
 |.int i,.int j=>if(-(2 ^ 64)<i/\i<2 ^ 64)\/(-(2 ^ 64)<j/\j<2 ^ 64)then some (.int (i * j))else none
 |.str x,.int n=>if x.length * n.toNat<=aD/\-(2 ^ 20)<=n/\n<2 ^ 20 then some (.str (Txt.mul x n))else none
 |_,_=>none
def LX{x:Str}{n:Int}(h:x.length * n.toNat<=aD/\-(2 ^ 20)<=n/\n<2 ^ 20):MulOk x n:=by
 obtain⟨h1,h2,h3⟩:=h;refine⟨?_,λa b=>?_,λa b=>?_⟩
 ·simp only[Bool.or_eq_false_iff,decide_eq_false_iff_not]
  lia
 ·intro hc;have hx:x.length<=aD:=by
   have:1<=n.toNat:=by lia
   exact bC (Nat.le_mul_of_pos_right _ this) h1
  have hs:(aD:Int)=2 ^ 24:=rfl;have h4:(2 ^ 63 - 1:Int) / n>=2 ^ 43 - 1:=by
   rw[ge_iff_le,Int.le_ediv_iff_mul_le (by lia)];have:(2 ^ 43 - 1:Int) * n<=(2 ^ 43 - 1) * 2 ^ 20:=Int.mul_le_mul_of_nonneg_left (by lia) (by decide)
   lia
  lia
 ·unfold Builtin.Str.tooLong;simp only[gt_iff_lt,decide_eq_false_iff_not,Nat.not_lt];exact h1
def MK(K:KA):R2:=λx y H Q=>∃G dx dy d,Same G H/\Arg K G H dx x/\Arg K G H dy y/\jc dx dy=some d/\∀v G' H',Ext G H G' H'->Den K G' d v->Q v H'
def Zg:OpR X (fM .Mult) (MK (kx X)):=by
 intro pins s Z H x y v u Q I rx ry q;obtain⟨G,dx,dy,d,sg,ax,ay,ed,q⟩:=q;unfold jc at ed;split at ed
 ·split at ed
  ·rename_i hc;cases ed;rw[ax.int]at rx;rw[ay.int]at ry;exact FH pins s Z H _ _ _ _ Q I rx ry ⟨_,_,rfl,rfl,hc,q _ G H (Ext.refl sg) rfl⟩
  ·cases ed
 ·split at ed
  ·rename_i hc;cases ed;rw[ax.str]at rx;rw[ay.int]at ry;obtain⟨t,rfl⟩:=rx;obtain⟨t',rfl⟩:=ry;exact SB.mul (LX hc) λt'' k=>⟨.str _,H,I.tok _,⟨_,rfl⟩,q _ G H (Ext.refl sg) rfl⟩
  ·cases ed
 ·cases ed
def GG(ha:jw X B E a g)(hb:jw X B E b h):f9 X B E (.BinOp a .Mult b pos) (g2 jc g h):=Ej Zg (λG H x y dx dy d sg ax ay ed Q q=>⟨G,dx,dy,d,sg,ax,ay,ed,q⟩) ha hb
theorem Cs:∀{xs:List V}{us:List aC},xs.length=us.length->(∀(i:Nat) x u,xs[i]?=some x->us[i]?=some u->RelV x u)->Vals xs us
 |[],[],_,_=>.nil
 |[],_::_,h,_=>by simp at h
 |_::_,[],h,_=>by simp at h
 |x::xs,u::us,h,f=>.cons (f 0 x u rfl rfl) (Cs (by simpa using h) λi y v e1 e2=>f (i+1) y v (by simpa using e1) (by simpa using e2))
def K1{acc:Array aC}(h:ItemsOf (λi v=>∃t,v=.int (0+(i:Int) * 1) t) acc n):Vals ((cF n).map λ(i:Nat)=>V.int (0+(i:Int))) acc.toList:=by
 obtain⟨h1,h2⟩:=h;refine Cs (by simp[h1]) λi x u e1 e2=>?_;have hi:i<n:=by
  have:=(List.getElem?_eq_some_iff.mp e1).1;simpa using this
 rw[bW,List.getElem?_range hi]at e1;cases e1;obtain⟨t,rfl⟩:=h2 i u (by simpa using e2);exact⟨t,by simp⟩
def Ky(g:En->ResL):En->Res:=λU=>match g U with
 |.ok [.int j]=>if -(2 ^ 20)<=j/\j<=2 ^ 20 then .ok (.lst (gx 0 j.toNat))else .st
 |.ok _=>.st
 |.er c=>.er c
 |.st=>.st
def Kl{K:KA}{G:Hp}(n:Nat):DenL K G (gx 0 n) ((cF n).map λ(i:Nat)=>V.int (0+(i:Int))):=by
 unfold gx;generalize cF n=l;induction l with
 |nil=>rfl
 |cons a l ih=>exact⟨_,_,rfl,rfl,ih⟩
def Us(hc:X.calm=true)(hg:Gl X "list")(hm:X.mg "list"=none)(hg2:Gl X "range")(hm2:X.mg "range"=none)(ha:Mi X B E [true] [a] r)(hn:i7 a=true):
  Xf X B E (.Call (.Name "list" p) [.Call (.Name "range" p2) [a] [] pos2] [] pos) (Ky r):=by
 intro pins s Z H Q I ⟨G,U,R,q⟩;refine dZ (yr I hg hm iT ?_ (by decide) (by decide));refine eO ?_ rfl rfl;show bA _ _ (spliced ((false,eval (.Call (.Name "range" p2) [a] [] pos2) X.env)::cY pos (aQ [] X.env))) _ _ s;refine eZ ?_;have key:ResLP E G H (r U) λds=>∃j,ds=[.int j]/\-(2 ^ 20)<=j/\j<=2 ^ 20/\∀a vs G' H',Ext G H G' H'->H a=none->G' a=none->H' a=some (.lst vs)->DenL (kx X) G' (gx 0 j.toNat) vs->Q (.ref a) H':=by
  unfold Ky at q;cases er:r U with
  |er c=>rw[er]at q;exact q
  |st=>rw[er]at q;exact q
  |ok ds=>
   rw[er]at q;show∃j,_;split at q
   ·rename_i e;cases e;split at q
    ·rename_i hj;obtain⟨ds',ed,q⟩:=q;cases ed;exact⟨_,rfl,hj.1,hj.2,q⟩
    ·exact q.elim
   ·exact q.elim
   ·rename_i e;cases e
   ·rename_i e;cases e
 refine Call_ (yr I hg2 hm2 boot_range (eO (jv (ha pos2 pins s Z H (λvs H1=>∃j G1,vs=[.int j]/\-(2 ^ 20)<=j/\j<=2 ^ 20/\Ext G H G1 H1/\∀a vs G' H',Ext G H G' H'->H a=none->G' a=none->H' a=some (.lst vs)->DenL (kx X) G' (gx 0 j.toNat) vs->Q (.ref a) H') I
  ⟨G,U,R,key.mono λds _ ⟨j,ed,j1,j2,q⟩ vs G1 H1 e1 al=>by
   subst ed;obtain⟨v,rfl,av⟩:=ArgsM.one al;exact⟨j,G1,by rw[av.int],j1,j2,e1,q⟩⟩) λus s1 ⟨vs,H1,I1,r1,q1⟩=>?_) (az hn) rfl))
 obtain⟨j,G1,rfl,j1,j2,e1,q⟩:=q1;obtain⟨u,rfl,ru⟩:=s8 r1;obtain⟨t,rfl⟩:=ru;refine call_range_1 ?_;have I2:Inv X pins Z H1 {s1 with heap:=s1.heap.push {cls:=.type "range",data:=.fields #[.int 0 s1.toks,.int j t,.int 1 (s1.toks+1)]},toks:=s1.toks+1+1}:=I1.kept λb o e=>aR _ e;refine iQ ?_;refine call_list_range (n:=j.toNat) (I2.ok.hd hc) (IsRange.new ..) (small_one (by lia) (by lia) (by lia) (by lia)) (by rw[rangeSize_one];split<;>lia) (by lia) λh' tk acc c' hk hS hacc=>?_;have fr:=I2.hok.fresh (aO _);have hv:=K1 hacc;refine⟨.ref _,_,I2.laid (t':=tk) (o:=.lst ((cF j.toNat).map λ(i:Nat)=>V.int (0+(i:Int)))) hk (aO _) ⟨?_,acc.toList,c',hv,by simpa using hS⟩,rfl,?_⟩
 ·rw[aJ,gN];have:(2:Nat) ^ 20<=aD:=by decide
  lia
 ·exact q _ _ G1 _ (e1.trans (Ext.own e1.gh _ fr)) (ff e1.hh fr) (ff e1.gh fr) bz (Kl _)
end
inductive ResE where
 |ok (d:D) (U:En)
 |er (c:Str)
 |st
def Ay(K:KA)(G0 B:Hp)(E:EK)(G:Hp)(Z:St)(r:ResE)(P:D->Hp->Hp->En->Prop):Prop:=match r with
 |.ok d δ'=>∀G' H',Same G G'->EnvR K B G' H' Z δ'->Ext G0 B G' H'->P d G' H' δ'
 |.er c=>∀G' H',Ext G0 B G' H'->E c H'
 |.st=>False
def SE(K:KA)(G0 B:Hp)(E:EK)(g:En->ResE):TE:=λZ H Q=>∃G U,EnvR K B G H Z U/\Ext G0 B G H/\Ay K G0 B E G Z (g U) λd G' H' _=>∀v,Den K G' d v->Q v H'
def UX(K:KA)(G0 B:Hp)(E:EK)(g:En->ResE):TT:=λZ H Q=>∃G U,EnvR K B G H Z U/\Ext G0 B G H/\Ay K G0 B E G Z (g U) λd G' H' _=>∃b,d=.bl b/\Q b H'
abbrev Xe(X:Cx)(G0 B:Hp)(E:EK)(e:Expr)(g:En->ResE):Prop:=PE X e (SE (kx X) G0 B E g)
abbrev QS(X:Cx)(G0 B:Hp)(E:EK)(e:Expr)(g:En->ResE):Prop:=PT X e (UX (kx X) G0 B E g)
def Res.ef(r:Res)(U:En):ResE:=match r with
 |.ok d=>.ok d U
 |.er c=>.er c
 |.st=>.st
def S7(g:En->Res):En->ResE:=λU=>(g U).ef U
section
variable{X:Cx}{G0 B:Hp}{E:EK}{e a b c tg iter:Expr}{g h k:En->Res}{f:En->ResE}{pos p:Pos}{ss tt:List Stmt}{F1 F2:En->Out}
def SM{K:KA}{G H:Hp}{Z:St}{U:En}{r:Res}{P:D->Hp->Hp->En->Prop}(R:EnvR K B G H Z U)(x:Ext G0 B G H)(q:Ay K G0 B E G Z (r.ef U) P):ResP E G H r λd=>∀G' H',Ext G H G' H'->P d G' H' U:=by
 cases r with
 |ok d=>exact λG' H' e=>q G' H' e.gg (R.ext e) (x.trans e)
 |er c=>exact λG' H' e=>q G' H' (x.trans e)
 |st=>exact q
def Mz(h:f9 X B E e g):Xe X G0 B E e (S7 g):=PE.imp h λZ H Q ⟨G,U,R,x,q⟩=>⟨G,U,R,(SM R x q).mono λd _ q v G' H' e dn=>q G' H' e v dn⟩
def S4(c:En->Res)(f1 f2:En->ResE):En->ResE:=λU=>match c U with
 |.ok (.bl true)=>f1 U
 |.ok (.bl false)=>f2 U
 |.ok _=>.st
 |.er c=>.er c
 |.st=>.st
def Su(hc:Cv X B E c g)(h1:Xe X G0 B E a f1)(h2:Xe X G0 B E b f2):Xe X G0 B E (.IfExp c a b pos) (S4 g f1 f2):=
 PE.imp (Je hc h1 h2) λZ H Q ⟨G,U,R,x,q⟩=>⟨G,U,R,by
  unfold S4 at q;cases eg:g U with
  |er c=>rw[eg]at q;exact λG' H' e=>q G' H' (x.trans e)
  |st=>rw[eg]at q;exact q
  |ok d=>
   rw[eg]at q;cases d with
   |bl t=>
    cases t with
    |true=>
     refine⟨true,rfl,λG1 H1 e1=>⟨G1,U,R.ext e1,x.trans e1,?_⟩⟩;dsimp only at q;cases ef:f1 U with
     |ok d δ'=>rw[ef]at q;exact λG' H' s=>q G' H' (e1.gg.trans s)
     |er c=>rw[ef]at q;exact q
     |st=>rw[ef]at q;exact q
    |false=>
     refine⟨false,rfl,λG1 H1 e1=>⟨G1,U,R.ext e1,x.trans e1,?_⟩⟩;dsimp only at q;cases ef:f2 U with
     |ok d δ'=>rw[ef]at q;exact λG' H' s=>q G' H' (e1.gg.trans s)
     |er c=>rw[ef]at q;exact q
     |st=>rw[ef]at q;exact q
   |_=>exact q.elim⟩
def zm(p:D->D->Option D)(f:En->ResE)(h:En->Res):En->ResE:=λU=>match f U with
 |.ok x δ'=>((h δ').bind λy=>Res.of (p x y)).ef δ'
 |.er c=>.er c
 |.st=>.st
def ET{op:CmpOp}{f2:D->D->Option D}{r:R2}(ho:OpR X (bX op) r)(hp:iw (kx X) f2 r)(hb':∀x y d,f2 x y=some d->∃b,d=.bl b)(ha:Xe X G0 B E a f)(hb:jw X B E b h)(hm:iB op b=false):QS X G0 B E (.Compare a [op] [b] pos) (zm f2 f h):=
 PT.imp (N7 ho ha hb hm) λZ H Q ⟨G,U,R,x,q⟩=>⟨G,U,R,x,by
  unfold zm at q;cases ef:f U with
  |er c=>rw[ef]at q;exact q
  |st=>rw[ef]at q;exact q
  |ok dx δ'=>
   rw[ef]at q;intro G1 H1 s1 R1 x1 v dn;have q1:Ay (kx X) G0 B E G1 Z (((h δ').bind λy=>Res.of (f2 dx y)).ef δ') λd G' H' _=>∃b,d=.bl b/\Q b H':=by
    dsimp only at q;cases eh:(h δ').bind λy=>Res.of (f2 dx y)with
    |ok d=>rw[eh]at q;exact λG' H' s=>q G' H' (s1.trans s)
    |er c=>rw[eh]at q;exact q
    |st=>rw[eh]at q;exact q
   have q2:=SM R1 x1 q1;refine⟨G1,δ',R1,(ResP.bind q2).mono λdy _ qy y G2 H2 e2 ay=>?_⟩;obtain⟨d,ed,qd⟩:=ResP.of qy;obtain⟨b,rfl⟩:=hb' _ _ _ ed;refine hp G2 H2 v y dx dy (.bl b) e2.gh (Arg.ext e2 (.inl dn)) ay ed _ λw G3 H3 e3 dw=>?_;obtain⟨b',eb,qb⟩:=qd G3 H3 (e2.trans e3);cases eb;exact⟨b,dw,qb⟩⟩
def Gj(f:En->ResE)(F1 F2:En->Out):En->Out:=λU=>match f U with
 |.ok (.bl true) δ'=>F1 δ'
 |.ok (.bl false) δ'=>F2 δ'
 |.ok _ _=>.st
 |.er c=>.er c
 |.st=>.st
def MC(hc:QS X G0 B E c f)(ha:yb X G0 B E ss F1)(hb:yb X G0 B E tt F2):ph X G0 B E (.If c ss tt pos) (Gj f F1 F2):=
 PS.imp (CC hc ha hb) λD Z H ⟨G,U,R,x,q⟩=>⟨G,U,R,x,by
  unfold Gj at q;cases ef:f U with
  |er c=>rw[ef]at q;exact q
  |st=>rw[ef]at q;exact q
  |ok d δ'=>
   rw[ef]at q;intro G1 H1 s1 R1 x1;cases d with
   |bl t=>
    refine⟨t,rfl,?_⟩;cases t with
    |true=>exact⟨G1,δ',R1,x1,OutP.same s1 q⟩
    |false=>exact⟨G1,δ',R1,x1,OutP.same s1 q⟩
   |_=>exact q.elim⟩
def Of(i:Nat)(f:En->ResE):En->Out:=λU=>match f U with
 |.ok d δ'=>.nx (δ'.set i (.pu d))
 |.er c=>.er c
 |.st=>.st
def HE(hs:PS X (.Assign [.Name x pos'] e pos) (L1 (SE (kx X) G0 B E f) (uh i))):ph X G0 B E (.Assign [.Name x pos'] e pos) (Of i f):=
 PS.imp hs λD Z H ⟨G,U,R,x,q⟩=>⟨G,U,R,x,by
  unfold Of at q;cases ef:f U with
  |er c=>rw[ef]at q;exact q
  |st=>rw[ef]at q;exact q
  |ok d δ'=>
   rw[ef]at q;intro G1 H1 s1 R1 x1 v dn;exact q _ G1 H1 s1 (R1.set dn) x1⟩
def Gi(f:En->ResE):En->Out:=λU=>match f U with
 |.ok _ δ'=>.nx δ'
 |.er c=>.er c
 |.st=>.st
def AL(h:Xe X G0 B E e f)(hs:dY e none pos.line X.env=pure false):ph X G0 B E (.Expr e pos) (Gi f):=
 PS.imp (Ar h hs) λD Z H ⟨G,U,R,x,q⟩=>⟨G,U,R,x,by
  unfold Gi at q;cases ef:f U with
  |er c=>rw[ef]at q;exact q
  |st=>rw[ef]at q;exact q
  |ok d δ'=>
   rw[ef]at q;intro G1 H1 s1 R1 x1 v dn;exact q Z G1 H1 s1 R1 x1⟩
def Sk{pins:List (Addr×Obj)}{Z:St}{H:Hp}{s:aK}{a:Addr}{kvs:List (j9×V)}{k:j9}{v:V}{u r:aC}{A:cO}{E:aC->aK->Prop}{Q:aC->aK->Prop}(I:Inv X pins Z H s)(e:H a=some (.dK kvs))(hl:kvs.length<aD)(ry:RelV (kV k) u)(rv:RelV v r)
  (h1:∀v' w s',mx kvs k=some v'->RelV v' w->Inv X pins Z H s'->Q w s')(h2:∀s',mx kvs k=none->Inv X pins Z (upd H a (.dK (tf kvs k v))) s'->Q r s'):
  bA (bE X.prog X.w) A (call (.builtin "dict.setdefault") [.ref a,u,r]) Q E s:=by
 obtain⟨z,hd,vs,rel,dd⟩:=Sq I.hok e;refine call_meetsIn jU dd.typeIs PySem.F.entry_dict_setdefault (PySem.F.args_dict_setdefault_3 _ _ _) (kt_meets_setdefault (cw X.prog X.w) a (zt ry) hd r)
  ⟨vs,dd,by rw[<-rel.length];exact z,λw hw=>?_,λhn h' dd' hs=>?_⟩
 ·have:=rel.val k;rw[hw]at this;cases ev:mx kvs k with
  |none=>rw[ev]at this;cases this
  |some v'=>rw[ev]at this;exact h1 v' w _ ev this (I.tok _)
 ·have hv:=rel.val k;rw[hn]at hv;have ev:mx kvs k=none:=by
   cases ev:mx kvs k with
   |none=>rfl
   |some v'=>rw[ev]at hv;cases hv
  refine h2 _ ev ?_;have he:∃q,h'.get? a=some q:=let ⟨q,_,_,hq,_⟩:=dd';⟨q,hq⟩;have hz:(tf kvs k v).length<=aD:=by have:=uo kvs k v;lia
  exact Fq I (by rw[e];exact gA) hs he (Sn hz hd (rel.put k rv) dd')
end
section
variable{X:Cx}{G0 B:Hp}{E:EK}{e a b c tg iter:Expr}{g h k:En->Res}{f:En->ResE}{pos p:Pos}
noncomputable def m9(i:Nat)(gk gv:En->Res):En->ResE:=λU=>match U[i]? with
 | some (.od false kvs) => (match gk U with
  | .ok dk => (match gv U with
   | .ok dv => (match cg dk with
    | some j => if kvs.length < aD then (match cf kvs j with
     |some d=>.ok d U
     |none=>.ok dv (U.set i (.od false (sf kvs j dv))))else .st
    |none=>.st)
   |.er c=>.er c
   |.st=>.st)
  |.er c=>.er c
  |.st=>.st)
 |_=>.st
def Qv{K:KA}{G:Hp}{kvs:List (D×D)}{es:List (j9×V)}(dl:DenK K G kvs es){j:j9}(h:mx es j=none):cf kvs j=none:=by
 cases e:cf kvs j with
 |none=>rfl
 |some d=>
  obtain⟨v,q,_⟩:=(dl.look j).1 d e;rw[h]at q;cases q
def Pt{i:Nat}{x:Str}{ke ve:Expr}{ap cp:Pos}(hv:PE X (.Name x p) (Dm i))(hk:jw X B E ke g)(hval:f9 X B E ve h)(hn:i7 ke=true)(hn2:i7 ve=true)(hl:(ap.endLine==cp.line)=true):
  Xe X G0 B E (.Call (.Attribute (.Name x p) "setdefault" ap) [ke,ve] [] cp) (m9 i g h):=by
 intro pins s Z H Q I ⟨G,U,R,ex,q⟩;unfold m9 at q;cases ed:U[i]? with
 |none=>rw[ed]at q;exact q.elim
 |some sl=>
  rw[ed]at q;cases sl with
  |od t kvs=>
   cases t with
   |true=>exact q.elim
   |false=>
    dsimp only at q;obtain⟨l,es,q1,q2,q3,q4,q5⟩:=R.odAt ed;have few:((cY cp (aQ [ke,ve] X.env)).all (λx=> !x.1) && (mG cp (jK [] X.env)).all (λx=>x.1.isSome)
     && decide (([ke,ve]:List Expr).length+([]:List iI).length+(if([]:List iI).isEmpty then 0 else 1)<30))=true:=by
     rw[q9 (by rw[bK,bK,hn,hn2];rfl)];rfl
    refine wpAny_Call_method rfl few hl PySem.F.plainAttrs_dict jU PySem.F.type_dict_setdefault (jv (hv pins s Z H (λv H1=>v=.ref l/\H1=H) I ⟨_,q1,rfl,rfl⟩) λu s1 ⟨v,H1,I1,r1,e1,e2⟩=>?_);subst e1 e2;cases r1;obtain⟨t1,t2,_⟩:=Ti I1 (.inl ⟨es,.inl q2⟩);refine⟨t1,t2,?_⟩;rw[Ju hn hn2];have qk:ResP (E) G H1 (g U) λdk=>ResP E G H1 (h U) λdv=>∃j,cg dk=some j/\kvs.length<aD/\Ay (kx X) G0 B E G Z (match cf kvs j with
     |some d=>.ok d U
     |none=>.ok dv (U.set i (.od false (sf kvs j dv)))) λd G' H' _=>∀v,Den (kx X) G' d v->Q v H':=by
     cases eg:g U with
     |er c=>rw[eg]at q;exact λG' H' e=>q G' H' (ex.trans e)
     |st=>rw[eg]at q;exact q
     |ok dk=>
      rw[eg]at q;dsimp only at q;show ResP E G H1 (h U) _;cases eh:h U with
      |er c=>rw[eh]at q;exact λG' H' e=>q G' H' (ex.trans e)
      |st=>rw[eh]at q;exact q
      |ok dv=>
       rw[eh]at q;dsimp only at q;cases ej:cg dk with
       |none=>rw[ej]at q;exact q.elim
       |some j=>
        rw[ej]at q;dsimp only at q
        by_cases hl:kvs.length<aD
        ·rw[aB hl]at q;exact⟨j,rfl,hl,q⟩
        ·rw[aG hl]at q;exact q.elim
    refine iS rfl (fO (eZ (jv (hk pins s1 Z H1 (λy H2=>∃G2 dk,Ext G H1 G2 H2/\Arg (kx X) G2 H2 dk y/\ResP E G H1 (h U) λdv=>∃j,cg dk=some j/\kvs.length<aD/\Ay (kx X) G0 B E G Z (match cf kvs j with
     |some d=>.ok d U
     |none=>.ok dv (U.set i (.od false (sf kvs j dv)))) λd G' H' _=>∀v,Den (kx X) G' d v->Q v H') I1 ⟨G,U,R,qk.mono λdk _ qk y G2 H2 e2 ay=>⟨G2,dk,e2,ay,qk⟩⟩) λyv s2 ⟨y,H2,I2,ry,G2,dk,e2,ay,qv⟩=>?_)))
    refine eZ (jv (hval pins s2 Z H2 (λz H3=>∃G3 dv j,Ext G2 H2 G3 H3/\Den (kx X) G3 dv z/\cg dk=some j/\kvs.length<aD/\Ay (kx X) G0 B E G Z (match cf kvs j with
     |some d=>.ok d U
     |none=>.ok dv (U.set i (.od false (sf kvs j dv)))) λd G' H' _=>∀v,Den (kx X) G' d v->Q v H') I2 ⟨G2,U,R.ext e2,(qv.ext e2).mono λdv _ ⟨j,ej,hl,q⟩ z G3 H3 e3 dz=>⟨G3,dv,j,e3,dz,ej,hl,q⟩⟩) λzv s3 ⟨z,H3,I3,rz,G3,dv,j,e3,dz,ej,hsz,q⟩=>iQ ?_)
    have e23:=e2.trans e3;have h3:=e23.hh _ _ q2;have g3:=e23.fr _ _ q2 q4 rfl;have dl3:=q3.mono e23.gg;have R3:=R.ext e23;rw[rm ay ej]at ry;refine Sk I3 h3 (by rw[<-dl3.length];exact hsz) ry rz (λv' w s' ev rw' I'=>?_) λs' ev I'=>?_
    ·cases el:cf kvs j with
     |none=>rw[(dl3.look j).2 el]at ev;cases ev
     |some d=>
      rw[el]at q;obtain⟨v2,z1,z2⟩:=(dl3.look j).1 d el;rw[z1]at ev;cases ev;exact⟨v',H3,I',rw',q G3 H3 e23.gg R3 (ex.trans e23) v' z2⟩
    ·have el:=Qv dl3 ev;rw[el]at q;exact⟨z,_,I',rz,q G3 _ e23.gg (EnvR.wrD R3 ed q1 h3 (dl3.put dz j)) (Ext.wr (ex.trans e23) g3 q5) z dz⟩
  |no=>exact q.elim
  |pu _=>exact q.elim
  |bo _=>exact q.elim
  |ow _=>exact q.elim
def Na(kvs:List (D×D)):List D:=kvs.map (·.1)
theorem D1{K:KA}{G:Hp}:∀{kvs:List (D×D)}{es:List (j9×V)},DenK K G kvs es->DenL K G (Na kvs) (es.map λp=>kV p.1)
 |[],es,h=>by rw[show es=[]from h];rfl
 |(_,_)::_,es,⟨k,v,r,h1,h0,h2,h3⟩=>by
  subst h1 h0;refine⟨kV k,_,rfl,?_,D1 h3⟩;cases k<;>rfl
def ky:D->Option D
 |.lst ds=>some (.lst ds)
 |.tup ds=>some (.lst ds)
 |.dct false kvs=>some (.lst (Na kvs))
 |_=>none
def KD{P:bN}{w:cH}{k:j9}{v:aC}(h:(cw P w).is k v=true):RelV (kV k) v:=by
 rcases fb (show zu k v=true from h)with ⟨i,t,rfl,rfl⟩|⟨x,t,rfl,rfl⟩
 ·exact⟨t,rfl⟩
 ·exact⟨t,rfl⟩
def Ke(hc:X.calm=true):CallR X (.type "list") (λxs H Q=>∃p es,xs=[.ref p]/\H p=some (.dK es)/\∀l,H l=none->Q (.ref l) (upd H l (.lst (es.map λp=>kV p.1)))):=by
 intro pins s Z H xs us Q I r h;obtain⟨p,es,rfl,hp,q⟩:=h;obtain⟨u,rfl,rx⟩:=s8 r;cases rx;obtain⟨z,hd,vs,rel,dd⟩:=Sq I.hok hp;obtain⟨ep,da⟩:=dd.dictAt;refine PySem.W.kdl_call (PySem.W.kdl_dict (knd:=cw X.prog X.w) (kvs:=vs) (ep:=ep) hd) (I.ok.hd hc) da (by rw[<-rel.length];exact z) λh' tk acc c' hk hS ⟨hn,hacc⟩=>?_;have hv:Vals (es.map λp=>kV p.1) acc.toList:=by
  refine Cs (by rw[aJ,rel.length];simp[hn]) λi x u e1 e2=>?_;obtain⟨k,y,ek,hk'⟩:=hacc i u (by simpa using e2);rw[bW]at e1;have key:∀{l:List (j9×V)}{m:List (j9×aC)},KV l m->∀(i:Nat)(p:j9×V)(q:j9×aC),l[i]?=some p->m[i]?=some q->p.1=q.1:=by
   intro l m r;induction r with
   |nil=>intro i p q e;simp at e
   |@cons a b as bs hh t ih=>
    intro i p q e1 e2;cases i with
    |zero=>simp at e1 e2;subst e1 e2;exact hh.1
    |succ i=>exact ih i p q (by simpa using e1) (by simpa using e2)
  cases eo:es[i]? with
  |none=>rw[eo]at e1;cases e1
  |some pr=>
   rw[eo]at e1;cases e1;have:=key rel i pr (k,y) eo ek;show RelV (kV pr.1) u;rw[this];exact KD hk'
 refine⟨.ref _,_,I.laid (t':=tk) (o:=.lst (es.map λp=>kV p.1)) hk (aO _) ⟨by rw[aJ];exact z,acc.toList,c',hv,by simpa using hS⟩,rfl,q _ I.fresh⟩
def Jc(hc:X.calm=true)(hg:Gl X "list")(hm:X.mg "list"=none)(ha:jw X B E e g)(hn:i7 e=true):Xf X B E (.Call (.Name "list" p) [e] [] pos) (g1 ky g):=
 PE.imp (qp (CallR.or Fi (Ke hc)) hg hm iT (kh ha lr (az hn)) (by decide) (by decide) (az hn) rfl) λZ H Q ⟨G,U,R,q⟩=>⟨G,U,R,by
  unfold ae;unfold g1 at q;cases e:g U with
  |er c=>rw[e]at q;exact q
  |st=>rw[e]at q;exact q
  |ok dx=>
   rw[e]at q;obtain⟨d,ed,ds,e2,qd⟩:=ResP.of (show ResP E G H (Res.of (ky dx)) _ from q);subst e2;intro vs G1 H1 e1 al;obtain⟨v,rfl,ax⟩:=ArgsM.one al;unfold ky at ed;split at ed
   ·cases ed;obtain⟨l,vs,rfl,sq,dl⟩:=ax.lst e1.gh;exact .inl ⟨l,vs,rfl,.inl sq,λp hp=>qd p vs G1 _ (e1.trans (Ext.own e1.gh _ hp)) (ff e1.hh hp) (ff e1.gh hp) bz dl⟩
   ·cases ed;obtain⟨l,vs,rfl,sq,dl⟩:=ax.tup e1.gh;exact .inl ⟨l,vs,rfl,.inr sq,λp hp=>qd p vs G1 _ (e1.trans (Ext.own e1.gh _ hp)) (ff e1.hh hp) (ff e1.gh hp) bz dl⟩
   ·cases ed;obtain⟨l,es,rfl,h1,dl⟩:=Arg.dctK e1.gh ax;exact .inr ⟨l,es,rfl,h1,λp hp=>qd p _ G1 _ (e1.trans (Ext.own e1.gh _ hp)) (ff e1.hh hp) (ff e1.gh hp) bz (D1 dl)⟩
   ·cases ed⟩
def P7:JE (g1 ky g):=λU d h=>by
 unfold g1 at h;cases e:g U with
 |er c=>rw[e]at h;cases h
 |st=>rw[e]at h;cases h
 |ok dx=>
  rw[e]at h;have h':Res.of (ky dx)=.ok d:=h;unfold ky at h';split at h'
  ·cases h';exact⟨_,rfl⟩
  ·cases h';exact⟨_,rfl⟩
  ·cases h';exact⟨_,rfl⟩
  ·cases h'
end
section
variable{X:Cx}{G0 B:Hp}{E:EK}{e a b:Expr}{es:List Expr}{g h k:En->Res}{pos p:Pos}
def LB:f9 X B E (.Dict [] [] pos) (gC (.dct false [])):=
 PE.imp Jd λZ H Q ⟨G,U,R,q⟩ p hp=>q (.ref p) (upd G p (.dK [])) _ (Ext.new R.gh _ hp) ⟨p,rfl,.inl ⟨rfl,[],bz,rfl⟩⟩
def HK(i:Nat)(g:En->Res):En->Out:=λU=>(g U).then λd=>match d with
 |.dct false kvs=>.nx (U.set i (.od false kvs))
 |_=>.st
end
def PD(K:KA)(G:Hp):List (j9×D)->List (j9×V)->Prop
 |[],[]=>True
 |(j,d)::r,(k,v)::q=>j=k/\Den K G d v/\PD K G r q
 |_,_=>False
theorem PD.length{K:KA}{G:Hp}:∀{l:List (j9×D)}{q:List (j9×V)},PD K G l q->l.length=q.length
 |[],[],_=>rfl
 |_::_,_::_,⟨_,_,h⟩=>by rw[aM,aM,PD.length h]
def riseF(m:Nat):List Nat->Prop
 |[]=>True
 |k::r=>m<=k/\k<6/\riseF (k+1) r
def riseF.mono{m m':Nat}(h:m'<=m):∀{S:List Nat},riseF m S->riseF m' S
 |[],_=>trivial
 |_::_,⟨h1,h2,h3⟩=>⟨bC h h1,h2,h3⟩
def RB(S:List Nat)(led:Bool):gI:={mask:=if S.length<5 then 7 else 31,place:=S.toArray,dummies:=#[],finger:=0,led,moves:=if S.length<5 then 0 else 1,plain:=true}
def SetS(h:Heap)(a:Addr)(S:List Nat)(led:Bool):Prop:=riseF 0 S/\∃(es:Array (Int×aC)) (ep:Nat),h.get? a=some {cls:=.type "set",dict:=none,data:=.set es ep (RB S led)}/\
 es.toList.map (·.1)=S.map Int.ofNat/\IntsAre (es.toList.map (·.2)) (S.map Int.ofNat)
theorem riseF.len:∀{S:List Nat}{m:Nat},m<=6->riseF m S->S.length+m<=6
 |[],m,h,_=>by simpa using h
 |k::r,m,_,⟨h1,h2,h3⟩=>by
  have:=riseF.len (by lia) h3;rw[aM];lia
theorem riseF.lt:∀{S:List Nat}{m:Nat},riseF m S->∀k∈S,m<=k/\k<6
 |[],_,_,k,h=>by simp at h
 |a::r,m,⟨h1,h2,h3⟩,k,h=>by
  rcases List.mem_cons.mp h with rfl|h
  ·exact⟨h1,h2⟩
  ·have:=riseF.lt h3 k h;exact⟨by lia,this.2⟩
def sr{α:Type}(es:Array α):(Array.range es.size).filterMap (es[·]?)=es:=by
 apply Array.toList_inj.mp;rw[Array.toList_filterMap,Array.toList_range];have gen:∀(l:List α),(cF l.length).filterMap (λi=>l[i]?)=l:=by
  intro l;induction l with
  |nil=>rfl
  |cons a r ih=>
   rw[aM,List.range_succ_eq_map,cR,List.filterMap_map];simp only[cE]
   congr 1
 have:=gen es.toList;rw[cL]at this;simpa using this
def QA(w:cH):Bool:= !(w.params.followText "set-order")
def SetS.keep{h h':Heap}(x:SetS h a S led)(k:∀o,h.get? a=some o->h'.get? a=some o):SetS h' a S led:=by
 obtain⟨r,es,ep,ho,q⟩:=x;exact⟨r,es,ep,k _ ho,q⟩
def SetIt(h:Heap)(I a:Addr)(slot i n ep:Nat):Prop:=h.get? I=some {cls:=.type "set_iterator",data:=.fields #[lE slot,lE i,.ref a,lE n,lE ep]}
section
variable{prog:bN}{w:cH}{A:cO}{E:aC->aK->Prop}{s:aK}{a I:Addr}{S:List Nat}{es:Array (Int×aC)}{ep i:Nat}
def SetIt.ty{slot n:Nat}(h:SetIt s.heap I a slot i n ep):s.TypeIs (.ref I) "set_iterator":=⟨_,h,rfl⟩
end
section
variable{X:Cx}
theorem riseF.pw:∀{S:List Nat}{m:Nat},riseF m S->(S.map Int.ofNat).Pairwise (· <=·)
 |[],_,_=>List.Pairwise.nil
 |k::r,m,⟨h1,h2,h3⟩=>by
  rw[aU];refine List.Pairwise.cons (λx hx=>?_) (riseF.pw h3);obtain⟨j,hj,rfl⟩:=List.mem_map.mp hx;have:=(riseF.lt h3 j hj).1;show(k:Int)<=(j:Int)
  lia
end
end Pu
end
section
namespace Pu
open PySem PySem.Spec PyProof.Rows L2 PySem.W
def GoOk(n:Nat)(cmp:Nat->Nat->Bool):KasT α->(α->Prop)->Prop
 |.ret a,R=>R a
 |.ask i j k,R=>i<n/\j<n/\GoOk n cmp (k (cmp i j)) R
section
variable{n:Nat}{cmp:Nat->Nat->Bool}
theorem GoOk.mono{R R':α->Prop}(h:∀a,R a->R' a):∀{t:KasT α},GoOk n cmp t R->GoOk n cmp t R'
 |.ret a,g=>h a g
 |.ask i j k,⟨g1,g2,g3⟩=>⟨g1,g2,GoOk.mono h g3⟩
theorem GoOk.bind:∀{t:KasT α},GoOk n cmp t (λa=>GoOk n cmp (f a) R)->GoOk n cmp (t.bind f) R
 |.ret a,g=>g
 |.ask i j k,⟨g1,g2,g3⟩=>⟨g1,g2,GoOk.bind g3⟩
structure Ord(n:Nat)(cmp:Nat->Nat->Bool):Prop where
 as:∀i j,i<n->j<n->i≠j->cmp j i= !cmp i j
 tr:∀i j k,i<n->j<n->k<n->cmp i j=true->cmp j k=true->cmp i k=true
def At(p:Array Nat)(i:Nat):Nat:=p.getD i 0
def PermR(n:Nat)(p:Array Nat):Prop:=p.toList.Perm (cF n)
theorem PermR.size{p:Array Nat}(h:PermR n p):p.size=n:=by
 have:=List.Perm.length_eq h;simpa using this
def Rx{p:Array Nat}(h:i<p.size):At p i=p[i]:=by
 unfold At;simp[Array.getD,h]
def PermR.lt{p:Array Nat}(h:PermR n p){i:Nat}(hi:i<n):At p i<n:=by
 have hs:i<p.size:=by rw[h.size];exact hi
 rw[Rx hs];exact List.mem_range.mp (h.mem_iff.mp (by simp))
def PermR.ne(h:PermR n p)(hi:i<n)(hj:j<n)(e:i≠j):At p i≠At p j:=by
 have hs:i<p.size:=by rw[h.size];exact hi
 have ht:j<p.size:=by rw[h.size];exact hj
 rw[Rx hs,Rx ht];have nd:p.toList.Nodup:=(h.nodup_iff).mpr List.nodup_range;intro z;have pw:=List.pairwise_iff_getElem.mp nd;rcases Nat.lt_or_gt_of_ne e with q|q
 ·exact pw i j (by simpa using hs) (by simpa using ht) q (by simpa using z)
 ·exact pw j i (by simpa using ht) (by simpa using hs) q (by simpa using z.symm)
def So(cmp:Nat->Nat->Bool)(p:Array Nat)(m:Nat):Prop:=∀a b,a<b->b<m->cmp (At p a) (At p b)=true
def De(cmp:Nat->Nat->Bool)(p:Array Nat)(m:Nat):Prop:=∀a b,a<b->b<m->cmp (At p b) (At p a)=true
def So.succ(O:Ord n cmp)(hp:PermR n p)(h1:1<=m)(hm:m<n)(h:So cmp p m)(hc:cmp (At p m) (At p (m - 1))=false):So cmp p (m+1):=by
 intro a b hab hb
 by_cases hb':b<m
 ·exact h a b hab hb'
 ·obtain rfl:b=m:=by lia
  have e:cmp (At p (b - 1)) (At p b)=true:=by
   have:=O.as (At p b) (At p (b - 1)) (hp.lt hm) (hp.lt (by lia)) (hp.ne hm (by lia) (by lia));rw[this,hc];rfl
  by_cases ha:a=b - 1
  ·rw[ha];exact e
  ·exact O.tr _ _ _ (hp.lt (by lia)) (hp.lt (by lia)) (hp.lt hm) (h a (b - 1) (by lia) (by lia)) e
def De.succ(O:Ord n cmp)(hp:PermR n p)(h1:1<=m)(hm:m<n)(h:De cmp p m)(hc:cmp (At p m) (At p (m - 1))=true):De cmp p (m+1):=by
 intro a b hab hb
 by_cases hb':b<m
 ·exact h a b hab hb'
 ·obtain rfl:b=m:=by lia
  by_cases ha:a=b - 1
  ·rw[ha];exact hc
  ·exact O.tr _ _ _ (hp.lt hm) (hp.lt (by lia)) (hp.lt (by lia)) hc (h a (b - 1) (by lia) (by lia))
theorem wa{p:Array Nat}(O:Ord n cmp)(hp:PermR n p):∀(f m:Nat),1<=m->m+f<=n->So cmp p m->GoOk n cmp (kas_asc p f m) (λk=>m<=k/\k<=m+f/\So cmp p k/\(k<m+f->cmp (At p k) (At p (k - 1))=true))
 |0,m,h1,h2,h=>⟨aO _,aO _,h,λz=>by lia⟩
 |f+1,m,h1,h2,h=>by
  refine⟨hp.lt (show m<n by lia),hp.lt (show m - 1<n by lia),?_⟩;show GoOk n cmp (if cmp (At p m) (At p (m - 1))=true then KasT.ret m else kas_asc p f (m+1)) _
  by_cases hc:cmp (At p m) (At p (m - 1))=true
  ·rw[aB hc];exact⟨aO _,by lia,h,λ_=>hc⟩
  ·rw[aG hc];refine(wa O hp f (m+1) (by lia) (by lia) (h.succ O hp h1 (by lia) (by simpa using hc))).mono λk g=>?_;obtain⟨g1,g2,g3,g4⟩:=g;exact⟨by lia,by lia,g3,λz=>g4 (by lia)⟩
end
end Pu
end
section
namespace Pu
open PySem PySem.Spec PyProof.Rows L2 PySem.SeqAt PySem.W
theorem ou:∀k:List Int,bB (k.map .int)=true
 |[]=>rfl
 |i::k=>by
  rw[aU,bB,ou k];rfl
def QI(x:Str)(c:List Int):List Int:=x.cps.toList.map Int.ofNat++(-1)::c
def SH:Nat->List Int->List mH->Prop
 |0,k,xs=>k≠[]/\xs=k.map .int
 |1,k,xs=>∃i c,k=i::c/\xs=[.int i,.tuple (c.map .int)]
 |_,k,xs=>∃x c,k=QI x c/\eE x=true/\xs=[.str x,.tuple (c.map .int)]
section
variable{prog:bN}{w:cH}{A:cO}{E:aC->aK->Prop}{s:aK}
def KeysAre(s:aK)(b:Nat):List aC->List (List Int)->Prop
 |[],[]=>True
 |v::vs,k::ks=>(∃xs as,Reads s.heap v (.tuple xs) as/\SH b k xs)/\KeysAre s b vs ks
 |_,_=>False
theorem KeysAre.len:∀{vs:List aC}{ks:List (List Int)},KeysAre s b vs ks->ks.length=vs.length
 |[],[],_=>rfl
 |[],_::_,h=>h.elim
 |_::_,[],h=>h.elim
 |v::vs,k::ks,⟨_,h⟩=>by rw[aM,aM,KeysAre.len h]
theorem KeysAre.get:∀{vs:List aC}{ks:List (List Int)},KeysAre s b vs ks->∀{i:Nat},i<vs.length->∃xs as,Reads s.heap (vs.getD i dD) (.tuple xs) as/\SH b (ks.getD i []) xs
 |[],_,_,i,h=>by simp at h
 |_::_,[],h,_,_=>h.elim
 |v::vs,k::ks,⟨h0,_⟩,0,_=>h0
 |v::vs,k::ks,⟨_,h⟩,i+1,hi=>by
  have:=KeysAre.get h (i:=i) (by simpa using hi);simpa using this
end
def OutOf(R:Array Nat->Prop)(vs out:List aC):Prop:=(vs.length<2/\out=vs)\/(2<=vs.length/\∃p:Array Nat,R p/\p.size=vs.length/\out=p.toList.map λi=>vs.getD i dD)
def OutOf.len{vs out:List aC}(h:OutOf R vs out):out.length=vs.length:=by
 rcases h with ⟨_,rfl⟩|⟨_,p,_,h1,rfl⟩
 ·rfl
 ·rw[aJ,cL,h1]
end Pu
end
section
namespace Pu
open PySem PySem.Spec PyProof.Rows L2
def vy:List D->Option (List j9)
 |[]=>some []
 |d::r=>match cg d,vy r with
  |some k,some ks=>some (k::ks)
  |_,_=>none
theorem Ik:∀ks:List j9,vy (ks.map kD)=some ks
 |[]=>rfl
 |k::ks=>by
  show(match cg (kD k),vy (ks.map kD)with
   |some k,some ks=>some (k::ks)
   |_,_=>none)=_
  rw[uj,Ik ks]
def Ue:D->Option NK
 |.tup ds=>(vy ds).map .inr
 |d=>(cg d).map .inl
def K8:List D->Option cy
 |[]=>some []
 |d::r=>match Ue d,K8 r with
  |some k,some ks=>some (k::ks)
  |_,_=>none
def pq:D->Option cy
 |.tup ds=>K8 ds
 |_=>none
def Ug:∀k:NK,Ue (LV k)=some k
 |.inl (.inl _)=>rfl
 |.inl (.inr _)=>rfl
 |.inr ks=>by show(vy (ks.map kD)).map jI=_;rw[Ik];rfl
theorem Nr:∀ks:cy,K8 (ks.map LV)=some ks
 |[]=>rfl
 |k::ks=>by
  show(match Ue (LV k),K8 (ks.map LV)with
   |some k,some ks=>some (k::ks)
   |_,_=>none)=_
  rw[Ug,Nr ks]
def yq(ks:cy):pq (kT ks)=some ks:=Nr ks
theorem xc{K:KA}{G:Hp}:∀{ds:List D}{vs:List V}{ks:List j9},DenL K G ds vs->vy ds=some ks->vs=ks.map kV
 |[],_,_,h,e=>by cases e;exact h
 |d::r,_,ks,⟨v,t,h1,h2,h3⟩,e=>by
  unfold vy at e;cases e1:cg d with
  |none=>rw[e1]at e;cases e
  |some k=>
   cases e2:vy r with
   |none=>rw[e1,e2]at e;cases e
   |some ks'=>
    rw[e1,e2]at e;cases e;rw[h1,xc h3 e2,rm (H:=G) (.inl h2) e1];rfl
def EU{K:KA}{G:Hp}{d:D}{v:V}{k:NK}(h:Den K G d v)(e:Ue d=some k):nkAt G k v:=by
 have one:∀{d:D},Den K G d v->(cg d).map jY=some k->nkAt G k v:=λ{d} h e=>by
  cases e1:cg d with
  |none=>rw[e1]at e;cases e
  |some j=>rw[e1]at e;cases e;exact rm (H:=G) (.inl h) e1
 cases d with
 |tup ds=>
  obtain⟨a,vs,rfl,h2,h3⟩:=h;have e:(vy ds).map jI=some k:=e;cases e1:vy ds with
  |none=>rw[e1]at e;cases e
  |some ks=>rw[e1]at e;cases e;exact⟨a,rfl,by rw[<-xc h3 e1];exact h2⟩
 |_=>exact one h e
theorem Hn{K:KA}{G:Hp}:∀{ds:List D}{vs:List V}{ks:cy},DenL K G ds vs->K8 ds=some ks->NkL G ks vs
 |[],_,_,h,e=>by cases e;exact h
 |d::r,_,ks,⟨v,t,h1,h2,h3⟩,e=>by
  unfold K8 at e;cases e1:Ue d with
  |none=>rw[e1]at e;cases e
  |some k=>
   cases e2:K8 r with
   |none=>rw[e1,e2]at e;cases e
   |some ks'=>
    rw[e1,e2]at e;cases e;exact⟨v,t,h1,EU h2 e1,Hn h3 e2⟩
noncomputable def Ir:List (D×D)->cy->Option D
 |[],_=>none
 |(k,d)::r,j=>if pq k=some j then some d else Ir r j
def Yf(kvs:List (D×D))(j:cy):Bool:=kvs.any λp=>decide (pq p.1=some j)
def HY(kvs:List (D×D))(j:cy)(v:D):List (D×D):=if Yf kvs j=true then kvs.map (λp=>if pq p.1=some j then(p.1,v)else p)else kvs++[(kT j,v)]
section
variable{K:KA}{G:Hp}
theorem DenT.length:∀{kvs:List (D×D)}{es:List (cy×V)},DenT K G kvs es->kvs.length=es.length
 |[],_,h=>by rw[show _=[]from h];rfl
 |(_,_)::_,_,⟨k,v,r,h1,_,_,h3⟩=>by rw[h1,aM,aM,DenT.length h3]
theorem DenT.look:∀{kvs:List (D×D)}{es:List (cy×V)},DenT K G kvs es->∀j,(∀d,Ir kvs j=some d->∃v,mx es j=some v/\Den K G d v)/\(Ir kvs j=none->mx es j=none)
 |[],es,h,j=>by
  rw[show es=[]from h];exact⟨λd e=>(by cases e),λ_=>Kb⟩
 |(k,d)::r,es,h,j=>by
  obtain⟨k',v,t,rfl,rfl,dv,dt⟩:=h;obtain⟨i1,i2⟩:=DenT.look dt j;unfold Ir;rw[yq k']
  by_cases e:k'=j
  ·subst e;rw[aB rfl];exact⟨λd' z=>⟨v,u9 rfl,by cases z;exact dv⟩,λz=>by cases z⟩
  ·rw[aG (λz=>e (bP z))];refine⟨λd' z=>?_,λz=>?_⟩
   ·obtain⟨u,q1,q2⟩:=i1 d' z;exact⟨u,(om e).trans q1,q2⟩
   ·exact(om e).trans (i2 z)
theorem DenT.has:∀{kvs:List (D×D)}{es:List (cy×V)},DenT K G kvs es->∀j,Yf kvs j=es.any λkv=>decide (kv.1=j)
 |[],es,h,j=>by rw[show es=[]from h];rfl
 |(k,d')::r,es,h,j=>by
  obtain⟨k',u,t,rfl,rfl,du,dt⟩:=h;have ih:=DenT.has dt j;unfold Yf at ih⊢;rw[dQ,dQ,ih]
  congr 1
  rw[yq k']
  by_cases e:k'=j
  ·simp[e]
  ·rw[decide_eq_false e,decide_eq_false λz=>e (bP z)]
theorem DenT.repl(dv:Den K G d v):∀{kvs:List (D×D)}{es:List (cy×V)},DenT K G kvs es->∀j,DenT K G (kvs.map λp=>if pq p.1=some j then(p.1,d)else p) (es.map λkv=>if kv.1=j then(kv.1,v)else kv)
 |[],es,h,j=>by rw[show es=[]from h];rfl
 |(k,d')::r,es,h,j=>by
  obtain⟨k',u,t,rfl,rfl,du,dt⟩:=h;have ih:=DenT.repl dv dt j;rw[aU,aU];dsimp only;rw[yq k']
  by_cases e:k'=j
  ·rw[aB e,aB (by rw[e])];exact⟨k',v,_,rfl,rfl,dv,ih⟩
  ·rw[aG e,aG λz=>e (bP z)];exact⟨k',u,_,rfl,rfl,du,ih⟩
theorem DenT.snoc(dv:Den K G d v):∀{kvs:List (D×D)}{es:List (cy×V)},DenT K G kvs es->∀j,DenT K G (kvs++[(kT j,d)]) (es++[(j,v)])
 |[],es,h,j=>by rw[show es=[]from h];exact⟨j,v,[],rfl,rfl,dv,rfl⟩
 |(k,d')::r,es,h,j=>by
  obtain⟨k',u,t,rfl,rfl,du,dt⟩:=h;exact⟨k',u,_,rfl,rfl,du,DenT.snoc dv dt j⟩
def DenT.put(dv:Den K G d v)(h:DenT K G kvs es)(j:cy):DenT K G (HY kvs j d) (tf es j v):=by
 unfold HY tf;rw[h.has j]
 by_cases e:(es.any λkv=>decide (kv.1=j))=true
 ·rw[aB e,aB e];exact h.repl dv j
 ·rw[aG e,aG e];exact h.snoc dv j
end
section
variable{X:Cx}{G0 B:Hp}{E:EK}{e a b:Expr}{es:List Expr}{g h k:En->Res}{pos p:Pos}
def V0(i:Nat):En->Out:=λU=>.nx (U.set i (.od true []))
def EnvR.setDT{K:KA}{G H:Hp}{Z:St}{U:En}{i:Nat}{a:Addr}(R:EnvR K B G H Z U)(hn:H a=none):EnvR K B G (upd H a (.dT [])) (Z.set i (some (.ref a))) (U.set i (.od true [])):=by
 have e:Ext G H G (upd H a (.dT [])):=Ext.own R.gh _ hn;have R':=R.ext e;have gn:G a=none:=ff R.gh hn;have bn:B a=none:=ff R.bh hn;have oth:∀(j:Nat) s,U[j]?=some s->s.own=true->Z[j]?=some (some (V.ref a))->False:=λj s q1 q2 q3=>by
  obtain⟨o,z1,z2⟩:=R.sl j s q1;rw[q3]at z1;cases z1;obtain⟨a',z,u,z3,_⟩:=z2.ref q2;cases z;rw[hn]at z3;cases z3
 have at_i:∀{s:Sl},(U.set i (.od true []))[i]?=some s->s=.od true []/\i<U.length:=λq=>by
  have hl:i<U.length:=by
   have:=(List.getElem?_eq_some_iff.mp q).1;rwa [bJ]at this
  rw[aL hl]at q;cases q;exact⟨rfl,hl⟩
 refine⟨R'.bh,R'.gh,by rw[bJ,bJ];exact R.len,λj s q=>?_,λj s b q1 q2 q3=>?_,λj k s t b q1 q2 q3 q4 q5 q6=>?_,R.gb⟩
 ·by_cases z:i=j
  ·subst z;obtain⟨rfl,hl⟩:=at_i q;exact⟨some (.ref a),aL (by rw[R.len];exact hl),a,[],rfl,bz,rfl⟩
  ·rw[aN z]at q⊢;exact R'.sl j s q
 ·by_cases z:i=j
  ·subst z;obtain⟨rfl,hl⟩:=at_i q1;rw[aL (by rw[R.len];exact hl)]at q3;cases q3;exact⟨gn,bn⟩
  ·rw[aN z]at q1 q3;exact R'.own j s b q1 q2 q3
 ·by_cases zj:i=j
  ·subst zj;obtain⟨rfl,hl⟩:=at_i q1;rw[aL (by rw[R.len];exact hl)]at q5;cases q5
   by_cases zk:i=k
   ·exact zk
   ·rw[aN zk]at q2 q6;exact(oth k t q2 q4 q6).elim
  ·rw[aN zj]at q1 q5
   by_cases zk:i=k
   ·subst zk;obtain⟨rfl,hl⟩:=at_i q2;rw[aL (by rw[R.len];exact hl)]at q6;cases q6;exact(oth j s q1 q3 q5).elim
   ·rw[aN zk]at q2 q6;exact R'.dis j k s t b q1 q2 q3 q4 q5 q6
def AJ(hs:PS X (.Assign [.Name x pos'] (.Dict [] [] p) pos) (L1 Wp (uh i))):ph X G0 B E (.Assign [.Name x pos'] (.Dict [] [] p) pos) (V0 i):=
 PS.imp hs λD Z H ⟨G,U,R,e,q⟩=>λa ha=>q _ G _ (Same.refl G) (R.setDT ha) (e.trans (Ext.own R.gh _ ha))
def EnvR.odAtT{K:KA}{G H:Hp}{Z:St}{U:En}{i:Nat}{kvs:List (D×D)}(R:EnvR K B G H Z U)(h:U[i]?=some (.od true kvs)):∃a es,Z[i]?=some (some (V.ref a))/\H a=some (.dT es)/\DenT K G kvs es/\G a=none/\B a=none:=by
 obtain⟨o,q1,a,vs,q2,q3,q4⟩:=R.sl i _ h;subst q2;obtain⟨g,b⟩:=R.own i _ a h rfl q1;exact⟨a,vs,q1,q3,q4,g,b⟩
def EnvR.wrDT{K:KA}{G H:Hp}{Z:St}{U:En}{i:Nat}{kvs kvs':List (D×D)}{a:Addr}{es es':List (cy×V)}(R:EnvR K B G H Z U)(hi:U[i]?=some (.od true kvs))(hs:Z[i]?=some (some (V.ref a)))(ha:H a=some (.dT es))(dl:DenT K G kvs' es'):
  EnvR K B G (upd H a (.dT es')) Z (U.set i (.od true kvs')):=by
 obtain⟨gn,bn⟩:=R.own i _ a hi rfl hs;have hl:i<U.length:=(List.getElem?_eq_some_iff.mp hi).1;have sb:∀{F:Hp},F a=none->Same F H->Same F (upd H a (.dT es')):=λfn s b u q=>by
  rw[bt (c7 q fn)];exact s b u q
 have ownEq:∀{j:Nat}{s:Sl},(U.set i (.od true kvs'))[j]?=some s->s.own=true->∃s',U[j]?=some s'/\s'.own=true:=λ{j s} q o=>by
  by_cases z:i=j
  ·subst z;exact⟨_,hi,rfl⟩
  ·rw[aN z]at q;exact⟨s,q,o⟩
 refine⟨sb bn R.bh,sb gn R.gh,by rw[bJ];exact R.len,λj s q=>?_,λj s b q1 q2 q3=>?_,λj k s t b q1 q2 q3 q4 q5 q6=>?_,R.gb⟩
 ·by_cases z:i=j
  ·subst z;rw[aL hl]at q;cases q;exact⟨_,hs,a,es',rfl,bz,dl⟩
  ·rw[aN z]at q;obtain⟨o,z1,z2⟩:=R.sl j s q;refine⟨o,z1,?_⟩;cases s with
   |no=>trivial
   |pu d=>exact z2
   |bo d=>exact z2
   |ow fs=>
    obtain⟨b,us,y1,y2,y3⟩:=z2;have nb:b≠a:=by
     rintro rfl
     rw[ha]at y2;cases y2
    exact⟨b,us,y1,by rw[bt nb];exact y2,y3⟩
   |od t fs=>
    cases t with
    |true=>
     obtain⟨b,us,y1,y2,y3⟩:=z2;have nb:b≠a:=by
      rintro rfl
      subst y1;exact z (R.dis i j _ _ b hi q rfl rfl hs z1)
     exact⟨b,us,y1,by rw[bt nb];exact y2,y3⟩
    |false=>
     obtain⟨b,us,y1,y2,y3⟩:=z2;have nb:b≠a:=by
      rintro rfl
      rw[ha]at y2;cases y2
     exact⟨b,us,y1,by rw[bt nb];exact y2,y3⟩
 ·obtain⟨s',z1,z2⟩:=ownEq q1 q2;exact R.own j s' b z1 z2 q3
 ·obtain⟨s',z1,z2⟩:=ownEq q1 q3;obtain⟨t',y1,y2⟩:=ownEq q2 q4;exact R.dis j k s' t' b z1 y1 z2 y2 q5 q6
def Arg.keys{K:KA}{G H:Hp}{d:D}{v:V}{ks:cy}(s:Same G H)(h:Arg K G H d v)(e:pq d=some ks):∃b,v=.ref b/\TkAt H ks b:=by
 cases d with
 |tup ds=>
  obtain⟨b,vs,h1,h2,h3⟩:=h.tup0 s;exact⟨b,h1,vs,h2,(Hn h3 e).mono λ_ _ q=>s _ _ q⟩
 |_=>cases e
noncomputable def Gh(i:Nat)(gk gv:En->Res):En->Out:=λU=>match U[i]? with
 |some (.od true kvs)=>(gv U).then λv=>(gk U).then λk=>match pq k with
  |some j=>if kvs.length<aD then .nx (U.set i (.od true (HY kvs j v)))else .st
  |none=>.st
 |_=>.st
def AM{i:Nat}{x:Str}{p pos':Pos}{kxx vx:Expr}(hu:X.A.units+5<dO)(hv:PE X (.Name x p) (Dm i))(hk:jw X B E kxx g)(hval:f9 X B E vx h)
  (hs:dY vx (some (.Subscript (.Name x p) kxx pos')) pos.line X.env=pure false:=by rfl):ph X G0 B E (.Assign [.Subscript (.Name x p) kxx pos'] vx pos) (Gh i g h):=
 PS.imp (N6 hu hv hk hval hs) λD Z H ⟨G,U,R,ex,q⟩=>by
  unfold Gh at q;cases ed:U[i]? with
  |none=>rw[ed]at q;exact q.elim
  |some sl=>
   rw[ed]at q;cases sl with
   |od t kvs=>
    cases t with
    |false=>exact q.elim
    |true=>
     dsimp only at q;obtain⟨l,es,q1,q2,q3,q4,q5⟩:=R.odAtT ed;refine⟨G,U,R,(sx ex q).mono λdv _ q v G1 H1 e1 dn=>⟨.ref l,q1,G1,U,R.ext e1,(sx (K:=(kx X)) (ex.trans e1) (OutP.same e1.gg q)).mono λdk _ q y G2 H2 e2 ay=>?_⟩⟩;have e12:=e1.trans e2;cases ej:pq dk with
     |none=>rw[ej]at q;exact q.elim
     |some j=>
      rw[ej]at q;dsimp only at q
      by_cases hl:kvs.length<aD
      ·rw[aB hl]at q;have h2:=e12.hh _ _ q2;have g2:=e12.fr _ _ q2 q4 rfl;obtain⟨b,rfl,hb⟩:=Arg.keys e2.gh ay ej;refine⟨l,_,rfl,DPut.t h2 hb (by rw[<-q3.length];exact hl),?_⟩;exact q Z G2 _ e2.gg (EnvR.wrDT (R.ext e12) ed q1 h2 ((q3.mono e12.gg).put (dn.mono e2.gg) j)) (Ext.wr (ex.trans e12) g2 q5)
      ·rw[aG hl]at q;exact q.elim
   |no=>exact q.elim
   |pu _=>exact q.elim
   |bo _=>exact q.elim
   |ow _=>exact q.elim
end
noncomputable def W3:Expr->Bool
 |.Call (.Name x _) _ _ _=>decide (x≠"len") && decide (x≠"int") && decide (x≠"str")
 |.Tuple _ _ _=>true
 |_=>false
noncomputable def L5:Nat->Expr->List Str
 |0,_=>[]
 |n+1,e=>match e with
  |.Call (.Attribute (.Name x _) m _) (k::r) _ _=>(if(m="setdefault"||m="get") && W3 k then[x]else[])++(r.flatMap (L5 n))
  |.Call (.Attribute o _ _) _ _ _=>L5 n o
  |.Compare l _ rs _=>L5 n l++rs.flatMap (L5 n)
  |.BoolOp _ es _=>es.flatMap (L5 n)
  |.UnaryOp _ e _=>L5 n e
  |.BinOp l _ r _=>L5 n l++L5 n r
  |_=>[]
def L6:Nat->List Stmt->List Str
 |0,_=>[]
 |n+1,ss=>ss.flatMap λs=>match s with
  |.For _ it b o _=>L5 n it++L6 n b++L6 n o
  |.While c b o _=>L5 n c++L6 n b++L6 n o
  |.If c b o _=>L5 n c++L6 n b++L6 n o
  |.Assign [.Subscript (.Name x _) k _] v _=>(if W3 k then[x]else[])++L5 n v
  |.Assign _ v _=>L5 n v
  |.Expr e _=>L5 n e
  |.Return (some e) _=>L5 n e
  |_=>[]
noncomputable def ar:D->D->Option D
 |.lst xs,.int i=>atI xs i
 |.tup xs,.int i=>atI xs i
 | .str z, .int i => if z.length <= aD then (match atI z.cps.toList i with
  |some c=>some (.str ⟨#[c]⟩)
  |none=>none)else none
 |.dct false kvs,k=>(cg k).bind (cf kvs)
 |.dct true kvs,k=>(pq k).bind (Ir kvs)
 |_,_=>none
def MO:R2:=λx y H Q=>∃a v,x=.ref a/\DGet H a y (some v)/\Q v H
section
variable{X:Cx}{B:Hp}{E:EK}{a b:Expr}{g h:En->Res}{pos:Pos}
def Yo(hu:X.A.units+5<dO):IxR X MO:=by
 intro value slice pins s Z H x y v u Q I rx ry q hs;obtain⟨l,w,rfl,dg,q⟩:=q;cases rx;exact tail_any (Ho I dg) PySem.F.slot_dict_getitem.lookup (Po hu I dg ry λw' s3 I3 rw'=>⟨w,H,I3,rw',q⟩) hs
def Arg.dctT{K:KA}{G H:Hp}{kvs:List (D×D)}{v:V}(s:Same G H)(h:Arg K G H (.dct true kvs) v):∃a es,v=.ref a/\H a=some (.dT es)/\DenT K G kvs es:=by
 rcases h with ⟨a,h1,h2⟩|⟨_,_,_,z,_⟩|⟨t',kvs',a,z,h1,h2⟩
 ·rcases h2 with ⟨z,_⟩|⟨_,es,q,r⟩
  ·cases z
  ·exact⟨a,es,h1,s _ _ q,r⟩
 ·cases z
 ·cases z;rcases h2 with ⟨z,_⟩|⟨_,es,q,r⟩
  ·cases z
  ·exact⟨a,es,h1,q,r⟩
def Zs{K:KA}:iw K ar (λx y H Q=>SJ K x y H Q\/MO x y H Q):=λG H x y dx dy d sg ax ay ed Q q=>by
 unfold ar at ed;split at ed
 ·obtain⟨l,vs,rfl,sq,dl⟩:=ax.lst sg;obtain⟨v,ev,dv⟩:=dl.atI ed;exact .inl (.inl ⟨l,vs,_,v,rfl,ay.int,sq,ev,q _ G H (Ext.refl sg) dv⟩)
 ·obtain⟨l,vs,rfl,sq,dl⟩:=ax.tup sg;obtain⟨v,ev,dv⟩:=dl.atI ed;exact .inl (.inr (.inl ⟨l,vs,_,v,rfl,ay.int,sq,ev,q _ G H (Ext.refl sg) dv⟩))
 ·split at ed
  ·rename_i hz;split at ed
   ·rename_i c ec;cases ed;exact .inl (.inr (.inr ⟨_,_,c,ax.str,ay.int,hz,ec,q _ G H (Ext.refl sg) rfl⟩))
   ·cases ed
  ·cases ed
 ·rename_i kvs;cases ek:cg dy with
  |none=>rw[ek]at ed;cases ed
  |some j=>
   rw[ek]at ed;obtain⟨l,es,rfl,h1,dl⟩:=Arg.dctK sg ax;obtain⟨v,ev,dv⟩:=(dl.look j).1 d ed;rw[rm ay ek];refine .inr ⟨l,v,rfl,?_,q _ G H (Ext.refl sg) dv⟩;rw[<-ev];exact DGet.k h1
 ·rename_i kvs;cases ek:pq dy with
  |none=>rw[ek]at ed;cases ed
  |some j=>
   rw[ek]at ed;obtain⟨l,es,rfl,h1,dl⟩:=Arg.dctT sg ax;obtain⟨v,ev,dv⟩:=(dl.look j).1 d ed;obtain⟨b,rfl,hb⟩:=Arg.keys sg ay ek;refine .inr ⟨l,v,rfl,?_,q _ G H (Ext.refl sg) dv⟩;rw[<-ev];exact DGet.t h1 hb
 ·cases ed
def MX(hu:X.A.units+5<dO)(ha:jw X B E a g)(hb:jw X B E b h)(hs:E7 b:=by intro _ _;rfl):f9 X B E (.Subscript a b pos) (g2 ar g h):=PE.imp (LJ (EH.or (Yo hu)) ha hb hs) λZ H Q q=>OQ Zs q
end
end Pu
end
section
namespace Pu
open PySem PySem.Spec PyProof.Rows L2 PySem.SeqAt PySem.W
section
variable{X:Cx}{B:Hp}{E:EK}{e:Expr}{g:En->Res}{pos p:Pos}
def RawD(h:Heap)(d:Addr)(es:Array DictEntry)(ep:Nat):Prop:=∃o,h.get? d=some o/\o.ExactDict/\o.data=.dict es ep
section
variable{prog:bN}{w:cH}{A:cO}{E:aC->aK->Prop}{s:aK}{d:Addr}{es:Array DictEntry}{ep:Nat}
def RawD.ty(h:RawD s.heap d es ep):s.TypeIs (.ref d) "dict":=let ⟨o,h1,h2,_⟩:=h;⟨o,h1,h2.1⟩
end
end
end Pu
end
section
namespace ST
open PySem PySem.SetTable
def Xh(mask:Nat)(p:Probe):Probe:=if p.more>0 then{p with j:=p.j+1,more:=p.more - 1}else
 {p with j:=(leap mask p.i p.perturb).1,more:=runEnd mask (leap mask p.i p.perturb).1 - (leap mask p.i p.perturb).1,i:=(leap mask p.i p.perturb).1,perturb:=(leap mask p.i p.perturb).2}
def it(mask:Nat):Nat->Probe->Probe
 |0,p=>p
 |n+1,p=>it mask n (Xh mask p)
theorem To{mask:Nat}:∀(m n:Nat)(p:Probe),it mask (m+n) p=it mask n (it mask m p)
 |0,n,p=>by rw[lT];rfl
 |m+1,n,p=>by
  rw[show m+1+n=(m+n)+1 by lia];exact To m n (Xh mask p)
def SG(mask:Nat)(h:Int):Probe:={j:=bits h % (mask+1),more:=runEnd mask (bits h % (mask+1)) - bits h % (mask+1),i:=bits h % (mask+1),perturb:=bits h,dummy:=none}
structure Val(mask:Nat)(p:Probe):Prop where
 more:p.more<=9
 i:p.i<=mask
 pt:p.perturb<2 ^ 64
 dum:p.dummy=none
 j:p.j+p.more<=mask
def Er{mask i:Nat}(h:i<=mask):i<=runEnd mask i/\runEnd mask i<=mask/\runEnd mask i - i<=9:=by
 unfold runEnd;split<;>lia
def X3(h:Int):bits h<2 ^ 64:=by
 unfold bits;have h1:=mC h (show(2 ^ 64:Int)≠0 by decide);have h2:=kL h (show(0:Int)<2 ^ 64 by decide)
 lia
def Pd(mask:Nat)(h:Int):Val mask (SG mask h):=by
 have e:bits h % (mask+1)<=mask:=Nat.le_of_lt_succ (Nat.mod_lt _ (Nat.succ_pos _));obtain⟨h1,h2,h3⟩:=Er e;exact⟨h3,e,X3 h,rfl,by show bits h % (mask+1)+(runEnd mask (bits h % (mask+1)) - bits h % (mask+1))<=mask;lia⟩
def zw(mask:Nat)(p:Probe):Nat:=(p.i * 5+1+p.perturb / 32) % (mask+1)
def Bq(mask:Nat)(p:Probe):Probe:={p with j:=zw mask p,more:=runEnd mask (zw mask p) - zw mask p,i:=zw mask p,perturb:=p.perturb / 32}
def Cr{mask:Nat}{p:Probe}(v:Val mask p):Val mask (Bq mask p):=by
 have e:zw mask p<=mask:=Nat.le_of_lt_succ (Nat.mod_lt _ (Nat.succ_pos _));obtain⟨h1,h2,h3⟩:=Er e;exact⟨h3,e,Nat.lt_of_le_of_lt (Nat.div_le_self _ _) v.pt,v.dum,by show zw mask p+(runEnd mask (zw mask p) - zw mask p)<=mask;lia⟩
def BI{mask:Nat}{p:Probe}(v:Val mask p):Val mask (Xh mask p):=by
 unfold Xh;split
 ·exact⟨by have:=v.more;show p.more - 1<=9;lia,v.i,v.pt,v.dum,by have:=v.j;show p.j+1+(p.more - 1)<=mask;lia⟩
 ·exact Cr v
theorem Xb{mask:Nat}:∀(n:Nat){p:Probe},Val mask p->Val mask (it mask n p)
 |0,_,v=>v
 |n+1,_,v=>Xb n (BI v)
theorem M7{mask:Nat}:∀(k:Nat)(p:Probe),p.more=k->it mask (k+1) p=Bq mask p
 |0,p,h=>by
  show Xh mask p=_;unfold Xh;rw[aG (by lia)];rfl
 |k+1,p,h=>by
  show it mask (k+1) (Xh mask p)=_;have e:Xh mask p={p with j:=p.j+1,more:=p.more - 1}:=by unfold Xh;rw[aB (by lia)]
  rw[M7 k (Xh mask p) (by rw[e];show p.more - 1=k;lia),e];rfl
def Qg(mask:Nat):Nat->Probe->Probe
 |0,p=>p
 |n+1,p=>Qg mask n (Bq mask p)
theorem Tp{mask:Nat}:∀(k:Nat){p:Probe},Val mask p->∃m,m<=10 * k/\it mask m p=Qg mask k p
 |0,p,v=>⟨0,by lia,rfl⟩
 |k+1,p,v=>by
  obtain⟨m,h1,h2⟩:=Tp k (Cr v);have:=v.more;exact⟨p.more+1+m,by lia,by rw[To,M7 _ p rfl,h2];rfl⟩
theorem F5{mask:Nat}:∀(m n:Nat)(p:Probe),Qg mask (m+n) p=Qg mask n (Qg mask m p)
 |0,n,p=>by rw[lT];rfl
 |m+1,n,p=>by
  rw[show m+1+n=(m+n)+1 by lia];exact F5 m n (Bq mask p)
theorem Pc{mask:Nat}:∀(n:Nat){p:Probe},Val mask p->Val mask (Qg mask n p)
 |0,_,v=>v
 |n+1,_,v=>Pc n (Cr v)
theorem T9{mask:Nat}:∀(k:Nat)(p:Probe),(Qg mask k p).perturb=p.perturb / 32 ^ k
 |0,p=>by rw[Nat.pow_zero,Nat.div_one];rfl
 |k+1,p=>by
  show(Qg mask k (Bq mask p)).perturb=_;rw[T9 k,Nat.pow_succ,Nat.mul_comm,<-Nat.div_div_eq_div_mul];rfl
def lc(mask:Nat):Nat->Nat->Nat
 |0,i=>i
 |n+1,i=>lc mask n ((i * 5+1) % (mask+1))
theorem F4{mask:Nat}:∀(m n i:Nat),lc mask (m+n) i=lc mask n (lc mask m i)
 |0,n,p=>by rw[lT];rfl
 |m+1,n,p=>by
  rw[show m+1+n=(m+n)+1 by lia];exact F4 m n _
theorem T8{mask:Nat}:∀(k:Nat){p:Probe},p.perturb=0->p.j=p.i->(Qg mask k p).i=lc mask k p.i/\(Qg mask k p).j=lc mask k p.i
 |0,p,h,e=>⟨rfl,e⟩
 |k+1,p,h,e=>by
  have:=T8 (mask:=mask) k (p:=Bq mask p) (by show p.perturb / 32=0;rw[h]) rfl;have e2:(Bq mask p).i=(p.i * 5+1) % (mask+1):=by show(p.i * 5+1+p.perturb / 32) % (mask+1)=_;rw[h]
  rw[e2]at this;exact this
def Uq(mask:Nat):Nat->Nat->List Nat
 |0,_=>[]
 |n+1,i=>i::Uq mask n ((i * 5+1) % (mask+1))
theorem F9{mask j:Nat}:∀{n i:Nat},j∈Uq mask n i->∃k,k<n/\lc mask k i=j
 |0,i,h=>by cases h
 |n+1,i,h=>by
  rcases List.mem_cons.mp h with h|h
  ·exact⟨0,by lia,h.symm⟩
  ·obtain⟨k,h1,h2⟩:=F9 h;exact⟨k+1,by lia,h2⟩
def Mk(mask:Nat):Prop:=mask=7\/mask=31\/mask=127
def Zj{mask:Nat}(hm:Mk mask):(∀j,j<=mask->j∈Uq mask (mask+1) 0)/\lc mask (mask+1) 0=0:=by
 have g:∀m,((cF (m+1)).all λj=>(Uq m (m+1) 0).contains j)=true->∀j,j<=m->j∈Uq m (m+1) 0:=λm h j hj=>by
  have:=List.all_eq_true.mp h j (List.mem_range.mpr (by lia));simpa using this
 rcases hm with rfl|rfl|rfl
 ·exact⟨g _ (by decide+kernel),by decide+kernel⟩
 ·exact⟨g _ (by decide+kernel),by decide+kernel⟩
 ·exact⟨g _ (by decide+kernel),by decide+kernel⟩
def T4{mask i j:Nat}(hm:Mk mask)(hi:i<=mask)(hj:j<=mask):∃k,k<=mask/\lc mask k i=j:=by
 obtain⟨h1,h2⟩:=Zj hm;obtain⟨a,a1,a2⟩:=F9 (h1 i hi);obtain⟨b,b1,b2⟩:=F9 (h1 j hj)
 by_cases h:a<=b
 ·exact⟨b - a,by lia,by rw[<-a2,<-F4,show a+(b - a)=b by lia,b2]⟩
 ·exact⟨mask+1 - a+b,by lia,by rw[<-a2,<-F4,show a+(mask+1 - a+b)=(mask+1)+b by lia,F4,h2,b2]⟩
def KO{mask j:Nat}{p:Probe}(hm:Mk mask)(v:Val mask p)(hj:j<=mask):∃m,m<10 * turns mask/\(it mask m p).j=j:=by
 have v13:=Pc 13 v;have p0:(Qg mask 13 p).perturb=0:=by
  rw[T9];exact Nat.div_eq_of_lt (aW v.pt (by decide))
 have e13:(Qg mask 13 p).j=(Qg mask 13 p).i:=by
  rw[show(13:Nat)=12+1 from rfl,F5];rfl
 obtain⟨k,k1,k2⟩:=T4 hm v13.i hj;obtain⟨m,m1,m2⟩:=Tp (13+k) v;refine⟨m,by unfold turns;lia,?_⟩;rw[m2,F5,(T8 k p0 e13).2,k2]
abbrev Ris(xs:Array Nat):Prop:=xs.toList.Pairwise (· <·)
def Ris.lt{xs:Array Nat}(h:Ris xs){a b x y:Nat}(hab:a<b)(hx:xs[a]?=some x)(hy:xs[b]?=some y):x<y:=by
 rw[<-gK]at hx hy;obtain⟨a1,rfl⟩:=List.getElem?_eq_some_iff.mp hx;obtain⟨b1,rfl⟩:=List.getElem?_eq_some_iff.mp hy;exact List.pairwise_iff_getElem.mp h a b a1 b1 hab
def Ris.inj(h:Ris xs){a b x:Nat}(hx:xs[a]?=some x)(hy:xs[b]?=some x):a=b:=by
 rcases lA a b with z|z|z
 ·exact absurd (h.lt z hx hy) (cK _)
 ·exact z
 ·exact absurd (h.lt z hy hx) (cK _)
theorem A2{xs:Array Nat}(h:Ris xs):∀(fuel lo hi:Nat),hi<=xs.size->lo<=hi->hi - lo<=fuel->(∀k x,k<lo->xs[k]?=some x->x<j)->(∀k x,hi<=k->xs[k]?=some x->j<=x)->
  below.go xs j fuel lo hi<=xs.size/\(∀k x,k<below.go xs j fuel lo hi->xs[k]?=some x->x<j)/\(∀k x,below.go xs j fuel lo hi<=k->xs[k]?=some x->j<=x)
 |0,lo,hi,h1,h2,h3,a,b=>by
  have:lo=hi:=by lia
  subst this;exact⟨h1,a,b⟩
 |fuel+1,lo,hi,h1,h2,h3,a,b=>by
  unfold below.go
  by_cases hl:lo<hi
  ·rw[aB hl];dsimp only;have hm:(lo+hi) / 2<xs.size:=by lia
   have eg:xs[(lo+hi) / 2]?=some (xs.getD ((lo+hi) / 2) j):=by
    rw[fC hm];simp[Array.getD,hm]
   by_cases hc:xs.getD ((lo+hi) / 2) j<j
   ·rw[aB hc];refine A2 h fuel _ hi h1 (by lia) (by lia) (λk x hk hx=>?_) b;rcases lU k ((lo+hi) / 2)with z|z
    ·exact lQ (h.lt z hx eg) hc
    ·have:k=(lo+hi) / 2:=by lia
     subst this;rw[eg]at hx;cases hx;exact hc
   ·rw[aG hc];refine A2 h fuel lo _ (by lia) (by lia) (by lia) a (λk x hk hx=>?_);rcases lU ((lo+hi) / 2) k with z|z
    ·have:=h.lt z eg hx;lia
    ·have:k=(lo+hi) / 2:=by lia
     subst this;rw[eg]at hx;cases hx;lia
  ·rw[aG hl];have:lo=hi:=by lia
   subst this;exact⟨h1,a,b⟩
def R5{xs:Array Nat}(h:Ris xs):below xs j<=xs.size/\(∀k x,k<below xs j->xs[k]?=some x->x<j)/\(∀k x,below xs j<=k->xs[k]?=some x->j<=x):=
 A2 h xs.size 0 xs.size (aO _) (by lia) (by lia) (λk x hk=>by lia) λk x hk hx=>by
  obtain⟨z,_⟩:=Array.getElem?_eq_some_iff.mp hx
  lia
theorem U9:∀(n:Nat)(l:List Nat),l.length<n->∃j,j<n/\j∉l
 |0,l,h=>by lia
 |n+1,l,h=>by
  by_cases e:n∈l
  ·obtain⟨j,h1,h2⟩:=U9 n (l.erase n) (by rw[List.length_erase_of_mem e];have:=List.length_pos_of_mem e;lia);exact⟨j,by lia,λz=>h2 ((List.mem_erase_of_ne (by lia)).mpr z)⟩
  ·exact⟨n,by lia,e⟩
def l7(mask:Nat)(h:Int)(m:Nat):Nat:=(it mask m (SG mask h)).j
def Zl{mask m:Nat}{h:Int}:l7 mask h m<=mask:=by
 have:=(Xb m (Pd mask h)).j;unfold l7
 lia
structure TOk(t:gI)(hs:List Int):Prop where
 mask:Mk t.mask
 dum:t.dummies=#[]
 len:t.place.size=hs.length
 rise:Ris t.place
 le:∀j∈t.place.toList,j<=t.mask
 room:t.place.size<=t.mask
 reach:∀q∈t.place.toList.zip hs,∃m,l7 t.mask q.2 m=q.1/\∀m',m'<m->l7 t.mask q.2 m'∈t.place.toList
def TOk.fits{t:gI}{hs:List Int}(T:TOk t hs):t.place.size=hs.length/\t.fill<=t.mask:=by
 refine⟨T.len,?_⟩;unfold fill;rw[T.dum];exact T.room
def TOk.empty{t:gI}(T:TOk t hs)(p:Probe)(v:Val t.mask p):∃m,m<10 * turns t.mask/\(it t.mask m p).j∉t.place.toList:=by
 obtain⟨j,h1,h2⟩:=U9 (t.mask+1) t.place.toList (by have:=T.room;rw[cL];lia);obtain⟨m,m1,m2⟩:=KO T.mask v (j:=j) (by lia);exact⟨m,m1,by rw[m2];exact h2⟩
def TOk.first{t:gI}(T:TOk t hs)(h:Int):∃M,M<10 * turns t.mask/\l7 t.mask h M∉t.place.toList:=T.empty _ (Pd t.mask h)
def i0(xs:Array α)(p:Nat)(x:α):(insertAt xs p x).toList=xs.toList.take p++x::xs.toList.drop p:=by
 unfold insertAt;simp[List.extract_eq_drop_take];exact eP (by simp)
def An{l:List α}:y∈l.take p++x::l.drop p↔y=x\/y∈l:=by
 rw[fI,cP];constructor
 ·rintro (h|h|h)
  ·exact .inr (jN h)
  ·exact .inl h
  ·exact .inr (gY h)
 ·rintro (h|h)
  ·exact .inr (.inl h)
  ·rw[<-dH p l,fI]at h;rcases h with h|h
   ·exact .inl h
   ·exact .inr (.inr h)
def BH{l:List α}{r:List β}(hl:l.length=r.length):(l.take p++x::l.drop p).zip (r.take p++y::r.drop p)=(l.zip r).take p++(x,y)::(l.zip r).drop p:=by
 rw[List.zip_append (by rw[cN,cN,hl]),List.zip_cons_cons];unfold List.zip;rw[List.take_zipWith,List.drop_zipWith]
theorem TOk.put{t:gI}(T:TOk t hs)(hn:l7 t.mask h m∉t.place.toList)(hb:∀m',m'<m->l7 t.mask h m'∈t.place.toList)(room:t.place.size+1<=t.mask):
  ∃p,p<=hs.length/\(t.put (l7 t.mask h m)).2=p/\TOk (t.put (l7 t.mask h m)).1 (hs.take p++h::hs.drop p)/\(t.put (l7 t.mask h m)).1={t with place:=insertAt t.place p (l7 t.mask h m),dummies:=#[]}:=by
 obtain⟨b1,b2,b3⟩:=R5 (j:=l7 t.mask h m) T.rise;have hd:has t.dummies (l7 t.mask h m)=false:=by rw[T.dum];rfl
 have ep:(t.put (l7 t.mask h m)).1={t with place:=insertAt t.place (below t.place (l7 t.mask h m)) (l7 t.mask h m),dummies:=#[]}:=by
  unfold SetTable.put;dsimp only;rw[hd,T.dum];rfl
 refine⟨below t.place (l7 t.mask h m),by rw[<-T.len];exact b1,rfl,?_,ep⟩;rw[ep];generalize hp:below t.place (l7 t.mask h m)=p at *;have hl:t.place.toList.length=hs.length:=by rw[cL];exact T.len
 have lt:∀x∈t.place.toList.take p,x<l7 t.mask h m:=λx hx=>by
  obtain⟨i,hi⟩:=jO hx;rw[kM]at hi;split at hi
  ·rename_i z;rw[gK]at hi;exact b2 i x z hi
  ·cases hi
 have gt:∀x∈t.place.toList.drop p,l7 t.mask h m<x:=λx hx=>by
  obtain⟨i,hi⟩:=jO hx;rw[kN,gK]at hi;have h1:=b3 _ x (hW p i) hi;have h2:x≠l7 t.mask h m:=λz=>by
   subst z;rw[<-gK]at hi;exact hn (cB hi)
  lia
 have rs:(t.place.toList.take p).Pairwise (· <·)/\(t.place.toList.drop p).Pairwise (· <·):=by
  have:=T.rise;unfold Ris at this;rw[<-dH p t.place.toList,List.pairwise_append]at this;exact⟨this.1,this.2.1⟩
 refine⟨T.mask,rfl,?_,?_,?_,?_,?_⟩
 ·show(insertAt t.place p _).size=_;rw[<-cL,i0];simp only[aI,cN,aM,bY,hl]
 ·show((insertAt t.place p (l7 t.mask h m)).toList).Pairwise (· <·);rw[i0,List.pairwise_append];refine⟨rs.1,List.pairwise_cons.mpr ⟨gt,rs.2⟩,λx hx y hy=>?_⟩;rcases List.mem_cons.mp hy with rfl|hy
  ·exact lt x hx
  ·exact lQ (lt x hx) (gt y hy)
 ·show∀j∈(insertAt t.place p (l7 t.mask h m)).toList,j<=t.mask;rw[i0];intro j hj;rcases An.mp hj with rfl|hj
  ·exact Zl
  ·exact T.le j hj
 ·show(insertAt t.place p _).size<=t.mask;rw[<-cL,i0];simp only[aI,cN,aM,bY,cL]
  lia
 ·show∀q∈(insertAt t.place p (l7 t.mask h m)).toList.zip _,∃m',l7 t.mask q.2 m'=q.1/\∀k,k<m'->l7 t.mask q.2 k∈(insertAt t.place p (l7 t.mask h m)).toList;rw[i0,BH hl];intro q hq;rcases An.mp hq with rfl|hq
  ·exact⟨m,rfl,λk hk=>An.mpr (.inr (hb k hk))⟩
  ·obtain⟨m',h1,h2⟩:=T.reach q hq;exact⟨m',h1,λk hk=>An.mpr (.inr (h2 k hk))⟩
structure Own(mask:Nat)(owner:Array (Option Nat))(L:List Nat):Prop where
 size:owner.size=mask+1
 nd:L.Nodup
 le:∀j∈L,j<=mask
 at_:∀(j i:Nat),owner[j]?=some (some i)↔L[i]?=some j
theorem Own.none{mask:Nat}{owner:Array (Option Nat)}{L:List Nat}(O:Own mask owner L){j:Nat}(hj:j<=mask):(owner.getD j (some 0)).isNone=true↔j∉L:=by
 have hz:j<owner.size:=by rw[O.size];lia
 have eg:owner.getD j (some 0)=owner[j]:=by simp[Array.getD,hz]
 rw[eg];cases e:owner[j]with
 |none=>
  refine⟨λ_ z=>?_,λ_=>rfl⟩;obtain⟨i,hi⟩:=jO z;have:=(O.at_ j i).mpr hi;rw[fC hz,e]at this;cases this
 |some i=>
  refine⟨λz=>(by cases z),λz=>absurd (cB ((O.at_ j i).mp ?_)) z⟩;rw[fC hz,e]
def Own.snoc{mask:Nat}{owner:Array (Option Nat)}{L:List Nat}(O:Own mask owner L){j:Nat}(hj:j<=mask)(hn:j∉L):Own mask (owner.setIfInBounds j (some L.length)) (L++[j]):=by
 have hz:j<owner.size:=by rw[O.size];lia
 refine⟨by rw[Array.size_setIfInBounds];exact O.size,?_,?_,λx i=>?_⟩
 ·rw[List.nodup_append];exact⟨O.nd,by simp,λa ha b hb=>by rw[List.mem_singleton.mp hb];exact λz=>hn (z▸ha)⟩
 ·intro x hx;rcases List.mem_append.mp hx with hx|hx
  ·exact O.le x hx
  ·rw[List.mem_singleton.mp hx];exact hj
 ·rw[Array.getElem?_setIfInBounds]
  by_cases e:j=x
  ·subst e;rw[aB rfl,aB hz];constructor
   ·intro z;cases z;simp
   ·intro z;rcases lA i L.length with y|y|y
    ·rw[bL y]at z;exact absurd (cB z) hn
    ·rw[y]
    ·rw[bI (by lia)]at z;have:=(List.getElem?_eq_some_iff.mp z).1;simp at this
     lia
  ·rw[aG e,O.at_];rcases lU i L.length with y|y
   ·rw[bL y]
   ·rw[bI y,List.getElem?_eq_none y];constructor
    ·intro z;cases z
    ·intro z;have:=List.mem_singleton.mp (cB z);exact absurd this.symm e
structure SOk(t:gI)(hs:List Int):Prop extends TOk t hs where
 loose:t.place.size * 5<t.mask * 3
end ST
end
section
namespace L2
open PySem PySem.Spec PyProof.Rows
section
variable{prog:bN}{w:cH}{A:cO}{E:aC->aK->Prop}{s:aK}
def SR(prog:bN)(w:cH)(h:Heap)(e:Int×aC)(k:cy):Prop:=e.1=(mj prog w).hash k/\∃b,e.2=.ref b/\pf prog w h k b
def ElsK(prog:bN)(w:cH)(h:Heap):List (Int×aC)->List cy->Prop
 |[],ks=>ks=[]
 |e::es,ks=>∃k r,ks=k::r/\SR prog w h e k/\ElsK prog w h es r
theorem ElsK.len:∀{es:List (Int×aC)}{ks:List cy},ElsK prog w h es ks->es.length=ks.length
 |[],ks,e=>by rw[show ks=[]from e];rfl
 |_::_,_,⟨k,r,e,_,t⟩=>by rw[e,aM,aM,t.len]
theorem ElsK.get:∀{es:List (Int×aC)}{ks:List cy}{i:Nat}{e:Int×aC},ElsK prog w h es ks->es[i]?=some e->∃k,ks[i]?=some k/\SR prog w h e k
 |[],_,_,_,_,q=>by simp at q
 |_::_,_,0,e,⟨k,r,e1,h1,t⟩,q=>by subst e1;simp at q;subst q;exact⟨k,rfl,h1⟩
 |_::_,_,i+1,e,⟨k,r,e1,h1,t⟩,q=>by
  subst e1;obtain⟨k',q1,q2⟩:=ElsK.get (i:=i) t (by simpa using q);exact⟨k',by simpa using q1,q2⟩
structure SetK(prog:bN)(w:cH)(h:Heap)(a:Addr)(ks:List cy)(es:Array (Int×aC))(ep:Nat)(t:gI):Prop where
 at_:h.get? a=some {cls:=.type "set",dict:=none,data:=.set es ep t}
 tab:ST.SOk t (es.toList.map (·.1))
 els:ElsK prog w h es.toList ks
 nd:ks.Nodup
theorem SetK.fits{es:Array (Int×aC)}{t:gI}(S:SetK prog w h a ks es ep t):t.fits es.size=true:=by
 obtain⟨h1,h2⟩:=S.tab.toTOk.fits;unfold SetTable.fits;rw[aA];exact⟨by rw[h1];simp,decide_eq_true h2⟩
end
section
variable{prog:bN}{w:cH}{A:cO}{E:aC->aK->Prop}{s:aK}{a b:Addr}{ks:List cy}{es:Array (Int×aC)}{ep:Nat}{t:gI}{k:cy}
theorem ElsK.app:∀{l l':List (Int×aC)}{ks ks':List cy},ElsK prog w h l ks->ElsK prog w h l' ks'->ElsK prog w h (l++l') (ks++ks')
 |[],_,ks,_,e,q=>by rw[show ks=[]from e];exact q
 |_::_,_,_,_,⟨k,r,e,h1,h2⟩,q=>by subst e;exact⟨k,r++_,rfl,h1,h2.app q⟩
theorem ElsK.take:∀{l:List (Int×aC)}{ks:List cy}(n:Nat),ElsK prog w h l ks->ElsK prog w h (l.take n) (ks.take n)
 |_,_,0,_=>by simp[ElsK]
 |[],ks,n+1,e=>by rw[show ks=[]from e];simp[ElsK]
 |_::_,_,n+1,⟨k,r,e,h1,h2⟩=>by subst e;exact⟨k,r.take n,rfl,h1,h2.take n⟩
theorem ElsK.drop:∀{l:List (Int×aC)}{ks:List cy}(n:Nat),ElsK prog w h l ks->ElsK prog w h (l.drop n) (ks.drop n)
 |_,_,0,e=>e
 |[],ks,n+1,e=>by rw[show ks=[]from e];simp[ElsK]
 |_::_,_,n+1,⟨k,r,e,h1,h2⟩=>by subst e;exact h2.drop n
end
def Yf(T:List cy)(k:cy):Bool:=T.any λx=>decide (x=k)
end L2
end
section
namespace Pu
open PySem PySem.Spec PyProof.Rows L2
def KeysIn(prog:bN)(w:cH)(h:Heap):List aC->List cy->Prop
 |[],kz=>kz=[]
 |v::vs,kz=>∃k r b,kz=k::r/\v=.ref b/\pf prog w h k b/\KeysIn prog w h vs r
theorem KeysIn.len:∀{vs:List aC}{kz:List cy},KeysIn prog w h vs kz->vs.length=kz.length
 |[],kz,e=>by rw[show kz=[]from e];rfl
 |_::_,_,⟨k,r,b,e,_,_,t⟩=>by rw[e,aM,aM,t.len]
theorem KeysIn.get:∀{vs:List aC}{kz:List cy}{i:Nat}{v:aC},KeysIn prog w h vs kz->vs[i]?=some v->∃k b,kz[i]?=some k/\v=.ref b/\pf prog w h k b
 |[],_,_,_,_,q=>by simp at q
 |_::_,_,0,v,⟨k,r,b,e1,e2,h1,t⟩,q=>by subst e1;simp at q;subst q;exact⟨k,b,rfl,e2,h1⟩
 |_::_,_,i+1,v,⟨k,r,b,e1,e2,h1,t⟩,q=>by
  subst e1;obtain⟨k',b',q1,q2⟩:=KeysIn.get (i:=i) t (by simpa using q);exact⟨k',b',by simpa using q1,q2⟩
def DrIt(h:Heap)(I T a:Addr)(i n ep:Nat):Prop:=h.get? I=some {cls:=.type "set_iterator",data:=.fields #[.ref T,lE i,.ref a,lE n,lE ep]}
section
variable{prog:bN}{w:cH}{A:cO}{E:aC->aK->Prop}{s:aK}{a I T:Addr}{es:Array (Int×aC)}{ep i:Nat}{t:gI}{ys:List Nat}
def DrIt.ty(h:DrIt s.heap I T a i n ep):s.TypeIs (.ref I) "set_iterator":=⟨_,h,rfl⟩
end
structure NotDr(w:cH)(es:Array (Int×aC))(t:gI):Prop where
 fits:t.fits es.size=true
 rise:ST.Ris t.place
 led:t.led=QA w
 pl:w.params.followText "set-order"=true\/(!t.plain && decide (es.size>1))=false
theorem NotDr.size{es:Array (Int×aC)}{t:gI}(N:NotDr w es t):t.place.size=es.size:=by
 have:=N.fits;unfold SetTable.fits at this;rw[aA]at this;simpa using this.1
section
variable{X:Cx}{G0 B:Hp}{E:EK}{e a b:Expr}{g h:En->Res}{pos p:Pos}
def lg(f:D->D->Option D)(g h:En->Res):En->Res:=λU=>(g U).bind λx=>match x with
 |.str z=>(h U).bind λy=>Res.of (f (.str z) y)
 |_=>.st
def HS(K:KA)(f:D->D->Option D):V->List V->Hp->VK->Prop:=λx vs H Q=>∃G dx dy y d,Same G H/\Arg K G H dx x/\vs=[y]/\Arg K G H dy y/\f dx dy=some d/\∀v G' H',Ext G H G' H'->Den K G' d v->Q v H'
def Ei{f:D->D->Option D}{m:Str}{id:String}{ap cp:Pos}(slot:Slot "str" m id)(hty:typeOf (.builtin id)=pure (.type "method_descriptor"))(hm:MtR X id (HS (kx X) f))(ho:jw X B E a g)(he:jw X B E e h)
  (hb:gJ a m X.env (eval a X.env)=eval a X.env)(hn:i7 e=true)(hl:(ap.endLine==cp.line)=true):f9 X B E (.Call (.Attribute a m ap) [e] [] cp) (lg f g h):=
 PE.imp (Nz PySem.F.plainAttrs_str slot hty hm ho (kh he lr (az hn)) hb (by rw[q9 (by rw[bK,hn];rfl)];rfl) hl (az hn) rfl) λZ H Q ⟨G,U,R,q⟩=>⟨G,U,R,(ResP.bind q).mono λdx _ qx x G1 H1 e1 ax=>by
  cases dx with
  |str z=>
   have ax':=ax;have hx:=ax.str;subst hx;refine⟨rfl,G1,U,R.ext e1,?_⟩;have qx:ResP E G1 H1 ((h U).bind λy=>Res.of (f (.str z) y)) _:=ResP.ext e1 qx;unfold ae;cases eh:h U with
   |ok dy=>
    rw[eh]at qx;obtain⟨d,ed,qd⟩:=ResP.of (show ResP E G1 H1 (Res.of (f (.str z) dy)) _ from qx);intro ws G2 H2 e2 al;obtain⟨y,rfl,ay⟩:=ArgsM.one al;exact⟨G2,.str z,dy,y,d,e2.gh,ax'.ext e2,rfl,ay,ed,λv G' H' e3 dn=>qd v G' H' ((e1.trans e2).trans e3) dn⟩
   |er c=>rw[eh]at qx;exact qx
   |st=>rw[eh]at qx;exact qx
  |_=>exact qx.elim⟩
def yu:D->D->Option D
 |.str x,.str y=>some (.bl (dF x y))
 |_,_=>none
def Lj:D->D->Option D
 |.str x,.str y=>some (.bl (gD x y))
 |_,_=>none
def n8:D->D->Option D
 |.str x,.str y=>some (.int (iU x y))
 |_,_=>none
def LY:MtR X "str.startswith" (HS (kx X) yu):=by
 intro pins s Z H x vs v us Q I rx rv ⟨G,dx,dy,y,d,sg,ax,hvs,ay,ed,q⟩;subst hvs;obtain⟨u,rfl,ru⟩:=rv.one;unfold yu at ed;split at ed
 ·cases ed;rw[ax.str]at rx;rw[ay.str]at ru;obtain⟨t,rfl⟩:=rx;obtain⟨t2,rfl⟩:=ru;exact SC.startswith ⟨.bl _,H,I,rfl,q _ G H (Ext.refl sg) rfl⟩
 ·cases ed
def KB:MtR X "str.endswith" (HS (kx X) Lj):=by
 intro pins s Z H x vs v us Q I rx rv ⟨G,dx,dy,y,d,sg,ax,hvs,ay,ed,q⟩;subst hvs;obtain⟨u,rfl,ru⟩:=rv.one;unfold Lj at ed;split at ed
 ·cases ed;rw[ax.str]at rx;rw[ay.str]at ru;obtain⟨t,rfl⟩:=rx;obtain⟨t2,rfl⟩:=ru;exact SC.endswith ⟨.bl _,H,I,rfl,q _ G H (Ext.refl sg) rfl⟩
 ·cases ed
def Y2:MtR X "str.find" (HS (kx X) n8):=by
 intro pins s Z H x vs v us Q I rx rv ⟨G,dx,dy,y,d,sg,ax,hvs,ay,ed,q⟩;subst hvs;obtain⟨u,rfl,ru⟩:=rv.one;unfold n8 at ed;split at ed
 ·cases ed;rw[ax.str]at rx;rw[ay.str]at ru;obtain⟨t,rfl⟩:=rx;obtain⟨t2,rfl⟩:=ru;exact SC.find ⟨.int _,H,I.tok _,⟨_,rfl⟩,q _ G H (Ext.refl sg) rfl⟩
 ·cases ed
theorem y4:∀(l:List (Str×Tok)),Vals (l.map λp=>V.str p.1) (jH l)
 |[]=>.nil
 |p::l=>.cons ⟨p.2,rfl⟩ (y4 l)
theorem yj{K:KA}{G:Hp}:∀(l:List Str),DenL K G (l.map D.str) (l.map V.str)
 |[]=>rfl
 |x::l=>⟨.str x,l.map V.str,rfl,rfl,yj l⟩
def c9:D->D->Option D
 |.str x,.str y=>if y.length≠0/\x.length<=aD/\(bF x y).length<=aD then some (.lst ((bF x y).map D.str))else none
 |_,_=>none
def Ub:MtR X "str.split" (HS (kx X) c9):=by
 intro pins s Z H x vs v us Q I rx rv ⟨G,dx,dy,y,d,sg,ax,hvs,ay,ed,q⟩;subst hvs;obtain⟨u,rfl,ru⟩:=rv.one;unfold c9 at ed;split at ed
 ·rename_i x y;split at ed
  ·rename_i hc;cases ed;rw[ax.str]at rx;rw[ay.str]at ru;obtain⟨t,rfl⟩:=rx;obtain⟨t2,rfl⟩:=ru;obtain⟨hy,hx,hn⟩:=hc;have hy':(y.length==0)=false:=beq_eq_false_iff_ne.mpr hy;have fin:∀(l:List (Str×Tok))(tk:Nat),l.map (·.1)=bF x y->EP X pins Z Q (.ref s.heap.objs.size) {s with toks:=tk,heap:=s.heap.push {cls:=.type "list",data:=.seq (jH l).toArray}}:=λl tk hl=>by
    have hv:Vals ((bF x y).map V.str) (jH l):=by
     rw[<-hl,eF];exact y4 l
    exact⟨.ref _,_,I.lnew (t':=tk) hv (by rw[aJ];exact hn),rfl,q _ (upd G s.heap.objs.size (.lst ((bF x y).map V.str))) _ (Ext.new sg _ I.fresh) (A7 sg I.fresh (yj _))⟩
   cases h1:(decide (x.length<y.length)||decide (cS x<cS y))
   ·cases hf:(bM x y 0 x.length (x.length+1)).isEmpty
    ·have es:bF x y=Builtin.Str.partsBetween x (bM x y 0 x.length (x.length+1)) y.length:=(aG (ne_true_of_eq_false h1)).trans (aG (ne_true_of_eq_false hf));refine iK gE (jD _ _ _) iP (iF _ _) (meets_str_split_sep x y t t2 h1 hy' hf hx (by rw[<-es];exact hn)) ?_;have:=fin (numbered s.toks (bF x y)) (s.toks+(bF x y).length) (numbered_texts _ _);rw[<-strsFrom_eq]at this;rw[<-es];exact this
    ·exact iK gE (jD _ _ _) iP (iF _ _) (meets_str_split_not_found x y t t2 h1 hy' hf)
      (fin [(x,t)] s.toks ((aG (ne_true_of_eq_false h1)).trans (aB hf)).symm)
   ·exact iK gE (jD _ _ _) iP (iF _ _) (meets_str_split_cannot_occur x y t t2 h1)
     (fin [(x,t)] s.toks (aB h1).symm)
  ·cases ed
 ·cases ed
def ku(x y:Str):List Str:=match bM x y 0 x.length 1 with
 |i::_=>[bZ x 0 i,y,bZ x (i+y.length) x.length]
 |[]=>[x,cX,cX]
def n9:D->D->Option D
 |.str x,.str y=>if y.length≠0/\x.length<=aD then some (.tup ((ku x y).map D.str))else none
 |_,_=>none
def Y4:MtR X "str.partition" (HS (kx X) n9):=by
 intro pins s Z H x vs v us Q I rx rv ⟨G,dx,dy,y,d,sg,ax,hvs,ay,ed,q⟩;subst hvs;obtain⟨u,rfl,ru⟩:=rv.one;unfold n9 at ed;split at ed
 ·rename_i x y;split at ed
  ·rename_i hc;cases ed;rw[ax.str]at rx;rw[ay.str]at ru;obtain⟨t,rfl⟩:=rx;obtain⟨t2,rfl⟩:=ru;have hy':(y.length==0)=false:=beq_eq_false_iff_ne.mpr hc.1;have fin:∀(l:List (Str×Tok))(tk:Nat),l.map (·.1)=ku x y->l.length=3->EP X pins Z Q (.ref s.heap.objs.size) {s with toks:=tk,heap:=s.heap.push {cls:=.type "tuple",data:=.seq (jH l).toArray}}:=λl tk hl h3=>by
    have hv:Vals ((ku x y).map V.str) (jH l):=by
     rw[<-hl,eF];exact y4 l
    have I2:Inv X pins Z (upd H s.heap.objs.size (.tup ((ku x y).map V.str))) {s with toks:=tk,heap:=s.heap.push {cls:=.type "tuple",data:=.seq (jH l).toArray}}:=
     I.laid (t':=tk) (λb o e=>aR _ e) (aO _) (show ObjOk X.prog X.w _ _ _ (.tup ((ku x y).map V.str))from⟨by rw[<-hl,aJ,aJ,h3];decide,jH l,hv,IsTup.new _ _⟩)
    exact⟨.ref _,_,I2,rfl,q _ (upd G s.heap.objs.size (.tup ((ku x y).map V.str))) _ (Ext.new sg _ I.fresh) (uf sg I.fresh (yj _))⟩
   refine iK PySem.F.slot_str_partition (jD _ _ _) PySem.F.entry_str_partition (PySem.F.args_str_partition_2 _ _) (meets_str_partition x y t t2 hy' hc.2) ?_;cases eo:bM x y 0 x.length 1 with
   |nil=>
    have ep:ku x y=[x,cX,cX]:=by unfold ku;rw[eo]
    exact fin [(x,t),(cX,s.toks),(cX,s.toks)] (s.toks+1) ep.symm rfl
   |cons i r=>
    have ep:ku x y=[bZ x 0 i,y,bZ x (i+y.length) x.length]:=by unfold ku;rw[eo]
    exact fin [(bZ x 0 i,s.toks),(y,t2),(bZ x (i+y.length) x.length,s.toks+1)] (s.toks+1+1) ep.symm rfl
  ·cases ed
 ·cases ed
def uz:List D->Option (List Str)
 |[]=>some []
 |.str x::r=>(uz r).map (x::·)
 |_=>none
def jt:D->D->Option D
 |.str x,.lst ds=>match uz ds with
  |some ts=>if JoinOk x ts=true then some (.str (Txt.join x ts))else none
  |none=>none
 |_,_=>none
theorem zi{K:KA}{G:Hp}:∀{ds:List D}{vs:List V}{ts:List Str},DenL K G ds vs->uz ds=some ts->vs=ts.map V.str
 |[],_,_,h,e=>by cases e;exact h
 |d::r,_,ts,⟨v,t,h1,h2,h3⟩,e=>by
  cases d with
  |str x=>
   have e:(uz r).map (x::·)=some ts:=e;cases e2:uz r with
   |none=>rw[e2]at e;cases e
   |some ts'=>
    rw[e2]at e;cases e;rw[h1,zi h3 e2,show v=.str x from h2];rfl
  |_=>cases e
theorem z9:∀{ts:List Str}{us:List aC},Vals (ts.map V.str) us->∃l:List (Str×Tok),us=jH l/\l.map (·.1)=ts
 |[],us,h=>by cases h;exact⟨[],rfl,rfl⟩
 |x::ts,us,h=>by
  cases h with
  |cons q r=>
   obtain⟨l,e1,e2⟩:=z9 r;obtain⟨t,rfl⟩:=q;subst e1 e2;exact⟨(x,t)::l,rfl,rfl⟩
def Y3:MtR X "str.join" (HS (kx X) jt):=by
 intro pins s Z H x vs v us Q I rx rv ⟨G,dx,dy,y,d,sg,ax,hvs,ay,ed,q⟩;subst hvs;obtain⟨u,rfl,ru⟩:=rv.one;unfold jt at ed;split at ed
 ·rename_i x ds;cases es:uz ds with
  |none=>rw[es]at ed;cases ed
  |some ts=>
   rw[es]at ed;dsimp only at ed;split at ed
   ·rename_i hj;cases ed;rw[ax.str]at rx;obtain⟨t,rfl⟩:=rx;obtain⟨l,ws,rfl,sq,dl⟩:=ay.lst sg;cases ru;obtain⟨its,rw',pl,_⟩:=I.list sq;rw[zi dl es]at rw';obtain⟨l2,rfl,hl2⟩:=z9 rw';exact SC.join pl.isList hl2 hj λt' k=>⟨.str _,H,I.tok k,⟨t',rfl⟩,q _ G H (Ext.refl sg) rfl⟩
   ·cases ed
 ·cases ed
end
section
variable{X:Cx}{G0 B:Hp}{E:EK}{e a b:Expr}{es:List Expr}{g h:En->Res}{pos p:Pos}
def qz:D->Option D
 |.str x=>some (.str x)
 |.int i=>if i.natAbs.log2<1920 then some (.str (toString i))else none
 |_=>none
def Pm:CallR X (.type "str") (λxs H Q=>(∃x,xs=[.str x]/\Q (.str x) H)\/∃i,xs=[.int i]/\i.natAbs.log2<1920/\Q (.str (toString i)) H):=by
 intro pins s Z H xs us Q I r h;rcases h with ⟨x,rfl,q⟩|h
 ·obtain⟨u,rfl,t,rfl⟩:=s8 r;exact PySem.P.str_of_str ⟨.str x,H,I,⟨t,rfl⟩,q⟩
 ·exact Fj pins s Z H xs us Q I r h
def Z6(hg:Gl X "str")(hm:X.mg "str"=none)(ha:jw X B E e g)(he:aQ [e] X.env=(false,eval e X.env)::aQ [] X.env:=by rfl)(hpl:(cY pos (aQ [] X.env)).any (·.1)=false:=by rfl):f9 X B E (.Call (.Name "str" p) [e] [] pos) (g1 qz g):=
 PE.imp (qp Pm hg hm PyProof.Rows.boot_str (kh ha lr he) (by decide) (by decide) he hpl) λZ H Q q=>JS (λG H x dx d sg ax ed Q q=>by
  unfold qz at ed;split at ed
  ·cases ed;rw[ax.str];exact .inl ⟨_,rfl,q _ G H (Ext.refl sg) rfl⟩
  ·split at ed
   ·rename_i hz;cases ed;rw[ax.int];exact .inr ⟨_,rfl,hz,q _ G H (Ext.refl sg) rfl⟩
   ·cases ed
  ·cases ed) q
def Gf:D->Option D
 |.str x=>if x.length<=640 then(gZ x).map D.int else none
 |d=>MS d
def Pk:CallR X (.type "int") (λxs H Q=>(∃x n,xs=[.str x]/\gZ x=some n/\x.length<=640/\Q (.int n) H)\/(∃i,xs=[.int i]/\Q (.int i) H)\/∃k,xs=[.bl k]/\Q (.int (if k then 1 else 0)) H):=by
 intro pins s Z H xs us Q I r h;rcases h with ⟨x,n,rfl,hn,hl,q⟩|h
 ·obtain⟨u,rfl,t,rfl⟩:=s8 r;exact PySem.W.KIN.call_text hn hl ⟨.int n,H,I.tok _,⟨_,rfl⟩,q⟩
 ·exact Dv pins s Z H xs us Q I r h
def Z5(hg:Gl X "int")(hm:X.mg "int"=none)(ha:jw X B E e g)(he:aQ [e] X.env=(false,eval e X.env)::aQ [] X.env:=by rfl)(hpl:(cY pos (aQ [] X.env)).any (·.1)=false:=by rfl):f9 X B E (.Call (.Name "int" p) [e] [] pos) (g1 Gf g):=
 PE.imp (qp Pk hg hm iZ (kh ha lr he) (by decide) (by decide) he hpl) λZ H Q q=>JS (λG H x dx d sg ax ed Q q=>by
  cases dx with
  |str z=>
   have ed:(if z.length<=640 then(gZ z).map D.int else none)=some d:=ed;split at ed
   ·rename_i hz;cases en:gZ z with
    |none=>rw[en]at ed;cases ed
    |some n=>
     rw[en]at ed;cases ed;rw[ax.str];exact .inl ⟨_,_,rfl,en,hz,q _ G H (Ext.refl sg) rfl⟩
   ·cases ed
  |int i=>cases ed;rw[ax.int];exact .inr (.inl ⟨_,rfl,q _ G H (Ext.refl sg) rfl⟩)
  |bl i=>cases ed;rw[ax.bl];exact .inr (.inr ⟨_,rfl,q _ G H (Ext.refl sg) rfl⟩)
  |_=>cases ed) q
def DZ:D->Option D
 |.int i=>some (.int (if i<0 then -i else i))
 |_=>none
def GR(hg:Gl X "abs")(hm:X.mg "abs"=none)(ha:jw X B E e g)(he:aQ [e] X.env=(false,eval e X.env)::aQ [] X.env:=by rfl)(hpl:(cY pos (aQ [] X.env)).any (·.1)=false:=by rfl):f9 X B E (.Call (.Name "abs" p) [e] [] pos) (g1 DZ g):=
 PE.imp (uw R9 hg hm PyProof.Rows.boot_abs (kh ha lr he) (by decide) (by decide) he hpl) λZ H Q q=>JS (λG H x dx d sg ax ed Q q=>by
  cases dx with
  |int i=>cases ed;rw[ax.int];exact⟨_,rfl,q _ G H (Ext.refl sg) rfl⟩
  |_=>cases ed) q
def RT:V->Option Int->Option Int->Hp->VK->Prop:=λx lo hi H Q=>∃z,x=.str z/\z.length<=aD/\Q (.str (bO z lo hi)) H
def IW:SlR X RT:=by
 intro pins s Z H x v vl vu lo hi sl Q I rx hs pl pu ⟨z,hx,hz,q⟩;subst hx;obtain⟨t,rfl⟩:=rx;have fin:∀(l u:Option (Int×Tok)),vl=partValue l->vu=partValue u->lo=l.map (·.1)->hi=u.map (·.1)->bA (bE X.prog X.w) X.A (kY (.str z t) (.ref sl)) (EP X pins Z Q) X.xe s:=λl u e1 e2 e3 e4=>by
  subst e1 e2 e3 e4;exact wpAny_getItem_str_slice (l:=l) (u:=u) (st:=none) hs rfl (post_val_or_str ⟨bC (Txt.slice_le z _ _) hz,λt' k=>⟨.str _,H,I.tok k,⟨t',rfl⟩,q⟩⟩)
 refine⟨"str",_,PySem.F.slot_str_getitem.lookup,jD _ _ _,?_⟩;cases pl with
 |none=>
  cases pu with
  |none=>exact fin none none rfl rfl rfl rfl
  |int i t=>exact fin none (some (i,t)) rfl rfl rfl rfl
 |int j tj=>
  cases pu with
  |none=>exact fin (some (j,tj)) none rfl rfl rfl rfl
  |int i t=>exact fin (some (j,tj)) (some (i,t)) rfl rfl rfl rfl
def Ia:Str->List (En->Res)->En->Res
 |acc,[],_=>.ok (.str acc)
 |acc,g::r,U=>match g U with
  |.ok (.str y)=>if(acc++y).length<=aD then Ia (acc++y) r U else .st
  |.ok _=>.st
  |.er c=>.er c
  |.st=>.st
def gS(g:En->Res):En->Res:=λU=>match g U with
 |.ok (.str y)=>if y.length<=aD then .ok (.str y)else .st
 |.ok _=>.st
 |.er c=>.er c
 |.st=>.st
def MZ(he:f9 X B E e g):f9 X B E (.FormattedValue e (-1) none pos) (gS g):=by
 intro pins s Z H Q I ⟨G,U,R,q⟩;unfold gS at q;refine FormattedValue_plain (jv (he pins s Z H (λv H1=>∃y,v=.str y/\y.length<=aD/\Q (.str y) H1) I ⟨G,U,R,?_⟩) λu s1 ⟨x,H1,I1,r1,y,hx,hz,q1⟩=>?_)
 ·cases eg:g U with
  |er c=>rw[eg]at q;exact q
  |st=>rw[eg]at q;exact q
  |ok d=>
   rw[eg]at q;cases d with
   |str y=>
    dsimp only at q
    by_cases hz:y.length<=aD
    ·rw[aB hz]at q;intro v G1 H1 e1 dn;exact⟨y,dn,hz,q _ G1 H1 e1 rfl⟩
    ·rw[aG hz]at q;exact q.elim
   |_=>exact q.elim
 ·subst hx;obtain⟨t,rfl⟩:=r1;exact formatField_str (λt' tk=>⟨.str y,H1,I1.tok tk,⟨t',rfl⟩,q1⟩) hz
def Ai(X:Cx)(B:Hp)(E:EK):List Expr->List (En->Res)->Prop
 |[],[]=>True
 |p::ps,g::gs=>f9 X B E p g/\Ai X B E ps gs
 |_,_=>False
theorem CO{Z:St}{U:En}{Q:VK}:∀{ps:List Expr}{gs:List (En->Res)},Ai X B E ps gs->∀{acc:Str}{pins:List (Addr×Obj)}{s:aK}{H G:Hp},acc.length<=aD->Inv X pins Z H s->EnvR (kx X) B G H Z U->
  ResP E G H (Ia acc gs U) (λd=>∀v G' H',Ext G H G' H'->Den (kx X) G' d v->Q v H')->bA (bE X.prog X.w) X.A (joinParts acc (evalEach ps X.env)) (EP X pins Z Q) X.xe s
 |[],[],_,acc,pins,s,H,G,ha,I,R,q=>by
  refine joinParts_nil ?_ ha;exact⟨.str acc,H,I.tok _,⟨_,rfl⟩,q _ G H (Ext.refl R.gh) rfl⟩
 |[],_::_,h,_,_,_,_,_,_,_,_,_=>h.elim
 |_::_,[],h,_,_,_,_,_,_,_,_,_=>h.elim
 |p::ps,g::gs,⟨hp,hps⟩,acc,pins,s,H,G,ha,I,R,q=>by
  show bA _ _ (joinParts acc (eval p X.env::evalEach ps X.env)) _ _ s;refine joinParts_cons (jv (hp pins s Z H (λv H1=>∃y G1,v=.str y/\Ext G H G1 H1/\(acc++y).length<=aD/\ResP E G1 H1 (Ia (acc++y) gs U) (λd=>∀v G' H',Ext G1 H1 G' H'->Den (kx X) G' d v->Q v H')) I ⟨G,U,R,?_⟩) λu s1 ⟨x,H1,I1,r1,y,G1,hx,e1,hz,q1⟩=>?_)
  ·unfold Ia at q;cases eg:g U with
   |er c=>rw[eg]at q;exact q
   |st=>rw[eg]at q;exact q
   |ok d=>
    rw[eg]at q;cases d with
    |str y=>
     dsimp only at q
     by_cases hz:(acc++y).length<=aD
     ·rw[aB hz]at q;intro v G1 H1 e1 dn;exact⟨y,G1,dn,e1,hz,(ResP.ext e1 q).mono λd _ q v G' H' e2 dn=>q v G' H' (e1.trans e2) dn⟩
     ·rw[aG hz]at q;exact q.elim
    |_=>exact q.elim
  ·subst hx;obtain⟨t,rfl⟩:=r1;exact⟨hz,CO hps hz I1 (R.ext e1) q1⟩
def SL(gs:List (En->Res)):En->Res:=Ia cX gs
def LA{v1 v2:Expr}{cx:List Expr}{gs:List (En->Res)}(h:Ai X B E (v1::v2::cx) gs):f9 X B E (.JoinedStr (v1::v2::cx) pos) (SL gs):=by
 intro pins s Z H Q I ⟨G,U,R,q⟩;exact JoinedStr_many (CO h (by decide) I R q)
end
end Pu
end
section
namespace Pu
open PySem PySem.Spec PyProof.Rows L2 PySem.SeqAt PySem.W
structure ExtB(k:Addr)(G H G' H':Hp):Prop where
 gg:Same G G'
 hh:∀b o,b≠k->H b=some o->H' b=some o
 gh:Same G' H'
 fr:∀a o,a≠k->H a=some o->G a=none->RX o=true->G' a=none
theorem ExtB.trans{k:Addr}{G H G1 H1 G2 H2:Hp}(a:ExtB k G H G1 H1)(b:ExtB k G1 H1 G2 H2):ExtB k G H G2 H2:=
 ⟨a.gg.trans b.gg,λc o n e=>b.hh c o n (a.hh c o n e),b.gh,λc o n e q z=>b.fr c o n (a.hh c o n e) (a.fr c o n e q z) z⟩
end Pu
end
section
namespace Pu
open PySem PySem.Spec PyProof.Rows L2
section
variable{prog:bN}{w:cH}{A:cO}{E:aC->aK->Prop}{s:aK}
structure ZAt(h:Heap)(z TI TO i1 i2 l1 l2 k:Nat)(f0:aC):Prop where
 hz:IsZip h z TI TO f0
 hI:IsPair h TI (.ref i1) (.ref i2)
 hO:∃a b,IsPair h TO a b
 h1:IsTupIter h i1 l1 k
 h2:IsTupIter h i2 l2 k
end
def ZAt.at{h h':Heap}{z TI TO i1 i2 l1 l2 k:Nat}{f0:aC}(Z:ZAt h z TI TO i1 i2 l1 l2 k f0)(e:∀b∈[z,TI,TO,i1,i2],∀o,h.get? b=some o->h'.get? b=some o):ZAt h' z TI TO i1 i2 l1 l2 k f0:=
 ⟨e z (by simp) _ Z.hz,e TI (by simp) _ Z.hI,let ⟨a,b,q⟩:=Z.hO;⟨a,b,e TO (by simp) _ q⟩,let ⟨o,q,r⟩:=Z.h1;⟨o,e i1 (by simp) o q,r⟩,let ⟨o,q,r⟩:=Z.h2;⟨o,e i2 (by simp) o q,r⟩⟩
def ZAt.there{h:Heap}{z TI TO i1 i2 l1 l2 k:Nat}{f0:aC}(Z:ZAt h z TI TO i1 i2 l1 l2 k f0):∀b∈[z,TI,TO,i1,i2],∃o,h.get? b=some o/\∀v,o.data≠.cell v:=λb hb=>by
 obtain⟨hz,hI,⟨a,c,hO⟩,⟨o1,q1,_,d1⟩,⟨o2,q2,_,d2⟩⟩:=Z;have:b=z\/b=TI\/b=TO\/b=i1\/b=i2:=by simpa using hb
 rcases this with rfl|rfl|rfl|rfl|rfl
 ·exact⟨_,hz,λv z=>by have z':Data.fields _=Data.cell v:=z;cases z'⟩
 ·exact⟨_,hI,λv z=>by have z':Data.seq _ _=Data.cell v:=z;cases z'⟩
 ·exact⟨_,hO,λv z=>by have z':Data.seq _ _=Data.cell v:=z;cases z'⟩
 ·exact⟨_,q1,λv z=>by rw[d1]at z;cases z⟩
 ·exact⟨_,q2,λv z=>by rw[d2]at z;cases z⟩
noncomputable def X2:Operator->Option (D->D->Option D)
 |.Add=>some aj
 |.Sub=>some Ob
 |.Mult=>some jc
 |.Mod=>some ig
 |.FloorDiv=>some mw
 |.Pow=>some Ji
 |_=>none
def GN(hf:X2 op=some f)(ha:jw X B E a g)(hb:jw X B E b h):f9 X B E (.BinOp a op b pos) (g2 f g h):=by
 cases op<;>cases hf
 ·exact GQ ha hb
 ·exact GB ha hb
 ·exact GG ha hb
 ·exact GH ha hb
 ·exact GC ha hb
 ·exact Z2 ha hb
noncomputable def V5:List Bool->List ((En->Res)×(En->Res))->En->ResL
 |[],[]=>ak
 |m::ms,p::ps=>ae (if m then p.1 else p.2) (V5 ms ps)
 |_,_=>ER
theorem Og:∀{ms:List Bool}{es:List Expr},V5 ms (es.map λe=>(oo ev C e,ev C e))=D4 ev C ms es
 |[],[]=>rfl
 |[],_::_=>rfl
 |_::_,[]=>rfl
 |m::ms,e::es=>by
  show ae (if m then oo ev C e else ev C e) (V5 ms (es.map λe=>(oo ev C e,ev C e)))=ae (if m then oo ev C e else ev C e) (D4 ev C ms es);rw[Og]
noncomputable def Bg(T:GT)(i:Nat)(ps:List ((En->Res)×(En->Res))):En->Res:=λU=>match aa i U with
 | .ok (.fn y) => (match T.fns y with
  |some s=>ao s.f (V5 s.ms ps) U
  |none=>.st)
 |_=>.st
def Kx(T:GT)(ev:Ev)(C:SC)(i:Nat)(args:List Expr):En->Res:=Bg T i (args.map λe=>(oo ev C e,ev C e))
section
variable{T:GT}{ev tv:Ev}{X:Cx}{C:SC}{B:Hp}{E:XK}{pos p:Pos}{x:Str}{e a:Expr}{es:List Expr}
def R8(h:g8 T ev)(O:XOk X C T E)(hs:slot C x=some i)(hn:(e::es).all i7=true):f9 X B (ek (kx X) E) (.Call (.Name x p) (e::es) [] pos) (Kx T ev C i (e::es)):=by
 intro pins s Z H Q I ⟨G,U,R,q⟩;unfold Kx Bg at q;cases ea:aa i U with
 |er c=>rw[ea]at q;exact q.elim
 |st=>rw[ea]at q;exact q.elim
 |ok d=>
  rw[ea]at q;cases d with
  |fn y=>
   dsimp only at q;cases ef:T.fns y with
   |none=>rw[ef]at q;exact q.elim
   |some sp=>
    rw[ef]at q;dsimp only at q;rw[Og]at q;obtain⟨k,f,fd,ps,hr,hm,hk,hb,F⟩:=O.fns y sp ef;obtain⟨v,q1,q2⟩:=R.arg ea;have ev':v=.ref f:=by rw[q2.fn];show V.ref (y6 X.mg y)=_;rw[kg hm]
    subst ev';have hn':=hn;rw[bK,aA]at hn';refine dZ (jv (O.var hs pins s Z H (λv H1=>v=.ref f/\H1=H) I ⟨_,q1,rfl,rfl⟩) λu s1 ⟨v,H1,I1,r1,e1,e2⟩=>?_);subst e1 e2;cases r1;refine kJ (h₀:=X.base) I.ok.mod.kin hk (jv (tq (B:=B) (E:=E) h O (ms:=sp.ms) hn pos pins s1 Z H1 (λvs H2=>Lu (kx X) sp.ms sp.f vs H2 Q E) I1 ⟨G,U,R,(BC q).mono λds _ q vs G1 H2 e1 al=>
     ⟨al.length.2,R.gb.same (R.bh.trans e1.hh),G1,ds,e1.gh,al,(q.ext e1).mono λd _ q v G' H' e2 dn=>q v G' H' (e1.trans e2) dn⟩⟩) λus s2 ⟨vs,H2,I2,r,q2⟩=>⟨I2.kIn,?_⟩) (az hn'.1) (mn hn'.2)
    exact Lo (dvs:=[]) F hr hb .nil O.goes I2 r (by rw[cM];exact q2)
  |_=>exact q.elim
end
noncomputable def OS(x:Str):Option (D->Option D):=
 if x="len" then some bj else if x="list" then some ky else if x="tuple" then some gf else if x="int" then some Gf else if x="str" then some qz else if x="abs" then some DZ else if x="all" then some su else none
section
variable{X:Cx}{B:Hp}{E:EK}{e a b:Expr}{es:List Expr}{g h:En->Res}{pos p:Pos}{x:Str}
def DA(O:XOk X C T E')(hf:OS x=some f)(hg:Gl X x)(hn:i7 e=true)(ha:jw X B E e g):f9 X B E (.Call (.Name x p) [e] [] pos) (g1 f g):=by
 unfold OS at hf
 by_cases h1:x="len"
 ·rw[aB h1]at hf;cases hf;subst h1;exact GJ hg (O.bl _ (by decide)) ha (az hn) rfl
 rw[aG h1]at hf
 by_cases h1:x="list"
 ·rw[aB h1]at hf;cases hf;subst h1;exact Uu (Jc O.calm hg (O.bl _ (by decide)) ha hn) P7
 rw[aG h1]at hf
 by_cases h1:x="tuple"
 ·rw[aB h1]at hf;cases hf;subst h1;exact Vp hg (O.bl _ (by decide)) ha (az hn) rfl
 rw[aG h1]at hf
 by_cases h1:x="int"
 ·rw[aB h1]at hf;cases hf;subst h1;exact Z5 hg (O.bl _ (by decide)) ha (az hn) rfl
 rw[aG h1]at hf
 by_cases h1:x="str"
 ·rw[aB h1]at hf;cases hf;subst h1;exact Z6 hg (O.bl _ (by decide)) ha (az hn) rfl
 rw[aG h1]at hf
 by_cases h1:x="abs"
 ·rw[aB h1]at hf;cases hf;subst h1;exact GR hg (O.bl _ (by decide)) ha (az hn) rfl
 rw[aG h1]at hf
 by_cases h1:x="all"
 ·rw[aB h1]at hf;cases hf;subst h1;exact GP O.calm hg (O.bl _ (by decide)) ha (az hn)
 rw[aG h1]at hf;cases hf
noncomputable def Nb(x:Str):Option String:=
 if x="int" then some "int" else if x="bool" then some "bool" else if x="str" then some "str" else if x="list" then some "list" else if x="tuple" then some "tuple" else none
def Yr(O:XOk X C T E')(hf:Nb y=some c)(hg:Gl X "isinstance")(hg2:Gl X y)(hn:i7 e=true)(ha:jw X B E e g):f9 X B E (.Call (.Name "isinstance" p) [e,.Name y p2] [] pos) (g1 (bq c) g):=by
 have he:aQ [e,.Name y p2] X.env=(false,eval e X.env)::aQ [.Name y p2] X.env:=az hn;unfold Nb at hf
 by_cases h1:y="int"
 ·rw[aB h1]at hf;cases hf;subst h1;exact B3 Ys hg (O.bl _ (by decide)) hg2 (O.bl _ (by decide)) iZ ha (by decide) (by decide) he rfl rfl
 rw[aG h1]at hf
 by_cases h1:y="bool"
 ·rw[aB h1]at hf;cases hf;subst h1;exact B3 Tu hg (O.bl _ (by decide)) hg2 (O.bl _ (by decide)) PyProof.Rows.boot_bool ha (by decide) (by decide) he rfl rfl
 rw[aG h1]at hf
 by_cases h1:y="str"
 ·rw[aB h1]at hf;cases hf;subst h1;exact B3 Yt hg (O.bl _ (by decide)) hg2 (O.bl _ (by decide)) PyProof.Rows.boot_str ha (by decide) (by decide) he rfl rfl
 rw[aG h1]at hf
 by_cases h1:y="list"
 ·rw[aB h1]at hf;cases hf;subst h1;exact B3 Tv hg (O.bl _ (by decide)) hg2 (O.bl _ (by decide)) iT ha (by decide) (by decide) he rfl rfl
 rw[aG h1]at hf
 by_cases h1:y="tuple"
 ·rw[aB h1]at hf;cases hf;subst h1;exact B3 Qb hg (O.bl _ (by decide)) hg2 (O.bl _ (by decide)) PyProof.Rows.boot_tuple ha (by decide) (by decide) he rfl rfl
 rw[aG h1]at hf;cases hf
end
noncomputable def V7(C:SC)(n:Str)(a:Expr):Option Expr:=match a with
 |.Call (.Name y _) [e] [] _=>if decide (y=n) && decide (slot C y=none) && rh C y && i7 e then some e else none
 |_=>none
noncomputable def Lw(ev:Ev)(C:SC)(x:Str)(args:List Expr):En->Res:=match args with
 | [a] => (match V7 C "set" a with
  |some e=>ko
  | none => (match OS x with
    |some f=>if i7 a then g1 f (oo ev C a)else ko
    |none=>ko))
 | [a, .Name y _] => if x = "isinstance" then (match Nb y with
   |some c=>if i7 a && rh C y then g1 (bq c) (oo ev C a)else ko
   |none=>ko)else ko
 |_=>ko
noncomputable def xu(T:GT)(ev:Ev)(C:SC)(x:Str)(args:List Expr):En->Res:=match slot C x with
 | some i => (match args with
  |[]=>ko
  |e::es=>if(e::es).all i7 then Kx T ev C i (e::es)else ko)
 | none => if rh C x then (match T.fns x with
  | some s => (match args with
   |[]=>if s.ms=[]then(λ_=>s.f [])else ko
   |e::es=>if(e::es).all i7 then ao s.f (D4 ev C s.ms (e::es))else ko)
  |none=>Lw ev C x args)else ko
section
variable{T:GT}{ev tv:Ev}{X:Cx}{C:SC}{B:Hp}{E:XK}{pos p:Pos}{x:Str}{e a:Expr}{es:List Expr}
def KS(h:g8 T ev)(O:XOk X C T E)(hg:Gl X x):f9 X B (ek (kx X) E) (.Call (.Name x p) args [] pos) (Lw ev C x args):=by
 unfold Lw;split
 ·rename_i a;cases hs:V7 C "set" a with
  |some e=>
   exact c8
  |none=>
   dsimp only;cases hf:OS x with
   |none=>exact c8
   |some f=>
    dsimp only
    by_cases hn:i7 a=true
    ·rw[aB hn];exact DA O hf hg hn (di h O a)
    ·rw[aG hn];exact c8
 ·rename_i a y p2
  by_cases hx:x="isinstance"
  ·subst hx;rw[aB rfl];cases hf:Nb y with
   |none=>exact c8
   |some c=>
    dsimp only
    by_cases hn:(i7 a && rh C y)=true
    ·rw[aB hn];rw[aA]at hn;exact Yr O hf hg (O.gl hn.2).1 hn.1 (di h O a)
    ·rw[aG hn];exact c8
  ·rw[aG hx];exact c8
 ·exact c8
def X5(h:g8 T ev)(O:XOk X C T E):f9 X B (ek (kx X) E) (.Call (.Name x p) args [] pos) (xu T ev C x args):=by
 unfold xu;cases hs:slot C x with
 |some i=>
  cases args with
  |nil=>exact c8
  |cons e es=>
   dsimp only
   by_cases hn:(e::es).all i7=true
   ·rw[aB hn];exact R8 h O hs hn
   ·rw[aG hn];exact c8
 |none=>
  dsimp only
  by_cases hg:rh C x=true
  ·rw[aB hg];obtain⟨g1,g2⟩:=O.gl hg;cases ef:T.fns x with
   |none=>exact KS h O g1
   |some s=>
    obtain⟨k,f,fd,ps,hr,hm,hk,hb,F⟩:=O.fns x s ef;cases args with
    |nil=>
     dsimp only
     by_cases hms:s.ms=[]
     ·rw[aB hms];rw[hms]at F;exact Vj F hr g1 hm hk hb O.goes g2
     ·rw[aG hms];exact c8
    |cons e es=>
     dsimp only
     by_cases hn:(e::es).all i7=true
     ·rw[aB hn];have hn':=hn;rw[bK,aA]at hn';exact Z1 F hr g1 hm hk hb O.goes (tq h O hn) g2 (az hn'.1) (mn hn'.2)
     ·rw[aG hn];exact c8
  ·rw[aG hg];exact c8
end
def vf(C:SC)(x:Str):Bool:=decide (x="range") && decide (slot C x=none) && rh C x
noncomputable def Ca(ev:Ev)(C:SC)(iter:Expr):En->ResL:=match iter with
 |.Call (.Name x _) [a] [] _=>if vf C x && i7 a then mv (D4 ev C [true] [a])else bc (oo ev C iter)
 |_=>bc (oo ev C iter)
def ES(ev:Ev)(C:SC)(e:Expr):En->Res:=match e with
 | .Name x _ => (match slot C x with
  |some i=>H8 i
  |none=>ev C e)
 |_=>ev C e
noncomputable def Wj(ev:Ev)(C:SC)(iter:Expr):En->ResL:=match iter with
 |.Call (.Name x _) [a] [] _=>if vf C x && i7 a then mv (D4 ev C [true] [a])else bc (ES ev C iter)
 |_=>bc (ES ev C iter)
section
variable{T:GT}{ev tv:Ev}{X:Cx}{C:SC}{B:Hp}{E:XK}{pos p:Pos}{x:Str}{e a tg:Expr}{es:List Expr}
def BD(h:g8 T ev)(O:XOk X C T E)(e:Expr):JX X B (ek (kx X) E) e (ES ev C e):=by
 have d:JX X B (ek (kx X) E) e (ev C e):=KQ (h X C B E e O);cases e with
 |Name x p=>
  show JX X B _ _ (match slot C x with
   |some i=>H8 i
   |none=>ev C (.Name x p))
  cases es:slot C x with
  |none=>exact d
  |some i=>exact EX i (O.var es)
 |_=>exact d
def Jk(O:XOk X C T E)(h:vf C x=true):x="range"/\Gl X "range"/\X.mg "range"=none:=by
 unfold vf at h;simp only[aA,decide_eq_true_eq]at h;obtain⟨⟨h1,h2⟩,h3⟩:=h;subst h1;exact⟨rfl,(O.gl h3).1,O.bl _ (by decide)⟩
def QC(h:g8 T ev)(O:XOk X C T E)(e:Expr):JW X B (ek (kx X) E) tg e (Wj ev C e):=by
 unfold Wj;split
 ·rename_i x _ a _
  by_cases hc:(vf C x && i7 a)=true
  ·rw[aB hc];rw[aA]at hc;obtain⟨rfl,g1,g2⟩:=Jk O hc.1;exact N2 g1 g2 (tq h O (by rw[bK,hc.2];rfl)) (az hc.2)
  ·rw[aG hc];exact U6 (BD h O _)
 ·exact U6 (BD h O _)
def Gp(ev:Ev)(C:SC)(tg iter:Expr):En->ResL:=Wj ev C iter
def CL(h:g8 T ev)(O:XOk X C T E)(e:Expr):JW X B (ek (kx X) E) tg e (Gp ev C tg e):=by
 exact QC h O e
def Tf(h:g8 T ev)(O:XOk X C T E)(e:Expr):Pf X B (ek (kx X) E) tg e (Ca ev C e):=by
 unfold Ca;split
 ·rename_i x _ a _
  by_cases hc:(vf C x && i7 a)=true
  ·rw[aB hc];rw[aA]at hc;obtain⟨rfl,g1,g2⟩:=Jk O hc.1;exact U7 (N2 g1 g2 (tq h O (by rw[bK,hc.2];rfl)) (az hc.2))
  ·rw[aG hc];exact N4 (di h O _)
 ·exact N4 (di h O _)
end
def OR(m:Str):Option (D->D->Option D):=
 if m="startswith" then some yu else if m="endswith" then some Lj else if m="find" then some n8 else if m="split" then some c9 else if m="partition" then some n9 else if m="join" then some jt else none
def FT{ap cp:Pos}(hf:OR m=some f)(ho:jw X B E o g)(ha:jw X B E a h)(hb:ur o=true)(hn:i7 a=true)(hl:(ap.endLine==cp.line)=true):f9 X B E (.Call (.Attribute o m ap) [a] [] cp) (lg f g h):=by
 unfold OR at hf
 by_cases h1:m="startswith"
 ·rw[aB h1]at hf;cases hf;subst h1;exact Ei PySem.F.slot_str_startswith PySem.F.type_str_startswith LY ho ha (gr hb) hn hl
 rw[aG h1]at hf
 by_cases h1:m="endswith"
 ·rw[aB h1]at hf;cases hf;subst h1;exact Ei PySem.F.slot_str_endswith PySem.F.type_str_endswith KB ho ha (gr hb) hn hl
 rw[aG h1]at hf
 by_cases h1:m="find"
 ·rw[aB h1]at hf;cases hf;subst h1;exact Ei PySem.F.slot_str_find PySem.F.type_str_find Y2 ho ha (gr hb) hn hl
 rw[aG h1]at hf
 by_cases h1:m="split"
 ·rw[aB h1]at hf;cases hf;subst h1;exact Ei gE PySem.F.type_str_split Ub ho ha (gr hb) hn hl
 rw[aG h1]at hf
 by_cases h1:m="partition"
 ·rw[aB h1]at hf;cases hf;subst h1;exact Ei PySem.F.slot_str_partition PySem.F.type_str_partition Y4 ho ha (gr hb) hn hl
 rw[aG h1]at hf
 by_cases h1:m="join"
 ·rw[aB h1]at hf;cases hf;subst h1;exact Ei PySem.F.slot_str_join PySem.F.type_str_join Y3 ho ha (gr hb) hn hl
 rw[aG h1]at hf;cases hf
noncomputable def Ot(ev:Ev)(C:SC)(o:Expr)(m:Str)(args:List Expr):En->Res:=match args with
 | [a] => if ur o && i7 a then (if m = "index" then gM o9 (oo ev C o) (oo ev C a) else if m = "count" then gM As (oo ev C o) (oo ev C a) else (match OR m with
  |some f=>lg f (oo ev C o) (oo ev C a)
  |none=>ko))else ko
 |[a,b]=>if ur o && i7 a && i7 b then(if m="get" then xh (oo ev C o) (oo ev C a) (ev C b)else ko)else ko
 |_=>ko
def RY(h:g8 T ev)(O:XOk X C T E){ap cp:Pos}(hl:(ap.endLine==cp.line)=true):f9 X B (ek (kx X) E) (.Call (.Attribute o m ap) args [] cp) (Ot ev C o m args):=by
 unfold Ot;split
 ·rename_i a
  by_cases hc:(ur o && i7 a)=true
  ·rw[aB hc];rw[aA]at hc
   by_cases hm:m="index"
   ·subst hm;rw[aB rfl];exact Vm O.units (di h O o) (di h O a) hc.1 hc.2 hl
   ·rw[aG hm]
    by_cases hm:m="count"
    ·subst hm;rw[aB rfl];exact Vl O.units (di h O o) (di h O a) hc.1 hc.2 hl
    ·rw[aG hm];cases hf:OR m with
     |none=>exact c8
     |some f=>exact FT hf (di h O o) (di h O a) hc.1 hc.2 hl
  ·rw[aG hc];exact c8
 ·rename_i a b
  by_cases hc:(ur o && i7 a && i7 b)=true
  ·rw[aB hc];rw[aA,aA]at hc;obtain⟨⟨h1,h2⟩,h3⟩:=hc
   by_cases hm:m="get"
   ·subst hm;rw[aB rfl];have hu:X.A.units+5<dO:=by have:=O.units;lia
    exact Z3 hu (di h O o) (di h O a) (h X C B E b O) ⟨gr h1,by rw[q9 (by rw[bK,bK,h2,h3];rfl)];rfl,hl,Ju h2 h3⟩
   ·rw[aG hm];exact c8
  ·rw[aG hc];exact c8
 ·exact c8
def SV(C:SC):Expr->Bool
 |.Call (.Name f _) _ _ _=> !C.blk && UI.contains f
 |_=>false
noncomputable def oh(ev tv:Ev)(C:SC)(elt:Expr)(gens:List Comprehension)(scope:eS):En->Res:=match gens with
 | [⟨.Name x _, iter, ifs, 0⟩] => if ub C scope [x] && my iter then (match slots C (gi scope.names) with
  | some ix => (match ifs with
   |[]=>if SV C elt then wj (Ca ev C iter) ix (ev (j7 C scope [x]) elt)else cm (Ca ev C iter) ix (gC (.bl true)) (ev (j7 C scope [x]) elt)
   |[c]=>cm (Ca ev C iter) ix (tv (j7 C scope [x]) c) (ev (j7 C scope [x]) elt)
   |_=>ko)
  |none=>ko)else ko
 | [⟨.Tuple [.Name x px, .Name y py] k tp, iter, [], 0⟩] => if ub C scope [x, y] && my iter then (match slots C (gi scope.names) with
  |some ix=>ug (Gp ev C (.Tuple [.Name x px,.Name y py] k tp) iter) (u4 ix (ev (j7 C scope [x,y]) elt))
  |none=>ko)else ko
 |_=>ko
inductive CompV(X:Cx)(B:Hp)(E:EK)(elt:Expr)(gens:List Comprehension)(scope:eS)(G:En->Res):Prop
 |st (h:G=ko)
 |ok {tg iter:Expr} {ifs:List Expr} {xs M:List Str} {ix:List Nat} {td:D->Option (List D)} {t g:En->Res} {r:En->ResL} {F:En->D->TR} {E2:XK} (eg:gens=[⟨tg,iter,ifs,0⟩]) (eG:G=r8 r F)
  (st:X.Ok->∃cl,CompOk X scope cl xs M ix/\BlockOk X B E2 scope cl xs M tg td elt ifs t g) (hA:Ro X E2) (hF:∀U,Az td (k9 ix U) t g (F U)) (hE:Xm E (ek (kx X) E2) F) (hi:Pf X B E tg iter r) (hs:∀x,fL iter X.env x=pure x)
section
variable{T:GT}{ev tv:Ev}{X:Cx}{C:SC}{B:Hp}{E:XK}{pos p:Pos}{elt:Expr}
def CY(h:g8 T ev)(ht:C3 T tv)(O:XOk X C T E):CompV X B (ek (kx X) E) elt gens scope (oh ev tv C elt gens scope):=by
 unfold oh;split
 ·rename_i x px iter ifs
  by_cases hc:(ub C scope [x] && my iter)=true
  ·rw[aB hc];rw[aA]at hc;obtain⟨hc,hset⟩:=hc;cases hx:slots C (gi scope.names)with
   |none=>exact .st rfl
   |some ix=>
    dsimp only;cases ifs with
    |nil=>
     dsimp only
     by_cases hq:SV C elt=true
     ·rw[aB hq];have bk:C.blk=false:=by
       unfold SV at hq;split at hq
       ·rw[aA]at hq;simpa using hq.1
       ·cases hq
      refine .ok (tg:=.Name x px) (td:=JO) (ifs:=[]) (xs:=[x]) (M:=gi scope.names) (ix:=ix) (t:=gC (.bl true)) (g:=ev (j7 C scope [x]) elt) (E2:=E) rfl rfl (λok=>?_) (.inr ⟨(O.top bk).1,(O.top bk).2.1,(O.top bk).2.2,O.acc⟩) (λU=>NH) (λ_ _ _ _ _ q=>q) (Tf h O iter) (nz hset);obtain⟨cl,O2⟩:=o3 O ok hc hx;exact⟨cl,O2,Gu O2,.inl ⟨rfl,rfl⟩,λCc s₀ H₀ ex pn ac=>h _ _ B E elt (ud O hc Cc s₀ H₀ ex pn ac)⟩
     ·rw[aG hq];refine .ok (tg:=.Name x px) (td:=JO) (ifs:=[]) (xs:=[x]) (M:=gi scope.names) (ix:=ix) (t:=gC (.bl true)) (g:=ev (j7 C scope [x]) elt) (E2:=E0) rfl (Bi (f:=v8 ix (gC (.bl true)) (ev (j7 C scope [x]) elt))) (λok=>?_) (.inl rfl) (λU=>W4.tr) Kt (Tf h O iter) (nz hset);obtain⟨cl,O2⟩:=o3 O ok hc hx;exact⟨cl,O2,Gu O2,.inl ⟨rfl,rfl⟩,λCc s₀ H₀ ex pn ac=>h _ _ B E0 elt (ud O hc Cc s₀ H₀ ex pn ac)⟩
    |cons c r=>
     cases r with
     |nil=>
      refine .ok (tg:=.Name x px) (td:=JO) (ifs:=[c]) (xs:=[x]) (M:=gi scope.names) (ix:=ix) (t:=tv (j7 C scope [x]) c) (g:=ev (j7 C scope [x]) elt) (E2:=E0) rfl (Bi (f:=v8 ix (tv (j7 C scope [x]) c) (ev (j7 C scope [x]) elt))) (λok=>?_) (.inl rfl) (λU=>W4.tr) Kt (Tf h O iter) (nz hset);obtain⟨cl,O2⟩:=o3 O ok hc hx;exact⟨cl,O2,Gu O2,.inr ⟨c,rfl,λCc s₀ H₀ ex pn=>ht _ _ B E0 c (ud O hc Cc s₀ H₀ ex pn wz)⟩,λCc s₀ H₀ ex pn ac=>h _ _ B E0 elt (ud O hc Cc s₀ H₀ ex pn ac)⟩
     |cons _ _=>exact .st rfl
  ·rw[aG hc];exact .st rfl
 ·rename_i x px y py k tp iter
  by_cases hc:(ub C scope [x,y] && my iter)=true
  ·rw[aB hc];rw[aA]at hc;obtain⟨hc,hset⟩:=hc;cases hx:slots C (gi scope.names)with
   |none=>exact .st rfl
   |some ix=>
    dsimp only;refine .ok (tg:=.Tuple [.Name x px,.Name y py] k tp) (td:=NJ) (ifs:=[]) (xs:=[x,y]) (M:=gi scope.names) (ix:=ix) (t:=gC (.bl true)) (g:=ev (j7 C scope [x,y]) elt) (E2:=E0) rfl (Bi (f:=u4 ix (ev (j7 C scope [x,y]) elt))) (λok=>?_) (.inl rfl) (λU=>IH.tr) Kt (U7 (CL h O iter)) (nz hset);obtain⟨cl,O2⟩:=o3 O ok hc hx;exact⟨cl,O2,Ww O2 O.calm,.inl ⟨rfl,rfl⟩,λCc s₀ H₀ ex pn ac=>h _ _ B E0 elt (ud O hc Cc s₀ H₀ ex pn ac)⟩
  ·rw[aG hc];exact .st rfl
 ·exact .st rfl
def A5(h:g8 T ev)(ht:C3 T tv)(O:XOk X C T E):Xf X B (ek (kx X) E) (.ListComp elt gens scope pos) (oh ev tv C elt gens scope)/\JE (oh ev tv C elt gens scope):=by
 cases CY (B:=B) (elt:=elt) (gens:=gens) (scope:=scope) h ht O with
 |st e=>rw[e];exact⟨LM,λU d h=>by cases h⟩
 |ok eg eG st hA hF hE hi hs=>
  rw[eG];subst eg;refine⟨λpins s Z H Q I q=>?_,P6⟩;obtain⟨cl,O2,Bk⟩:=st I.ok;exact Ur O2 O.calm hA Bk hF hE hi hs pins s Z H Q I q
end
end Pu
end
section
namespace Pu
open PySem PySem.Spec PyProof.Rows L2 HT
section
variable{prog:bN}{w:cH}{A:cO}{E:aC->aK->Prop}{s:aK}
def Dg{t sl:Addr}{items:Array aC}{vl vu:aC}{lo hi:Option Int}{Q:aC->aK->Prop}(ht:IsTup s.heap t items)(hs:s.heap.IsSliceOf sl vl vu .none)(pl:lO vl lo)(pu:lO vu hi)
  (hw:HT.j6 items.size 0 lo=0/\HT.j6 items.size items.size hi=items.size)(h:Q (.ref t) s):bA (bE prog w) A (kY (.ref t) (.ref sl)) Q E s:=by
 obtain⟨os,hos,hcs,hds⟩:=id hs;have hTs:s.TypeIs (.ref sl) "slice":=⟨os,hos,hcs⟩;unfold kY
 try with_reducible refine fR ?_
 first|refine aE (aT ?_)|skip
 refine aE (wpAny_sequenceKey ht.typeIs (by decide) ?_);refine aE (wpAny_callSpecial?_slot (name:=Str.ofString "__getitem__") ht.typeIs dW (jA dW ht.typeIs entry_tuple_getitem ?_ (args_tuple_getitem _ _)));show bA _ _ (gQ (.ref t)>>=_) _ _ s;refine aE (tupleItemsOf_ ht ?_);refine aE (wpAny_typeOf hTs ?_);rw[aB (by decide)];refine aE (HT.q8 hs pl pu ?_);show bA _ _ (if(((HT.j6 items.size 0 lo:Nat):Int)==0 && (1:Int)==1 && (HT.j6 items.size items.size hi - HT.j6 items.size 0 lo)==items.size)=true then _ else _) _ _ s;rw[aB (by rw[hw.1,hw.2];simp)];unfold Builtin.Tuple.tupleIsExact;refine aE (aE (wpAny_typeOf ht.typeIs (aT ?_)));rw[aB (by decide)];exact aE (wpAny_rule (aT ⟨_,rfl,aT h⟩))
end
section
variable{X:Cx}
def RQ(K:aP):V->Option Int->Option Int->Hp->VK->Prop:=λx lo hi H Q=>∃a xs,x=.ref a/\SqT K H a xs/\(HT.j6 xs.length 0 lo=0/\HT.j6 xs.length xs.length hi=xs.length)/\Q (.ref a) H
def V9:SlR X (RQ X.K):=by
 intro pins s Z H x v vl vu lo hi sl Q I rx hs pl pu h;obtain⟨a,xs,rfl,hx,hw,q⟩:=h;cases rx;obtain⟨its,r,ht,hz⟩:=I.tuple hx;have hlen:its.toArray.size=xs.length:=by rw[aZ];exact r.length.symm
 exact⟨"tuple",_,PyProof.Rows.slot_tuple_getitem.lookup,ht.typeIs,Dg ht hs pl pu (by rw[hlen];exact hw) ⟨.ref a,H,I,rfl,q⟩⟩
end
end Pu
end
section
namespace Pu
open PySem PySem.Spec PyProof.Rows L2
def Kk(xs:List D)(lo hi:Option Int):List D:=(xs.drop (HT.j6 xs.length 0 lo)).take (HT.j6 xs.length xs.length hi - HT.j6 xs.length 0 lo)
def Oa(d:D)(lo hi:Option Int):Option D:=match d with
 |.lst xs=>some (.lst (Kk xs lo hi))
 |.tup xs=>some (.tup (Kk xs lo hi))
 |.str z=>if z.length<=aD then some (.str (bO z lo hi))else none
 |_=>none
def Ib(ev:Ev)(C:SC)(o:Option Expr)(U:En):Option (Option Int):=match o with
 |none=>some none
 | some e => (match ev C e U with
  |.ok (.int i)=>some (some i)
  |_=>none)
def QD(o:Option (En->Res))(U:En):Option (Option Int):=match o with
 |none=>some none
 | some g => (match g U with
  |.ok (.int i)=>some (some i)
  |_=>none)
def jx(g:En->Res)(lo hi:Option (En->Res)):En->Res:=λU=>(g U).bind λd=>match QD lo U,QD hi U with
 |some l,some h=>Res.of (Oa d l h)
 |_,_=>.st
def Kz(ev:Ev)(C:SC)(a:Expr)(lo hi:Option Expr):En->Res:=jx (oo ev C a) (lo.map (ev C)) (hi.map (ev C))
def S6{o:Option Expr}:QD (o.map (ev C)) U=Ib ev C o U:=by cases o<;>rfl
def DenL.cut{K:KA}{G:Hp}{ds:List D}{vs:List V}(dl:DenL K G ds vs)(lo hi:Option Int):DenL K G (Kk ds lo hi) (Aa vs lo hi):=by
 unfold Kk Aa;rw[dl.length];exact(dl.drop _).take _
section
variable{T:GT}{ev tv:Ev}{X:Cx}{C:SC}{B:Hp}{E:XK}{pos p:Pos}{a:Expr}
def Nx(h:g8 T ev)(O:XOk X C T E):∃t:TO,PO X o t/\∀G U Z H l (Q:Option Int->Hp->Prop),EnvR (kx X) B G H Z U->Ib ev C o U=some l->(∀G' H',Ext G H G' H'->Q l H')->t Z H Q:=by
 cases o with
 |none=>
  refine⟨_,Zo,λG U Z H l Q R e q=>?_⟩;cases e;exact q G H (Ext.refl R.gh)
 |some e=>
  refine⟨_,Zp (h X C B E0 e O.none),λG U Z H l Q R ee q=>?_⟩;unfold Ib at ee;dsimp only at ee;cases eg:ev C e U with
  |ok d=>
   rw[eg]at ee;cases d with
   |int i=>
    cases ee;refine⟨G,U,R,?_⟩;rw[eg];exact λv G' H' x dn=>⟨i,dn,q G' H' x⟩
   |_=>cases ee
  |er c=>rw[eg]at ee;cases ee
  |st=>rw[eg]at ee;cases ee
def Wa(h:g8 T ev)(O:XOk X C T E){lo hi:Option Expr}{p2:Pos}:f9 X B (ek (kx X) E) (.Subscript a (.Slice lo hi none p2) pos) (Kz ev C a lo hi):=by
 obtain⟨tl,hl,ql⟩:=Nx (B:=B) h O (o:=lo);obtain⟨th,hh,qh⟩:=Nx (B:=B) h O (o:=hi);refine PE.imp (U3 (SlR.or AG (SlR.or (SlR.or IV V9) IW)) (di (B:=B) (E:=E) h O a) hl hh) λZ H Q ⟨G,U,R,q⟩=>⟨G,U,R,(ResP.bind q).mono λd _ q v G1 H1 e1 av=>?_⟩;rw[S6,S6]at q;cases el:Ib ev C lo U with
 |none=>rw[el]at q;exact q.elim
 |some l=>
  cases eh:Ib ev C hi U with
  |none=>rw[el,eh]at q;exact q.elim
  |some hh=>
   rw[el,eh]at q;obtain⟨d',ed,q⟩:=ResP.of q;refine ql G1 U Z H1 l _ (R.ext e1) el λG2 H2 e2=>qh G2 U Z H2 hh _ (R.ext (e1.trans e2)) eh λG3 H3 e3=>?_;have e13:=(e1.trans e2).trans e3;have av':=(av.ext e2).ext e3;unfold Oa at ed;split at ed
   ·rename_i xs;cases ed;obtain⟨l',vs,rfl,sq,dl⟩:=av'.lst e3.gh;exact .inl ⟨l',vs,rfl,sq,λp hp=>q _ (upd G3 p (.lst (Aa vs l hh))) _ (e13.trans (Ext.new e3.gh _ hp)) (A7 e3.gh hp (dl.cut l hh))⟩
   ·rename_i xs;cases ed;rcases av' with ⟨l',vs,rfl,s2,dl⟩|⟨_,_,_,z,_⟩|⟨_,_,_,z,_⟩
    case inr.inl=>cases z
    case inr.inr=>cases z
    have sq:SqT (kx X) H3 l' vs:=.inl (.inl (e3.gh _ _ s2))
    by_cases hw:HT.j6 vs.length 0 l=0/\HT.j6 vs.length vs.length hh=vs.length
    ·have ec:Aa vs l hh=vs:=by unfold Aa;rw[hw.1,hw.2,hG,kE,lL]
     have dc:=dl.cut l hh;rw[ec]at dc;exact .inr (.inl (.inr ⟨l',vs,rfl,sq,hw,q _ G3 H3 e13 ⟨l',vs,rfl,s2,dc⟩⟩))
    ·refine .inr (.inl (.inl ⟨l',vs,rfl,sq,hw,λp hp=>q _ (upd G3 p (.tup (Aa vs l hh))) _ (e13.trans (Ext.new e3.gh _ hp)) (uf e3.gh hp (dl.cut l hh))⟩))
   ·split at ed
    ·rename_i hz;cases ed;rw[av'.str];exact .inr (.inr ⟨_,rfl,hz,q _ G3 H3 e13 rfl⟩)
    ·cases ed
   ·cases ed
end
def Gn(ev:Ev)(C:SC)(a:Expr)(op:Operator)(b:Expr):En->Res:=(match X2 op with
  |some f=>g2 f (oo ev C a) (oo ev C b)
  |none=>ko)
def EY(h:g8 T ev)(O:XOk X C T E):f9 X B (ek (kx X) E) (.BinOp a op b pos) (Gn ev C a op b):=by
 have gen:f9 X B (ek (kx X) E) (.BinOp a op b pos) (match X2 op with
  |some f=>g2 f (oo ev C a) (oo ev C b)
  |none=>ko):=by
  cases hf:X2 op with
  |none=>exact c8
  |some f=>exact GN hf (di h O a) (di h O b)
 unfold Gn;exact gen
def Kw(ev:Ev)(C:SC)(e:Expr):Option (En->Res):=match e with
 | .Constant c _ _ => (match c with
  |.str x=>some (gC (.str x))
  |_=>none)
 |.FormattedValue e c o _=>if c=-1/\o.isNone=true then some (gS (ev C e))else none
 |_=>none
def yy(ev:Ev)(C:SC):List Expr->Option (List (En->Res))
 |[]=>some []
 |e::r=>match Kw ev C e,yy ev C r with
  |some g,some gs=>some (g::gs)
  |_,_=>none
def Pz(h:g8 T ev)(O:XOk X C T E)(hf:Kw ev C e=some g):f9 X B (ek (kx X) E) e g:=by
 cases e with
 |Constant c k p=>
  cases c with
  |str x=>cases hf;exact Vo
  |_=>cases hf
 |FormattedValue e c o p=>
  change (if c=-1/\o.isNone=true then some (gS (ev C e))else none)=some g at hf;split at hf
  ·rename_i hc;obtain⟨h1,h2⟩:=hc;cases o with
   |some _=>cases h2
   |none=>
    cases hf;subst h1;exact MZ (h X C B E e O)
  ·cases hf
 |_=>cases hf
theorem Ew(h:g8 T ev)(O:XOk X C T E):∀{es:List Expr}{gs:List (En->Res)},yy ev C es=some gs->Ai X B (ek (kx X) E) es gs
 |[],gs,hf=>by cases hf;trivial
 |e::r,gs,hf=>by
  unfold yy at hf;cases e1:Kw ev C e with
  |none=>rw[e1]at hf;cases hf
  |some g=>
   cases e2:yy ev C r with
   |none=>rw[e1,e2]at hf;cases hf
   |some gs'=>
    rw[e1,e2]at hf;cases hf;exact⟨Pz h O e1,Ew h O e2⟩
def QE(ev:Ev)(C:SC)(vs:List Expr):En->Res:=match vs with
 | v1 :: v2 :: r => (match yy ev C (v1 :: v2 :: r) with
  |some gs=>SL gs
  |none=>ko)
 |_=>ko
def KC(h:g8 T ev)(O:XOk X C T E):f9 X B (ek (kx X) E) (.JoinedStr vs pos) (QE ev C vs):=by
 unfold QE;split
 ·rename_i v1 v2 r;cases e:yy ev C (v1::v2::r)with
  |none=>exact c8
  |some gs=>exact LA (Ew h O e)
 ·exact c8
noncomputable def DU(T:GT)(ev tv:Ev)(C:SC)(e:Expr):En->Res:=match e with
 | .Constant c _ _ => (match c with
  |.none=>gC .non
  |.bool b=>gC (.bl b)
  |.int i=>gC (.int i)
  |.str x=>gC (.str x)
  |_=>ko)
 |.Name x _=>Cb T C x
 |.BinOp a op b _=>Gn ev C a op b
 | .UnaryOp op a _ => (match op with
  |.Not=>fy (ev C a)
  |.USub=>g1 dj (oo ev C a)
  |_=>ko)
 | .BoolOp op vs _ => (match op with
  |.And=>H0 (ev C) vs
  |.Or=>S5 (ev C) vs)
 |.IfExp c a b _=>Xi (tv C c) (ev C a) (ev C b)
 |.Compare l ops rs _=>xw ev C l ops rs
 |.Tuple es _ _=>if es.all i7 then k8 (vw ev C es)else ko
 |.List es _=>if es.all i7 then ie (vw ev C es)else ko
 | .Subscript a i _ => (match i with
  |.Slice lo hi none _=>Kz ev C a lo hi
  |i=>if wt i then g2 ar (oo ev C a) (oo ev C i)else ko)
 |.ListComp elt gens scope _=>oh ev tv C elt gens scope
 | .Dict ks vs _ => (match ks, vs with
  |[],[]=>gC (.dct false [])
  |_,_=>ko)
 |.JoinedStr vs _=>QE ev C vs
 | .Call f args kws cp => (match f, kws with
  |.Name x _,[]=>xu T ev C x args
  |.Attribute o m ap,[]=>if ap.endLine==cp.line then Ot ev C o m args else ko
  |_,_=>ko)
 |_=>ko
def dq(g:En->Res):En->Res:=g1 (λd=>bD (Dn d)) g
noncomputable def DS(T:GT)(ev tv:Ev)(C:SC)(e:Expr):En->Res:=match e with
 | .UnaryOp op a _ => (match op with
  |.Not=>fy (tv C a)
  |_=>g1 (λd=>bD (Dn d)) (oo ev C e))
 | .BoolOp op vs _ => (match op with
  |.And=>H0 (tv C) vs
  |.Or=>S5 (tv C) vs)
 |.Compare l ops rs _=>xw ev C l ops rs
 |e=>if Gc e then g1 (λd=>bD (Dn d)) (oo ev C e)else ko
section
variable{T:GT}{ev tv:Ev}
def Wi(h:g8 T ev)(ht:C3 T tv):g8 T (DU T ev tv):=by
 intro X C B E e O;cases e with
 |Constant c k p=>
  cases c with
  |none=>exact GE
  |bool b=>exact LC
  |int i=>exact GK
  |str x=>exact Vo
  |_=>exact c8
 |Name x p=>exact Y6 O
 |BinOp a op b p=>
  exact EY h O
 |UnaryOp op a p=>
  cases op with
  |Not=>exact GD (h X C B E a O)
  |USub=>exact GF (di h O a)
  |_=>exact c8
 |BoolOp op vs p=>
  cases op with
  |And=>exact Mj λe=>h X C B E e O
  |Or=>exact Uo λe=>h X C B E e O
 |IfExp c a b p=>exact MY (ht X C B E c O) (h X C B E a O) (h X C B E b O)
 |Compare l ops rs p=>exact(Sh h O).1
 |Tuple es k p=>
  show f9 X B _ _ (if es.all i7 then k8 (vw ev C es)else ko)
  by_cases hn:es.all i7=true
  ·rw[aB hn];exact GA w8 (xb h O hn)
  ·rw[aG hn];exact c8
 |List es p=>
  show f9 X B _ _ (if es.all i7 then ie (vw ev C es)else ko)
  by_cases hn:es.all i7=true
  ·rw[aB hn];exact GI w8 (xb h O hn)
  ·rw[aG hn];exact c8
 |Subscript a i p=>
  show f9 X B _ _ (match i with
   |.Slice lo hi none _=>Kz ev C a lo hi
   |i=>if wt i then g2 ar (oo ev C a) (oo ev C i)else ko)
  split
  ·exact Wa h O
  ·skip
   by_cases hp:wt i=true
   ·rw[aB hp];exact MX (by have:=O.units;lia) (di h O a) (di h O i) (Qs hp)
   ·rw[aG hp];exact c8
 |Dict ks vs p=>
  cases ks with
  |nil=>
   cases vs with
   |nil=>exact LB
   |cons _ _=>exact c8
  |cons _ _=>exact c8
 |JoinedStr vs p=>exact KC h O
 |ListComp elt gens scope p=>exact Uu (A5 h ht O).1 (A5 (X:=X) (B:=B) (E:=E) (pos:=p) h ht O).2
 |Call f args kws p=>
  show f9 X B _ _ (match f,kws with
   |.Name x _,[]=>xu T ev C x args
   |.Attribute o m ap,[]=>if ap.endLine==p.line then Ot ev C o m args else ko
   |_,_=>ko)
  split
  ·exact X5 h O
  ·rename_i o m ap
   by_cases hl:(ap.endLine==p.line)=true
   ·rw[aB hl];exact RY h O hl
   ·rw[aG hl];exact c8
  ·exact c8
 |_=>exact c8
def Wm(h:g8 T ev)(ht:C3 T tv):C3 T (DS T ev tv):=by
 intro X C B E e O;have pl:∀{e:Expr},Cv X B (ek (kx X) E) e (if Gc e then g1 (λd=>bD (Dn d)) (oo ev C e)else ko):=λ{e}=>by
  by_cases hp:Gc e=true
  ·rw[aB hp];exact Vh (di h O e) (Eh hp)
  ·rw[aG hp];exact zy
 cases e with
 |UnaryOp op a p=>
  cases op with
  |Not=>exact Z0 (ht X C B E a O)
  |_=>exact Vh (di h O _) (Eh rfl)
 |BoolOp op vs p=>
  cases op with
  |And=>exact LF (Ml λe=>ht X C B E e O)
  |Or=>exact LF (Up λe=>ht X C B E e O)
 |Compare l ops rs p=>exact(Sh h O).2
 |_=>exact pl
end
def gP(T:GT):Nat->Bool->Ev
 |0,_=>λ_ _=>ko
 |n+1,false=>DU T (gP T n false) (gP T n true)
 |n+1,true=>DS T (gP T n false) (gP T n true)
theorem D5(T:GT):∀n,g8 T (gP T n false)/\C3 T (gP T n true)
 |0=>⟨λ_ _ _ _ _ _=>c8,λ_ _ _ _ _ _=>zy⟩
 |n+1=>⟨Wi (D5 T n).1 (D5 T n).2,Wm (D5 T n).1 (D5 T n).2⟩
noncomputable def frz(i:Nat)(U:En):En:=match U[i]? with
 |some (.ow ds)=>U.set i (.pu (.lst ds))
 |some (.od t kvs)=>U.set i (.pu (.dct t kvs))
 |_=>U
def frzs(is:List Nat)(U:En):En:=is.foldl (λU i=>frz i U) U
section
variable{K:KA}{B G0 G H:Hp}{Z:St}{U:En}
def SlOk.gmono(e:Same G G')(h:SlOk K B G H s o):SlOk K B G' H s o:=by
 cases s with
 |no=>trivial
 |pu d=>obtain⟨v,h1,h2⟩:=h;exact⟨v,h1,h2.mono e⟩
 |bo d=>obtain⟨v,h1,h2⟩:=h;exact⟨v,h1,KY e h2⟩
 |ow ds=>obtain⟨a,vs,h1,h2,h3⟩:=h;exact⟨a,vs,h1,h2,h3.mono e⟩
 |od t kvs=>
  cases t with
  |false=>obtain⟨a,vs,h1,h2,h3⟩:=h;exact⟨a,vs,h1,h2,h3.mono e⟩
  |true=>obtain⟨a,vs,h1,h2,h3⟩:=h;exact⟨a,vs,h1,h2,h3.mono e⟩
def Ext.frzO(e:Ext G0 B G H)(bn:B a=none)(gn:G a=none)(h:H a=some o):Ext G0 B (upd G a o) H:=by
 refine⟨e.gg.trans (f7 gn _),e.hh,λb u q=>?_,λb u q g z=>?_⟩
 ·by_cases z:b=a
  ·subst z;rw[bz]at q;rw[h];exact q
  ·rw[bt z]at q;exact e.gh b u q
 ·rw[bt (c7 q bn)];exact e.fr b u q g z
def EnvR.frzAt(R:EnvR K B G H Z U){s:Sl}(hi:U[i]?=some s)(ho:s.own=true)(hs:Z[i]?=some (some (V.ref a)))(ha:H a=some o)(hd:Den K (upd G a o) d (.ref a)):
  EnvR K B (upd G a o) H Z (U.set i (.pu d)):=by
 obtain⟨gn,bn⟩:=R.own i s a hi ho hs;have hl:i<U.length:=(List.getElem?_eq_some_iff.mp hi).1;have sm:Same G (upd G a o):=f7 gn _;refine⟨R.bh,λb u q=>?_,by rw[bJ];exact R.len,λj t q=>?_,λj t b q1 q2 q3=>?_,λj k t u b q1 q2 q3 q4 q5 q6=>?_,R.gb⟩
 ·by_cases z:b=a
  ·subst z;rw[bz]at q;rw[ha];exact q
  ·rw[bt z]at q;exact R.gh b u q
 ·by_cases z:i=j
  ·subst z;rw[aL hl]at q;cases q;exact⟨_,hs,_,rfl,hd⟩
  ·rw[aN z]at q;obtain⟨o',z1,z2⟩:=R.sl j t q;exact⟨o',z1,z2.gmono sm⟩
 ·by_cases z:i=j
  ·subst z;rw[aL hl]at q1;cases q1;cases q2
  ·rw[aN z]at q1;obtain⟨g,b'⟩:=R.own j t b q1 q2 q3;refine⟨?_,b'⟩;have nb:b≠a:=by
    rintro rfl
    exact z (R.dis i j _ _ b hi q1 ho q2 hs q3)
   rw[bt nb];exact g
 ·have hj:i≠j:=by
   rintro rfl
   rw[aL hl]at q1;cases q1;cases q3
  have hk:i≠k:=by
   rintro rfl
   rw[aL hl]at q2;cases q2;cases q4
  rw[aN hj]at q1;rw[aN hk]at q2;exact R.dis j k t u b q1 q2 q3 q4 q5 q6
theorem EnvR.frz(R:EnvR K B G H Z U)(e:Ext G0 B G H)(i:Nat):∃G',Same G G'/\EnvR K B G' H Z (frz i U)/\Ext G0 B G' H:=by
 unfold Pu.frz;cases ed:U[i]? with
 |none=>exact⟨G,Same.refl G,R,e⟩
 |some s=>
  cases s with
  |ow ds=>
   obtain⟨a,vs,q1,q2,q3,gn,bn⟩:=R.owAt ed;exact⟨_,f7 gn _,R.frzAt ed rfl q1 q2 ⟨a,vs,rfl,SqL.of bz,q3.mono (f7 gn _)⟩,e.frzO bn gn q2⟩
  |od t kvs=>
   obtain⟨o,q1,q2⟩:=R.sl i _ ed;cases t with
   |false=>
    obtain⟨a,es,rfl,q3,q4⟩:=q2;obtain⟨gn,bn⟩:=R.own i _ a ed rfl q1;exact⟨_,f7 gn _,R.frzAt ed rfl q1 q3 ⟨a,rfl,.inl ⟨rfl,es,bz,q4.mono (f7 gn _)⟩⟩,e.frzO bn gn q3⟩
   |true=>
    obtain⟨a,es,rfl,q3,q4⟩:=q2;obtain⟨gn,bn⟩:=R.own i _ a ed rfl q1;exact⟨_,f7 gn _,R.frzAt ed rfl q1 q3 ⟨a,rfl,.inr ⟨rfl,es,bz,q4.mono (f7 gn _)⟩⟩,e.frzO bn gn q3⟩
  |no=>exact⟨G,Same.refl G,R,e⟩
  |pu _=>exact⟨G,Same.refl G,R,e⟩
  |bo _=>exact⟨G,Same.refl G,R,e⟩
theorem EnvR.frzs:∀(is:List Nat){G:Hp}{U:En},EnvR K B G H Z U->Ext G0 B G H->∃G',Same G G'/\EnvR K B G' H Z (frzs is U)/\Ext G0 B G' H
 |[],G,U,R,e=>⟨G,Same.refl G,R,e⟩
 |i::is,G,U,R,e=>by
  obtain⟨G1,s1,R1,e1⟩:=R.frz e i;obtain⟨G2,s2,R2,e2⟩:=EnvR.frzs is R1 e1;exact⟨G2,s1.trans s2,R2,e2⟩
end
section
variable{X:Cx}{G0 B:Hp}{E:EK}{st:Stmt}{F:En->Out}
def MD(is:List Nat)(h:ph X G0 B E st F):ph X G0 B E st (λU=>F (frzs is U)):=PS.imp h λD Z H ⟨G,U,R,e,q⟩=>by
 obtain⟨G',s,R',e'⟩:=EnvR.frzs is R e;exact⟨G',_,R',e',OutP.same s q⟩
end
section
variable{X:Cx}{G0 B:Hp}{E:EK}{scope:eS}{cl:List (Str×Addr)}{xs:List Str}{y:Str}{M:List Str}{ix:List Nat}{elt iter tg:Expr}{ifs:List Expr}{pos pos' lpos:Pos}{r:En->ResL}{t g:En->Res}{i:Nat}{td:D->Option (List D)}{F:En->D->TR}{E':XK}
def HG(O:CompOk X scope cl xs M ix)(hc:X.calm=true)(hA:Ro X E')(Bk:BlockOk X B E' scope cl xs M tg td elt ifs t g)(hF:∀U,Az td (k9 ix U) t g (F U))(hE:Xm E (ek (kx X) E') F)(hi:Pf X B E tg iter r)(hN:X.N.Nodup)(hy:X.N[i]?=some y)(hl:L2.Xo X.env.scope y)(hf:X.fn y=true)
  (hs:∀x,fL iter X.env x=pure x)(hsw:dY (.ListComp elt [⟨tg,iter,ifs,0⟩] scope lpos) (some (.Name y pos')) pos.line X.env=pure true):
  ph X G0 B E (.Assign [.Name y pos'] (.ListComp elt [⟨tg,iter,ifs,0⟩] scope lpos) pos) (lh i (r8 r F)):=by
 intro pins s Z H D I ⟨G,U,R,ex,q⟩;have q:=sx ex q;rw[exec_Assign_Name_used _ _ _ _ hsw,arm_evalThenUse_ListComp];refine aE (iD ?_);refine aE (aE ?_);refine wpAny_comprehension_free (use:=some (assign (.Name y pos') X.env)) (Q:=λ_ s'=>bA (bE X.prog X.w) X.A (pure PUnit.unit:Sem PUnit) (λ_ s'=>bA (bE X.prog X.w) X.A (pure Flow.next:Sem Flow) (SP X pins D) X.xe s') X.xe s') rfl hs (vt O.clos) O.kind O.names ?_;refine bQ (hi pins s Z H (λJ H1=>∃G1 ds,Ext G H G1 H1/\Cu (kx X) J ds (λG2 H2=>Ext G1 H1 G2 H2)/\ds.length<=aD/\ResLP E G H (lb (F U) ds) λys=>OutP (kx X) G0 B E G (.nx (U.set i (.ow ys))) D) I
  ⟨G,U,R,(CZ q).mono λds _ ⟨hl,q⟩ J G1 H1 e1 ok=>⟨G1,ds,e1,ok,hl,q⟩⟩) (λv s1 h1=>bQ h1 (λitv s2 h2=>?_) λ_ _ e=>e) λ_ _ e=>e
 obtain⟨it,fp,tn,J,H1,rfl,I1,T,st,hfp,G1,ds,e1,ok,hl',q⟩:=h2;refine Hm (RR:=λacc C=>compPost (bE X.prog X.w) X.A X.xe (some (assign (.Name y pos') X.env)) (λ_ s'=>bA (bE X.prog X.w) X.A (pure PUnit.unit:Sem PUnit) (λ_ s'=>bA (bE X.prog X.w) X.A (pure Flow.next:Sem Flow) (SP X pins D) X.xe s') X.xe s') acc C) O hc hA Bk I1 T st hfp (R.ext e1) ok hl' (hF U) (λ_ _ z=>z) (((q.ext e1).er (hE U ds)).mono λys _ q=>?_);intro s3 H3 G3 vs m I3 hm hC e3 g3 h3 dl;have hsz:s2.heap.objs.size<=s2.heap.objs.size+1:=jL _;have ltL:X.env.locals<s2.heap.objs.size:=I1.lt;have ltc:∀y c,X.env.cells.lookup y=some c->c<s2.heap.objs.size:=λy c e=>by
  obtain⟨v',q'⟩:=I1.cell y c e;exact q'.lt
 refine wpAny_assign_Name (y0 (v:=.ref s2.heap.objs.size) I3 hN hy hl rfl (λs4 I4 ⟨a,hsb,ha⟩=>?_) (.inl hf));have la:a<s2.heap.objs.size:=by
  rcases ha with z|z
  ·rw[z];exact ltL
  ·exact ltc _ _ z
 have na:s2.heap.objs.size+1≠a:=(vi la).symm;refine⟨m,hm.sameBut hsb na,λh' hs'=>aT (aT ⟨Z.set i (some (V.ref s2.heap.objs.size)),H3,?_,?_⟩)⟩
 ·refine I4.turned (t':=s4.toks) (it:=s2.heap.objs.size+1) (λb o hb e=>hs'.extBut b o hb e) hC ?_ (.inr (bC I1.sz hsz)) ?_ ?_
  ·exact(vi ltL).symm
  ·intro z c hc';exact vi (ltc z c hc')
  ·intro p hp z;exact absurd (aW (aX (I1.pin p hp).1) (bC hsz (eC z.symm))) (cK _)
 ·exact q _ G3 H3 (e1.trans e3).gg (R.setO (e1.trans e3) (ff e1.hh (I1.hok.fresh (aO _))) g3 h3 dl) (ex.trans (e1.trans e3))
end
structure SOk(X:Cx)(C:SC)(T:GT)(E:XK):Prop extends XOk X C T E where
 fn:∀x,x∉vg->X.fn x=true
 pass:PassesOwn (bE X.prog X.w) X.A X.env X.xe
 stk:X.stack=X.env::X.outer
 frm:X.env.frame=some X.env.locals
 ex0:X.ex=[]
def qm(C:SC)(x:Str):Option Nat:=if Ig C.sc x && pz x && decide (x∉vg)then Ts x C.N 0 else none
def xl{C:SC}(h:qm C x=some i):C.N[i]?=some x/\Ig C.sc x=true/\x∉vg:=by
 unfold qm at h
 by_cases e:(Ig C.sc x && pz x && decide (x∉vg))=true
 ·rw[aB e]at h;rw[aA,aA]at e;obtain⟨_,q⟩:=Fz h;exact⟨by simpa using q,e.1.1,of_decide_eq_true e.2⟩
 ·rw[aG e]at h;cases h
section
variable{X:Cx}{C:SC}{T:GT}{x:Str}{i:Nat}{pos:Pos}
def SOk.tg(O:SOk X C T E)(h:qm C x=some i):PG X (.Name x pos) (uh i):=by
 obtain⟨h1,h2,h3⟩:=xl h;exact Aq (by rw[O.n];exact O.nd) (by rw[O.n];exact h1) (by rw[O.s];exact xk h2) (.inl (O.fn x h3))
def SOk.st(O:SOk X C T E)(h:qm C x=some i)(he:PE X e te)(hs:dY e (some (.Name x pos')) pos.line X.env=pure false):PS X (.Assign [.Name x pos'] e pos) (L1 te (uh i)):=by
 obtain⟨h1,h2,h3⟩:=xl h;exact Li (by rw[O.n];exact O.nd) (by rw[O.n];exact h1) (by rw[O.s];exact xk h2) he hs (.inl (O.fn x h3))
end
def B6:List Nat->List D->En->Option En
 |[],[],U=>some U
 |i::is,d::ds,U=>B6 is ds (U.set i (.pu d))
 |_,_,_=>none
noncomputable def sk(C:SC):List Expr->Option (List Nat)
 |[]=>some []
 |e::r=>match e with
  | .Name x _ => (match qm C x, sk C r with
   |some i,some is=>some (i::is)
   |_,_=>none)
  |_=>none
def CN(is:List Nat):D->En->Option En:=λd U=>match d with
 |.tup ds=>B6 is ds U
 |_=>none
theorem B7:∀{is:List Nat}{ds:List D}{U δ':En},B6 is ds U=some δ'->ds.length=is.length
 |[],[],_,_,_=>rfl
 |[],_::_,_,_,h=>by cases h
 |_::_,[],_,_,h=>by cases h
 |i::is,d::ds,U,δ',h=>by
  have:=B7 (is:=is) (ds:=ds) h;rw[aM,aM,this]
section
variable{X:Cx}{C:SC}{T:GT}{B:Hp}
theorem Iz(O:SOk X C T E):∀{es:List Expr}{is:List Nat},sk C es=some is->(∃t:JV,JA X es t/\∀{G H:Hp}{Z:St}{U δ':En}{ds:List D}{vs:List V}{Q:St->Hp->Prop},EnvR (kx X) B G H Z U->DenL (kx X) G ds vs->B6 is ds U=some δ'->
  (∀σ',EnvR (kx X) B G H σ' δ'->Q σ' H)->t vs Z H Q)/\(gT es X.env).length=is.length/\(gT es X.env).findIdx? (·.1)=none
 |[],is,h=>by
  cases h;refine⟨⟨_,N1,λ{G H Z U δ' ds vs Q} R dl e q=>?_⟩,rfl,rfl⟩;cases ds with
  |nil=>
   cases e;exact⟨dl,q Z R⟩
  |cons _ _=>cases e
 |e::r,is,h=>by
  unfold sk at h;cases e with
  |Name x p=>
   dsimp only at h;cases e1:qm C x with
   |none=>rw[e1]at h;cases h
   |some i=>
    cases e2:sk C r with
    |none=>rw[e1,e2]at h;cases h
    |some is'=>
     rw[e1,e2]at h;cases h;obtain⟨⟨t,p1,p2⟩,p3,p4⟩:=Iz O e2;refine⟨⟨_,B2 (O.tg e1) p1 rfl,λ{G H Z U δ' ds vs Q} R dl e q=>?_⟩,?_,?_⟩
     ·cases ds with
      |nil=>cases e
      |cons d ds=>
       obtain⟨v,vr,rfl,dv,dr⟩:=dl;exact⟨v,vr,rfl,p2 (R.set dv) dr e q⟩
     ·show(gT r X.env).length+1=is'.length+1;rw[p3]
     ·show List.findIdx? _ ((false,_)::gT r X.env)=none;rw[List.findIdx?_cons];simp[p4]
  |_=>cases h
def IK(O:SOk X C T E)(h:sk C es=some is):∃gl,TgOk X B (.Tuple es k p) gl (CN is):=by
 obtain⟨⟨t,p1,p2⟩,p3,p4⟩:=Iz (B:=B) O h;refine⟨_,U5 O.calm p1 p3 p4,λ{G H Z U δ' d v Q} R dn e q=>?_⟩;cases d with
 |tup ds=>
  obtain⟨a,vs,rfl,sq,dl⟩:=dn;have hl:=B7 (show B6 is ds U=some δ' from e);exact⟨a,vs,rfl,SqT.of (R.gh _ _ sq),by rw[<-dl.length,hl],p2 R dl e q⟩
 |_=>cases e
end
noncomputable def Wv(C:SC)(tg:Expr):Option (D->En->Option En):=match tg with
 |.Name x _=>(qm C x).map br
 |.Tuple es _ _=>(sk C es).map CN
 |_=>none
def BW(O:SOk X C T E)(h:Wv C tg=some f):∃gl,TgOk X B tg gl f:=by
 unfold Wv at h;split at h
 ·rename_i x p;cases e:qm C x with
  |none=>rw[e]at h;cases h
  |some i=>rw[e]at h;cases h;exact⟨_,BV (O.tg e)⟩
 ·rename_i es k p;cases e:sk C es with
  |none=>rw[e]at h;cases h
  |some is=>rw[e]at h;cases h;exact IK O e
 ·cases h
section
variable{X:Cx}{G0 B:Hp}{E:EK}{e a k:Expr}{g h:En->Res}{pos:Pos}{st:Stmt}{F F':En->Out}
def Vz(g:En->Res):En->Out:=λU=>(g U).then λ_=>.nx U
def HI(ha:f9 X B E e g)(hs:dY e none pos.line X.env=pure false):ph X G0 B E (.Expr e pos) (Vz g):=PS.imp (Ar ha hs) λD Z H ⟨G,U,R,ex,q⟩=>
 ⟨G,U,R,(sx ex q).mono λd _ q v G' H' e1 dn=>q Z G' H' e1.gg (R.ext e1) (ex.trans e1)⟩
def DW:En->Out:=λ_=>.rt .non
def HH:ph X G0 B E (.Return none pos) DW:=PS.imp Zu λD Z H ⟨G,U,R,ex,q⟩=>q .non G H ex rfl
def Ey:dY a (some (.Subscript o i p)) n env=pure false:=by
 cases a<;>rfl
end
section
variable{T:GT}{ev:Ev}{X:Cx}{C:SC}{G0 B:Hp}{E:XK}
def iu(c:Str)(r:En->ResL):En->Out:=λU=>match r U with
 |.ok _=>.er c
 |.er c'=>.er c'
 |.st=>.st
def AK(h:g8 T ev)(O:XOk X C T E)(hx:T.xs.exc x=true)(hg:rh C x=true)(hn:(e::es).all i7=true)(hl:(e::es).length<=1000):
  ph X G0 B (ek (kx X) E) (.Raise (some (.Call (.Name x np) (e::es) [] cpos)) none pos) (iu x (vw ev C (e::es))):=by
 obtain⟨Cc,bm,nid,hm,hxx,HB⟩:=O.exc x hx;obtain⟨g1,g2⟩:=O.gl hg;have hn':=hn;rw[bK,aA]at hn';refine PS.imp (Vd O.calm g1 hm hxx HB O.goes (xb (B:=B) h O hn) g2 (az hn'.1) (mn hn'.2)) λD Z H ⟨G,U,R,ex,q⟩=>⟨G,U,R,?_⟩;unfold iu at q;cases er:vw ev C (e::es) U with
 |ok ds=>
  rw[er]at q;intro vs G' H' e1 al;refine⟨?_,?_⟩
  ·have:=al.length.2;rw[aJ]at this;rw[this];exact bC hl (by decide)
  ·have z:=q G' H' (ex.trans e1);have z':E (.ref (y6 X.mg x)) none H':=z;rw[kg hm]at z';exact z'
 |er c=>rw[er]at q;exact λG' H' e1=>q G' H' (ex.trans e1)
 |st=>rw[er]at q;exact q
def EnvR.setNo{K:KA}{G H:Hp}{Z:St}{U:En}{i:Nat}(R:EnvR K B G H Z U):EnvR K B G H (Z.set i none) (U.set i .no) where
 bh:=R.bh
 gb:=R.gb
 gh:=R.gh
 len:=by rw[bJ,bJ];exact R.len
 sl:=λj s q=>by
  by_cases z:i=j
  ·subst z;have hl:i<U.length:=by
    have:=(List.getElem?_eq_some_iff.mp q).1;rwa [bJ]at this
   rw[aL hl]at q;cases q;exact⟨none,aL (by rw[R.len];exact hl),trivial⟩
  ·rw[aN z]at q⊢;exact R.sl j s q
 own:=λj s a q1 q2 q3=>by
  by_cases z:i=j
  ·subst z;have hl:i<U.length:=by
    have:=(List.getElem?_eq_some_iff.mp q1).1;rwa [bJ]at this
   rw[aL hl]at q1;cases q1;cases q2
  ·rw[aN z]at q1 q3;exact R.own j s a q1 q2 q3
 dis:=λj k s t a q1 q2 q3 q4 q5 q6=>by
  have key:∀(m:Nat)(u:Sl),(U.set i .no)[m]?=some u->u.own=true->i≠m:=λm u w1 w2 z=>by
   subst z;have hl:i<U.length:=by
    have:=(List.getElem?_eq_some_iff.mp w1).1;rwa [bJ]at this
   rw[aL hl]at w1;cases w1;cases w2
  have k1:=key j s q1 q3;have k2:=key k t q2 q4;rw[aN k1]at q1 q5;rw[aN k2]at q2 q6;exact R.dis j k s t a q1 q2 q3 q4 q5 q6
def Gk(f:List D->Res)(r:En->ResL)(k:Str->En->Out):En->Out:=λU=>match r U with
 | .ok ds => (match f ds with
  |.ok _=>.nx U
  |.er c=>k c U
  |.st=>.st)
 |_=>.st
def K3(T:GT)(y:Str)(j:Nat)(i:Int)(c:Str)(U:En):Out:=if T.xs.sub c y then(match U[j]? with
 |some (.pu (.int z))=>.nx (U.set j (.pu (.int (z+i))))
 |_=>.st)else .st
def Bo(T:GT)(y:Str)(j n:Nat)(c:Str)(U:En):Out:=if T.xs.sub c y && T.xs.ve c then(match U[j]? with
 |some (.pu (.int z))=>.nx ((U.set j (.pu (.int (z+1)))).set n .no)
 |_=>.st)else .st
def Mw{K:KA}{G:Hp}{z:Int}{v:V}(h:Den K G (.int z) v):v=.int z:=h
def HD{x y r:Str}{j:Nat}{i:Int}{s:FS}{p yp cpos epos hpos pos rp rp2 bpos apos ipos:Pos}{kd}{e:Expr}{es:List Expr}(h:g8 T ev)(O:SOk X C T E)(hf:T.fns x=some s)(hg:rh C x=true)(hn:(e::es).all i7=true)(hgy:rh C y=true)(hyb:∃Cy,X.mg y=some (.ref Cy))
  (hj:qm C r=some j)(hjs:slot C r=some j)(hnc:kr (.Call (.Name x p) (e::es) [] cpos)=true):
  ph X G0 B (ek (kx X) E) (.Try [.Expr (.Call (.Name x p) (e::es) [] cpos) epos] [.ExceptHandler (some (.Name y yp)) none [.Assign [.Name r rp] (.BinOp (.Name r rp2) .Add (.Constant (.int i) kd ipos) bpos) apos] hpos] [] [] pos) (Gk s.f (D4 ev C s.ms (e::es)) (K3 T y j i)):=by
 obtain⟨k,f,fd,ps,hr,hm,hk,hb,F⟩:=O.fns x s hf;obtain⟨g1,g2⟩:=O.gl hg;obtain⟨gy1,gy2⟩:=O.gl hgy;obtain⟨Cy,hmy⟩:=hyb;have hn':=hn;rw[bK,aA]at hn';have hu:∀a,PSs (X.marked a).nox [.Assign [.Name r rp] (.BinOp (.Name r rp2) .Add (.Constant (.int i) kd ipos) bpos) apos] (λD Z H=>∃z,Z[j]?=some (some (.int z))/\D.nx (Z.set j (some (.int (z+i)))) H):=λa=>by
  obtain⟨l1,l2,l3⟩:=xl hj;obtain⟨h1,h2,h3⟩:=vm hjs;have P:=Li (X:=(X.marked a).nox) (pos:=apos) (pos':=rp) (i:=j) (x:=r) (by show X.N.Nodup;rw[O.n];exact O.nd) (by show X.N[j]?=_;rw[O.n];exact l1) (by show L2.Xo X.env.scope r;rw[O.s];exact xk l2)
   (U2 (pos:=bpos) Lc (Gb (pos:=rp2) (i:=j) (by show X.N[j]?=_;rw[O.n];exact h1) (by show JU X.env.scope r;rw[O.s];exact Mg h2) (uu h3) (xm h3)) (U1 (i:=i) (j:=kd) (pos:=ipos))) rfl (.inl (O.fn r l3))
  refine Gd λpins s Z H D I hq=>?_;obtain⟨z,a2,q⟩:=hq;exact P pins s Z H D I ⟨_,a2,_,_,rfl,rfl,q⟩
 refine PS.imp (Zv F hr g1 hm hk hb (tq (B:=B) h O.toXOk.nox (ms:=s.ms) hn) O.stk O.frm O.ex0 gy1 hmy hu (gu hnc) g2 gy2 (az hn'.1) (mn hn'.2)) λD Z H ⟨G,U,R,ex,q⟩=>⟨G,U,R,?_⟩;unfold Gk at q;cases er:D4 ev C s.ms (e::es) U with
 |er c=>rw[er]at q;exact q.elim
 |st=>rw[er]at q;exact q.elim
 |ok ds=>
  rw[er]at q;intro vs G1 H1 e1 al;refine⟨al.length.2,R.gb.same (R.bh.trans e1.hh),G1,ds,e1.gh,al,?_⟩;dsimp only at q;cases ef:s.f ds with
  |ok d=>
   rw[ef]at q;exact λv G' H' e2 _=>q Z G' H' (e1.trans e2).gg (R.ext (e1.trans e2)) (ex.trans (e1.trans e2))
  |st=>rw[ef]at q;exact q.elim
  |er c=>
   rw[ef]at q;intro G' H' e2;have q:OutP (kx X) G0 B (ek (kx X) E) G (K3 T y j i c U) D:=q;unfold K3 at q
   by_cases hs:T.xs.sub c y=true
   ·rw[aB hs]at q;obtain⟨Cy',hmy',hex⟩:=O.sub c y hs;rw[hmy]at hmy';cases hmy';refine⟨hex,?_⟩;cases ed:U[j]? with
    |none=>rw[ed]at q;exact q.elim
    |some sl=>
     rw[ed]at q;cases sl with
     |pu d=>
      cases d with
      |int z=>
       obtain⟨v,v1,v2⟩:=R.var ed;have v2:=Mw v2;subst v2;exact⟨z,v1,q _ G' H' (e1.trans e2).gg ((R.ext (e1.trans e2)).set rfl) (ex.trans (e1.trans e2))⟩
      |_=>exact q.elim
     |_=>exact q.elim
   ·rw[aG hs]at q;exact q.elim
def X4:eN "ValueError"=some (.type "ValueError"):=by decide+kernel
def AI{x y r n:Str}{j m:Nat}{s:FS}{p yp cpos epos hpos pos rp rp2 ip isp np tp icpos ccpos bpos apos:Pos}{e:Expr}{es:List Expr}(h:g8 T ev)(O:SOk X C T E)(hf:T.fns x=some s)(hg:rh C x=true)(hn:(e::es).all i7=true)(hgy:rh C y=true)(hyb:∃Cy,X.mg y=some (.ref Cy))
  (hjs:slot C r=some j)(hms:slot C n=some m)(hjl:C.sc.names.lookup r=some .local)(hml:C.sc.names.lookup n=some .local)(hne:m≠j)(hnc:kr (.Call (.Name x p) (e::es) [] cpos)=true)(i1:rh C "int"=true)(i2:rh C "isinstance"=true)(i3:rh C "ValueError"=true):
  ph X G0 B (ek (kx X) E) (.Try [.Expr (.Call (.Name x p) (e::es) [] cpos) epos] [.ExceptHandler (some (.Name y yp)) (some n) [.Assign [.Name r rp] (.BinOp (.Name r rp2) .Add (.Call (.Name "int" ip) [.Call (.Name "isinstance" isp) [.Name n np,.Name "ValueError" tp] [] icpos] [] ccpos) bpos) apos] hpos] [] [] pos) (Gk s.f (D4 ev C s.ms (e::es)) (Bo T y j m)):=by
 obtain⟨k,f,fd,ps,hr,hm,hk,hb,F⟩:=O.fns x s hf;obtain⟨g1,g2⟩:=O.gl hg;obtain⟨gy1,gy2⟩:=O.gl hgy;obtain⟨Cy,hmy⟩:=hyb;have hn':=hn;rw[bK,aA]at hn';obtain⟨j1,j2,j3⟩:=vm hjs;obtain⟨m1,m2,m3⟩:=vm hms;have bl:=O.bl;have P:=Ve (T:="ValueError") (xT:="ValueError") (i:=m) (j:=j) (p:=p) (yp:=yp) (epos:=epos) (hpos:=hpos) (pos:=pos) (rp:=rp) (rp2:=rp2) (ip:=ip) (isp:=isp) (np:=np) (tp:=tp) (icpos:=icpos) (ccpos:=ccpos) (bpos:=bpos) (apos:=apos) F hr g1 hm hk hb (tq (B:=B) h O.toXOk.nox (ms:=s.ms) hn) O.stk O.frm O.ex0 gy1 hmy hne
  (by rw[O.n];exact O.nd) (by rw[O.n];exact m1) (by rw[O.n];exact j1) (by rw[O.s];exact hml) (by rw[O.s];exact hjl) (uu m3) (xm m3) (uu j3) (xm j3)
  (O.gl i1).1 (bl _ (by decide+kernel)) (O.gl i2).1 (bl _ (by decide+kernel)) (O.gl i3).1 (bl _ (by decide+kernel)) X4 (by decide+kernel) (by decide+kernel) (gu hnc) g2 gy2 (az hn'.1) (mn hn'.2)
 unfold EN at P;refine PS.imp P λD Z H ⟨G,U,R,ex,q⟩=>⟨G,U,R,?_⟩;unfold Gk at q;cases er:D4 ev C s.ms (e::es) U with
 |er c=>rw[er]at q;exact q.elim
 |st=>rw[er]at q;exact q.elim
 |ok ds=>
  rw[er]at q;intro vs G1 H1 e1 al;refine⟨al.length.2,R.gb.same (R.bh.trans e1.hh),G1,ds,e1.gh,al,?_⟩;dsimp only at q;cases ef:s.f ds with
  |ok d=>
   rw[ef]at q;exact λv G' H' e2 _=>q Z G' H' (e1.trans e2).gg (R.ext (e1.trans e2)) (ex.trans (e1.trans e2))
  |st=>rw[ef]at q;exact q.elim
  |er c=>
   rw[ef]at q;intro G' H' e2;have q:OutP (kx X) G0 B (ek (kx X) E) G (Bo T y j m c U) D:=q;unfold Bo at q
   by_cases hs:(T.xs.sub c y && T.xs.ve c)=true
   ·rw[aB hs]at q;rw[aA]at hs;obtain⟨Cy',hmy',hex⟩:=O.sub c y hs.1;rw[hmy]at hmy';cases hmy';refine⟨hex,O.ve c hs.2,rfl,?_⟩;cases ed:U[j]? with
    |none=>rw[ed]at q;exact q.elim
    |some sl=>
     rw[ed]at q;cases sl with
     |pu d=>
      cases d with
      |int z=>
       obtain⟨v,v1,v2⟩:=R.var ed;have v2:=Mw v2;subst v2;exact⟨z,v1,q _ G' H' (e1.trans e2).gg (EnvR.setNo (EnvR.set (i:=j) (d:=.int (z+1)) (v:=.int (z+1)) (R.ext (e1.trans e2)) (show Den (kx X) G' (.int (z+1)) (.int (z+1))from rfl))) (ex.trans (e1.trans e2))⟩
      |_=>exact q.elim
     |_=>exact q.elim
   ·rw[aG hs]at q;exact q.elim
def one:List α->Option α
 |[a]=>some a
 |_=>none
def p5(h:one l=some a):l=[a]:=by
 match l,h with
 |[b],h=>cases h;rfl
def A3:Expr->Option (Expr×List Expr×List iI×Pos)
 |.Call f a k p=>some (f,a,k,p)
 |_=>none
def qc(h:A3 e=some (f,a,k,p)):e=.Call f a k p:=by
 cases e<;>first|(cases h;rfl)|cases h
def qo:Expr->Option (Str×Pos)
 |.Name x p=>some (x,p)
 |_=>none
def i4(h:qo e=some (x,p)):e=.Name x p:=by
 cases e<;>first|(cases h;rfl)|cases h
def Ll:Stmt->Option (Option Expr×Option Expr×Pos)
 |.Raise e c p=>some (e,c,p)
 |_=>none
def Em{st:Stmt}{e c:Option Expr}{p:Pos}(h:Ll st=some (e,c,p)):st=.Raise e c p:=by
 cases st<;>first|(cases h;rfl)|cases h
noncomputable def Gg(st:Stmt):Option (Str×Expr×List Expr):=(Ll st).bind λq=>q.1.bind λw=>(A3 w).bind λc=>(qo c.1).bind λx=>match c.2.1,c.2.2.1,q.2.1 with
 |e::es,[],none=>some (x.1,e,es)
 |_,_,_=>none
def Q1{st:Stmt}{x:Str}{e:Expr}{es:List Expr}(h:Gg st=some (x,e,es)):∃np cpos pos,st=.Raise (some (.Call (.Name x np) (e::es) [] cpos)) none pos:=by
 unfold Gg at h;simp only[bT]at h;obtain⟨⟨q1,q2,q3⟩,h1,w,h0,⟨c1,c2,c3,c4⟩,h2,⟨y1,y2⟩,h3,h4⟩:=h;dsimp only at h0 h2 h3 h4;split at h4
 ·cases h4;exact⟨_,_,_,by rw[Em h1,h0,qc h2,i4 h3]⟩
 ·cases h4
noncomputable def yz(T:GT)(ev:Ev)(C:SC)(st:Stmt):En->Out:=match Gg st with
 |some (x,e,es)=>if T.xs.exc x && rh C x && (e::es).all i7 && decide ((e::es).length<=1000)then iu x (vw ev C (e::es))else ri
 |none=>ri
def Vt(h:g8 T ev)(O:XOk X C T E){st:Stmt}:ph X G0 B (ek (kx X) E) st (yz T ev C st):=by
 unfold yz;cases hp:Gg st with
 |none=>exact j4
 |some t=>
  obtain⟨x,e,es⟩:=t;obtain⟨np,cpos,pos,rfl⟩:=Q1 hp;dsimp only
  by_cases hc:(T.xs.exc x && rh C x && (e::es).all i7 && decide ((e::es).length<=1000))=true
  ·rw[aB hc];simp only[aA]at hc;exact AK h O hc.1.1.1 hc.1.1.2 hc.1.2 (of_decide_eq_true hc.2)
  ·rw[aG hc];exact j4
structure TryC where
 c:Expr
 x:Str
 e:Expr
 es:List Expr
 y:Str
 r:Str
def BO:Stmt->Option (List Stmt×List fV×List Stmt×List Stmt×Pos)
 |.Try b h o f p=>some (b,h,o,f,p)
 |_=>none
def Gv{st:Stmt}{b:List Stmt}{h:List fV}{o f:List Stmt}{p:Pos}(e:BO st=some (b,h,o,f,p)):st=.Try b h o f p:=by
 cases st<;>first|(cases e;rfl)|cases e
def CQ:Stmt->Option (Expr×Pos)
 |.Expr e p=>some (e,p)
 |_=>none
def Sw{st:Stmt}{e:Expr}{p:Pos}(h:CQ st=some (e,p)):st=.Expr e p:=by
 cases st<;>first|(cases h;rfl)|cases h
def KW:Stmt->Option (List Expr×Expr×Pos)
 |.Assign t v p=>some (t,v,p)
 |_=>none
def Xs{st:Stmt}{t:List Expr}{v:Expr}{p:Pos}(h:KW st=some (t,v,p)):st=.Assign t v p:=by
 cases st<;>first|(cases h;rfl)|cases h
def KR:Expr->Option (Expr×Operator×Expr×Pos)
 |.BinOp l o r p=>some (l,o,r,p)
 |_=>none
def X1(h:KR e=some (l,o,r,p)):e=.BinOp l o r p:=by
 cases e<;>first|(cases h;rfl)|cases h
def CM:Operator->Bool
 |.Add=>true
 |_=>false
def Th(h:CM o=true):o=.Add:=by
 cases o<;>first|rfl|cases h
def Fp:Expr->Option (Const×Nat×Pos)
 |.Constant c k p=>some (c,k,p)
 |_=>none
def yf(h:Fp e=some (c,k,p)):e=.Constant c k p:=by
 cases e<;>first|(cases h;rfl)|cases h
def KG:Const->Option Int
 |.int i=>some i
 |_=>none
def Yi(h:KG c=some i):c=.int i:=by
 cases c<;>first|(cases h;rfl)|cases h
def R6(st:Stmt):Option (Str×Pos×Expr×List Expr×Pos×Pos):=(CQ st).bind λq=>(A3 q.1).bind λc=>(qo c.1).bind λx=>match c.2.1,c.2.2.1 with
 |e::es,[]=>some (x.1,x.2,e,es,c.2.2.2,q.2)
 |_,_=>none
def R7{st:Stmt}{x:Str}{xp cp ep:Pos}{e:Expr}{es:List Expr}(h:R6 st=some (x,xp,e,es,cp,ep)):st=.Expr (.Call (.Name x xp) (e::es) [] cp) ep:=by
 unfold R6 at h;simp only[bT]at h;obtain⟨⟨q1,q2⟩,h1,⟨c1,c2,c3,c4⟩,h2,⟨y1,y2⟩,h3,h4⟩:=h;dsimp only at h2 h3 h4;split at h4
 ·cases h4;rw[Sw h1,qc h2,i4 h3]
 ·cases h4
def DE(st:Stmt):Option (Str×Pos×Str×Pos×Expr×Pos×Pos):=(KW st).bind λq=>(one q.1).bind λt=>(qo t).bind λr=>(KR q.2.1).bind λb=>(qo b.1).bind λr2=>
 if CM b.2.1 then some (r.1,r.2,r2.1,r2.2,b.2.2.1,b.2.2.2,q.2.2)else none
def Xr{st:Stmt}{r r2:Str}{rp rp2 bpos apos:Pos}{v:Expr}(h:DE st=some (r,rp,r2,rp2,v,bpos,apos)):st=.Assign [.Name r rp] (.BinOp (.Name r2 rp2) .Add v bpos) apos:=by
 unfold DE at h;simp only[bT]at h;obtain⟨⟨q1,q2,q3⟩,h1,t,h2,⟨r',rp'⟩,h3,⟨b1,b2,b3,b4⟩,h4,⟨r2',rp2'⟩,h5,h6⟩:=h;dsimp only at h2 h3 h4 h5 h6;split at h6
 ·rename_i ha;cases h6;rw[Xs h1,p5 h2,i4 h3,X1 h4,i4 h5,Th ha]
 ·cases h6
structure TryQ where
 x:Str
 xp:Pos
 e:Expr
 es:List Expr
 cp:Pos
 ep:Pos
 y:Str
 yp:Pos
 n:Option Str
 r:Str
 rp:Pos
 r2:Str
 rp2:Pos
 v:Expr
 bpos:Pos
 apos:Pos
 hpos:Pos
 pos:Pos
def xj:fV->Option Expr×Option Str×List Stmt×Pos
 |.ExceptHandler t n b p=>(t,n,b,p)
def BP(st:Stmt):Option TryQ:=(BO st).bind λq=>(one q.1).bind λb=>(one q.2.1).bind λh=>(R6 b).bind λc=>(xj h).1.bind λt=>(qo t).bind λy=>(one (xj h).2.2.1).bind λs=>(DE s).bind λa=>
 if q.2.2.1.isEmpty && q.2.2.2.1.isEmpty then some ⟨c.1,c.2.1,c.2.2.1,c.2.2.2.1,c.2.2.2.2.1,c.2.2.2.2.2,y.1,y.2,(xj h).2.1,a.1,a.2.1,a.2.2.1,a.2.2.2.1,a.2.2.2.2.1,a.2.2.2.2.2.1,a.2.2.2.2.2.2,(xj h).2.2.2,q.2.2.2.2⟩else none
def Oz{st:Stmt}{q:TryQ}(h:BP st=some q):st=.Try [.Expr (.Call (.Name q.x q.xp) (q.e::q.es) [] q.cp) q.ep] [.ExceptHandler (some (.Name q.y q.yp)) q.n [.Assign [.Name q.r q.rp] (.BinOp (.Name q.r2 q.rp2) .Add q.v q.bpos) q.apos] q.hpos] [] [] q.pos:=by
 unfold BP at h;simp only[bT]at h;obtain⟨⟨q1,q2,q3,q4,q5⟩,h1,b,h2,hh,h3,⟨c1,c2,c3,c4,c5,c6⟩,h4,t,h5,⟨y1,y2⟩,h6,s,h7,⟨a1,a2,a3,a4,a5,a6,a7⟩,h8,h9⟩:=h;obtain⟨t0,n0,b0,p0⟩:=hh;dsimp only[xj]at h2 h3 h5 h6 h7 h8 h9;split at h9
 ·rename_i he;rw[aA]at he;cases h9;rw[Gv h1,p5 h2,p5 h3,R7 h4,h5,i4 h6,p5 h7,Xr h8,List.isEmpty_iff.mp he.1,List.isEmpty_iff.mp he.2]
 ·cases h9
def Ox(st:Stmt):Option (TryC×Int):=(BP st).bind λq=>(Fp q.v).bind λc=>(KG c.1).bind λi=>
 if q.n=none/\q.r=q.r2 then some (⟨.Call (.Name q.x q.xp) (q.e::q.es) [] q.cp,q.x,q.e,q.es,q.y,q.r⟩,i)else none
def Wy{st:Stmt}{t:TryC}{i:Int}(h:Ox st=some (t,i)):∃(xp cp ep yp rp rp2 ipos bpos apos hpos pos:Pos) (kd:_),t.c=.Call (.Name t.x xp) (t.e::t.es) [] cp/\st=.Try [.Expr (.Call (.Name t.x xp) (t.e::t.es) [] cp) ep] [.ExceptHandler (some (.Name t.y yp)) none [.Assign [.Name t.r rp] (.BinOp (.Name t.r rp2) .Add (.Constant (.int i) kd ipos) bpos) apos] hpos] [] [] pos:=by
 unfold Ox at h;simp only[bT]at h;obtain⟨q,h1,⟨c1,c2,c3⟩,h2,j,h3,h4⟩:=h;dsimp only at h3;split at h4
 ·rename_i hr;cases h4;obtain⟨x,xp,e,es,cp,ep,y,yp,n,r,rp,r2,rp2,v,bpos,apos,hpos,pos⟩:=q;dsimp only at hr h2 h1;obtain⟨g1,g2⟩:=hr;subst g1 g2;have hq:=Oz h1;dsimp only at hq;rw[yf h2,Yi h3]at hq;exact⟨_,_,_,_,_,_,_,_,_,_,_,_,rfl,hq⟩
 ·cases h4
def EJ(v:Expr)(n:Str):Option (Pos×Pos×Pos×Pos×Pos×Pos):=(A3 v).bind λc=>(qo c.1).bind λa=>(one c.2.1).bind λw=>(A3 w).bind λd=>(qo d.1).bind λb=>match d.2.1 with
 |[u,t]=>(qo u).bind λn2=>(qo t).bind λt2=>if c.2.2.1.isEmpty && d.2.2.1.isEmpty && decide (a.1="int") && decide (b.1="isinstance") && decide (n2.1=n) && decide (t2.1="ValueError")then some (a.2,b.2,n2.2,t2.2,d.2.2.2,c.2.2.2)else none
 |_=>none
def Yj(h:EJ v n=some (ip,isp,np,tp,icpos,ccpos)):v=.Call (.Name "int" ip) [.Call (.Name "isinstance" isp) [.Name n np,.Name "ValueError" tp] [] icpos] [] ccpos:=by
 unfold EJ at h;simp only[bT]at h;obtain⟨⟨c1,c2,c3,c4⟩,h1,⟨a1,a2⟩,h2,w,h3,⟨d1,d2,d3,d4⟩,h4,⟨b1,b2⟩,h5,h6⟩:=h;dsimp only at h2 h3 h5 h6;split at h6
 ·rename_i u t;simp only[bT]at h6;obtain⟨⟨n1,n2⟩,h7,⟨t1,t2⟩,h8,h9⟩:=h6;dsimp only at h9;split at h9
  ·rename_i hc;simp only[aA,decide_eq_true_eq]at hc;obtain⟨⟨⟨⟨⟨g1,g2⟩,g3⟩,g4⟩,g5⟩,g6⟩:=hc;cases h9;rw[qc h1,i4 h2,p5 h3,qc h4,i4 h5,i4 h7,i4 h8,List.isEmpty_iff.mp g1,List.isEmpty_iff.mp g2,g3,g4,g5,g6]
  ·cases h9
 ·cases h6
def Oy(st:Stmt):Option (TryC×Str):=(BP st).bind λq=>q.n.bind λn=>(EJ q.v n).bind λ_=>
 if q.r=q.r2 then some (⟨.Call (.Name q.x q.xp) (q.e::q.es) [] q.cp,q.x,q.e,q.es,q.y,q.r⟩,n)else none
def Wz{st:Stmt}{t:TryC}{n:Str}(h:Oy st=some (t,n)):∃(xp cp ep yp rp rp2 ip isp np tp icpos ccpos bpos apos hpos pos:Pos),t.c=.Call (.Name t.x xp) (t.e::t.es) [] cp/\st=.Try [.Expr (.Call (.Name t.x xp) (t.e::t.es) [] cp) ep] [.ExceptHandler (some (.Name t.y yp)) (some n) [.Assign [.Name t.r rp] (.BinOp (.Name t.r rp2) .Add (.Call (.Name "int" ip) [.Call (.Name "isinstance" isp) [.Name n np,.Name "ValueError" tp] [] icpos] [] ccpos) bpos) apos] hpos] [] [] pos:=by
 unfold Oy at h;simp only[bT]at h;obtain⟨q,h1,m,h2,⟨ip,isp,np,tp,icpos,ccpos⟩,h3,h4⟩:=h;split at h4
 ·rename_i hr;cases h4;obtain⟨x,xp,e,es,cp,ep,y,yp,n',r,rp,r2,rp2,v,bpos,apos,hpos,pos⟩:=q;dsimp only at hr h2 h3 h1;subst hr;have hq:=Oz h1;dsimp only at hq;rw[Yj h3,h2]at hq;exact⟨_,_,_,_,_,_,_,_,_,_,_,_,_,_,_,_,rfl,hq⟩
 ·cases h4
def MI:Stmt->Option (Option Expr×Pos)
 |.Return o p=>some (o,p)
 |_=>none
def AQ{st:Stmt}{o:Option Expr}{p:Pos}(h:MI st=some (o,p)):st=.Return o p:=by
 cases st<;>first|(cases h;rfl)|cases h
def AR(st:Stmt):Option (Str×Pos×Expr×List Expr×Pos×Pos):=(MI st).bind λq=>q.1.bind λw=>(A3 w).bind λc=>(qo c.1).bind λx=>match c.2.1,c.2.2.1 with
 |e::es,[]=>some (x.1,x.2,e,es,c.2.2.2,q.2)
 |_,_=>none
def Oc{st:Stmt}{x:Str}{xp cp ep:Pos}{e:Expr}{es:List Expr}(h:AR st=some (x,xp,e,es,cp,ep)):st=.Return (some (.Call (.Name x xp) (e::es) [] cp)) ep:=by
 unfold AR at h;simp only[bT]at h;obtain⟨⟨q1,q2⟩,h1,w,h0,⟨c1,c2,c3,c4⟩,h2,⟨y1,y2⟩,h3,h4⟩:=h;dsimp only at h0 h2 h3 h4;split at h4
 ·cases h4;rw[AQ h1,h0,qc h2,i4 h3]
 ·cases h4
def O0(st:Stmt):Option (Str×Expr×List Expr):=(BO st).bind λq=>(one q.1).bind λb=>(AR b).bind λc=>if !q.2.1.isEmpty && q.2.2.1.isEmpty && q.2.2.2.1.isEmpty then some (c.1,c.2.2.1,c.2.2.2.1)else none
def W0{st:Stmt}{x:Str}{e:Expr}{es:List Expr}(h:O0 st=some (x,e,es)):∃(xp cp ep pos:Pos) (h₀:fV) (hs:List fV),st=.Try [.Return (some (.Call (.Name x xp) (e::es) [] cp)) ep] (h₀::hs) [] [] pos:=by
 unfold O0 at h;simp only[bT]at h;obtain⟨⟨q1,q2,q3,q4,q5⟩,h1,b,h2,⟨c1,c2,c3,c4,c5,c6⟩,h3,h4⟩:=h;dsimp only at h2 h4;split at h4
 ·rename_i he;simp only[aA]at he;cases h4;cases q2 with
  |nil=>cases he.1.1
  |cons h₀ hs=>
   refine⟨c2,c5,c6,q5,h₀,hs,?_⟩;rw[Gv h1,p5 h2,Oc h3,List.isEmpty_iff.mp he.1.2,List.isEmpty_iff.mp he.2]
 ·cases h4
def V1(f:List D->Res)(r:En->ResL):En->Out:=λU=>match r U with
 | .ok ds => (match f ds with
  |.ok d=>.rt d
  |_=>.st)
 |_=>.st
def HC(h:g8 T ev)(O:SOk X C T E)(hf:T.fns x=some s)(hg:rh C x=true)(hn:(e::es).all i7=true):
  ph X G0 B (ek (kx X) E) (.Try [.Return (some (.Call (.Name x p) (e::es) [] cpos)) epos] (h₀::hs) [] [] pos) (V1 s.f (D4 ev C s.ms (e::es))):=by
 obtain⟨k,f,fd,ps,hr,hm,hk,hb,F⟩:=O.fns x s hf;obtain⟨g1,g2⟩:=O.gl hg;have hn':=hn;rw[bK,aA]at hn';refine PS.imp (Zw F hr g1 hm hk hb (tq (B:=B) h O.toXOk.nox (ms:=s.ms) hn) g2 (az hn'.1) (mn hn'.2)) λD Z H ⟨G,U,R,ex,q⟩=>⟨G,U,R,?_⟩;unfold V1 at q;cases er:D4 ev C s.ms (e::es) U with
 |er c=>rw[er]at q;exact q.elim
 |st=>rw[er]at q;exact q.elim
 |ok ds=>
  rw[er]at q;intro vs G1 H1 e1 al;refine⟨al.length.2,R.gb.same (R.bh.trans e1.hh),G1,ds,e1.gh,al,?_⟩;dsimp only at q;cases ef:s.f ds with
  |ok d=>
   rw[ef]at q;exact λv G' H' e2 dn=>q v G' H' (ex.trans (e1.trans e2)) dn
  |st=>rw[ef]at q;exact q.elim
  |er c=>rw[ef]at q;exact q.elim
def Ez(T:GT)(C:SC)(t:TryC):Bool:=rh C t.x && (t.e::t.es).all i7 && rh C t.y && T.xs.exc t.y && kr t.c
def Gr(T:GT)(ev:Ev)(C:SC)(st:Stmt):En->Out:=match Ox st with
 | some (t, i) => (match T.fns t.x, qm C t.r, slot C t.r with
  |some s,some j,some j'=>if Ez T C t && decide (j=j')then Gk s.f (D4 ev C s.ms (t.e::t.es)) (K3 T t.y j i)else ri
  |_,_,_=>ri)
 | none => (match Oy st with
  | some (t, n) => (match T.fns t.x, slot C t.r, slot C n with
   |some s,some j,some m=>if Ez T C t && decide (m≠j) && decide (C.sc.names.lookup t.r=some .local) && decide (C.sc.names.lookup n=some .local) && rh C "int" && rh C "isinstance" && rh C "ValueError" then Gk s.f (D4 ev C s.ms (t.e::t.es)) (Bo T t.y j m)else ri
   |_,_,_=>ri)
  | none => (match O0 st with
   | some (x, e, es) => (match T.fns x with
    |some s=>if rh C x && (e::es).all i7 then V1 s.f (D4 ev C s.ms (e::es))else ri
    |none=>ri)
   |none=>ri))
def II(h:g8 T ev)(O:SOk X C T E){st:Stmt}:ph X G0 B (ek (kx X) E) st (Gr T ev C st):=by
 have key:∀t,Ez T C t=true->rh C t.x=true/\(t.e::t.es).all i7=true/\rh C t.y=true/\(∃Cy,X.mg t.y=some (.ref Cy))/\kr t.c=true:=λt ht=>by
  unfold Ez at ht;simp only[aA]at ht;obtain⟨Cc,_,_,hm,_⟩:=O.exc t.y ht.1.2;exact⟨ht.1.1.1.1,ht.1.1.1.2,ht.1.1.2,⟨Cc,hm⟩,ht.2⟩
 unfold Gr;cases hp:Ox st with
 |some ti=>
  obtain⟨t,i⟩:=ti;obtain⟨xp,cp,ep,yp,rp,rp2,ipos,bpos,apos,hpos,pos,kd,hc,rfl⟩:=Wy hp;dsimp only;cases e1:T.fns t.x with
  |none=>exact j4
  |some s=>
   cases e2:qm C t.r with
   |none=>exact j4
   |some j=>
    cases e3:slot C t.r with
    |none=>exact j4
    |some j'=>
     dsimp only
     by_cases hk:(Ez T C t && decide (j=j'))=true
     ·rw[aB hk];rw[aA]at hk;obtain⟨k1,k2,k3,k4,k5⟩:=key t hk.1;have hj:=of_decide_eq_true hk.2;subst hj;rw[hc]at k5;exact HD h O e1 k1 k2 k3 k4 e2 e3 k5
     ·rw[aG hk];exact j4
 |none=>
  dsimp only;cases ha:Oy st with
  |none=>
   dsimp only;cases hr:O0 st with
   |none=>exact j4
   |some t=>
    obtain⟨x,e,es⟩:=t;obtain⟨xp,cp,ep,pos,h₀,hs,rfl⟩:=W0 hr;dsimp only;cases e1:T.fns x with
    |none=>exact j4
    |some s=>
     dsimp only
     by_cases hk:(rh C x && (e::es).all i7)=true
     ·rw[aB hk];rw[aA]at hk;exact HC h O e1 hk.1 hk.2
     ·rw[aG hk];exact j4
  |some tn=>
   obtain⟨t,n⟩:=tn;obtain⟨xp,cp,ep,yp,rp,rp2,ip,isp,np,tp,icpos,ccpos,bpos,apos,hpos,pos,hc,rfl⟩:=Wz ha;dsimp only;cases e1:T.fns t.x with
   |none=>exact j4
   |some s=>
    cases e2:slot C t.r with
    |none=>exact j4
    |some j=>
     cases e3:slot C n with
     |none=>exact j4
     |some m=>
      dsimp only
      by_cases hk:(Ez T C t && decide (m≠j) && decide (C.sc.names.lookup t.r=some .local) && decide (C.sc.names.lookup n=some .local) && rh C "int" && rh C "isinstance" && rh C "ValueError")=true
      ·rw[aB hk];simp only[aA]at hk;obtain⟨⟨⟨⟨⟨⟨a1,a2⟩,a3⟩,a4⟩,a5⟩,a6⟩,a7⟩:=hk;obtain⟨k1,k2,k3,k4,k5⟩:=key t a1;rw[hc]at k5;exact AI h O e1 k1 k2 k3 k4 e2 e3 (of_decide_eq_true a3) (of_decide_eq_true a4) (of_decide_eq_true a2) k5 a5 a6 a7
      ·rw[aG hk];exact j4
end
section
variable{T:GT}{ev:Ev}{X:Cx}{C:SC}{G0 B:Hp}{E:XK}
structure HQ where
 y:Str
 yp:Pos
 r:Str
 rp:Pos
 c:Const
 kd:Nat
 cp:Pos
 ap:Pos
 hp:Pos
def HQ.st(h:HQ):fV:=.ExceptHandler (some (.Name h.y h.yp)) none [.Assign [.Name h.r h.rp] (.Constant h.c h.kd h.cp) h.ap] h.hp
end
section
variable{T:GT}{ev:Ev}{X:Cx}{C:SC}{G0 B:Hp}{E:XK}
def SK:Option Str->Option Unit
 |none=>some ()
 |some _=>none
def FR{o:Option Str}{u:Unit}(h:SK o=some u):o=none:=by
 cases o with
 |none=>rfl
 |some _=>cases h
end
end Pu
end
section
namespace L2
open PySem PySem.Spec PyProof.Rows
def Df:entryFor table "proto.unchain"=some Builtin.«proto.unchain»:=entryFor_of_tree (by kernel_rfl)
section
variable{prog:bN}{w:cH}{A:cO}{E:aC->aK->Prop}{env:Env}
variable{nm q:Str}{C N:Addr}{bs bm:List aC}{hdct:Bool}{sn:List Str}{sub:List aC}{ab:Bool}{col:Option Bool}{dd:Option Addr}{k0 k1 k2 k3 k5:Option aC}{newId:String}
def Gy{e:aC}{a:Addr}{oa:Obj}{va:Array aC}{s:aK}{Q:aC->aK->Prop}(ga:s.heap.get? a=some oa)(da:oa.data=.fields va)(ha:va[2]?=some .none)(h:Q .none s):
  bA (bE prog w) A (runValue (.builtin "proto.unchain" ⟨[e,.ref a,.ref a,.bool false],[]⟩)) Q E s:=by
 refine wpAny_runValue (codeAny_builtin Df ?_);unfold Builtin.«proto.unchain»;refine aE (eT ga da ha ?_);rw[aB (by decide)];exact aT h
def Lm{s:aK}{x c:Sem aC}{Q:Flow->aK->Prop}{a:Addr}(hbase:bm.contains (.type "BaseException")=true)(hh:A.handled=some (.ref a))
  (hcz:∀{Q:aC->aK->Prop}{s:aK},Q .none s->bA (bE prog w) A c Q E s)
  (h:bA (bE prog w) A x (λv s₁=>∃e t,v=.ref e/\e≠a/\s₁.heap.get? C=some (excClassObj nm q C N bs bm hdct sn sub ab col dd k0 k1 k2 k3 k5 newId)/\
   s₁.heap.get? e=some {cls:=.ref C,data:=.fields #[.ref t,.none,.none,.none,.bool false,.none]}/\(∃oa va,s₁.heap.get? a=some oa/\oa.data=.fields va/\va[2]?=some .none)/\
   ∀h' oe vs,fK e s₁.heap h'->h'.get? e=some oe->oe.cls=.ref C->oe.data=.fields vs->1<vs.size->vs[1]?=some .none->E (.ref e) {s₁ with heap:=h'}) E s):
  bA (bE prog w) A (raiseStmt env (some x) (some c)) Q E s:=by
 have hcB:(cD C::bm).contains (.type "BaseException")=true:=by rw[List.contains_cons,hbase,Bool.or_true]
 unfold raiseStmt;refine aE (bQ h (λv s₁ h₁=>?_) λ_ _ x=>x);obtain⟨e,t,rfl,hne,hC,he,⟨oa,va,ga,da,ha⟩,hE⟩:=h₁;obtain⟨hp,g,d,tk,os⟩:=s₁;dsimp only at hC he ga hE;have neC:C≠e:=λz=>by
  rw[z,he]at hC;cases hC
 refine aE (fR (hcz (aE (aT ?_))));dsimp only;refine aE (fR ?_);have ex:∀{Q:aC->aK->Prop},Q (.ref e) ⟨hp,g,d,tk,os⟩->bA (bE prog w) A (excFromValue (.ref e) "exceptions must derive from BaseException") Q E ⟨hp,g,d,tk,os⟩:=λ{Q} hq=>by
  unfold excFromValue
  repeat (first|with_reducible refine iV he ?_|with_reducible refine iV hC ?_|(with_reducible refine wpAny_isSubtype_exc hC ?_;rw[hcB])|wp_step)
  all_goals first|exact hq|skip
 refine ex ?_;rw[aB (by decide)];refine aE (aT (aE (gU he rfl (by simp) ?_)));have g1:=fA (dR (·.setIfInBounds 3 dD)) he rfl;refine aE (gU g1 rfl (by simp) ?_);have g2:=fA (dR (·.setIfInBounds 4 (gR true))) g1 rfl;have sb:fK e hp ((hp.update e (dR (·.setIfInBounds 3 dD))).update e (dR (·.setIfInBounds 4 (gR true)))):=(jX ..).trans (jX ..);generalize ((hp.update e (dR (·.setIfInBounds 3 dD))).update e (dR (·.setIfInBounds 4 (gR true))))=h2 at g2 sb⊢;have hC2:=(sb.2 C neC).trans hC;have ga2:=(sb.2 a (fZ hne)).trans ga;have he2:h2.get? e=some {cls:=.ref C,data:=.fields #[.ref t,.none,.none,.none,.bool true,.none]}:=g2
 repeat (first|with_reducible refine iV he2 ?_|with_reducible refine iV hC2 ?_|wp_step)
 unfold raiseNew;refine aE (wpAny_handled ?_);rw[hh];dsimp only;rw[aB (show(cD a !=cD e)=true by simp[fZ hne])];refine aE (fR (Gy ga2 da ha ?_));show bA _ _ (do setField (.ref e) 2 (.ref a);throw (cD e)) _ _ _;refine aE (gU he2 rfl (by simp) (wpAny_throw ?_));exact hE _ _ _ (sb.trans (jX ..)) (fA _ he2 rfl) rfl rfl (by simp) (by simp)
def Ah{Bn:String}{inN nid initId B:String}{bmN bmB:List aC}{s:aK}(Fn:lS Bn newId inN bmN)(hBn:bmB.contains (.type Bn)=true)(F:lS B nid initId bmB){mN:Str->Option aC}{x:Str}{np cpos pos cp:Pos}{ck:Nat}{args:List Expr}{Q:Flow->aK->Prop}{a:Addr}
  (hbase:bm.contains (.type "BaseException")=true)(hh:A.handled=some (.ref a))(hplain:(cY cpos (aQ args env)).any (·.1)=false)(hni:mN "__init__"=none)
  (h:bA (bE prog w) A (eval (.Name x np) env) (λf s₁=>f=.ref C/\bA (bE prog w) A (evalArgs (.ref C) true (cY cpos (aQ args env)) [])
   (λr s₂=>r.kw=[]/\r.pos.length<=aD/\s₂.heap.get? C=some (excClassObj nm q C N bs bm hdct sn sub ab col dd k0 k1 k2 k3 k5 newId)/\s₂.heap.Ns N mN/\OwnTail s₂.heap bmB bm/\(∃oa va,s₂.heap.get? a=some oa/\oa.data=.fields va/\va[2]?=some .none)/\
    ∀h' e oe vs,s₂.heap.get? e=none->(∀b o,s₂.heap.get? b=some o->h'.get? b=some o)->h'.get? e=some oe->oe.cls=.ref C->oe.data=.fields vs->1<vs.size->vs[1]?=some .none->E (.ref e) {s₂ with heap:=h'}) E s₁) E s):
  bA (bE prog w) A (exec (.Raise (some (.Call (.Name x np) args [] cpos)) (some (.Constant .none ck cp)) pos) env) Q E s:=by
 rw[arm_exec_Raise];refine aE (iD (Lm (C:=C) (nm:=nm) (q:=q) (N:=N) (bs:=bs) (bm:=bm) (hdct:=hdct) (sn:=sn) (sub:=sub) (ab:=ab) (col:=col) (dd:=dd) (k0:=k0) (k1:=k1) (k2:=k2) (k3:=k3) (k5:=k5) (newId:=newId) hbase hh (λ{Q s} hq=>aE (wpAny_Constant_none (aE (iD (aT hq))))) (aE (bQ (wpAny_Call_ofName (bQ h (λf s₁ h₁=>?_) λ_ _ x=>x)) (λv s₃ h₃=>aE (iD (aT h₃))) λ_ _ x=>x))));obtain⟨rfl,h₁⟩:=h₁;unfold callWith;refine aE (fR (bQ h₁ (λr s₂ h₂=>aE (iD ?_)) λ_ _ x=>x));obtain⟨apos,akw⟩:=r;obtain⟨hkw,hlen,hC,hn,T,⟨oa,va,ga,da,ha⟩,h₂⟩:=h₂;obtain rfl:akw=[]:=hkw;obtain⟨hp,g,d,tk,os⟩:=s₂;simp only[hplain];refine aE (wpAny_keeperOf_exc hC ?_);refine aE (wpAny_call_exc_subU (hrest:=hlen) Fn hBn F T hC hn hni λh' e hm=>aE (fR (wpAny_point (aT ?_))));obtain⟨t,ht,_,_⟩:=hm.there;refine⟨e,t,rfl,λz=>?_,hm.keeps _ _ hC,ht,⟨oa,va,hm.keeps _ _ ga,da,ha⟩,λh2 oe vs sb g2 c2 d2 z2 v2=>h₂ h2 e oe vs hm.new (λb o eb=>(sb.2 b λz=>?_).trans (hm.keeps b o eb)) g2 c2 d2 z2 v2⟩
 ·have q:hp.get? e=none:=hm.new;have ga':hp.get? a=some oa:=ga;rw[z,ga']at q;cases q
 ·have q:hp.get? e=none:=hm.new;have eb':hp.get? b=some o:=eb;rw[<-z,eb']at q;cases q
end
def NL(sp:Sp)(K:aP)(Cy C:Addr)(E:XK)(t u:TA):TS:=λD Z H=>t Z H λvs H1=>sp vs H1 (λv H2=>D.rt v H2) λcls _ H2=>cU K cls (.ref Cy)=some true/\¬JC cls/\u Z H2 λvs H3=>vs.length<=aD/\E (.ref C) none H3
section
variable{X:Cx}{k:Nat}{f Cy C:Addr}{fd:dX}{ps:List Str}{sp:Sp}{x y x2:Str}{p yp cpos epos hpos pos np rcpos rpos cp:Pos}{ck:Nat}{e e₀:Expr}{es cx:List Expr}{t u:TA}{bmB:List aC}{newId:String}{E:XK}
def Zx(F:FnOk X.prog X.w X.K X.mg X.base (Aw X.prog X.w) k f fd ps sp)(hr:Room k X.A)(hg:Gl X x)(hm:X.mg x=some (.ref f))(hk:bU X.K (.ref f)=true)(hb:Binds X.K fd ps [])(ha:PA X.nox (e::es) t)
  (hstk:X.stack=X.env::X.outer)(hfr:X.env.frame=some X.env.locals)(hex:X.ex=[])(hgy:Gl X y)(hmy:X.mg y=some (.ref Cy))
  (hg2:Gl X x2) (hm2:X.mg x2=some (.ref C)) (hxx:eD X.K C bmB newId=true) (B:ExBase bmB newId) (lt:C∈Pu.uk) (AX:Acc X E) (ha2:∀a oe,PA (X.held a oe).nox (e₀::cx) u)
  (hdb:(x==("__debug__":Str))=false:=by decide) (hdy:(y==("__debug__":Str))=false:=by decide) (hd2:(x2==("__debug__":Str))=false:=by decide) (he:aQ (e::es) X.env=(false,eval e X.env)::aQ es X.env:=by rfl) (hpl:(cY cpos (aQ es X.env)).any (·.1)=false:=by rfl)
  (he2:aQ (e₀::cx) X.env=(false,eval e₀ X.env)::aQ cx X.env:=by rfl) (hpl2:(cY rcpos (aQ cx X.env)).any (·.1)=false:=by rfl):
  PS X (.Try [.Return (some (.Call (.Name x p) (e::es) [] cpos)) epos] [.ExceptHandler (some (.Name y yp)) none [.Raise (some (.Call (.Name x2 np) (e₀::cx) [] rcpos)) (some (.Constant .none ck cp)) rpos] hpos] [] [] pos) (NL sp X.K Cy C E t u):=by
 intro pins s Z H D I h;refine jF (eW (kW (ya F hr hg hm hk hb ha I h hdb he hpl (λv H2 w s2 I2 r2 q=>⟨v,Z,H2,I2,r2,q⟩) λH1 s1 H2 s2 a cls I1 J un ex ⟨hc,hnl,hu⟩=>?_)));refine Kg hstk hfr hex I1 J un ex λh' J' ex'=>?_;refine jW (iY (nh (X:=X.marked a) (J'.marked a) hgy hmy ?_ hdy)) (by intro q;cases q);have LT:iE (bE X.prog X.w) h' (typeOf (.ref a)) cls:=by
  obtain⟨oe,vs,g,rfl,_⟩:=ex'.obj;exact(jG g).andThen .now
 refine mB J'.kIn LT hc _ _ _ _ (λ_ _ q=>q) (codeAny_handlers_suite (Kv hex I1 J' ex' λh2 J2 ex2=>?_));have yg:=I1.young hex ex2.new;obtain⟨oa,va,ga,hcl,hda,hsz,hcx,_⟩:=ex2.obj;have nfs:a∉X.fs:=λz=>by
  have st:a∈wg X.stack:=by rw[hstk];unfold wg;rw[cR,hfr];exact aF _ z
  obtain⟨_,o,ho,_⟩:=I1.stack.mem st;rw[ex2.new]at ho;cases ho
 have Jh:=J2.held ga ex2.free yg.2.1 nfs (λv z=>by rw[hda]at z;cases z);obtain⟨Bn,inN,bmN,B',nid,initId,Fn,hBn,FB⟩:=B.facts;obtain⟨tl,N,nm,q,bs,hdct,sn,sub,ab,col,dd,k0,k1,k2,k3,k5,mN,hC,hN,hni,T⟩:=(Uv I.ok.mod.kin hm2 hxx).obj;refine eW (Ah (C:=C) (nm:=nm) (q:=q) (N:=N) (bs:=bs) (bm:=tl) (hdct:=hdct) (sn:=sn) (sub:=sub) (ab:=ab) (col:=col) (dd:=dd) (k0:=k0) (k1:=k1) (k2:=k2) (k3:=k3) (k5:=k5) Fn hBn FB (mN:=mN) (T.hasType FB.hasBase) (a:=a) rfl
  (by rw[he2];show(false||(cY rcpos (aQ cx X.env)).any (·.1))=false;rw[hpl2];rfl) hni (nh (X:=X.marked a) (J2.marked a) hg2 hm2 ⟨rfl,?_⟩ hd2))
 have h3:=ha2 a oa rcpos pins _ Z H2 _ (Jh.wish _) hu;have he2':aQ (e₀::cx) (X.held a oa).nox.env=(false,eval e₀ X.env)::aQ cx X.env:=he2;rw[he2']at h3;rw[he2];refine fO (bQ h3 (λus s3 ⟨vs,H3,I3,r,hl,qE⟩=>?_) λ_ _ z=>cZ z);have I3h:=I3.unwish;have I3x:=I3h.unheld I.ok;refine⟨rfl,?_,I3x.bk _ _ hC,hN.keeps I3x.bk,T.keeps I3x.bk,⟨oa,va,?_,hda,?_⟩,λh4 e2 oe vs2 new keep g4 c4 d4 z4 v4=>?_⟩
 ·show us.length<=aD;rw[<-r.length];exact hl
 ·exact(I3h.pin (a,oa) (by simp)).1
 ·rcases hcx with z|z
  ·exact z
  ·exact absurd z hnl
 ·have J4:Inv X pins Z H3 {s3 with heap:=h4}:=I3x.call' (s':={s3 with heap:=h4}) (ch:=[]) rfl (Un.kept keep) (I3x.hok.kept keep) I3x.bare λb z=>absurd z (by simp);have x4:ExAt s3.heap h4 H3 e2 (.ref C):=⟨new,Ie I3x.hok new,oe,vs2,g4,c4,d4,z4,.inr ⟨C,lt,rfl⟩,.inl v4⟩;have th:∀T,h4.objs.size<=T->s3.heap.get? T=none:=λT hT=>by
   cases r:s3.heap.get? T with
   |none=>rfl
   |some o=>exact absurd (aW (aX (keep T o r)) hT) (cK _)
  have fr:=J4.ok.frames;have st:=J4.stack;rw[hstk]at fr st;show bA _ _ (iN _ _) _ _ _;refine Ao (A:=X.A.mark (some (.ref a))) fr st hfr hfr x4 (λT hT=>⟨th T hT,J4.hok.fresh hT⟩) λh5 ch5 n5 c5 x5 t5=>?_;obtain⟨o5,vs5,T5,g5,d5,w5⟩:=t5;show cameBackBy (bE X.prog X.w) X.A X.env X.xe (.ref e2) _;unfold cameBackBy;refine aE (eT g5 d5 w5 ?_);rw[aG (show¬((cD T5==dD)=true) by simp)];refine Bf (fr:=wg X.stack) x5 λh6 ch6 n6 c6 x6=>?_;have J5:=Inv.chg (h':=h5) hex I3x J4 n5 (by rw[hstk];exact c5);have J6:=Inv.chg (h':=h6) hex I3x J5 n6 c6;exact AX pins Z H3 s3 H3 _ e2 (.ref C) I3x J6 (λT hT=>th T (bC (bC c5.size c6.size) hT)) x6 qE
end
end L2
end
section
namespace Pu
open PySem PySem.Spec PyProof.Rows L2
def Jn(f:List D->Res)(r:En->ResL)(k:Str->En->Out):En->Out:=λU=>match r U with
 | .ok ds => (match f ds with
  |.ok d=>.rt d
  |.er c=>k c U
  |.st=>.st)
 |_=>.st
def ED(T:GT)(y z:Str)(c:Str)(_:En):Out:=if T.xs.sub c y && T.xs.nlate c then .er z else .st
section
variable{T:GT}{ev:Ev}{X:Cx}{C:SC}{G0 B:Hp}{E:XK}
def HA{x y z:Str}{kd ck:Nat}{tx:Str}{s:FS}{p yp zp cpos epos hpos pos cp rcpos rpos np:Pos}{e:Expr}{es:List Expr}(h:g8 T ev)(O:SOk X C T E)(hf:T.fns x=some s)(hg:rh C x=true)(hn:(e::es).all i7=true)(hgy:rh C y=true)(hxy:T.xs.exc y=true)(hgz:rh C z=true)(hxz:T.xs.exc z=true)(hlz:T.xs.late z=true):
  ph X G0 B (ek (kx X) E) (.Try [.Return (some (.Call (.Name x p) (e::es) [] cpos)) epos] [.ExceptHandler (some (.Name y yp)) none [.Raise (some (.Call (.Name z zp) [.Constant (.str tx) kd cp] [] rcpos)) (some (.Constant .none ck np)) rpos] hpos] [] [] pos) (Jn s.f (D4 ev C s.ms (e::es)) (ED T y z)):=by
 obtain⟨k,f,fd,ps,hr,hm,hk,hb,F⟩:=O.fns x s hf;obtain⟨g1,g2⟩:=O.gl hg;obtain⟨gy1,gy2⟩:=O.gl hgy;obtain⟨gz1,gz2⟩:=O.gl hgz;obtain⟨Cy,_,_,hmy,_⟩:=O.exc y hxy;obtain⟨Cz,bmB,newId,hmz,hxx,HB⟩:=O.exc z hxz;obtain⟨Cz',lz,hmz'⟩:=O.late z hlz;rw[hmz]at hmz';cases hmz';have hn':=hn;rw[bK,aA]at hn';refine PS.imp (Zx F hr g1 hm hk hb (tq (B:=B) h O.toXOk.nox (ms:=s.ms) hn) O.stk O.frm O.ex0 gy1 hmy gz1 hmz hxx HB lz O.acc (λa oe=>o8 (U4 (X:=(X.held a oe).nox)) B0) g2 gy2 gz2 (az hn'.1) (mn hn'.2)) λD Z H ⟨G,U,R,ex,q⟩=>⟨G,U,R,?_⟩;unfold Jn at q;cases er:D4 ev C s.ms (e::es) U with
 |er c=>rw[er]at q;exact q.elim
 |st=>rw[er]at q;exact q.elim
 |ok ds=>
  rw[er]at q;intro vs G1 H1 e1 al;refine⟨al.length.2,R.gb.same (R.bh.trans e1.hh),G1,ds,e1.gh,al,?_⟩;dsimp only at q;cases ef:s.f ds with
  |ok d=>
   rw[ef]at q;exact λv G' H' e2 dn=>q v G' H' (ex.trans (e1.trans e2)) dn
  |st=>rw[ef]at q;exact q.elim
  |er c=>
   rw[ef]at q;intro G' H' e2;have q:OutP (kx X) G0 B (ek (kx X) E) G (ED T y z c U) D:=q;unfold ED at q
   by_cases hs:(T.xs.sub c y && T.xs.nlate c)=true
   ·rw[aB hs]at q;rw[aA]at hs;obtain⟨Cy',hmy',hex⟩:=O.sub c y hs.1;rw[hmy]at hmy';cases hmy';refine⟨hex,λ⟨C0,m0,e0⟩=>?_,?_⟩
    ·cases e0;exact O.nlate c hs.2 m0
    ·have q':E (.ref (y6 X.mg z)) none H':=q G' H' (ex.trans (e1.trans e2));rw[kg hmz]at q';exact⟨by show 1<=aD;decide,q'⟩
   ·rw[aG hs]at q;exact q.elim
def NX:Const->Option Str
 |.str x=>some x
 |_=>none
def AB{c:Const}{x:Str}(h:NX c=some x):c=.str x:=by
 cases c<;>first|(cases h;rfl)|cases h
def LU:Const->Option Unit
 |.none=>some ()
 |_=>none
def Y9{c:Const}{u:Unit}(h:LU c=some u):c=.none:=by
 cases c<;>first|rfl|cases h
def Lk(st:Stmt):Option (Str×Str):=(Ll st).bind λq=>q.1.bind λw=>(A3 w).bind λc=>(qo c.1).bind λx=>(one c.2.1).bind λa=>(Fp a).bind λk=>(NX k.1).bind λt=>q.2.1.bind λu=>(Fp u).bind λm=>(LU m.1).bind λ_=>if c.2.2.1.isEmpty then some (x.1,t)else none
def Q0{st:Stmt}{z tx:Str}(h:Lk st=some (z,tx)):∃(zp cp rcpos rpos np:Pos) (kd ck:Nat),st=.Raise (some (.Call (.Name z zp) [.Constant (.str tx) kd cp] [] rcpos)) (some (.Constant .none ck np)) rpos:=by
 unfold Lk at h;simp only[bT]at h;obtain⟨⟨q1,q2,q3⟩,h1,w,h2,⟨c1,c2,c3,c4⟩,h3,⟨x1,x2⟩,h4,a,h5,⟨k1,k2,k3⟩,h6,t,h7,u,h8,⟨m1,m2,m3⟩,h9,_,h10,h11⟩:=h;dsimp only at h2 h4 h5 h7 h8 h10 h11;split at h11
 ·rename_i he;cases h11;exact⟨x2,k3,c4,q3,m3,k2,m2,by rw[Em h1,h2,qc h3,i4 h4,p5 h5,yf h6,AB h7,h8,yf h9,Y9 h10,List.isEmpty_iff.mp he]⟩
 ·cases h11
def O1(st:Stmt):Option ((Str×Pos×Expr×List Expr×Pos×Pos)×Str×Str×Str):=(BO st).bind λq=>(one q.1).bind λb=>(AR b).bind λc=>(one q.2.1).bind λh=>(xj h).1.bind λt=>(qo t).bind λy=>(one (xj h).2.2.1).bind λs=>(Lk s).bind λr=>(SK (xj h).2.1).bind λ_=>
 if q.2.2.1.isEmpty && q.2.2.2.1.isEmpty then some (c,y.1,r.1,r.2)else none
def W1{st:Stmt}{x y z tx:Str}{xp cp ep:Pos}{e:Expr}{es:List Expr}(k:O1 st=some ((x,xp,e,es,cp,ep),y,z,tx)):∃(yp hpos pos zp kp rcpos rpos np:Pos) (kd ck:Nat),st=.Try [.Return (some (.Call (.Name x xp) (e::es) [] cp)) ep] [.ExceptHandler (some (.Name y yp)) none [.Raise (some (.Call (.Name z zp) [.Constant (.str tx) kd kp] [] rcpos)) (some (.Constant .none ck np)) rpos] hpos] [] [] pos:=by
 unfold O1 at k;simp only[bT]at k;obtain⟨⟨q1,q2,q3,q4,q5⟩,h1,b,h2,c,h3,hh,h4,t,h5,⟨y1,y2⟩,h6,s,h8,⟨r1,r2⟩,h9,_,h14,h13⟩:=k;obtain⟨t0,n0,b0,p0⟩:=hh;dsimp only[xj]at h2 h4 h5 h8 h14 h13;split at h13
 ·rename_i he;rw[aA]at he;cases h13;obtain⟨zp,kp,rcpos,rpos,np,kd,ck,e9⟩:=Q0 h9;exact⟨y2,p0,q5,zp,kp,rcpos,rpos,np,kd,ck,by rw[Gv h1,p5 h2,Oc h3,p5 h4,h5,i4 h6,FR h14,p5 h8,e9,List.isEmpty_iff.mp he.1,List.isEmpty_iff.mp he.2]⟩
 ·cases h13
def xy(T:GT)(ev:Ev)(C:SC)(st:Stmt):Option (En->Out):=match O1 st with
 | some ((x, _, e, es, _, _), y, z, _) => (match T.fns x with
  |some s=>if rh C x && (e::es).all i7 && rh C y && T.xs.exc y && rh C z && T.xs.exc z && T.xs.late z then some (Jn s.f (D4 ev C s.ms (e::es)) (ED T y z))else none
  |none=>none)
 |none=>none
def BQ(h:g8 T ev)(O:SOk X C T E){st:Stmt}{F:En->Out}(k:xy T ev C st=some F):ph X G0 B (ek (kx X) E) st F:=by
 unfold xy at k;cases hp:O1 st with
 |none=>rw[hp]at k;cases k
 |some t=>
  obtain⟨⟨x,xp,e,es,cp,ep⟩,y,z,tx⟩:=t;rw[hp]at k;dsimp only at k;cases e1:T.fns x with
  |none=>rw[e1]at k;cases k
  |some s=>
   rw[e1]at k;dsimp only at k;split at k
   ·rename_i hc;cases k;simp only[aA]at hc;obtain⟨⟨⟨⟨⟨⟨a1,a2⟩,a3⟩,a4⟩,a5⟩,a6⟩,a7⟩:=hc;obtain⟨yp,hpos,pos,zp,kp,rcpos,rpos,np,kd,ck,rfl⟩:=W1 hp;exact HA h O e1 a1 a2 a3 a4 a5 a6 a7
   ·cases k
def Cd(T:GT)(ev:Ev)(C:SC)(st:Stmt):En->Out:=match xy T ev C st with
 |some F=>F
 |none=>Gr T ev C st
def BN(h:g8 T ev)(O:SOk X C T E){st:Stmt}:ph X G0 B (ek (kx X) E) st (Cd T ev C st):=by
 unfold Cd;cases h1:xy T ev C st with
 |some F=>exact BQ h O h1
 |none=>exact II h O
end
mutual
def Km:Nat->GT->Expr->List Str
 |0,_,_=>[]
 |n+1,T,e=>match e with
  |.Name x _=>[x]
  |.IfExp c a b _=>Bc n T c++Km n T a++Km n T b
  |.BoolOp _ vs _=>vs.flatMap (Km n T)
  |e=>Bc n T e
def Bc:Nat->GT->Expr->List Str
 |0,_,_=>[]
 |n+1,T,e=>match e with
  |.BinOp a _ b _=>Bc n T a++Bc n T b
  |.UnaryOp _ a _=>Bc n T a
  |.BoolOp _ vs _=>vs.flatMap (Bc n T)
  |.IfExp c a b _=>Bc n T c++Km n T a++Km n T b
  |.Compare l _ rs _=>Bc n T l++rs.flatMap (Bc n T)
  |.Tuple es _ _=>es.flatMap (Km n T)
  |.List es _=>es.flatMap (Km n T)
  |.Subscript a i _=>Bc n T a++Bc n T i
  |.ListComp elt gens _ _=>Km n T elt++gens.flatMap λg=>Bc n T g.iter++g.ifs.flatMap (Bc n T)
  | .Call (.Name f _) args _ _ => (match T.fns f with
   |some s=>(s.ms.zip args).flatMap λp=>if p.1 then Bc n T p.2 else Km n T p.2
   |none=>args.flatMap (Bc n T))
  |.Call (.Attribute o _ _) args _ _=>Bc n T o++args.flatMap (Km n T)
  |_=>[]
end
noncomputable def TF(T:GT)(st:Stmt):List Str:=match st with
 |.Return (some e) _=>Km 30 T e
 |.Assign [.Name _ _] e _=>Km 30 T e
 |.Assign [.Subscript _ k _] e _=>Km 30 T e++Bc 30 T k
 |.AugAssign _ _ e _=>Bc 30 T e
 |.Expr (.Call (.Attribute (.Name _ _) m _) args _ _) _=>if m="extend" then args.flatMap (Bc 30 T)else args.flatMap (Km 30 T)
 |.Expr e _=>Bc 30 T e
 |.If c _ _ _=>Bc 30 T c
 |.For _ iter _ _ _=>Km 30 T iter
 |.Try [.Expr e _] _ _ _ _=>Bc 30 T e
 |.Try [.Assign [.Name _ _] e _] _ _ _ _=>Bc 30 T e
 |_=>[]
def AF(C:SC)(xs:List Str):List Nat:=xs.filterMap (slot C)
noncomputable def P5(T:GT)(C:SC)(x y:Str):Bool:=decide (x=y) && decide (slot C x=none) && rh C x && (T.fns x).isNone
def xo(T:GT)(C:SC)(e:Expr):Option Expr:=match e with
 |.Call (.Name x _) [b] [] _=>if P5 T C x "range" then some b else none
 |_=>none
def M6(O:XOk X C T E)(h:P5 T C x y=true):x=y/\Gl X x:=by
 unfold P5 at h;simp only[aA,decide_eq_true_eq]at h;exact⟨h.1.1.1,(O.gl h.1.2).1⟩
def Jj(O:XOk X C T E)(h:xo T C e=some b):∃p pos,e=.Call (.Name "range" p) [b] [] pos/\Gl X "range":=by
 unfold xo at h;split at h
 ·rename_i x p b' pos
  by_cases hb:P5 T C x "range"=true
  ·rw[aB hb]at h;cases h;obtain⟨rfl,hg⟩:=M6 O hb;exact⟨p,pos,rfl,hg⟩
  ·rw[aG hb]at h;cases h
 ·cases h
noncomputable def Jw(T:GT)(ev:Ev)(C:SC)(e:Expr):Option (En->Res):=match e with
 |.List es _=>if es.all i7 then some (ie (vw ev C es))else none
 | .Call (.Name x _) [a] [] _ => if P5 T C x "list" then (match xo T C a with
  |some b=>if i7 b then some (Ky (D4 ev C [true] [b]))else none
  |none=>if i7 a then some (g1 ky (oo ev C a))else none)else none
 |_=>none
noncomputable def ma(ev:Ev)(C:SC)(e:Expr):Option (En->ResE):=match e with
 |.Call (.Attribute (.Name x _) m ap) [k,v] [] cp=>if m="setdefault" && i7 k && i7 v && (ap.endLine==cp.line)then(slot C x).map λi=>m9 i (oo ev C k) (ev C v)else none
 |_=>none
noncomputable def Jv(ev tv:Ev)(C:SC)(e:Expr):Option (En->ResE):=match e with
 | .IfExp c a b _ => (match ma ev C a, ma ev C b with
  |some f,none=>some (S4 (tv C c) f (S7 (ev C b)))
  |none,some f=>some (S4 (tv C c) (S7 (ev C a)) f)
  |some f,some f'=>some (S4 (tv C c) f f')
  |none,none=>none)
 |e=>ma ev C e
noncomputable def B9(ev:Ev)(C:SC)(e:Expr):Option (En->ResE):=match e with
 | .Compare l [op] [r] _ => (match ma ev C l, Fk op with
  |some f,some p=>if my r then some (zm p f (oo ev C r))else none
  |_,_=>none)
 |_=>none
section
variable{T:GT}{ev tv:Ev}{X:Cx}{C:SC}{G0 B:Hp}{E:XK}
def Be(h:g8 T ev)(O:XOk X C T E)(hf:ma ev C e=some f):Xe X G0 B (ek (kx X) E) e f:=by
 unfold ma at hf;split at hf
 ·rename_i x p m ap k v cp
  by_cases hc:(decide (m="setdefault") && i7 k && i7 v && (ap.endLine==cp.line))=true
  ·rw[aB hc]at hf;simp only[aA,decide_eq_true_eq]at hc;obtain⟨⟨⟨rfl,h2⟩,h3⟩,h4⟩:=hc;cases hs:slot C x with
   |none=>rw[hs]at hf;cases hf
   |some i=>
    rw[hs]at hf;cases hf;dsimp only;exact Pt (O.var hs) (di h O k) (h X C B E v O) h2 h3 h4
  ·rw[aG hc]at hf;cases hf
 ·cases hf
def QH(h:g8 T ev)(ht:C3 T tv)(O:XOk X C T E)(hf:Jv ev tv C e=some f):Xe X G0 B (ek (kx X) E) e f:=by
 unfold Jv at hf;split at hf
 ·rename_i c a b p;cases h1:ma ev C a with
  |none=>
   cases h2:ma ev C b with
   |none=>rw[h1,h2]at hf;cases hf
   |some f'=>rw[h1,h2]at hf;cases hf;exact Su (ht X C B E c O) (Mz (h X C B E a O)) (Be h O h2)
  |some f'=>
   cases h2:ma ev C b with
   |none=>rw[h1,h2]at hf;cases hf;exact Su (ht X C B E c O) (Be h O h1) (Mz (h X C B E b O))
   |some f''=>rw[h1,h2]at hf;cases hf;exact Su (ht X C B E c O) (Be h O h1) (Be h O h2)
 ·exact Be h O hf
def KL(h:g8 T ev)(O:XOk X C T E)(hf:B9 ev C e=some f):QS X G0 B (ek (kx X) E) e f:=by
 unfold B9 at hf;split at hf
 ·rename_i l op r p;cases h1:ma ev C l with
  |none=>rw[h1]at hf;cases hf
  |some f'=>
   cases h2:Fk op with
   |none=>rw[h1,h2]at hf;cases hf
   |some q=>
    rw[h1,h2]at hf;dsimp only at hf
    by_cases hs:my r=true
    ·rw[aB hs]at hf;cases hf;obtain⟨rr,g1,g2,g3⟩:=Ak (X:=X) h2 O.units;exact ET g1 g2 g3 (Be h O h1) (di h O r) (o6 hs)
    ·rw[aG hs]at hf;cases hf
 ·cases hf
end
noncomputable def Au(T:GT)(ev tv:Ev)(C:SC)(x:Str)(e:Expr):En->Out:=match qm C x with
 |none=>ri
 | some i => (match e with
  | .Dict ks vs _ => (match ks, vs with
   |[],[]=>if C.td.contains x then V0 i else Es i
   |_,_=>ri)
  |.ListComp elt gens scope _=>lh i (oh ev tv C elt gens scope)
  | e => (match Jw T ev C e with
   |some g=>if kr e then lh i g else ri
   | none => if kr e then (match Jv ev tv C e with
    |some f=>Of i f
    |none=>cu i (ev C e))else ri))
noncomputable def Gq(ev:Ev)(C:SC)(x m:Str)(args:List Expr):En->Out:=match slot C x,args with
 |some i,[a]=>if m="append" then(if i7 a then Dj i (ev C a)else ri)
  else if m="extend" then(if i7 a then xq i (oo ev C a)else ri)
  else ri
 |_,_=>ri
def fz(is:List Nat)(F:En->Out):En->Out:=λU=>F (frzs is U)
def KF(i:Nat)(U:En):Bool:=match U[i]? with
 |some (.ow _)=>true
 |_=>false
def Lp(i:Nat)(gk gv:En->Res):En->Out:=B5 i gk gv
abbrev Bv:=SC->List Stmt->En->Out
noncomputable def Wk(T:GT)(ev tv:Ev)(bv:Bv)(C:SC)(st:Stmt):En->Out:=match st with
 | .Return o _ => (match o with
  |some e=>b9 (ev C e)
  |none=>DW)
 | .Assign tgs e _ => (match tgs with
  |[.Name x _]=>Au T ev tv C x e
  | [.Subscript (.Name x _) k _] => (match slot C x with
   |some i=>if wt k then(if C.td.contains x then Gh i (oo ev C k) (ev C e)else B5 i (oo ev C k) (ev C e))else ri
   |none=>ri)
  |_=>ri)
 | .Expr e _ => (match e with
  |.Constant (.str _) _ _=>Oe
  | .Call (.Attribute (.Name x xp) m ap) args kws cp => (match kws with
   |[]=>if ap.endLine==cp.line then(match ma ev C (.Call (.Attribute (.Name x xp) m ap) args [] cp)with
    |some f=>Gi f
    |none=>Gq ev C x m args)else ri
   |_=>ri)
  |e=>if kr e then Vz (ev C e)else ri)
 | .If c a b _ => (match B9 ev C c with
  |some f=>Gj f (bv C a) (bv C b)
  |none=>ml (tv C c) (bv C a) (bv C b))
 | .For tg iter body els _ => (match els, Wv C tg with
  |[],some f=>if my iter then k6 f (Gp ev C tg iter) (bv C body)else ri
  |_,_=>ri)
 |.Raise exc cause rp=>yz T ev C (.Raise exc cause rp)
 |.Try body hs els fin tp=>Cd T ev C (.Try body hs els fin tp)
 |_=>ri
def DT(T:GT)(ev tv:Ev)(bv:Bv)(C:SC)(st:Stmt):En->Out:=fz (AF C (TF T st)) (Wk T ev tv bv C st)
def Lq(f:Stmt->En->Out):List Stmt->En->Out
 |[]=>fc
 |[s]=>f s
 |s::r=>ba (f s) (Lq f r)
def DJ(T:GT)(bv:Bv):Prop:=∀X C G0 B (E:XK) ss,SOk X C T E->yb X G0 B (ek (kx X) E) ss (bv C ss)
section
variable{T:GT}{ev tv:Ev}{bv:Bv}{X:Cx}{C:SC}{G0 B:Hp}{E:XK}{pos pos':Pos}
def LN(h:g8 T ev)(O:XOk X C T E)(hg:Jw T ev C e=some g):Xf X B (ek (kx X) E) e g:=by
 unfold Jw at hg;split at hg
 ·rename_i es _
  by_cases hn:es.all i7=true
  ·rw[aB hn]at hg;cases hg;exact Ut w8 (xb h O hn)
  ·rw[aG hn]at hg;cases hg
 ·rename_i x p a pos
  by_cases hb:P5 T C x "list"=true
  ·rw[aB hb]at hg;obtain⟨rfl,hgl⟩:=M6 O hb;cases hr:xo T C a with
   |some b=>
    rw[hr]at hg;dsimp only at hg
    by_cases hn:i7 b=true
    ·rw[aB hn]at hg;cases hg;obtain⟨p2,pos2,rfl,hg2⟩:=Jj O hr;exact Us O.calm hgl (O.bl _ (by decide)) hg2 (O.bl _ (by decide)) (tq h O (by rw[bK,hn];rfl)) hn
    ·rw[aG hn]at hg;cases hg
   |none=>
    rw[hr]at hg;dsimp only at hg
    by_cases hn:i7 a=true
    ·rw[aB hn]at hg;cases hg;exact Jc O.calm hgl (O.bl _ (by decide)) (di h O a) hn
    ·rw[aG hn]at hg;cases hg
  ·rw[aG hb]at hg;cases hg
 ·cases hg
def DD(h:g8 T ev)(ht:C3 T tv)(O:SOk X C T E):ph X G0 B (ek (kx X) E) (.Assign [.Name x pos'] e pos) (Au T ev tv C x e):=by
 unfold Au;cases hs:qm C x with
 |none=>exact j4
 |some i=>
  dsimp only;have gen:ph X G0 B (ek (kx X) E) (.Assign [.Name x pos'] e pos) (match Jw T ev C e with
   |some g=>if kr e then lh i g else ri
   | none => if kr e then (match Jv ev tv C e with
    |some f=>Of i f
    |none=>cu i (ev C e))else ri):=by
   cases ho:Jw T ev C e with
   |none=>
    dsimp only
    by_cases hn:kr e=true
    ·rw[aB hn];cases hf:Jv ev tv C e with
     |none=>
      have he:=h X C B E e O.toXOk;exact MA he (O.st hs he (gu hn))
     |some f=>
      have he:Xe X G0 B (ek (kx X) E) e f:=QH h ht O.toXOk hf;exact HE (O.st hs he (gu hn))
    ·rw[aG hn];exact j4
   |some g=>
    dsimp only
    by_cases hn:kr e=true
    ·rw[aB hn];have he:Xf X B (ek (kx X) E) e g:=LN h O.toXOk ho;exact V4 he (O.st hs he (gu hn))
    ·rw[aG hn];exact j4
  cases e with
  |Dict ks vs p=>
   cases ks with
   |nil=>
    cases vs with
    |nil=>
     dsimp only
     by_cases ht:C.td.contains x=true
     ·rw[aB ht];exact AJ (O.st hs U0 (gu rfl))
     ·rw[aG ht];exact HF (O.st hs Jd (gu rfl))
    |cons _ _=>exact j4
   |cons _ _=>exact j4
  |ListComp elt gens scope lp=>
   have hw:=A5 (X:=X) (B:=B) (E:=E) (pos:=lp) (elt:=elt) (gens:=gens) (scope:=scope) h ht O.toXOk;have sw:∃b,dY (.ListComp elt gens scope lp) (some (.Name x pos')) pos.line X.env=pure b:=⟨_,rfl⟩;obtain⟨b,sw⟩:=sw;cases b with
   |false=>exact V4 hw.1 (O.st hs hw.1 sw)
   |true=>
    show ph X G0 B _ _ (lh i (oh ev tv C elt gens scope));obtain⟨l1,l2,l3⟩:=xl hs;have hy:X.N[i]?=some x:=by rw[O.n];exact l1
    have hl:L2.Xo X.env.scope x:=by rw[O.s];exact xk l2
    have hN:X.N.Nodup:=by rw[O.n];exact O.nd
    clear hw;cases CY (B:=B) (elt:=elt) (gens:=gens) (scope:=scope) h ht O.toXOk with
    |st e=>rw[e];exact λpins s Z H D I ⟨G,U,R,ex,q⟩=>q.elim
    |ok eg eG st hA hF hE hi hs=>
     rw[eG];subst eg;intro pins s Z H D I q;obtain⟨cl,O2,Bk⟩:=st I.ok;exact HG O2 O.calm hA Bk hF hE hi hN hy hl (O.fn x l3) hs sw pins s Z H D I q
  |_=>exact gen
def M0(hn:i7 a=true):((cY cpos (aQ [a] env)).all (λx=> !x.1) && (mG cpos (jK [] env)).all (λx=>x.1.isSome)
   && decide (([a]:List Expr).length+([]:List iI).length+(if([]:List iI).isEmpty then 0 else 1)<30))=true:=by
 rw[q9 (by rw[bK,hn];rfl)];rfl
def LZ(h:g8 T ev)(O:SOk X C T E){p ap cp:Pos}(hl:(ap.endLine==cp.line)=true):ph X G0 B (ek (kx X) E) (.Expr (.Call (.Attribute (.Name x p) m ap) args [] cp) pos) (Gq ev C x m args):=by
 unfold Gq;split
 ·rename_i i a hs
  by_cases hm:m="append"
  ·subst hm;rw[aB rfl]
   by_cases hn:i7 a=true
   ·rw[aB hn];exact V2 (O.var hs) (h X C B E a O.toXOk) rfl (M0 hn) hl (az hn) rfl rfl
   ·rw[aG hn];exact j4
  ·rw[aG hm]
   by_cases hm:m="extend"
   ·subst hm;rw[aB rfl]
    by_cases hn:i7 a=true
    ·rw[aB hn];exact V3 (O.var hs) (di h O.toXOk a) rfl (M0 hn) hl (az hn) rfl rfl
    ·rw[aG hn];exact j4
   ·rw[aG hm];exact j4
 ·exact j4
def MH(h:g8 T ev)(ht:C3 T tv)(hb:DJ T bv)(O:SOk X C T E){st:Stmt}:ph X G0 B (ek (kx X) E) st (Wk T ev tv bv C st):=by
 have hu:X.A.units+5<dO:=by have:=O.units;lia
 cases st with
 |Return o p=>
  cases o with
  |none=>exact HH
  |some e=>exact MB (h X C B E e O.toXOk)
 |Assign tgs e p=>
  show ph X G0 B _ _ (match tgs with
   |[.Name x _]=>Au T ev tv C x e
   | [.Subscript (.Name x _) k _] => (match slot C x with
    |some i=>if wt k then(if C.td.contains x then Gh i (oo ev C k) (ev C e)else B5 i (oo ev C k) (ev C e))else ri
    |none=>ri)
   |_=>ri)
  split
  ·exact DD h ht O
  ·rename_i x _ k _;cases hs:slot C x with
   |none=>exact j4
   |some i=>
    dsimp only
    by_cases hp:wt k=true
    ·rw[aB hp]
     by_cases htd:C.td.contains x=true
     ·rw[aB htd];exact AM hu (O.var hs) (di h O.toXOk k) (h X C B E e O.toXOk) Ey
     rw[aG htd];exact HJ hu (O.var hs) (di h O.toXOk k) (h X C B E e O.toXOk) Ey
    ·rw[aG hp];exact j4
  ·exact j4
 |Expr e p=>
  show ph X G0 B _ _ (match e with
   |.Constant (.str _) _ _=>Oe
   | .Call (.Attribute (.Name x xp) m ap) args kws cp => (match kws with
    |[]=>if ap.endLine==cp.line then(match ma ev C (.Call (.Attribute (.Name x xp) m ap) args [] cp)with
     |some f=>Gi f
     |none=>Gq ev C x m args)else ri
    |_=>ri)
   |e=>if kr e then Vz (ev C e)else ri)
  split
  ·exact MF
  ·rename_i x _ m ap args kws cp;cases kws with
   |nil=>
    dsimp only
    by_cases hl:(ap.endLine==cp.line)=true
    ·rw[aB hl];cases hf:ma ev C _ with
     |none=>exact LZ h O hl
     |some f=>exact AL (Be h O.toXOk hf) rfl
    ·rw[aG hl];exact j4
   |cons _ _=>exact j4
  ·by_cases hn:kr e=true
   ·rw[aB hn];exact HI (h X C B E e O.toXOk) (gu hn)
   ·rw[aG hn];exact j4
 |If c a b p=>
  show ph X G0 B _ _ (match B9 ev C c with
   |some f=>Gj f (bv C a) (bv C b)
   |none=>ml (tv C c) (bv C a) (bv C b))
  cases hf:B9 ev C c with
  |none=>exact RN (ht X C B E c O.toXOk) (hb X C G0 B E a O) (hb X C G0 B E b O)
  |some f=>exact MC (KL h O.toXOk hf) (hb X C G0 B E a O) (hb X C G0 B E b O)
 |For tg iter body els p=>
  show ph X G0 B _ _ (match els,Wv C tg with
   |[],some f=>if my iter then k6 f (Gp ev C tg iter) (bv C body)else ri
   |_,_=>ri)
  cases els with
  |cons _ _=>exact j4
  |nil=>
   cases hf:Wv C tg with
   |none=>exact j4
   |some f=>
    dsimp only
    by_cases hn:my iter=true
    ·rw[aB hn];obtain⟨gl,G⟩:=BW (B:=B) O hf;exact ME O.pass O.calm (CL h O.toXOk iter) G (hb X C G0 B E body O) (nz hn)
    ·rw[aG hn];exact j4
 |Raise exc cause p=>exact Vt h O.toXOk
 |Try body hs els fin p=>exact BN h O
 |_=>exact j4
def Wl(h:g8 T ev)(ht:C3 T tv)(hb:DJ T bv)(O:SOk X C T E){st:Stmt}:ph X G0 B (ek (kx X) E) st (DT T ev tv bv C st):=MD _ (MH h ht hb O)
theorem V6{E:EK}(h:∀st,ph X G0 B E st (f st)):∀{ss:List Stmt},yb X G0 B E ss (Lq f ss)
 |[]=>IT
 |[s]=>IS (h s)
 |s::t::r=>AC (h s) (V6 h (ss:=t::r))
end
def My:Nat:=40
def gB(T:GT):Nat->Bv
 |0=>λ_ _=>ri
 |n+1=>λC ss=>Lq (DT T (gP T My false) (gP T My true) (gB T n) C) ss
def NY:yb X G0 B E ss ri:=λpins s Z H D I ⟨G,U,R,x,q⟩=>q.elim
theorem S3(T:GT):∀n,DJ T (gB T n)
 |0=>λX C G0 B E ss O=>NY
 |n+1=>λX C G0 B E ss O=>V6 λst=>Wl (D5 T My).1 (D5 T My).2 (S3 T n) O
structure TabIs(P:bN)(w:cH)(K:aP)(mg:Str->Option aC)(base:Heap)(T:GT)(k:Nat):Prop where
 fns:∀x s,T.fns x=some s->∃f fd ps,mg x=some (.ref f)/\bU K (.ref f)=true/\Binds K fd ps []/\FnOk P w K mg base (Aw P w) k f fd ps (Lu ⟨K,y6 mg⟩ s.ms s.f)
 gstr:∀x y,T.gstr x=some y->∃t,mg x=some (.str y t)
 bl:∀x∈wd,mg x=none
 exc:∀x,T.xs.exc x=true->∃C bm newId,mg x=some (.ref C)/\eD K C bm newId=true/\ExBase bm newId
 sub:∀c y,T.xs.sub c y=true->∃Cy,mg y=some (.ref Cy)/\cU K (.ref (y6 mg c)) (.ref Cy)=some true
 ve:∀c,T.xs.ve c=true->gX K (.ref (y6 mg c)) (.type "ValueError")=some true
 nsub:∀c y,T.xs.nsub c y=true->∃Cy,mg y=some (.ref Cy)/\cU K (.ref (y6 mg c)) (.ref Cy)=some false
 late:∀x,T.xs.late x=true->∃C,C∈uk/\mg x=some (.ref C)
 nlate:∀c,T.xs.nlate c=true->y6 mg c∉uk
 lams:∀e fs ds d,T.lam e fs ds=.ok d->Rk P w K mg base k e fs ds d
 own:∀x s,T.own x=true->T.fns x=some s->∃f fd ps,mg x=some (.ref f)/\bU K (.ref f)=true/\Binds K fd ps []/\FnOk P w K mg base (Aw P w) k f fd ps (NZ ⟨K,y6 mg⟩ s.ms s.f)
def Room.u65{A:cO}(r:Room k A):A.units+65<dO:=by have:=r.un;lia
def TabIs.xok{X:Cx}{C:SC}(t:TabIs X.prog X.w X.K X.mg X.base T k)(hr:Room k X.A)(n:X.N=C.N)(s:X.env.scope=C.sc)(nd:C.N.Nodup)(calm:X.calm=true)(acc:Acc X E)(top:C.blk=false->X.ex=[]/\X.stack=X.env::X.outer/\X.env.frame=some X.env.locals)(lamc:C.lam=true->Rj X):XOk X C T E:=
 ⟨n,s,nd,calm,Room.u65 hr,λx s h=>by
  obtain⟨f,fd,ps,h1,h2,h3,h4⟩:=t.fns x s h;exact⟨k,f,fd,ps,hr,h1,h2,h3,h4⟩,t.gstr,t.bl,t.exc,t.sub,t.ve,t.nsub,t.late,t.nlate,acc,top,lamc,λe fs ds d h=>⟨k,hr,t.lams e fs ds d h⟩,λx s h h'=>by
  obtain⟨f,fd,ps,h1,h2,h3,h4⟩:=t.own x s h h';exact⟨k,f,fd,ps,hr,h1,h2,h3,h4⟩⟩
theorem DenF.len{K:KA}{G:Hp}:∀{fs:List (Str×D)}{vs:List (Str×V)},DenF K G fs vs->fs.length=vs.length/\fs.map (·.1)=vs.map (·.1)
 |[],_,h=>by rw[show _=[]from h];exact⟨rfl,rfl⟩
 |(n,d)::fs,_,⟨v,r,h1,_,h3⟩=>by
  subst h1;obtain⟨q1,q2⟩:=DenF.len h3;exact⟨by rw[aM,aM,q1],by rw[aU,aU,q2]⟩
theorem DenF.get{K:KA}{G:Hp}:∀{fs:List (Str×D)}{vs:List (Str×V)}{i:Nat}{p:Str×D},DenF K G fs vs->fs[i]?=some p->∃v,vs[i]?=some (p.1,v)/\Den K G p.2 v
 |[],_,_,_,_,e=>by simp at e
 |(n,d)::fs,_,0,p,⟨v,r,h1,h2,_⟩,e=>by
  subst h1;simp at e;subst e;exact⟨v,rfl,h2⟩
 |(n,d)::fs,_,i+1,p,⟨v,r,h1,_,h3⟩,e=>by
  subst h1;obtain⟨v',q1,q2⟩:=DenF.get (i:=i) h3 (by simpa using e);exact⟨v',by simpa using q1,q2⟩
structure DefR where
 x:Str
 st:Stmt
 ms:List Bool
 lm:Bool
def Af(st:Stmt):List Str:=(j5 st).args.map (·.arg)
noncomputable def Bt(ps:List Str):List (Str×fX)->List Str
 |[]=>[]
 |(n,k)::r=>if(k=.local\/k=.cell)/\n∉ps then n::Bt ps r else Bt ps r
def CG(st:Stmt):List Str:=Af st++Bt (Af st) (bp st).names
def JT(st:Stmt)(lm:Bool):SC:=⟨CG st,bp st,L6 20 (gd st),lm,false⟩
noncomputable def By(d:DefR):Bool:=
 decide ((bp d.st).kind=.function) && decide ((bp d.st).isCoroutine=false) && decide ((bp d.st).isGenerator=false) && decide ((CG d.st).Nodup) && decide ((CG d.st).take (Af d.st).length=Af d.st) &&
 ((Af d.st).all λx=>decide ((bp d.st).names.lookup x=some .local)||decide ((bp d.st).names.lookup x=some .cell)) && ((bp d.st).names.all λy=>decide (y.2≠.free)) && decide (d.ms.length=(Af d.st).length)
def zx{d:DefR}(h:By d=true):FnScope (CG d.st) (Af d.st) (bp d.st)/\d.ms.length=(Af d.st).length:=by
 unfold By at h;simp only[aA,decide_eq_true_eq]at h;obtain⟨⟨⟨⟨⟨⟨⟨h1,h2⟩,h3⟩,h4⟩,h5⟩,h6⟩,h7⟩,h8⟩:=h;refine⟨⟨h1,h2,h3,h4,h5,λx hx=>?_,λy hy=>?_⟩,h8⟩
 ·have q:=List.all_eq_true.mp h6 x hx;rw[cT,decide_eq_true_eq,decide_eq_true_eq]at q;exact q
 ·exact of_decide_eq_true (List.all_eq_true.mp h7 y hy)
def E5(st:Stmt)(x:Str):Prop:=∀(kV doc pm:aC)(an:Option Addr)(cdv ct:aC)(us:List aC),us.length=(Af st).length->bindArgs (dJ x x (j5 st) (gd st) (bp st) .none kV doc pm an cdv ct) ⟨us,[]⟩=pure ((Af st).zip us)
structure DefIn(K:aP)(mg:Str->Option aC)(d:DefR):Prop where
 ok:By d=true
 bd:E5 d.st d.x
 at_:∃f fd,mg d.x=some (.ref f)/\Fun K d.x d.x d.st f fd/\(d.lm=true->∃c P,fd.code=.ref c/\(c,P,d.x++".<locals>."++"<lambda>")∈L4/\lM K c P=true)
def EV{K:aP}{h:Heap}{mg:Str->Option aC}{d:DefR}(X:K.In h)(G:h.Ns cG mg)(ok:By d=true)(bd:E5 d.st d.x){f:Addr}{oc kV doc pm cdv ct:aC}{od an:Option Addr}{osl:Array (Option aC)}
  (a:eQ K cG d.x=some (some (.ref f)))(l:K.lookup f=some ⟨oc,od,.func (dJ d.x d.x (j5 d.st) (gd d.st) (bp d.st) .none kV doc pm an cdv ct),osl⟩)(c:fY K cdv d.x=true)(k:bU K (.ref f)=true)(m:d.lm=true->∃c P,cdv=.ref c/\(c,P,d.x++".<locals>."++"<lambda>")∈L4/\lM K c P=true):DefIn K mg d:=
 ⟨ok,bd,f,_,bS X G a,S2 l c k,m⟩
def look(ds:List DefR)(x:Str):Option DefR:=match ds with
 |[]=>none
 |d::r=>if d.x=x then some d else look r x
theorem Iv{d:DefR}:∀{ds:List DefR},look ds x=some d->d∈ds/\d.x=x
 |[],h=>by cases h
 |e::r,h=>by
  unfold look at h
  by_cases z:e.x=x
  ·rw[aB z]at h;cases h;exact⟨aH,z⟩
  ·rw[aG z]at h;obtain⟨q1,q2⟩:=Iv h;exact⟨aF _ q1,q2⟩
def Rz:Nat:=20
def af(T:GT)(d:DefR):List D->Res:=QG d.ms (CG d.st).length (gB T Rz (JT d.st d.lm) (gd d.st))
noncomputable def sv(ds:List DefR)(gs:Str->Option Str)(xs:XT):Nat->GT
 |0=>⟨λ_=>none,gs,xs,λ_ _ _=>.st,λ_=>false⟩
 |n+1=>⟨λx=>match look ds x with
  |some d=>some ⟨d.ms,af (sv ds gs xs n) d⟩
  |none=>none,gs,xs,λ_ _ _=>.st,λ_=>false⟩
structure XsIn(K:aP)(mg:Str->Option aC)(xs:XT):Prop where
 exc:∀x,xs.exc x=true->∃C bm newId,mg x=some (.ref C)/\eD K C bm newId=true/\ExBase bm newId
 sub:∀c y,xs.sub c y=true->∃Cy,mg y=some (.ref Cy)/\cU K (.ref (y6 mg c)) (.ref Cy)=some true
 ve:∀c,xs.ve c=true->gX K (.ref (y6 mg c)) (.type "ValueError")=some true
 nsub:∀c y,xs.nsub c y=true->∃Cy,mg y=some (.ref Cy)/\cU K (.ref (y6 mg c)) (.ref Cy)=some false
 late:∀x,xs.late x=true->∃C,C∈uk/\mg x=some (.ref C)
 nlate:∀c,xs.nlate c=true->y6 mg c∉uk
section
variable{P:bN}{w:cH}{K:aP}{mg:Str->Option aC}{base:Heap}{ds:List DefR}{gs:Str->Option Str}{xs:XT}
def Wq{d:DefR}(n:Nat)(h:look ds x=some d):(sv ds gs xs (n+1)).fns x=some ⟨d.ms,af (sv ds gs xs n) d⟩:=by
 show(match look ds x with
  |some d=>some (FS.mk d.ms (af (sv ds gs xs n) d))
  |none=>none)=_
 rw[h]
def Bm(mg:Str->Option aC)(base:Heap):Prop:=∃bm o,mg "__builtins__"=some (.ref bm)/\bm≠jC/\bm≠cG/\base.get? bm=some o/\o.cls=.type "module"/\o.dict=some jC/\o.data=.plain
theorem rk{lo:Nat}:∀(names:List (Str×fX))(n:Nat)(acc:List (Str×Addr)),lo<=n->(∀p∈acc,lo<=p.2)->∀p∈mM n names acc,lo<=p.2
 |[],_,acc,_,h,p,hp=>h p hp
 |(nm,kd)::r,n,acc,hl,h,p,hp=>by
  unfold mM at hp;split at hp
  ·refine rk r (n+1) _ (Nat.le_succ_of_le hl) (λq hq=>?_) p hp;rcases List.mem_cons.mp hq with rfl|hq
   ·exact hl
   ·exact h q hq
  ·exact rk r n _ hl h p hp
def Nf{d:DefR}{fd:dX}(kb:K.In base)(bm:Bm mg base)(hc:fd.code=cdv)(hl:d.lm=true->∃c P,fd.code=.ref c/\(c,P,d.x++".<locals>."++"<lambda>")∈L4/\lM K c P=true):
  (JT d.st d.lm).lam=true->Rj (yh (Aw P w) P w K mg base N d.x (bp d.st) f cdv A outer s H E):=λz=>by
 obtain⟨c,Pl,h1,h2,h3⟩:=hl z;refine⟨c,Pl,h2,hc.symm.trans h1,PySem.W.codeHd_of_K kb h3,bm,λy c hy=>?_,λy hy=>decide_eq_false λz=>z hy⟩;exact rk _ _ _ (jL _) (λp hp=>by simp at hp) _ (eM hy)
theorem Wr(kb:K.In base)(bm:Bm mg base)(hd:∀d∈ds,DefIn K mg d)(hs:∀x y,gs x=some y->∃t,mg x=some (.str y t))(hb:∀x∈wd,mg x=none)(hX:XsIn K mg xs):∀n,TabIs P w K mg base (sv ds gs xs n) n
 |0=>⟨λx s h=>(by cases h),hs,hb,hX.exc,hX.sub,hX.ve,hX.nsub,hX.late,hX.nlate,λe fs ds d h=>(by cases h),λx s h=>(by cases h)⟩
 |n+1=>by
  have ih:=Wr kb bm hd hs hb hX n;refine⟨λx s h=>?_,hs,hb,hX.exc,hX.sub,hX.ve,hX.nsub,hX.late,hX.nlate,λe fs ds' d h=>(by cases h),λx s h h'=>(by cases h)⟩;unfold sv at h;dsimp only at h;cases e:look ds x with
  |none=>rw[e]at h;cases h
  |some d=>
   rw[e]at h;cases h;obtain⟨m1,m2⟩:=Iv e;subst m2;obtain⟨ok,bd,f,fd,q1,F,hl⟩:=hd d m1;obtain⟨S,hm⟩:=zx ok;refine⟨f,fd,Af d.st,q1,F.kp,F.binds bd,Sz F S hm λcdv A outer s H G0 E hc hr=>?_⟩;exact S3 _ _ _ (JT d.st d.lm) G0 H E _ ⟨TabIs.xok (X:=yh (Aw P w) P w K mg base (CG d.st) d.x (bp d.st) f cdv A outer s H E) ih hr rfl rfl S.nd rfl G9 (λ_=>⟨rfl,rfl,rfl⟩) (Nf kb bm hc hl),λy hy=>decide_eq_true hy,PassesOwn.leaving,rfl,rfl,rfl⟩
def Oq(K:aP):Sp:=λvs H Q _=>GOk H/\∃(a:Addr) (ns:List Int),vs=[.ref a]/\SqL K H a (ns.map V.int)/\ns.length<=63/\∀H',Q (.bl true) H'
theorem D0{K:KA}{G:Hp}:∀ns:List Int,DenL K G (ns.map D.int) (ns.map V.int)
 |[]=>rfl
 |n::ns=>⟨.int n,ns.map V.int,rfl,rfl,D0 ns⟩
def FX{d:DefR}{f:Addr}{oc kV doc pm cdv ct:aC}{od an:Option Addr}{osl:Array (Option aC)}(ok:By d=true)(nl:d.lm=false)
  (a:eQ K cG d.x=some (some (.ref f)))(l:K.lookup f=some ⟨oc,od,.func (dJ d.x d.x (j5 d.st) (gd d.st) (bp d.st) .none kV doc pm an cdv ct),osl⟩)(c:fY K cdv d.x=true)(k:bU K (.ref f)=true)
  (kb:K.In base) (bm:Bm mg base) (hd:∀d∈ds,DefIn K mg d) (hs:∀x y,gs x=some y->∃t,mg x=some (.str y t)) (hb:∀x∈wd,mg x=none) (hX:XsIn K mg xs) {n:Nat} {s:FS} (hl:(sv ds gs xs n).fns "law"=some s) (hm:s.ms=[false])
  (law:∀ns:List Int,ns.length<=63->s.f [.lst (ns.map D.int)]=.ok (.bl true)) (hx:look ds "law"=some d:=by rfl) (hp:Af d.st=[("_law_script":Str)]:=by rfl):
  FnOk P w K mg base DI n f (dJ d.x d.x (j5 d.st) (gd d.st) (bp d.st) .none kV doc pm an cdv ct) ["_law_script"] (Oq K):=by
 cases n with
 |zero=>cases hl
 |succ n=>
  unfold sv at hl;dsimp only at hl;rw[hx]at hl;cases hl;obtain⟨S,hm'⟩:=zx ok;have F:=Sz (P:=P) (w:=w) (base:=base) (mg:=mg) (k:=n) (ms:=d.ms) (Fb:=gB (sv ds gs xs n) Rz (JT d.st d.lm) (gd d.st)) (S2 l c k) S hm' λcdv' A outer s H G0 E hc hr=>by
   exact S3 _ _ _ (JT d.st d.lm) G0 H E _ ⟨TabIs.xok (X:=yh (Aw P w) P w K mg base (CG d.st) d.x (bp d.st) f cdv' A outer s H E) (Wr kb bm hd hs hb hX n) hr rfl rfl S.nd rfl G9 (λ_=>⟨rfl,rfl,rfl⟩) (Nf kb bm hc λz=>by rw[nl]at z;cases z),λy hy=>decide_eq_true hy,PassesOwn.leaving,rfl,rfl,rfl⟩
  rw[hp]at F;refine F.calm.imp λvs H Q E ⟨gb,a,ns,e,sq,hn,q⟩=>?_;subst e;have hm:d.ms=[false]:=hm;have e:af (sv ds gs xs n) d [.lst (ns.map D.int)]=.ok (.bl true):=law ns hn;show Lu _ d.ms (af (sv ds gs xs n) d) _ H Q E0;refine⟨by rw[hm];rfl,gb,H,[.lst (ns.map D.int)],Same.refl H,by rw[hm];exact⟨_,[],_,[],rfl,rfl,⟨a,_,rfl,sq,D0 ns⟩,rfl,rfl⟩,?_⟩;rw[e];intro v G' H' _ dn;rw[show v=.bl true from dn];exact q H'
end
def z8(b:Addr):Option HO:=(L4.find? λp=>p.2.1==b).map λp=>.tbl p.2.2
def Cf(h:z8 b=some o):∃p∈L4,p.2.1=b/\o=.tbl p.2.2:=by
 unfold z8 at h;cases e:L4.find? λp=>p.2.1==b with
 |none=>rw[e]at h;cases h
 |some p=>
  rw[e]at h;cases h;exact⟨p,List.mem_of_find?_eq_some e,by simpa using List.find?_some e,rfl⟩
theorem M1{f:α->Addr}:∀{l:List α}{p:α},(l.map f).Nodup->p∈l->l.find? (λq=>f q==f p)=some p
 |[],_,_,h=>by simp at h
 |a::r,p,nd,h=>by
  rw[aU,List.nodup_cons]at nd;rw[fH]
  by_cases e:f a=f p
  ·have hb:(f a==f p)=true:=by simpa using e
   rw[hb];rcases List.mem_cons.mp h with rfl|h
   ·rfl
   ·exact absurd (e▸List.mem_map_of_mem h) nd.1
  ·have hb:(f a==f p)=false:=by simpa using e
   rw[hb];rcases List.mem_cons.mp h with rfl|h
   ·exact absurd rfl e
   ·exact M1 nd.2 h
def Q9(nd:(L4.map (·.2.1)).Nodup){p:Addr×Addr×Str}(hp:p∈L4):z8 p.2.1=some (.tbl p.2.2):=by
 unfold z8;rw[M1 (f:=λp:Addr×Addr×Str=>p.2.1) nd hp];rfl
def Rm(h:Heap):Prop:=∀p∈L4,PySem.W.CodeHd h p.1 p.2.1/\h.get? p.2.1=some (kP #[])
def Qd{P:bN}{w:cH}{K:aP}{mg mb:Str->Option aC}{k:Nat}{fa a:Addr}{fd:dX}{x:Str}{s₁:aK}{vs:List aC}{ns:List Int}
  (KX:K.In s₁.heap)(nK:PySem.W.noTabs K=true)(nd:(L4.map (·.2.1)).Nodup)(tb:Rm s₁.heap)(bm:Bm mg s₁.heap)(hns:s₁.heap.Ns cG mg)(hb:s₁.heap.Ns jC mb)(hbb:∀x:Str,x≠"__name__"->mb x=eN x)(hlim:s₁.heap.NoLimit)(hg:s₁.gens=#[])
  (ha:s₁.heap.get? a=some {cls:=.type "list",data:=.seq vs.toArray}) (hi:IntsAre vs ns) (hl:ns.length<=aD) (hl2:ns.length<=63) (hr:Room k mP)
  (F:∀base:Heap,K.In base->base.Ns cG mg->Bm mg base->FnOk P w K mg base DI k fa fd [x] (Oq K)) (hbind:∀(s:aK)(u:aC),BindsTo s fd ⟨[u],[]⟩ [(x,u)]):
  kX (bE P w) mP (.call (.ref fa) ⟨[.ref a],[]⟩) (λr s'=>r=.ok (.ret (.bool true))/\OldK s₁.heap s'.heap/\s'.os=s₁.os/\jZ s'.gens) s₁:=by
 have rv:=E3 hi;have lenV:=hi.length;have tne:∀{b:Addr}{u:HO},z8 b=some u->s₁.heap.get? b=some (kP #[]):=λ{b u} e=>by
  obtain⟨p,hp,rfl,_⟩:=Cf e;exact(tb p hp).2
 have core:∀S:Option HO,(S=none\/S=some (.frz {cls:=.type "list",data:=.seq vs.toArray} (.lst (ns.map V.int))))->(S≠none->K.lookup a=none)->SqL K (λb=>if b=a then S else z8 b) a (ns.map V.int)->
   kX (bE P w) mP (.call (.ref fa) ⟨[.ref a],[]⟩) (λr s'=>r=.ok (.ret (.bool true))/\OldK s₁.heap s'.heap/\s'.os=s₁.os/\jZ s'.gens) s₁:=by
  intro S hS hSK sq;generalize hH:(λb=>if b=a then S else z8 b)=H at sq;have Ha:H a=S:=by rw[<-hH];exact aB rfl
  have Hb:∀b,b≠a->H b=z8 b:=λb hb=>by rw[<-hH];exact aG hb
  have kind:∀{b:Addr}{u:HO},H b=some u->(b=a/\u=.frz {cls:=.type "list",data:=.seq vs.toArray} (.lst (ns.map V.int))/\K.lookup a=none)\/∃p∈L4,p.2.1=b/\u=.tbl p.2.2:=λ{b u} e=>by
   by_cases z:b=a
   ·rw[z,Ha]at e;rcases hS with y|y
    ·rw[y]at e;cases e
    ·rw[y]at e;cases e;exact .inl ⟨z,rfl,hSK (by rw[y];simp)⟩
   ·rw[Hb b z]at e;exact .inr (Cf e)
  have hok:HOk P w H s₁.heap:=λb u e=>by
   rcases kind e with ⟨rfl,rfl,_⟩|⟨p,hp,rfl,rfl⟩
   ·exact⟨ha,by rw[aJ];exact hl,vs,_,rv,ha⟩
   ·exact⟨#[],(tb p hp).2,trivial⟩
  have base_of:∀{b:Addr}{o:Obj},s₁.heap.get? b=some o->H b=none->(Dh s₁.heap H).get? b=some o:=λe n=>Te e n;have free:∀{b:Addr}{o:Obj},s₁.heap.get? b=some o->(∀n,o.data≠.seq vs.toArray n)->o≠kP #[]->H b=none:=λ{b o} e h1 h2=>by
   cases q:H b with
   |none=>rfl
   |some u=>
    rcases kind q with ⟨rfl,_⟩|⟨p,hp,rfl,_⟩
    ·rw[ha]at e;cases e;exact absurd rfl (h1 _)
    ·rw[(tb p hp).2]at e;cases e;exact absurd rfl h2
  have nsK:∀{b:Addr}{m:Str->Option aC},s₁.heap.Ns b m->(Dh s₁.heap H).Ns b m:=λ{b m} ⟨o,es,ep,e,d,r⟩=>⟨o,es,ep,base_of e (free e (λn z=>by rw[d]at z;cases z) λz=>by rw[z]at d;cases d),d,r⟩;have hKb:K.In (Dh s₁.heap H):=λb o e=>base_of (KX b o e) (by
   cases q:H b with
   |none=>rfl
   |some u=>
    rcases kind q with ⟨rfl,_,z⟩|⟨p,hp,rfl,_⟩
    ·rw[z]at e;cases e
    ·have e2:=KX _ _ e;rw[(tb p hp).2]at e2;have h2:=List.all_eq_true.mp nK _ (PySem.W.mem_of_lookupK e);cases e2;exact absurd (show false=true from h2) Bool.false_ne_true)
  have bmK:Bm mg (Dh s₁.heap H):=by
   obtain⟨m,o,b1,b2,b3,b4,b5,b6,b7⟩:=bm;exact⟨m,o,b1,b2,b3,base_of b4 (free b4 (λn z=>by rw[b7]at z;cases z) λz=>by rw[z]at b5;cases b5),b5,b6,b7⟩
  have hM:Mod K mg (Dh s₁.heap H):=⟨hKb,nsK hns,⟨mb,nsK hb,hbb⟩,let ⟨mc,h1,h2⟩:=hlim;⟨mc,nsK h1,h2⟩⟩;have e0:Env0 P w K mg (Dh s₁.heap H) mP [] s₁ H:=⟨rfl,hM,λb o e=>Zb e,eC (P3 _ _),trivial,λb hb=>absurd (show b∈([]:List Addr)from hb) (by simp),hok,.of_eq hg⟩;have gb:GOk H:=λp hp=>by
   have:p.2.1≠a:=λz=>by
    have:=(tb p hp).2;rw[z,ha]at this;cases this
   rw[Hb _ this];exact Q9 nd hp
  refine kA ((F _ hKb (nsK hns) bmK).run mP [] s₁ H ⟨[.ref a],[]⟩ [.ref a] [.ref a] (λv _=>v=.bl true) E0 hr e0 (hbind s₁ (.ref a)) (.cons rfl .nil) ⟨gb,a,ns,rfl,sq,hl2,λ_=>rfl⟩) λr s' h=>?_;cases r with
  |error e=>exact cZ h
  |ok fl=>
   cases fl with
   |next=>exact cZ h
   |brk=>exact cZ h
   |cont=>exact cZ h
   |ret u=>
    obtain⟨v,H',os,bare,un,hok',r',q⟩:=h;have q':v=.bl true:=q;subst q';obtain rfl:u=gR true:=r';have keep:∀b o,s₁.heap.get? b=some o->(s'.heap.get? b=some o)\/∃p∈L4,p.2.1=b/\∃ps,s'.heap.get? b=some (kP ps):=λb o e=>by
     cases q:H b with
     |none=>exact .inl (un.keep b o e q (by intro z;exact absurd (show b∈([]:List Addr)from z) (by simp)) (by simp))
     |some u=>
      rcases kind q with ⟨rfl,rfl,_⟩|⟨p,hp,rfl,rfl⟩
      ·obtain⟨e1,_⟩:=hok b _ q;obtain⟨e2,_⟩:=hok' b _ (un.frzs b _ _ q);rw[e]at e1;cases e1;exact .inl e2
      ·obtain⟨ps,e2,_⟩:=hok' _ _ (un.tbls _ _ q);exact .inr ⟨p,hp,rfl,ps,e2⟩
    refine⟨rfl,⟨λb o e=>?_,λb o e=>?_⟩,os,bare⟩
    ·rcases keep b o e with z|⟨p,hp,rfl,ps,z⟩
     ·exact .inl z
     ·obtain⟨c1,c2⟩:=tb p hp;rw[c2]at e;cases e;exact .inr (.inl ⟨(c1.tab c2).isCodeTable,rfl,#[],ps,rfl,by rw[Array.empty_append];exact z⟩)
    ·rcases keep b o e with z|⟨p,hp,rfl,ps,z⟩
     ·exact⟨_,z⟩
     ·exact⟨_,z⟩
 cases hk:K.lookup a with
 |some o=>
  have e:=KX a o hk;rw[ha]at e;cases e;exact core none (.inl rfl) (λz=>absurd rfl z) (.inr ⟨_,vs.toArray,_,hk,rfl,rfl,rfl,by rw[aZ,lenV];exact hl,by simpa using rv⟩)
 |none=>exact core _ (.inr rfl) (λ_=>hk) (.inl (.inr ⟨{cls:=.type "list",data:=.seq vs.toArray},aB rfl⟩))
def OW{l:PySem.W.OpenLaw}{d:DefRec}{K:Params->aP}(hn:l.most=some 63)(hdf:d.params.defaults=[])(hr:Room k mP)(nd:(L4.map (·.2.1)).Nodup)
  (hY:∀(w:cH)(h:Heap),YP w h->(K w.params).In h)(nK:∀w:cH,PySem.W.noTabs (K w.params)=true)
  (tb:∀(w:cH)(h:Heap),YP w h->Rm h)
  (F:∀(w:cH)(mg:Str->Option aC)(fa:Addr)(h:Heap),(K w.params).In h->h.Ns cG mg->mg d.name=some (.ref fa)->
   ∃fd:dX,(∀(s:aK)(u:aC),BindsTo s fd ⟨[u],[]⟩ [("_law_script",u)])/\∀base:Heap,(K w.params).In base->base.Ns cG mg->Bm mg base->FnOk l.prog w (K w.params) mg base DI k fa fd ["_law_script"] (Oq (K w.params))):
  PySem.W.WalkO q loose XP YP l.row.toRowW d [] (λf vs=>PySem.call f vs):=by
 refine Att.Hh hn hdf λw s₀ s₁ mg mb fa o pm cd doc a vs ns G Y ho hd hcd hmg hobj hints hlen hg=>?_;have KX:=hY w _ Y;obtain⟨fd,hb,hF⟩:=F w mg fa _ KX G.T.g hmg;obtain⟨bm,ob,b1,b2,b3,b4,b5,b6⟩:=G.T.bmain;have bG:bm≠cG:=λz=>by
  obtain⟨o,es,ep,e,hd,_⟩:=G.T.g;rw[z,e]at b3;cases b3;rw[hd]at b6;cases b6
 exact Qd KX (nK w) nd (tb w _ Y) ⟨bm,ob,b1,b2,bG,b3,b4,b5,b6⟩ G.T.g G.T.b G.T.builtins G.T.nolimit hg hobj hints (bC hlen (by decide)) hlen hr hF hb
end Pu
end
section
namespace LK
open PySem PySem.Spec PyProof.Rows L2 Pu
def top(i:Nat):Stmt:=PySem.Challenge.pw_askbook_k20_texts_refused.main.body.getD i (.Pass ⟨0,0,0,0⟩)
def o4:DefR:=⟨"is_number",top 6,[true],false⟩
def l5:DefR:=⟨"is_word",top 7,[true],false⟩
def qf:DefR:=⟨"is_term",top 8,[true],false⟩
def fq:DefR:=⟨"is_tuple_of",top 9,[true,true,true,true],false⟩
def jm:DefR:=⟨"is_pair",top 10,[true],false⟩
def vb:DefR:=⟨"is_atom",top 11,[true],false⟩
def g7:DefR:=⟨"are_of_one_length",top 12,[true],false⟩
def kc:DefR:=⟨"stand_ins",top 13,[true],false⟩
def rl:DefR:=⟨"terms_of",top 14,[true],false⟩
def km:DefR:=⟨"are_standing",top 15,[true,true],false⟩
def bw:DefR:=⟨"checked_asking",top 16,[false],false⟩
def jb:DefR:=⟨"is_shown_number",top 19,[false],false⟩
def mh:DefR:=⟨"read_term",top 20,[false],false⟩
def jn:DefR:=⟨"read_terms",top 21,[true],false⟩
def jh:DefR:=⟨"read_atom",top 22,[true],false⟩
def jg:DefR:=⟨"read",top 23,[true],false⟩
def me:DefR:=⟨"_law_cell_at",top 25,[true,true],false⟩
def bu:DefR:=⟨"_law_mixed",top 26,[true,true,true],false⟩
def ny:DefR:=⟨"_law_term",top 27,[true,true],false⟩
def nv:DefR:=⟨"_law_atom",top 28,[true,true],false⟩
def il:DefR:=⟨"_law_asking",top 29,[true,true,true],false⟩
def fu:DefR:=⟨"_law_whole",top 30,[true],false⟩
def dm:DefR:=⟨"_law_name",top 31,[true],false⟩
def i5:DefR:=⟨"_law_is_atom",top 33,[true],false⟩
def a9:DefR:=⟨"_law_is_asking",top 34,[true],false⟩
def iz:DefR:=⟨"_law_number_of",top 35,[false],false⟩
def cq:DefR:=⟨"_law_atom_of",top 36,[true],false⟩
def b8:DefR:=⟨"_law_asking_of",top 37,[true],false⟩
def i6:DefR:=⟨"_law_written",top 38,[true],false⟩
def fj:DefR:=⟨"_law_spoilt",top 39,[true,true,true],false⟩
def ft:DefR:=⟨"_law_refused",top 40,[true],false⟩
def ue:DefR:=⟨"law",top 41,[false],false⟩
def Fs:List DefR:=[o4,l5,qf,fq,jm,vb,g7,kc,rl,km,bw,jb,mh,jn,jh,jg,me,bu,ny,nv,il,fu,dm,i5,a9,iz,cq,b8,i6,fj,ft,ue]
def xs:XT:=⟨λx=>decide (x="AskError")||(decide (x="NoAsking")||(decide (x="NoText")||(false))),λc y=>(decide (c="AskError") && decide (y="AskError"))||((decide (c="NoAsking") && decide (y="NoAsking"))||((decide (c="NoAsking") && decide (y="AskError"))||((decide (c="NoText") && decide (y="NoText"))||((decide (c="NoText") && decide (y="AskError"))||(false))))),λc=>decide (c="AskError")||(decide (c="NoAsking")||(decide (c="NoText")||(false))),λc y=>false,λx=>decide (x="NoText")||(false),λc=>decide (c="AskError")||(decide (c="NoAsking")||(false))⟩
def gs(x:Str):Option Str:=if x="LETTERS" then some "abcdefghijklmnopqrstuvwxyz" else if x="FIGURES" then some "0123456789" else none
def FN:By ue=true:=by decide+kernel
def tab(n:Nat):GT:=sv Fs gs xs n
def UJ:List aC:=[.type "ValueError",.type "Exception",.type "BaseException",.type "object"]
def Mf:ExBase UJ "ValueError.__new__":=⟨"ValueError",_,_,_,_,_,PySem.F.excBase_ValueError,by decide+kernel,PySem.F.excBase_ValueError⟩
end LK
end
section
namespace Pu
open PySem PySem.Spec PyProof.Rows L2
def fw{d:DefR}(h:gB T Rz (JT d.st d.lm) (gd d.st)=F)(hn:(CG d.st).length=k)(hm:d.ms=ms)(ds:List D):af T d ds=cj (F (bx ms ds++aS (k - ds.length) .no)):=by
 unfold af QG;rw[h,hn,hm]
def jr(h:r U=.ok ds):k6 tg r F U=turns tg F ds U:=by
 unfold k6;rw[h]
def gy(h:tg d U=some δ1):turns tg F (d::r) U=(match F δ1 with
  |.nx δ'=>turns tg F r δ'
  |.ct δ'=>turns tg F r δ'
  |.bk δ'=>.nx δ'
  |.rt d=>.rt d
  |.er c=>.er c
  |.st=>.st):=by
 show(match tg d U with
  |none=>Out.st
  |some δ1=>match F δ1 with
   |.nx δ'=>turns tg F r δ'
   |.ct δ'=>turns tg F r δ'
   |.bk δ'=>.nx δ'
   |.rt d=>.rt d
   |.er c=>.er c
   |.st=>.st)=_
 rw[h]
theorem Dx:∀{ds:List D},(∀d∈ds,f d=some (g d))->oz f ds=some (ds.filterMap g)
 |[],_=>rfl
 |d::r,h=>by
  unfold oz;rw[h d aH];dsimp only;rw[Dx λd hd=>h d (aF _ hd),cR];cases g d<;>rfl
def H9{ds:List D}(hr:r U=.ok ds)(hl:ds.length<=aD)(hf:∀d∈ds,v8 ix t g U d=some (h d)):cm r ix t g U=.ok (.lst (ds.filterMap h)):=by
 unfold cm;rw[hr];dsimp only;rw[aB hl,Dx hf]
def W5(h:g (de ix U (.pu d))=.ok y):v8 ix (gC (.bl true)) g U d=some (some y):=by
 unfold v8 gC;dsimp only;rw[h]
def Gw(ht:t (de ix U (.pu d))=.ok (.bl b))(h:b=true->g (de ix U (.pu d))=.ok y):v8 ix t g U d=some (if b then some y else none):=by
 unfold v8;rw[ht];cases b with
 |true=>dsimp only;rw[h rfl];rfl
 |false=>rfl
section
variable(U:En)(d e:D)(i j:Nat)(g h k c:En->Res)(F F':En->Out)(r:En->ResL)(f:D->Option D)(f2 f3:D->D->Option D)
@[simp] theorem J7(ms:List Bool):bx ms []=[]:=by cases ms<;>rfl
@[simp] theorem Re(ms:List Bool)(ds:List D):bx (true::ms) (d::ds)=.bo d::bx ms ds:=rfl
@[simp] theorem JL(ms:List Bool)(ds:List D):bx (false::ms) (d::ds)=.pu d::bx ms ds:=rfl
@[simp] theorem cb:ba F F' U=match F U with
 |.nx δ'=>F' δ'
 |o=>o:=rfl
@[simp] theorem u6:fc U=.nx U:=rfl
@[simp] theorem SY:Oe U=.nx U:=rfl
@[simp] theorem UK:ri U=.st:=rfl
@[simp] theorem TQ:ko U=.st:=rfl
@[simp] theorem oj:b9 g U=(g U).then .rt:=rfl
@[simp] theorem oi:ml c F F' U=(c U).then λd=>match d with
 |.bl true=>F U
 |.bl false=>F' U
 |_=>.st:=rfl
@[simp] theorem mq:cu i g U=(g U).then λd=>.nx (U.set i (.pu d)):=rfl
@[simp] theorem JY:lh i g U=(g U).then λd=>match d with
 |.lst ds=>.nx (U.set i (.ow ds))
 |_=>.st:=rfl
@[simp] theorem SX:Es i U=.nx (U.set i (.od false [])):=rfl
@[simp] theorem QV:HK i g U=(g U).then λd=>match d with
 |.dct false kvs=>.nx (U.set i (.od false kvs))
 |_=>.st:=rfl
@[simp] theorem bf(f:D->Out):(Res.ok d).then f=f d:=rfl
@[simp] theorem JH(f:D->Out):Res.st.then f=.st:=rfl
@[simp] theorem JI(f:D->Out)(c:Str):(Res.er c).then f=.er c:=rfl
@[simp] theorem cc(f:D->Res):(Res.ok d).bind f=f d:=rfl
@[simp] theorem JM(f:D->Res):Res.st.bind f=.st:=rfl
@[simp] theorem JN(f:D->Res)(c:Str):(Res.er c).bind f=.er c:=rfl
@[simp] theorem i8:Res.of (some d)=.ok d:=rfl
@[simp] theorem JJ:Res.of none=.st:=rfl
@[simp] theorem u7:cj (.rt d)=.ok d:=rfl
@[simp] theorem NA:cj (.nx U)=.ok .non:=rfl
@[simp] theorem OZ:cj .st=.st:=rfl
@[simp] theorem NB(c:Str):cj (.er c)=.er c:=rfl
@[simp] theorem TJ:dh i U=match U[i]? with
 |some (.pu d)=>.ok d
 |_=>.st:=rfl
@[simp] theorem W7:aa i U=match U[i]? with
 |some (.pu d)=>.ok d
 |some (.bo d)=>.ok d
 |some (.ow ds)=>.ok (.lst ds)
 |some (.od t kvs)=>.ok (.dct t kvs)
 |_=>.st:=rfl
@[simp] theorem UQ:H8 i U=match U[i]? with
 |some (.pu d)=>.ok d
 |some (.bo d)=>.ok d
 |_=>.st:=rfl
@[simp] theorem Xl:gC d U=.ok d:=rfl
@[simp] theorem Me:g1 f g U=(g U).bind λx=>Res.of (f x):=rfl
@[simp] theorem u5:g2 f2 g h U=(g U).bind λx=>(h U).bind λy=>Res.of (f2 x y):=rfl
@[simp] theorem W9:Xi c g h U=(c U).bind λd=>match d with
 |.bl true=>g U
 |.bl false=>h U
 |_=>.st:=rfl
@[simp] theorem J8:fy c U=(c U).bind λd=>match d with
 |.bl b=>.ok (.bl !b)
 |_=>.st:=rfl
@[simp] theorem O5:ro g h U=(g U).bind λd=>match d with
 |.bl true=>h U
 |.bl false=>.ok (.bl false)
 |_=>.st:=rfl
@[simp] theorem Cp:m7 g h U=(g U).bind λd=>match d with
 |.bl true=>.ok (.bl true)
 |.bl false=>h U
 |_=>.st:=rfl
@[simp] theorem Pb:dq g U=(g U).bind λx=>Res.of (bD (Dn x)):=rfl
@[simp] theorem J9(b:Bool):bD (Dn (.bl b))=some (.bl b):=rfl
@[simp] theorem vn:rq f2 f3 g h k U=(g U).bind λx=>(h U).bind λy=>(Res.of (f2 x y)).bind λz=>match z with
 |.bl true=>(k U).bind λw=>Res.of (f3 y w)
 |.bl false=>.ok (.bl false)
 |_=>.st:=rfl
@[simp] theorem Md:ae g r U=match g U with
 | .ok d => (match r U with
  |.ok ds=>.ok (d::ds)
  |.er c=>.er c
  |.st=>.st)
 |.er c=>.er c
 |.st=>.st:=rfl
@[simp] theorem Xa:ak U=.ok []:=rfl
@[simp] theorem Gz(fn:List D->Res):ao fn r U=match r U with
 |.ok ds=>fn ds
 |.er c=>.er c
 |.st=>.st:=rfl
@[simp] theorem NC:ie r U=match r U with
 |.ok ds=>if ds.length<=16777216 then .ok (.lst ds)else .st
 |.er c=>.er c
 |.st=>.st:=rfl
@[simp] theorem TK:k8 r U=match r U with
 |.ok ds=>if ds.length<=16777216 then .ok (.tup ds)else .st
 |.er c=>.er c
 |.st=>.st:=rfl
@[simp] theorem G7:bc g U=match g U with
 | .ok d => (match E4 d with
  |some ds=>.ok ds
  |none=>.st)
 |.er c=>.er c
 |.st=>.st:=rfl
@[simp] theorem OY(ds:List D):E4 (.lst ds)=some ds:=rfl
@[simp] theorem OX(ds:List D):E4 (.tup ds)=some ds:=rfl
@[simp] theorem Cn:fz [] F U=F U:=rfl
@[simp] theorem IC(is:List Nat):fz (i::is) F U=fz is F (frz i U):=rfl
@[simp] theorem W8:frz i U=match U[i]? with
 |some (.ow ds)=>U.set i (.pu (.lst ds))
 |some (.od t kvs)=>U.set i (.pu (.dct t kvs))
 |_=>U:=rfl
@[simp] theorem NF:br i d U=some (U.set i (.pu d)):=rfl
@[simp] theorem TV:Dj i g U=match U[i]? with
 |some (.ow ds)=>(g U).then λd=>if ds.length<16777216 then .nx (U.set i (.ow (ds++[d])))else .st
 |_=>.st:=rfl
@[simp] theorem NG:xq i g U=match U[i]? with
 |some (.ow ds)=>(g U).then λd=>match wk d with
  |some es=>if ds.length+es.length<=16777216 then .nx (U.set i (.ow (ds++es)))else .st
  |none=>.st
 |_=>.st:=rfl
@[simp] theorem Rf(ds:List D):wk (.lst ds)=some ds:=rfl
@[simp] theorem JK(ds:List D):wk (.tup ds)=some ds:=rfl
@[simp] theorem QX(ds:List D):bj (.lst ds)=some (.int ds.length):=rfl
@[simp] theorem QW(ds:List D):bj (.tup ds)=some (.int ds.length):=rfl
@[simp] theorem ON(d:D)(xs:List D):j0 d (.lst xs)=Ge d (.lst xs):=rfl
@[simp] theorem OL(d:D)(xs:List D):j0 d (.tup xs)=Ge d (.tup xs):=rfl
@[simp] theorem OM(d:D)(x:Str):j0 d (.str x)=Ge d (.str x):=rfl
@[simp] theorem IB(d:D)(xs:List D):gw d (.lst xs)=pb d (.lst xs):=rfl
@[simp] theorem JZ(d:D)(xs:List D):gw d (.tup xs)=pb d (.tup xs):=rfl
@[simp] theorem IA(d:D)(x:Str):gw d (.str x)=pb d (.str x):=rfl
@[simp] theorem UL(a b:Int):gz (.int a) (.int b)=some (.bl (decide (a<b))):=rfl
@[simp] theorem UM(a b:Int):Ag (.int a) (.int b)=some (.bl (decide (a<=b))):=rfl
@[simp] theorem UN(a b:Int):Di (.int a) (.int b)=some (.bl (decide (b<a))):=rfl
@[simp] theorem UO(a b:Int):MT (.int a) (.int b)=some (.bl (decide (b<=a))):=rfl
@[simp] theorem TU(a b:Int):f6 (.int a) (.int b)=some (.bl (a==b)):=rfl
@[simp] theorem TM(a b:Int):i9 (.int a) (.int b)=some (.bl (!(a==b))):=rfl
@[simp] theorem TX(a b:Int):aj (.int a) (.int b)=some (.int (a+b)):=rfl
@[simp] theorem TL(a b:Int):Ob (.int a) (.int b)=some (.int (a - b)):=rfl
@[simp] theorem TN:qr d .non=some (.bl (qi d)):=rfl
@[simp] theorem ND:qu d .non=some (.bl (!qi d)):=rfl
@[simp] theorem Rg(ds:List D):gf (.lst ds)=some (.tup ds):=rfl
@[simp] theorem JG(ds:List D):gf (.tup ds)=some (.tup ds):=rfl
@[simp] theorem UP:gM f2 g h U=(g U).bind λx=>match x with
 |.lst xs=>(h U).bind λy=>Res.of (f2 (.lst xs) y)
 |_=>.st:=rfl
@[simp] theorem PK(x:Str):bq "str" (.str x)=some (.bl true):=by kernel_rfl
@[simp] theorem PN(x:Int):bq "str" (.int x)=some (.bl false):=by kernel_rfl
@[simp] theorem PP(x:Bool):bq "str" (.bl x)=some (.bl false):=by kernel_rfl
@[simp] theorem PL:bq "str" .non=some (.bl false):=by kernel_rfl
@[simp] theorem PJ(x:List D):bq "str" (.tup x)=some (.bl false):=by kernel_rfl
@[simp] theorem PM(x:List D):bq "str" (.lst x)=some (.bl false):=by kernel_rfl
@[simp] theorem OA(x:Str):bq "int" (.str x)=some (.bl false):=by kernel_rfl
@[simp] theorem OD(x:Int):bq "int" (.int x)=some (.bl true):=by kernel_rfl
@[simp] theorem OE(x:Bool):bq "int" (.bl x)=some (.bl true):=by kernel_rfl
@[simp] theorem OB:bq "int" .non=some (.bl false):=by kernel_rfl
@[simp] theorem PZ(x:List D):bq "int" (.tup x)=some (.bl false):=by kernel_rfl
@[simp] theorem OC(x:List D):bq "int" (.lst x)=some (.bl false):=by kernel_rfl
@[simp] theorem OG(x:Str):bq "bool" (.str x)=some (.bl false):=by kernel_rfl
@[simp] theorem OI(x:Int):bq "bool" (.int x)=some (.bl false):=by kernel_rfl
@[simp] theorem OJ(x:Bool):bq "bool" (.bl x)=some (.bl true):=by kernel_rfl
@[simp] theorem OH:bq "bool" .non=some (.bl false):=by kernel_rfl
@[simp] theorem OF(x:List D):bq "bool" (.tup x)=some (.bl false):=by kernel_rfl
@[simp] theorem OK(x:List D):bq "bool" (.lst x)=some (.bl false):=by kernel_rfl
@[simp] theorem Pa(x:Str):bq "tuple" (.str x)=some (.bl false):=by kernel_rfl
@[simp] theorem O7(x:Int):bq "tuple" (.int x)=some (.bl false):=by kernel_rfl
@[simp] theorem O6(x:Bool):bq "tuple" (.bl x)=some (.bl false):=by kernel_rfl
@[simp] theorem O9:bq "tuple" .non=some (.bl false):=by kernel_rfl
@[simp] theorem PH(x:List D):bq "tuple" (.tup x)=some (.bl true):=by kernel_rfl
@[simp] theorem O8(x:List D):bq "tuple" (.lst x)=some (.bl false):=by kernel_rfl
@[simp] theorem PR(x:Str):bq "list" (.str x)=some (.bl false):=by kernel_rfl
@[simp] theorem PX(x:Int):bq "list" (.int x)=some (.bl false):=by kernel_rfl
@[simp] theorem PY(x:Bool):bq "list" (.bl x)=some (.bl false):=by kernel_rfl
@[simp] theorem PU:bq "list" .non=some (.bl false):=by kernel_rfl
@[simp] theorem PQ(x:List D):bq "list" (.tup x)=some (.bl false):=by kernel_rfl
@[simp] theorem PV(x:List D):bq "list" (.lst x)=some (.bl true):=by kernel_rfl
@[simp] theorem PF(a b:D):ar (.tup [a,b]) (.int 0)=some a:=rfl
@[simp] theorem PC(a b:D):ar (.tup [a,b]) (.int 1)=some b:=rfl
@[simp] theorem PB(a b c:D):ar (.tup [a,b,c]) (.int 0)=some a:=rfl
@[simp] theorem QZ(a b c:D):ar (.tup [a,b,c]) (.int 1)=some b:=rfl
@[simp] theorem QY(a b c:D):ar (.tup [a,b,c]) (.int 2)=some c:=rfl
def KZ(d:D):Prop:=∃p,gj d=some p/\dI p=true/\p.depth<=8
def AD(i:Int):KZ (.int i):=⟨.int i,rfl,rfl,cA _⟩
def Oo(h:eE x=true):KZ (.str x):=⟨.str x,rfl,h,cA _⟩
def Rl(ds:List D):Prop:=∃ps,fh ds=some ps/\bB ps=true/\fJ ps<=8
theorem AE:∀{ds:List D},(∀d∈ds,KZ d)->Rl ds
 |[],_=>⟨[],rfl,rfl,cA _⟩
 |d::r,h=>by
  obtain⟨p,e1,e2,e3⟩:=h d aH;obtain⟨ps,f1,f2,f3⟩:=AE (ds:=r) λd hd=>h d (aF _ hd);refine⟨p::ps,by unfold fh;rw[e1,f1],?_,Nat.max_le.mpr ⟨e3,f3⟩⟩;show(dI p && bB ps)=true;rw[e2,f2];rfl
def si{p:mH}(h1:dI p=true)(h2:p.depth<=63):bV p=true:=by
 unfold bV;rw[h1,decide_eq_true (by lia)];rfl
def Ks{d e:D}{p q:mH}(h1:gj d=some p)(h2:gj e=some q)(a1:dI p=true)(a2:p.depth<=63)(b1:dI q=true)(b2:q.depth<=63):Px d e=some (cC p q):=by
 unfold Px;rw[h1,h2];dsimp only;rw[si a1 a2,si b1 b2];rfl
def Fv{ds:List D}(h:Rl ds):f6 (.lst ds) (.lst [])=some (.bl ds.isEmpty)/\i9 (.lst ds) (.lst [])=some (.bl (!ds.isEmpty)):=by
 obtain⟨ps,e1,e2,e3⟩:=h;have q:Px (.lst ds) (.lst [])=some (cC (.list ps) (.list [])):=Ks (by unfold gj;rw[e1]) rfl e2 (show fJ ps+1<=63 by lia) rfl (show 0+1<=63 by lia);have e:cC (.list ps) (.list [])=ds.isEmpty:=by
  cases ds with
  |nil=>cases e1;rfl
  |cons d r=>
   unfold fh at e1;cases h1:gj d with
   |none=>rw[h1]at e1;cases e1
   |some p=>
    cases h2:fh r with
    |none=>rw[h1,h2]at e1;cases e1
    |some ps'=>rw[h1,h2]at e1;cases e1;rfl
 unfold f6 i9;rw[q,e];exact⟨rfl,rfl⟩
def sy(a b:Int)(h:0<b):ig (.int a) (.int b)=some (.int (a % b)):=aB h
def Co(a b:Int)(h:(-(2 ^ 64)<a/\a<2 ^ 64)\/(-(2 ^ 64)<b/\b<2 ^ 64)):jc (.int a) (.int b)=some (.int (a * b)):=aB h
def ID(a b:Int)(h:0<b/\b<1073741824):mw (.int a) (.int b)=some (.int (a / b)):=aB h
def Cq(hr:r U=.ok [.int j'])(h:-(2 ^ 62)<=j'/\j'<2 ^ 62):mv r U=.ok (gx 0 j'.toNat):=by
 unfold mv;rw[hr];exact aB h
end
end Pu
end
section
namespace LK
open PySem PySem.Spec PyProof.Rows L2 Pu
def y8(n:Nat):En->Out:=(b9 (ro (g1 (bq "int") (aa 0)) (fy (g1 (bq "bool") (aa 0)))))
def Hr(n:Nat)(ds:List D):af (tab (n+1)) o4 ds=cj (y8 n (bx [true] ds++aS (1 - ds.length) .no)):=fw (by kernel_rfl) (by decide+kernel) rfl ds
def jl(n:Nat):En->Out:=(b9 (ro (g1 (bq "str") (aa 0)) (ro (rq Ag Ag (gC (.int 1)) (g1 bj (aa 0)) (gC (.int 8))) (g1 su (cm (bc (aa 0)) [] (gC (.bl true)) (g2 j0 (aa 0) (gC (.str "abcdefghijklmnopqrstuvwxyz"))))))))
def nj(n:Nat)(ds:List D):af (tab (n+1)) l5 ds=cj (jl n (bx [true] ds++aS (1 - ds.length) .no)):=fw (by kernel_rfl) (by decide+kernel) rfl ds
def yc(n:Nat):En->Out:=(b9 (m7 (ao (af (tab n) l5) (ae (aa 0) ak)) (ao (af (tab n) o4) (ae (aa 0) ak))))
def Pr(n:Nat)(ds:List D):af (tab (n+1)) qf ds=cj (yc n (bx [true] ds++aS (1 - ds.length) .no)):=fw (by kernel_rfl) (by decide+kernel) rfl ds
def d8(n:Nat):En->Out:=(ba (ml (m7 (fy (dq (g1 (bq "tuple") (aa 0)))) (fy (rq Ag Ag (aa 1) (g1 bj (aa 0)) (aa 2)))) (b9 (gC (.bl false))) fc)
 (b9 (g1 su (cm (bc (aa 0)) [3] (gC (.bl true)) (Bg (tab (n+1)) 1 [((aa 0),(dh 0))])))))
def C7(n:Nat)(ds:List D):af (tab (n+1)) fq ds=cj (d8 n (bx [true,true,true,true] ds++aS (4 - ds.length) .no)):=fw (by kernel_rfl) (by decide+kernel) rfl ds
def jk(n:Nat):En->Out:=(b9 (ro (g1 (bq "tuple") (aa 0)) (g2 f6 (g1 bj (aa 0)) (gC (.int 2)))))
def D2(n:Nat)(ds:List D):af (tab (n+1)) jm ds=cj (jk n (bx [true] ds++aS (1 - ds.length) .no)):=fw (by kernel_rfl) (by decide+kernel) rfl ds
def qa(n:Nat):En->Out:=(b9 (ro (ao (af (tab n) jm) (ae (aa 0) ak)) (ro (ao (af (tab n) l5) (ae (g2 ar (aa 0) (gC (.int 0))) ak)) (ao (af (tab n) fq) (ae (g2 ar (aa 0) (gC (.int 1))) (ae (gC (.int 1)) (ae (gC (.int 4)) (ae (gC (.fn "is_term")) ak))))))))
def Pq(n:Nat)(ds:List D):af (tab (n+1)) vb ds=cj (qa n (bx [true] ds++aS (1 - ds.length) .no)):=fw (by kernel_rfl) (by decide+kernel) rfl ds
def js(n:Nat):En->Out:=(ba (Es 1)
 (ba (fz [0] (k6 (br 2) (bc (H8 0)) (Gj (zm i9 (m9 1 (g2 ar (aa 2) (gC (.int 0))) (g1 bj (g2 ar (aa 2) (gC (.int 1))))) (g1 bj (g2 ar (aa 2) (gC (.int 1))))) (b9 (gC (.bl false))) fc)))
 (b9 (gC (.bl true)))))
def vo(n:Nat)(ds:List D):af (tab (n+1)) g7 ds=cj (js n (bx [true] ds++aS (3 - ds.length) .no)):=fw (by kernel_rfl) (by decide+kernel) rfl ds
def t8(n:Nat):En->Out:=(ba (Es 1)
 (ba (fz [0] (k6 (br 2) (bc (H8 0)) (ml (dq (g1 (bq "str") (aa 2))) (Lp 1 (aa 2) (gC (.bl true))) fc)))
 (b9 (g1 ky (aa 1)))))
def Hw(n:Nat)(ds:List D):af (tab (n+1)) kc ds=cj (t8 n (bx [true] ds++aS (3 - ds.length) .no)):=fw (by kernel_rfl) (by decide+kernel) rfl ds
def wc(n:Nat):En->Out:=(ba (lh 1 (ie ak))
 (ba (fz [0] (k6 (br 2) (bc (H8 0)) (xq 1 (g2 ar (aa 2) (gC (.int 1))))))
 (fz [1] (b9 (dh 1)))))
def Kq(n:Nat)(ds:List D):af (tab (n+1)) rl ds=cj (wc n (bx [true] ds++aS (3 - ds.length) .no)):=fw (by kernel_rfl) (by decide+kernel) rfl ds
def t6(n:Nat):En->Out:=(ba (cu 2 (ao (af (tab n) kc) (ae (ao (af (tab n) rl) (ae (aa 1) ak)) ak)))
 (b9 (g1 su (cm (bc (ao (af (tab n) kc) (ae (aa 0) ak))) [2] (gC (.bl true)) (g2 j0 (aa 0) (aa 1))))))
def Bd(n:Nat)(ds:List D):af (tab (n+1)) km ds=cj (t6 n (bx [true,true] ds++aS (3 - ds.length) .no)):=fw (by kernel_rfl) (by decide+kernel) rfl ds
def fx(n:Nat):En->Out:=(ba (ml (fy (dq (ao (af (tab n) jm) (ae (aa 0) ak)))) (iu "NoAsking" (ae (gC (.str "an asking is a tuple of a head and atoms")) ak)) fc)
 (ba (cu 1 (g2 ar (aa 0) (gC (.int 0))))
 (ba (cu 2 (g2 ar (aa 0) (gC (.int 1))))
 (ba (ml (fy (dq (ao (af (tab n) fq) (ae (aa 1) (ae (gC (.int 0)) (ae (gC (.int 4)) (ae (gC (.fn "is_term")) ak))))))) (iu "NoAsking" (ae (gC (.str "a head is a tuple of at most 4 terms")) ak)) fc)
 (ba (ml (fy (dq (ao (af (tab n) fq) (ae (aa 2) (ae (gC (.int 1)) (ae (gC (.int 6)) (ae (gC (.fn "is_atom")) ak))))))) (iu "NoAsking" (ae (gC (.str "an asking has a tuple of 1 to 6 atoms")) ak)) fc)
 (ba (ml (fy (dq (ao (af (tab n) g7) (ae (aa 2) ak)))) (iu "NoAsking" (ae (gC (.str "atoms of one name have equally many terms")) ak)) fc)
 (ba (ml (fy (dq (ao (af (tab n) km) (ae (aa 1) (ae (aa 2) ak))))) (iu "NoAsking" (ae (gC (.str "each stand-in of the head stands in an atom")) ak)) fc)
 (fz [0] (b9 (dh 0))))))))))
def jq(n:Nat)(ds:List D):af (tab (n+1)) bw ds=cj (fx n (bx [false] ds++aS (3 - ds.length) .no)):=fw (by kernel_rfl) (by decide+kernel) rfl ds
def ja(n:Nat):En->Out:=(ba (fz [0] (cu 1 (Xi (dq (lg yu (aa 0) (gC (.str "-")))) (jx (aa 0) (some (gC (.int 1))) none) (dh 0))))
 (ba (ml (m7 (fy (rq Ag Ag (gC (.int 1)) (g1 bj (aa 1)) (gC (.int 30)))) (fy (dq (g1 su (cm (bc (aa 1)) [] (gC (.bl true)) (g2 j0 (aa 0) (gC (.str "0123456789")))))))) (b9 (gC (.bl false))) fc)
 (b9 (m7 (g2 f6 (aa 0) (gC (.str "0"))) (fy (lg yu (aa 1) (gC (.str "0"))))))))
def xf(n:Nat)(ds:List D):af (tab (n+1)) jb ds=cj (ja n (bx [false] ds++aS (2 - ds.length) .no)):=fw (by kernel_rfl) (by decide+kernel) rfl ds
def ot(n:Nat):En->Out:=(ba (ml (dq (ao (af (tab n) l5) (ae (aa 0) ak))) (fz [0] (b9 (dh 0))) fc)
 (ba (fz [0] (ml (dq (ao (af (tab n) jb) (ae (dh 0) ak))) (b9 (g1 Gf (aa 0))) fc))
 (iu "NoText" (ae (gC (.str "a term is a stand-in or a number of at most 30 figures")) ak))))
def Hv(n:Nat)(ds:List D):af (tab (n+1)) mh ds=cj (ot n (bx [false] ds++aS (1 - ds.length) .no)):=fw (by kernel_rfl) (by decide+kernel) rfl ds
def ki(n:Nat):En->Out:=(b9 (g1 gf (wj (bc (lg c9 (aa 0) (gC (.str ", ")))) [] (ao (af (tab n) mh) (ae (dh 0) ak)))))
def Fu(n:Nat)(ds:List D):af (tab (n+1)) jn ds=cj (ki n (bx [true] ds++aS (1 - ds.length) .no)):=fw (by kernel_rfl) (by decide+kernel) rfl ds
def t7(n:Nat):En->Out:=(ba (cu 1 (lg n9 (aa 0) (gC (.str "("))))
 (b9 (k8 (ae (g2 ar (aa 1) (gC (.int 0))) (ae (ao (af (tab n) jn) (ae (g2 ar (aa 1) (gC (.int 2))) ak)) ak)))))
def Hu(n:Nat)(ds:List D):af (tab (n+1)) jh ds=cj (t7 n (bx [true] ds++aS (2 - ds.length) .no)):=fw (by kernel_rfl) (by decide+kernel) rfl ds
def yd(n:Nat):En->Out:=(ba (ml (m7 (fy (dq (g1 (bq "str") (aa 0)))) (m7 (fy (dq (lg yu (aa 0) (gC (.str "ask("))))) (fy (dq (lg Lj (aa 0) (gC (.str ")."))))))) (iu "NoText" (ae (gC (.str "an asking is written as ask(TERMS) :- ATOM, ATOM.")) ak)) fc)
 (ba (cu 1 (lg n9 (jx (aa 0) (some (g1 bj (gC (.str "ask(")))) (some (g1 dj (g1 bj (gC (.str ").")))))) (gC (.str ") :- "))))
 (ba (cu 2 (Xi (dq (g2 ar (aa 1) (gC (.int 0)))) (ao (af (tab n) jn) (ae (g2 ar (aa 1) (gC (.int 0))) ak)) (k8 ak)))
 (ba (cu 3 (g1 gf (wj (bc (lg c9 (g2 ar (aa 1) (gC (.int 2))) (gC (.str "), ")))) [] (ao (af (tab n) jh) (ae (aa 0) ak)))))
 (Jn (af (tab n) bw) (ae (k8 (ae (dh 2) (ae (dh 3) ak))) ak) (ED (tab (n+1)) "NoAsking" "NoText"))))))
def Kp(n:Nat)(ds:List D):af (tab (n+1)) jg ds=cj (yd n (bx [true] ds++aS (4 - ds.length) .no)):=fw (by kernel_rfl) (by decide+kernel) rfl ds
def md(n:Nat):En->Out:=(ba (ml (g2 gz (aa 1) (g1 bj (aa 0))) (b9 (g2 ar (aa 0) (aa 1))) fc)
 (ba (ml (g2 f6 (aa 0) (ie ak)) (b9 (gC (.int 0))) fc)
 (b9 (g2 aj (g2 jc (g2 ar (aa 0) (g2 ig (aa 1) (g1 bj (aa 0)))) (gC (.int 31))) (aa 1)))))
def C9(n:Nat)(ds:List D):af (tab (n+1)) me ds=cj (md n (bx [true,true] ds++aS (2 - ds.length) .no)):=fw (by kernel_rfl) (by decide+kernel) rfl ds
def y9(n:Nat):En->Out:=(ba (cu 3 (g2 ig (g2 jc (g2 aj (g2 aj (ao (af (tab n) me) (ae (aa 0) (ae (aa 1) ak))) (g2 jc (gC (.int 7919)) (aa 1))) (gC (.int 1))) (gC (.int 48271))) (gC (.int 2147483647))))
 (b9 (g2 ig (g2 ig (g2 aj (g2 aj (g2 jc (aa 3) (aa 3)) (g2 jc (gC (.int 7)) (aa 3))) (aa 1)) (gC (.int 2147483629))) (aa 2))))
def Hs(n:Nat)(ds:List D):af (tab (n+1)) bu ds=cj (y9 n (bx [true,true,true] ds++aS (4 - ds.length) .no)):=fw (by kernel_rfl) (by decide+kernel) rfl ds
def wb(n:Nat):En->Out:=(ba (cu 2 (ao (af (tab n) bu) (ae (aa 0) (ae (aa 1) (ae (gC (.int 12)) ak)))))
 (ba (ml (g2 gz (aa 2) (gC (.int 10))) (b9 (g2 jc (g2 ar (gC (.str "xyzuv")) (g2 ig (aa 2) (gC (.int 5)))) (g2 aj (gC (.int 1)) (g2 mw (aa 2) (gC (.int 9)))))) fc)
 (b9 (g2 Ob (aa 2) (gC (.int 11))))))
def Ko(n:Nat)(ds:List D):af (tab (n+1)) ny ds=cj (wb n (bx [true,true] ds++aS (3 - ds.length) .no)):=fw (by kernel_rfl) (by decide+kernel) rfl ds
def rj(n:Nat):En->Out:=(ba (cu 2 (g2 ar (ie (ae (gC (.str "r")) (ae (gC (.str "s")) (ae (gC (.str "t")) ak)))) (ao (af (tab n) bu) (ae (aa 0) (ae (aa 1) (ae (gC (.int 3)) ak))))))
 (ba (fz [2] (cu 3 (g2 aj (gM o9 (ie (ae (gC (.str "t")) (ae (gC (.str "r")) (ae (gC (.str "s")) ak)))) (aa 2)) (gC (.int 1)))))
 (fz [2] (b9 (k8 (ae (dh 2) (ae (g1 gf (cm (mv (ae (aa 3) ak)) [1,0] (gC (.bl true)) (ao (af (tab n) ny) (ae (aa 2) (ae (g2 aj (g2 aj (aa 1) (gC (.int 1))) (aa 0)) ak))))) ak)))))))
def Kn(n:Nat)(ds:List D):af (tab (n+1)) nv ds=cj (rj n (bx [true,true] ds++aS (4 - ds.length) .no)):=fw (by kernel_rfl) (by decide+kernel) rfl ds
def xa(n:Nat):En->Out:=(ba (cu 4 (g1 gf (cm (mv (ae (g2 aj (gC (.int 1)) (ao (af (tab n) bu) (ae (aa 0) (ae (g2 aj (aa 1) (gC (.int 30))) (ae (aa 2) ak))))) ak)) [1,0] (gC (.bl true)) (ao (af (tab n) nv) (ae (aa 2) (ae (g2 aj (aa 1) (g2 jc (gC (.int 4)) (aa 0))) ak))))))
 (ba (lh 5 (ie ak))
 (ba (fz [4] (k6 (br 6) (bc (H8 4)) (xq 5 (cm (bc (g2 ar (aa 6) (gC (.int 1)))) [] (dq (g1 (bq "str") (aa 0))) (dh 0)))))
 (ba (lh 7 (ie ak))
 (ba (k6 (br 3) (mv (ae (ao (af (tab n) bu) (ae (aa 0) (ae (g2 aj (aa 1) (gC (.int 31))) (ae (gC (.int 3)) ak)))) ak)) (ml (m7 (g2 f6 (aa 5) (ie ak)) (g2 f6 (ao (af (tab n) bu) (ae (aa 0) (ae (g2 aj (g2 aj (aa 1) (gC (.int 32))) (aa 3)) (ae (gC (.int 8)) ak)))) (gC (.int 0)))) (Dj 7 (ao (af (tab n) bu) (ae (aa 0) (ae (g2 aj (g2 aj (aa 1) (gC (.int 34))) (aa 3)) (ae (gC (.int 2)) ak))))) (Dj 7 (g2 ar (aa 5) (ao (af (tab n) bu) (ae (aa 0) (ae (g2 aj (g2 aj (aa 1) (gC (.int 34))) (aa 3)) (ae (g1 bj (aa 5)) ak))))))))
 (fz [4] (b9 (k8 (ae (g1 gf (aa 7)) (ae (dh 4) ak))))))))))
def Ft(n:Nat)(ds:List D):af (tab (n+1)) il ds=cj (xa n (bx [true,true,true] ds++aS (8 - ds.length) .no)):=fw (by kernel_rfl) (by decide+kernel) rfl ds
def za(n:Nat):En->Out:=(b9 (ro (g1 (bq "int") (aa 0)) (fy (g1 (bq "bool") (aa 0)))))
def Ht(n:Nat)(ds:List D):af (tab (n+1)) fu ds=cj (za n (bx [true] ds++aS (1 - ds.length) .no)):=fw (by kernel_rfl) (by decide+kernel) rfl ds
def ik(n:Nat):En->Out:=(ba (ml (m7 (fy (dq (g1 (bq "str") (aa 0)))) (m7 (g2 gz (g1 bj (aa 0)) (gC (.int 1))) (g2 Di (g1 bj (aa 0)) (gC (.int 8))))) (b9 (gC (.bl false))) fc)
 (b9 (g2 f6 (cm (bc (aa 0)) [] (g2 gw (aa 0) (gC (.str "abcdefghijklmnopqrstuvwxyz"))) (dh 0)) (ie ak))))
def l6(n:Nat)(ds:List D):af (tab (n+1)) dm ds=cj (ik n (bx [true] ds++aS (1 - ds.length) .no)):=fw (by kernel_rfl) (by decide+kernel) rfl ds
def fm(n:Nat):En->Out:=(ba (ml (m7 (fy (dq (g1 (bq "tuple") (aa 0)))) (m7 (g2 i9 (g1 bj (aa 0)) (gC (.int 2))) (m7 (fy (dq (ao (af (tab n) dm) (ae (g2 ar (aa 0) (gC (.int 0))) ak)))) (fy (dq (g1 (bq "tuple") (g2 ar (aa 0) (gC (.int 1))))))))) (b9 (gC (.bl false))) fc)
 (ba (ml (m7 (g2 gz (g1 bj (g2 ar (aa 0) (gC (.int 1)))) (gC (.int 1))) (g2 Di (g1 bj (g2 ar (aa 0) (gC (.int 1)))) (gC (.int 4)))) (b9 (gC (.bl false))) fc)
 (b9 (g2 f6 (cm (bc (g2 ar (aa 0) (gC (.int 1)))) [] (ro (fy (dq (ao (af (tab n) fu) (ae (aa 0) ak)))) (fy (dq (ao (af (tab n) dm) (ae (aa 0) ak))))) (dh 0)) (ie ak)))))
def Da(n:Nat)(ds:List D):af (tab (n+1)) i5 ds=cj (fm n (bx [true] ds++aS (1 - ds.length) .no)):=fw (by kernel_rfl) (by decide+kernel) rfl ds
def cv(n:Nat):En->Out:=(ba (ml (m7 (fy (dq (g1 (bq "tuple") (aa 0)))) (m7 (g2 i9 (g1 bj (aa 0)) (gC (.int 2))) (m7 (fy (dq (g1 (bq "tuple") (g2 ar (aa 0) (gC (.int 0)))))) (g2 Di (g1 bj (g2 ar (aa 0) (gC (.int 0)))) (gC (.int 4)))))) (b9 (gC (.bl false))) fc)
 (ba (ml (m7 (fy (dq (g1 (bq "tuple") (g2 ar (aa 0) (gC (.int 1)))))) (m7 (g2 gz (g1 bj (g2 ar (aa 0) (gC (.int 1)))) (gC (.int 1))) (g2 Di (g1 bj (g2 ar (aa 0) (gC (.int 1)))) (gC (.int 6))))) (b9 (gC (.bl false))) fc)
 (ba (Es 1)
 (ba (lh 2 (ie ak))
 (ba (k6 (br 3) (bc (g2 ar (aa 0) (gC (.int 1)))) (ba (ml (m7 (fy (dq (ao (af (tab n) i5) (ae (aa 3) ak)))) (g2 i9 (xh (aa 1) (g2 ar (aa 3) (gC (.int 0))) (g1 bj (g2 ar (aa 3) (gC (.int 1))))) (g1 bj (g2 ar (aa 3) (gC (.int 1)))))) (b9 (gC (.bl false))) fc)
 (ba (Lp 1 (g2 ar (aa 3) (gC (.int 0))) (g1 bj (g2 ar (aa 3) (gC (.int 1)))))
 (fz [4] (xq 2 (cm (bc (g2 ar (aa 3) (gC (.int 1)))) [] (dq (g1 (bq "str") (aa 0))) (dh 0)))))))
 (ba (k6 (br 4) (bc (g2 ar (aa 0) (gC (.int 0)))) (ml (m7 (ro (fy (dq (ao (af (tab n) fu) (ae (aa 4) ak)))) (fy (dq (ao (af (tab n) dm) (ae (aa 4) ak))))) (ro (dq (g1 (bq "str") (aa 4))) (g2 gw (aa 4) (aa 2)))) (b9 (gC (.bl false))) fc))
 (b9 (gC (.bl true)))))))))
def gp(n:Nat)(ds:List D):af (tab (n+1)) a9 ds=cj (cv n (bx [true] ds++aS (5 - ds.length) .no)):=fw (by kernel_rfl) (by decide+kernel) rfl ds
def mr(n:Nat):En->Out:=(ba (fz [0] (cu 1 (dh 0)))
 (ba (ml (g2 f6 (jx (aa 0) none (some (gC (.int 1)))) (gC (.str "-"))) (cu 1 (jx (aa 0) (some (gC (.int 1))) none)) fc)
 (ba (ml (m7 (g2 f6 (aa 1) (gC (.str ""))) (m7 (g2 Di (g1 bj (aa 1)) (gC (.int 30))) (ro (g2 f6 (g2 ar (aa 1) (gC (.int 0))) (gC (.str "0"))) (g2 i9 (aa 0) (gC (.str "0")))))) (b9 (gC .non)) fc)
 (ba (cu 2 (gC (.int 0)))
 (ba (fz [1] (k6 (br 3) (bc (H8 1)) (ba (fz [3] (cu 4 (lg n8 (gC (.str "0123456789")) (aa 3))))
 (ba (ml (g2 gz (aa 4) (gC (.int 0))) (b9 (gC .non)) fc)
 (cu 2 (g2 aj (g2 jc (gC (.int 10)) (aa 2)) (aa 4)))))))
 (ba (ml (g2 f6 (jx (aa 0) none (some (gC (.int 1)))) (gC (.str "-"))) (b9 (g1 dj (aa 2))) fc)
 (fz [2] (b9 (dh 2)))))))))
def Ab(n:Nat)(ds:List D):af (tab (n+1)) iz ds=cj (mr n (bx [false] ds++aS (5 - ds.length) .no)):=fw (by kernel_rfl) (by decide+kernel) rfl ds
def pj(n:Nat):En->Out:=(ba (cu 1 (lg n8 (aa 0) (gC (.str "("))))
 (ba (ml (m7 (g2 gz (aa 1) (gC (.int 0))) (m7 (g2 i9 (jx (aa 0) (some (g1 dj (gC (.int 1)))) none) (gC (.str ")"))) (g2 gz (g1 bj (aa 0)) (g2 aj (aa 1) (gC (.int 2)))))) (b9 (gC .non)) fc)
 (ba (cu 2 (jx (aa 0) (some (g2 aj (aa 1) (gC (.int 1)))) (some (g1 dj (gC (.int 1))))))
 (ba (lh 3 (ie ak))
 (ba (ml (g2 i9 (aa 2) (gC (.str ""))) (k6 (br 4) (bc (lg c9 (aa 2) (gC (.str ", ")))) (ba (fz [4] (cu 5 (dh 4)))
 (ba (ml (fy (dq (ao (af (tab n) dm) (ae (aa 4) ak)))) (fz [4] (cu 5 (ao (af (tab n) iz) (ae (dh 4) ak)))) fc)
 (ba (ml (g2 qr (aa 5) (gC .non)) (b9 (gC .non)) fc)
 (fz [5] (Dj 3 (dh 5))))))) fc)
 (b9 (k8 (ae (jx (aa 0) none (some (dh 1))) (ae (g1 gf (aa 3)) ak)))))))))
def C8(n:Nat)(ds:List D):af (tab (n+1)) cq ds=cj (pj n (bx [true] ds++aS (6 - ds.length) .no)):=fw (by kernel_rfl) (by decide+kernel) rfl ds
def iy(n:Nat):En->Out:=(ba (cu 1 (lg n8 (aa 0) (gC (.str " :- "))))
 (ba (ml (m7 (g2 gz (aa 1) (gC (.int 0))) (g2 i9 (jx (aa 0) (some (g1 dj (gC (.int 1)))) none) (gC (.str ".")))) (b9 (gC .non)) fc)
 (ba (cu 2 (ao (af (tab n) cq) (ae (jx (aa 0) none (some (dh 1))) ak)))
 (ba (cu 3 (lg c9 (jx (aa 0) (some (g2 aj (aa 1) (gC (.int 4)))) (some (g1 dj (gC (.int 1))))) (gC (.str "), "))))
 (ba (cu 4 (g2 aj (cm (bc (jx (aa 3) none (some (g1 dj (gC (.int 1)))))) [] (gC (.bl true)) (ao (af (tab n) cq) (ae (g2 aj (aa 0) (gC (.str ")"))) ak))) (ie (ae (ao (af (tab n) cq) (ae (g2 ar (aa 3) (g1 dj (gC (.int 1)))) ak)) ak))))
 (ba (ml (m7 (g2 qr (aa 2) (gC .non)) (m7 (g2 j0 (gC .non) (aa 4)) (m7 (g2 i9 (g2 ar (aa 2) (gC (.int 0))) (gC (.str "ask"))) (fy (dq (ao (af (tab n) a9) (ae (k8 (ae (g2 ar (aa 2) (gC (.int 1))) (ae (g1 gf (aa 4)) ak))) ak))))))) (b9 (gC .non)) fc)
 (b9 (k8 (ae (g2 ar (aa 2) (gC (.int 1))) (ae (g1 gf (aa 4)) ak))))))))))
def so(n:Nat)(ds:List D):af (tab (n+1)) b8 ds=cj (iy n (bx [true] ds++aS (5 - ds.length) .no)):=fw (by kernel_rfl) (by decide+kernel) rfl ds
def pk(n:Nat):En->Out:=(ba (cu 1 (g2 aj (g2 aj (gC (.str "ask(")) (lg jt (gC (.str ", ")) (cm (bc (g2 ar (aa 0) (gC (.int 0)))) [] (gC (.bl true)) (g1 qz (aa 0))))) (gC (.str ") :- "))))
 (ba (lh 2 (ug (bc (g2 ar (aa 0) (gC (.int 1)))) (u4 [] (g2 aj (g2 aj (g2 aj (aa 0) (gC (.str "("))) (lg jt (gC (.str ", ")) (cm (bc (aa 1)) [] (gC (.bl true)) (g1 qz (aa 0))))) (gC (.str ")"))))))
 (fz [2] (b9 (g2 aj (g2 aj (aa 1) (lg jt (gC (.str ", ")) (aa 2))) (gC (.str ".")))))))
def Dd(n:Nat)(ds:List D):af (tab (n+1)) i6 ds=cj (pk n (bx [true] ds++aS (3 - ds.length) .no)):=fw (by kernel_rfl) (by decide+kernel) rfl ds
def fi(n:Nat):En->Out:=(ba (cu 3 (g2 ig (aa 2) (g2 aj (g1 bj (aa 0)) (gC (.int 1)))))
 (ba (ml (g2 gz (aa 1) (gC (.int 2))) (ba (cu 4 (g2 ar (ie (ae (gC (.str " ")) (ae (gC (.str ",")) (ae (gC (.str "(")) (ae (gC (.str ")")) (ae (gC (.str ".")) (ae (gC (.str ":")) (ae (gC (.str "-")) (ae (gC (.str "0")) (ae (gC (.str "9")) (ae (gC (.str "a")) (ae (gC (.str "A")) (ae (gC (.str "_")) (ae (gC (.str "
")) ak)))))))))))))) (g2 ig (g2 mw (aa 2) (gC (.int 7))) (gC (.int 13)))))
 (b9 (g2 aj (g2 aj (jx (aa 0) none (some (dh 3))) (aa 4)) (jx (aa 0) (some (dh 3)) none)))) fc)
 (ba (ml (g2 gz (aa 1) (gC (.int 4))) (b9 (g2 aj (jx (aa 0) none (some (dh 3))) (jx (aa 0) (some (g2 aj (aa 3) (gC (.int 1)))) none))) fc)
 (ba (ml (g2 f6 (aa 1) (gC (.int 4))) (b9 (g2 ar (ie (ae (jx (aa 0) (some (gC (.int 1))) none) (ae (g2 aj (gC (.str "a")) (aa 0)) (ae (g2 aj (aa 0) (gC (.str " "))) (ae (jx (aa 0) none (some (g1 dj (gC (.int 1))))) (ae (g2 aj (aa 0) (gC (.str "."))) (ae (gC (.str "")) ak))))))) (g2 ig (aa 2) (gC (.int 6))))) fc)
 (ba (cu 5 (g2 ar (ie (ae (gC (.str "00")) (ae (gC (.str "-0")) (ae (gC (.str "01")) (ae (gC (.str "+1")) (ae (gC (.str "X")) (ae (g2 aj (gC (.str "1")) (g2 jc (gC (.str "0")) (gC (.int 30)))) (ae (gC (.str "")) (ae (gC (.str "x y")) (ae (gC (.str "x,y")) (ae (g2 jc (gC (.str "9")) (gC (.int 30))) ak))))))))))) (g2 ig (g2 mw (aa 2) (gC (.int 7))) (gC (.int 10)))))
 (b9 (g2 aj (g2 aj (g2 aj (jx (aa 0) none (some (g1 dj (gC (.int 2))))) (g2 ar (ie (ae (gC (.str ", ")) (ae (gC (.str ",")) ak))) (g2 ig (aa 2) (gC (.int 2))))) (aa 5)) (gC (.str ").")))))))))
def m4(n:Nat)(ds:List D):af (tab (n+1)) fj ds=cj (fi n (bx [true,true,true] ds++aS (6 - ds.length) .no)):=fw (by kernel_rfl) (by decide+kernel) rfl ds
def vq(n:Nat):En->Out:=(ba (cu 1 (gC (.int 0)))
 (ba (Gk (af (tab n) jg) (ae (aa 0) ak) (K3 (tab (n+1)) "NoText" 1 1))
 (ba (Gk (af (tab n) jg) (ae (aa 0) ak) (Bo (tab (n+1)) "AskError" 1 2))
 (b9 (g2 f6 (aa 1) (gC (.int 2)))))))
def Dc(n:Nat)(ds:List D):af (tab (n+1)) ft ds=cj (vq n (bx [true] ds++aS (3 - ds.length) .no)):=fw (by kernel_rfl) (by decide+kernel) rfl ds
def R0(n:Nat):En->Out:=(ba (cu 1 (ao (af (tab n) bu) (ae (aa 0) (ae (gC (.int 60)) (ae (gC (.int 7)) ak)))))
 (ba (cu 2 (ao (af (tab n) bu) (ae (aa 0) (ae (gC (.int 61)) (ae (g2 Ji (gC (.int 10)) (gC (.int 6))) ak)))))
 (ba (ml (g2 f6 (aa 1) (gC (.int 6))) (b9 (ao (af (tab n) ft) (ae (g2 ar (ie (ae (gC .non) (ae (gC (.int 2)) (ae (ie (ae (gC (.str "ask()")) ak)) (ae (k8 (ae (k8 ak) (ae (k8 ak) ak))) (ae (gC (.bl true)) ak)))))) (g2 ig (aa 2) (gC (.int 5)))) ak))) fc)
 (ba (cu 3 (ao (af (tab n) fj) (ae (ao (af (tab n) i6) (ae (ao (af (tab n) il) (ae (aa 0) (ae (gC (.int 0)) (ae (gC (.int 4)) ak)))) ak)) (ae (aa 1) (ae (aa 2) ak)))))
 (ba (cu 4 (ao (af (tab n) b8) (ae (aa 3) ak)))
 (ba (ml (g2 qr (aa 4) (gC .non)) (b9 (ao (af (tab n) ft) (ae (aa 3) ak))) fc)
 (b9 (g2 f6 (ao (af (tab n) jg) (ae (aa 3) ak)) (aa 4)))))))))
def KM(n:Nat)(ds:List D):af (tab (n+1)) ue ds=cj (R0 n (bx [false] ds++aS (5 - ds.length) .no)):=fw (by kernel_rfl) (by decide+kernel) rfl ds
end LK
end
section
namespace LK
open PySem PySem.Spec PyProof.Rows Pu
abbrev sh(ns:List Int):D:=.lst (ns.map D.int)
def Sf(ns:List Int)(k:Int):Int:=if k<ns.length then(ns[k.toNat]?).getD 0 else if ns=[]then 0 else(ns[(k % ns.length).toNat]?).getD 0 * 31+k
theorem Ci:∀ns:List Int,fh (ns.map D.int)=some (ns.map gF)
 |[]=>rfl
 |n::ns=>by show(match gj (.int n)with|some p=>(match fh (ns.map D.int)with|some ps=>some (p::ps)|none=>none)|none=>none)=_;rw[Ci ns];rfl
theorem ou:∀ns:List Int,bB (ns.map gF)=true
 |[]=>rfl
 |n::ns=>by show(dI (.int n) && bB (ns.map gF))=true;rw[ou ns];rfl
theorem A8:∀ns:List Int,fJ (ns.map gF)<=1
 |[]=>by decide
 |n::ns=>by
  show max (PyData.depth (.int n)) (fJ (ns.map gF))<=1;have:=A8 ns;have h:PyData.depth (.int n)<=1:=cA _
  lia
def Jp(ns:List Int):bV (.list (ns.map gF))=true:=by
 unfold bV;have h1:dI (.list (ns.map gF))=true:=ou ns;have h2:PyData.depth (.list (ns.map gF))<=2:=by
  have:=A8 ns;show fJ (ns.map gF)+1<=2
  lia
 rw[h1];simp only[cV,decide_eq_true_eq]
 lia
def Sv(ns:List Int):f6 (sh ns) (.lst [])=some (.bl (decide (ns=[]))):=by
 unfold f6 Px sh;have e1:gj (.lst (ns.map D.int))=some (.list (ns.map gF)):=by unfold gj;rw[Ci]
 have e2:gj (.lst [])=some (.list []):=rfl;rw[e1,e2];dsimp only;rw[Jp,show bV (.list [])=true from by decide];cases ns<;>rfl
def Tt(ns:List Int)(k:Int)(h0:0<=k)(h1:k<ns.length):ar (sh ns) (.int k)=some (.int ((ns[k.toNat]?).getD 0)):=by
 show L2.atI (ns.map D.int) k=_;have hk:k=((k.toNat:Nat):Int):=by lia
 have hl:k.toNat<ns.length:=by lia
 rw[hk];refine(L2.Aj (j:=k.toNat) (v:=D.int ((ns[k.toNat]?).getD 0)) ?_).trans (by rw[<-hk]);rw[bW,dB hl];rfl
def X7(n:Nat)(ns:List Int)(k:Int)(hk:0<=k):af (tab (n+1)) me [sh ns,.int k]=.ok (.int (Sf ns k)):=by
 rw[C9];unfold Sf
 by_cases h1:k<ns.length
 ·have e1:=Tt ns k hk h1;simp[md,h1,e1]
 ·by_cases h2:ns=[]
  ·subst h2;have e2:=Sv [];have h3:¬k<0:=by lia
   simp[md,h3,e2]
  ·have hp:0<ns.length:=by cases ns<;>simp_all
   have hm1:0<=k % (ns.length:Int):=mC _ (by lia);have hm2:k % (ns.length:Int)<ns.length:=kL _ (by lia);have e1:=Tt ns (k % ns.length) hm1 hm2;have e2:=Sv ns;have e3:=sy k ns.length (by lia);have e4:=λa=>Co a 31 (.inr (by decide));simp[md,h1,h2,e1,e2,e3,e4]
def pv(ns:List Int)(k m:Int):Int:=
 let x:=(Sf ns k+7919 * k+1) * 48271 % 2147483647
 (x * x+7 * x+k) % 2147483629 % m
def kq(n:Nat)(ns:List Int)(k m:Int)(hk:0<=k)(hm:0<m):af (tab (n+2)) bu [sh ns,.int k,.int m]=.ok (.int (pv ns k m)):=by
 rw[Hs];have e0:=X7 n ns k hk;have e1:=Co 7919 k (.inl (by decide));have e2:=λa=>Co a 48271 (.inr (by decide));have e3:=λa=>sy a 2147483647 (by decide);have e4:=λa=>sy a 2147483629 (by decide);have e5:=λa=>sy a m hm;have e6:=λa=>Co 7 a (.inl (by decide));have e7:∀a:Int,jc (.int (a % 2147483647)) (.int (a % 2147483647))=some (.int (a % 2147483647 * (a % 2147483647))):=λa=>Co _ _ (.inl (by lia));simp[y9,e0,e1,e2,e3,e4,e5,e6,e7,pv]
def ir(ns:List Int)(k m:Int)(hm:0<m):0<=pv ns k m/\pv ns k m<m:=⟨mC _ (by lia),kL _ hm⟩
inductive Tm where
 |s (x:Str)
 |i (z:Int)
 deriving DecidableEq
def Tm.D:Tm->Pu.D
 |.s x=>.str x
 |.i z=>.int z
def v9:List Str:=["x","y","z","u","v","vv"]
def Tm.ok:Tm->Prop
 |.s x=>x∈v9
 |.i z=>z=-1\/z=0
def L8(r:Int):Tm:=if r=0\/r=5 then .s "x" else if r=1\/r=6 then .s "y" else if r=2\/r=7 then .s "z" else if r=3\/r=8 then .s "u" else if r=4 then .s "v" else if r=9 then .s "vv" else if r=10 then .i (-1)else .i 0
def BY(n:Nat)(ns:List Int)(k:Int)(hk:0<=k):af (tab (n+3)) ny [sh ns,.int k]=.ok (L8 (pv ns k 12)).D:=by
 rw[Ko];have e0:=kq n ns k 12 hk (by decide);obtain⟨h0,h1⟩:=ir ns k 12 (by decide);generalize pv ns k 12=r at e0 h0 h1⊢
 by_cases h10:r<10
 ·have t:∃a,ar (.str "xyzuv") (.int (r % 5))=some a/\jc a (.int (1+r / 9))=some (L8 r).D:=by
   have:r=0\/r=1\/r=2\/r=3\/r=4\/r=5\/r=6\/r=7\/r=8\/r=9:=by lia
   rcases this with rfl|rfl|rfl|rfl|rfl|rfl|rfl|rfl|rfl|rfl
   ·exact⟨.str "x",by kernel_rfl,by kernel_rfl⟩
   ·exact⟨.str "y",by kernel_rfl,by kernel_rfl⟩
   ·exact⟨.str "z",by kernel_rfl,by kernel_rfl⟩
   ·exact⟨.str "u",by kernel_rfl,by kernel_rfl⟩
   ·exact⟨.str "v",by kernel_rfl,by kernel_rfl⟩
   ·exact⟨.str "x",by kernel_rfl,by kernel_rfl⟩
   ·exact⟨.str "y",by kernel_rfl,by kernel_rfl⟩
   ·exact⟨.str "z",by kernel_rfl,by kernel_rfl⟩
   ·exact⟨.str "u",by kernel_rfl,by kernel_rfl⟩
   ·exact⟨.str "v",by kernel_rfl,by kernel_rfl⟩
  obtain⟨a,t1,t2⟩:=t;have m5:=sy r 5 (by decide);have d9:=ID r 9 (by decide);simp[wb,e0,h10,m5,d9,t1,t2]
 ·have hv:Pu.D.int (r - 11)=(L8 r).D:=by
   have:r=10\/r=11:=by lia
   rcases this with rfl|rfl<;>rfl
  simp[wb,e0,h10,hv]
structure At where
 nm:Str
 ts:List Tm
def At.D(a:At):Pu.D:=.tup [.str a.nm,.tup (a.ts.map Tm.D)]
theorem xg{h:Pu.D->Option Pu.D}{f:Nat->Pu.D}:∀(l:List Nat),(∀j∈l,h (.int (0+(j:Int)))=some (f j))->(l.map λ(i:Nat)=>Pu.D.int (0+(i:Int))).filterMap h=l.map f
 |[],_=>rfl
 |a::l,hf=>by
  rw[aU,cR,hf a aH];dsimp only;rw[xg l λj hj=>hf j (aF _ hj),aU]
def sr{h:Pu.D->Option Pu.D}{f:Nat->Pu.D}(n:Nat)(hf:∀j:Nat,j<n->h (.int (0+(j:Int)))=some (f j)):(gx 0 n).filterMap h=(cF n).map f:=
 xg _ λj hj=>hf j (List.mem_range.mp hj)
def Ln(n:Nat):(gx 0 n).length=n:=by unfold gx;simp
def K6{n:Nat}{d:Pu.D}(h:d∈gx 0 n):∃j:Nat,j<n/\d=.int (0+(j:Int)):=by
 unfold gx at h;obtain⟨j,hj,e⟩:=List.mem_map.mp h;exact⟨j,List.mem_range.mp hj,e.symm⟩
def A6{r:En->ResL}{ix:List Nat}{g:En->Res}{U:En}{m:Nat}{f:Nat->Pu.D}(hr:r U=.ok (gx 0 m))(hm:m<=16777216)(hf:∀j:Nat,j<m->g (de ix U (.pu (.int (0+(j:Int)))))=.ok (f j)):
  cm r ix (gC (.bl true)) g U=.ok (.lst ((cF m).map f)):=by
 let h:Pu.D->Option Pu.D:=λd=>match d with
  |.int k=>some (f k.toNat)
  |_=>none
 have:=H9 (r:=r) (ix:=ix) (t:=gC (.bl true)) (g:=g) (U:=U) (h:=h) hr (by rw[Ln];exact hm) λd hd=>by
  obtain⟨j,hj,rfl⟩:=K6 hd;rw[W5 (hf j hj)];show some (some (f j))=some (some (f (0+(j:Int)).toNat));have:(0+(j:Int)).toNat=j:=by lia
  rw[this]
 rw[this,sr m (f:=f)];intro j hj;show some (f (0+(j:Int)).toNat)=some (f j);have:(0+(j:Int)).toNat=j:=by lia
 rw[this]
def Xu(r:Int):Str:=if r=0 then "r" else if r=1 then "s" else "t"
def Xw(r:Int):Nat:=if r=0 then 2 else if r=1 then 3 else 1
def C5(ns:List Int)(k:Int):At:=⟨Xu (pv ns k 3),(cF (Xw (pv ns k 3))).map λ(j:Nat)=>L8 (pv ns (k+1+(j:Int)) 12)⟩
def X0(n:Nat)(ns:List Int)(k:Int)(hk:0<=k):af (tab (n+4)) nv [sh ns,.int k]=.ok (C5 ns k).D:=by
 rw[Kn];have e0:=kq (n+1) ns k 3 hk (by decide);obtain⟨h0,h1⟩:=ir ns k 3 (by decide);unfold C5;generalize pv ns k 3=r at e0 h0 h1⊢;have key:∀(m:Nat)(nm:Pu.D),m<=3->cm (mv (ae (aa 3) ak)) [1,0] (gC (.bl true)) (ao (af (tab (n+3)) ny) (ae (aa 2) (ae (g2 aj (g2 aj (aa 1) (gC (.int 1))) (aa 0)) ak))) [.bo (sh ns),.bo (.int k),.pu nm,.pu (.int (m:Nat))]
   =.ok (.lst ((cF m).map λ(j:Nat)=>(L8 (pv ns (k+1+(j:Int)) 12)).D)):=λm nm hm=>by
  refine A6 (Cq _ _ (j':=(m:Int)) (by simp) (by lia)) (by lia) λj hj=>?_;have e:=BY n ns (k+1+(j:Int)) (by lia);simp[de,e]
 have:r=0\/r=1\/r=2:=by lia
 have x1:o9 (.lst [.str "t",.str "r",.str "s"]) (.str "r")=some (.int 1):=by kernel_rfl
 have x2:o9 (.lst [.str "t",.str "r",.str "s"]) (.str "s")=some (.int 2):=by kernel_rfl
 have x3:o9 (.lst [.str "t",.str "r",.str "s"]) (.str "t")=some (.int 0):=by kernel_rfl
 have y1:ar (.lst [.str "r",.str "s",.str "t"]) (.int 0)=some (.str "r"):=rfl;have y2:ar (.lst [.str "r",.str "s",.str "t"]) (.int 1)=some (.str "s"):=rfl;have y3:ar (.lst [.str "r",.str "s",.str "t"]) (.int 2)=some (.str "t"):=rfl;rcases this with rfl|rfl|rfl
 ·have k2:=key 2 (.str "r") (by decide);simp only[kQ]at k2;simp[rj,e0,x1,y1,k2,At.D,Xu,Xw]
 ·have k2:=key 3 (.str "s") (by decide);simp only[kQ]at k2;simp[rj,e0,x2,y2,k2,At.D,Xu,Xw]
 ·have k2:=key 1 (.str "t") (by decide);simp only[kQ]at k2;simp[rj,e0,x3,y3,k2,At.D,Xu,Xw]
def Xc{x:Str}(h:x∈v9):eE x=true:=by
 unfold v9 at h;simp only[cP,eA,or_false]at h;rcases h with rfl|rfl|rfl|rfl|rfl|rfl<;>decide+kernel
def BS(r:Int):(L8 r).ok:=by
 unfold L8
 repeat' split
 all_goals first
  |exact Or.inl rfl
  |exact Or.inr rfl
  |(show _∈v9;decide+kernel)
def At.ok(a:At):Prop:=((a.nm="r"/\a.ts.length=2)\/(a.nm="s"/\a.ts.length=3)\/(a.nm="t"/\a.ts.length=1))/\∀t∈a.ts,t.ok
def Xv(ns:List Int)(k:Int):(C5 ns k).ok:=by
 obtain⟨h0,h1⟩:=ir ns k 3 (by decide);unfold C5 At.ok;dsimp only;refine⟨?_,λt ht=>?_⟩
 ·rw[aJ,gN];have:pv ns k 3=0\/pv ns k 3=1\/pv ns k 3=2:=by lia
  rcases this with e|e|e<;>rw[e]
  ·exact .inl ⟨rfl,rfl⟩
  ·exact .inr (.inl ⟨rfl,rfl⟩)
  ·exact .inr (.inr ⟨rfl,rfl⟩)
 ·obtain⟨j,_,e⟩:=List.mem_map.mp ht;rw[<-e];exact BS _
def rf(ts:List Tm):List Str:=ts.filterMap λt=>match t with
 |.s x=>some x
 |.i _=>none
def jd(as:List At):List Str:=as.flatMap λa=>rf a.ts
def g9(hd:List Tm)(as:List At):Pu.D:=.tup [.tup (hd.map Tm.D),.tup (as.map At.D)]
def Gs:Pu.D->Option Pu.D
 |.str x=>some (.str x)
 |_=>none
theorem Lz:∀ts:List Tm,(ts.map Tm.D).filterMap Gs=(rf ts).map Pu.D.str
 |[]=>rfl
 |.s x::ts=>by
  rw[aU,cR];show Pu.D.str x::(ts.map Tm.D).filterMap Gs=Pu.D.str x::(rf ts).map Pu.D.str;rw[Lz ts]
 |.i z::ts=>by
  rw[aU,cR];exact Lz ts
def Dz{r:En->ResL}{U:En}{ts:List Tm}(hr:r U=.ok (ts.map Tm.D))(hl:ts.length<=1000):cm r [] (dq (g1 (bq "str") (aa 0))) (dh 0) U=.ok (.lst ((rf ts).map Pu.D.str)):=by
 rw[H9 (h:=Gs) hr (by rw[aJ];show _<=16777216;lia) λd hd=>by
  obtain⟨t,_,rfl⟩:=List.mem_map.mp hd;cases t with
  |s x=>rw[Gw (b:=true) (y:=.str x) (by simp[de,Tm.D]) (by simp[de,Tm.D])];rfl
  |i z=>rw[Gw (b:=false) (y:=.non) (by simp[de,Tm.D]) (by simp)];rfl,Lz]
structure Drawn(hd:List Tm)(as:List At):Prop where
 len:1<=as.length/\as.length<=5
 ok:∀a∈as,a.ok
 hl:hd.length<=2
 ho:∀t∈hd,(∃z,t=.i z/\(z=0\/z=1))\/∃x,t=.s x/\x∈jd as
def Lx{ts:List Tm}(h:∀t∈ts,t.ok):∀x∈rf ts,x∈v9:=λx hx=>by
 unfold rf at hx;obtain⟨t,ht,e⟩:=List.mem_filterMap.mp hx;cases t with
 |s y=>cases e;exact h _ ht
 |i z=>cases e
def z7{as:List At}(h:∀a∈as,a.ok):∀x∈jd as,x∈v9:=λx hx=>by
 obtain⟨a,ha,hx⟩:=List.mem_flatMap.mp hx;exact Lx (h a ha).2 x hx
def u0(ts:List Tm):(rf ts).length<=ts.length:=List.length_filterMap_le ..
def DB{a:At}(h:a.ok):1<=a.ts.length/\a.ts.length<=3:=by
 rcases h.1 with ⟨_,e⟩|⟨_,e⟩|⟨_,e⟩<;>lia
def K4(as:List At)(h:∀a∈as,a.ok)(hl:as.length<=1000)(v0 v1 v2 v3 v4 v6 v7:Sl):
  ∃w6,turns (br 6) (xq 5 (cm (bc (g2 ar (aa 6) (gC (.int 1)))) [] (dq (g1 (bq "str") (aa 0))) (dh 0))) (as.map At.D) [v0,v1,v2,v3,v4,.ow [],v6,v7]=.nx [v0,v1,v2,v3,v4,.ow ((jd as).map Pu.D.str),w6,v7]:=by
 have key:∀(l:List At)(pre:List Str)(w6:Sl),(∀a∈l,a.ok)->pre.length+3 * l.length<=4000->∃w6',turns (br 6) (xq 5 (cm (bc (g2 ar (aa 6) (gC (.int 1)))) [] (dq (g1 (bq "str") (aa 0))) (dh 0))) (l.map At.D) [v0,v1,v2,v3,v4,.ow (pre.map Pu.D.str),w6,v7]
   =.nx [v0,v1,v2,v3,v4,.ow ((pre++jd l).map Pu.D.str),w6',v7]:=by
  intro l;induction l with
  |nil=>intro pre w6 _ _;exact⟨w6,by simp[turns,jd]⟩
  |cons a l ih=>
   intro pre w6 hok hlen;have ha:=DB (hok a aH);have hs:=u0 a.ts;rw[aM]at hlen;obtain⟨w6',e⟩:=ih (pre++rf a.ts) (.pu a.D) (λb hb=>hok b (aF _ hb)) (by rw[aI];lia);refine⟨w6',?_⟩;rw[aU,gy (δ1:=[v0,v1,v2,v3,v4,.ow (pre.map Pu.D.str),.pu a.D,v7]) rfl];have hc:=Dz (r:=bc (g2 ar (aa 6) (gC (.int 1)))) (U:=[v0,v1,v2,v3,v4,.ow (pre.map Pu.D.str),.pu a.D,v7]) (ts:=a.ts) (by simp[At.D]) (by lia);have hle:pre.length+(rf a.ts).length<=16777216:=by lia
   simp only[NG,hc,eJ,cE,bf,Rf,aJ,hle,if_true,gG,gH];rw[<-eL,e]
   congr 3
   simp[jd,List.flatMap_cons]
 obtain⟨w,e⟩:=key as [] v6 h (by simp;lia);exact⟨w,by simpa using e⟩
def F0{xs:List Pu.D}{k:Int}(h0:0<=k)(h1:k<xs.length):∃d,d∈xs/\ar (.lst xs) (.int k)=some d:=by
 have hl:k.toNat<xs.length:=by lia
 refine⟨xs[k.toNat],List.getElem_mem hl,?_⟩;show L2.atI xs k=_;have hk:((k.toNat:Nat):Int)=k:=by lia
 have e:=L2.Aj (dB hl);rwa [hk]at e
def D6(n:Nat):En->Out:=(ml (m7 (g2 f6 (aa 5) (ie ak)) (g2 f6 (ao (af (tab n) bu) (ae (aa 0) (ae (g2 aj (g2 aj (aa 1) (gC (.int 32))) (aa 3)) (ae (gC (.int 8)) ak)))) (gC (.int 0)))) (Dj 7 (ao (af (tab n) bu) (ae (aa 0) (ae (g2 aj (g2 aj (aa 1) (gC (.int 34))) (aa 3)) (ae (gC (.int 2)) ak))))) (Dj 7 (g2 ar (aa 5) (ao (af (tab n) bu) (ae (aa 0) (ae (g2 aj (g2 aj (aa 1) (gC (.int 34))) (aa 3)) (ae (g1 bj (aa 5)) ak)))))))
def E6(kn:List Str)(t:Tm):Prop:=(∃z,t=.i z/\(z=0\/z=1))\/∃x,t=.s x/\x∈kn
def P2(n:Nat)(ns:List Int)(k:Int)(hk:0<=k)(kn:List Str)(hkn:∀x∈kn,x∈v9)(v2 v4 v6:Sl):∀(l:List Int)(v3:Sl)(hd:List Tm),(∀i∈l,0<=i)->(∀t∈hd,E6 kn t)->hd.length+l.length<=1000->
  ∃(w3:Sl) (hd':List Tm),(∀t∈hd',E6 kn t)/\hd'.length=hd.length+l.length/\turns (br 3) (D6 (n+2)) (l.map Pu.D.int) [.bo (sh ns),.bo (.int k),v2,v3,v4,.ow (kn.map Pu.D.str),v6,.ow (hd.map Tm.D)]=.nx [.bo (sh ns),.bo (.int k),v2,w3,v4,.ow (kn.map Pu.D.str),v6,.ow (hd'.map Tm.D)]:=by
 intro l;induction l with
 |nil=>intro v3 hd _ h _;exact⟨v3,hd,h,by simp,rfl⟩
 |cons i l ih=>
  intro v3 hd hnn h hlen;have hi:0<=i:=hnn i aH;rw[aM]at hlen;have step:∃t,E6 kn t/\D6 (n+2) [.bo (sh ns),.bo (.int k),v2,.pu (.int i),v4,.ow (kn.map Pu.D.str),v6,.ow (hd.map Tm.D)]=.nx [.bo (sh ns),.bo (.int k),v2,.pu (.int i),v4,.ow (kn.map Pu.D.str),v6,.ow (hd.map Tm.D++[t.D])]:=by
   have hsm:Rl (kn.map Pu.D.str):=AE λd hd=>by
    obtain⟨x,hx,rfl⟩:=List.mem_map.mp hd;exact Oo (Xc (hkn x hx))
   have e1:=(Fv hsm).1;have hlt:hd.length<16777216:=by lia
   have m8:=kq n ns (k+32+i) 8 (by lia) (by decide);have m2:=kq n ns (k+34+i) 2 (by lia) (by decide);obtain⟨r0,r1⟩:=ir ns (k+34+i) 2 (by decide);have t2:E6 kn (.i (pv ns (k+34+i) 2)):=.inl ⟨_,rfl,by lia⟩;cases hn:kn with
   |nil=>
    subst hn;refine⟨_,t2,?_⟩;simp only[hV,List.isEmpty_nil]at e1;simp[D6,e1,m2,hlt,Tm.D]
   |cons x r=>
    rw[<-hn];have hne:(kn.map Pu.D.str).isEmpty=false:=by rw[hn];rfl
    rw[hne]at e1
    by_cases h8:pv ns (k+32+i) 8=0
    ·refine⟨_,t2,?_⟩;rw[h8]at m8;simp[D6,e1,m2,m8,hlt,Tm.D]
    ·have hpos:0<(kn.length:Int):=by rw[hn];simp
     have mk:=kq n ns (k+34+i) kn.length (by lia) hpos;obtain⟨q0,q1⟩:=ir ns (k+34+i) kn.length hpos;obtain⟨d,hd1,hd2⟩:=F0 (xs:=kn.map Pu.D.str) q0 (by rw[aJ];exact q1);obtain⟨y,hy,rfl⟩:=List.mem_map.mp hd1;refine⟨.s y,.inr ⟨y,rfl,hy⟩,?_⟩;have h8':(pv ns (k+32+i) 8==0)=false:=by simpa using h8
     simp[D6,e1,m8,mk,hd2,hlt,Tm.D,h8']
  obtain⟨t,ht,e⟩:=step;obtain⟨w3,hd',a1,a2,a3⟩:=ih (.pu (.int i)) (hd++[t]) (λj hj=>hnn j (aF _ hj)) (λs hs=>by
   rcases List.mem_append.mp hs with hs|hs
   ·exact h s hs
   ·rw[List.mem_singleton.mp hs];exact ht) (by rw[aI];simp;lia)
  refine⟨w3,hd',a1,by rw[a2];simp;lia,?_⟩;rw[aU,gy (δ1:=[.bo (sh ns),.bo (.int k),v2,.pu (.int i),v4,.ow (kn.map Pu.D.str),v6,.ow (hd.map Tm.D)]) rfl,e];dsimp only;rw[<-a3];simp
def wu(m:Nat):List Int:=(cF m).map λ(i:Nat)=>0+(i:Int)
def Vu(m:Nat):gx 0 m=(wu m).map Pu.D.int:=by unfold gx wu;rw[eF];rfl
def Q2{m:Nat}{i:Int}(h:i∈wu m):0<=i/\i<m:=by
 unfold wu at h;obtain⟨j,hj,rfl⟩:=List.mem_map.mp h;have:=List.mem_range.mp hj
 lia
def Pg(n:Nat)(ns:List Int)(k m:Int)(hk:0<=k)(hm:0<m)(hm5:m<=5):∃hd as,Drawn hd as/\af (tab (n+5)) il [sh ns,.int k,.int m]=.ok (g9 hd as):=by
 rw[Ft];have e0:=kq (n+2) ns (k+30) m (by lia) hm;obtain⟨r0,r1⟩:=ir ns (k+30) m hm;have e1:=kq (n+2) ns (k+31) 3 (by lia) (by decide);obtain⟨q0,q1⟩:=ir ns (k+31) 3 (by decide);generalize pv ns (k+30) m=r at e0 r0 r1;generalize pv ns (k+31) 3=q at e1 q0 q1;have hat:cm (mv (ae (g2 aj (gC (.int 1)) (ao (af (tab (n+4)) bu) (ae (aa 0) (ae (g2 aj (aa 1) (gC (.int 30))) (ae (aa 2) ak))))) ak)) [1,0] (gC (.bl true)) (ao (af (tab (n+4)) nv) (ae (aa 2) (ae (g2 aj (aa 1) (g2 jc (gC (.int 4)) (aa 0))) ak)))
   [.bo (sh ns),.bo (.int k),.bo (.int m),.no,.no,.no,.no,.no]=.ok (.lst ((cF (1+r).toNat).map λ(j:Nat)=>(C5 ns (k+4 * (0+(j:Int)))).D)):=by
  refine A6 (Cq _ _ (j':=1+r) (by simp[e0]) (by lia)) (by lia) λj hj=>?_;have ea:=X0 n ns (k+4 * (0+(j:Int))) (by lia);have em:=λa=>Co 4 a (.inl (by decide));generalize (0+(j:Int))=z at ea⊢;simp[de,em,ea]
 have hmap:((cF (1+r).toNat).map λ(j:Nat)=>(C5 ns (k+4 * (0+(j:Int)))).D)=((cF (1+r).toNat).map λ(j:Nat)=>C5 ns (k+4 * (0+(j:Int)))).map At.D:=by rw[eF];rfl
 rw[hmap]at hat;have hasl:((cF (1+r).toNat).map λ(j:Nat)=>C5 ns (k+4 * (0+(j:Int)))).length=(1+r).toNat:=by simp
 have haso:∀a∈((cF (1+r).toNat).map λ(j:Nat)=>C5 ns (k+4 * (0+(j:Int)))),a.ok:=λa ha=>by
  obtain⟨j,_,rfl⟩:=List.mem_map.mp ha;exact Xv _ _
 generalize ((cF (1+r).toNat).map λ(j:Nat)=>C5 ns (k+4 * (0+(j:Int))))=as at hat hasl haso;obtain⟨w6,ek⟩:=K4 as haso (by lia) (.bo (sh ns)) (.bo (.int k)) (.bo (.int m)) .no (.pu (.tup (as.map At.D))) .no .no;obtain⟨w3,hd,h1,h2,h3⟩:=P2 (n+2) ns k hk (jd as) (z7 haso) (.bo (.int m)) (.pu (.tup (as.map At.D))) w6 (wu q.toNat) .no [] (λi hi=>(Q2 hi).1) (by simp) (by simp[wu];lia);have hr:=Cq [.bo (sh ns),.bo (.int k),.bo (.int m),.no,.pu (.tup (as.map At.D)),.ow ((jd as).map Pu.D.str),w6,.ow []] (ae (ao (af (tab (n+4)) bu) (ae (aa 0) (ae (g2 aj (aa 1) (gC (.int 31))) (ae (gC (.int 3)) ak)))) ak) (j':=q) (by simp[e1]) (by lia);rw[Vu]at hr;refine⟨hd,as,⟨by lia,haso,by rw[h2];simp[wu];lia,h1⟩,?_⟩;unfold D6 at h3;simp only[hV]at h3;simp only[xa,Re,J7,List.cons_append,mD,aM,lY,aS,cb,mq,Me,hat,cc,Rg,i8,bf,gG,gH,JY,NC,Xa,cA,if_true,IC,Cn,W8,eJ,cE];rw[jr (ds:=as.map At.D) (by simp),ek];simp only[gG,gH];rw[jr hr,h3];simp[g9]
end LK
end
section
namespace Pu
open PySem PySem.Spec PyProof.Rows
theorem Hl:∀(l:List α),(∀a∈l,F (f a)=some (if b a then some (f' a)else none))->oz F (l.map f)=some ((l.filter b).map f')
 |[],_=>rfl
 |a::l,h=>by
  rw[aU];unfold oz;rw[h a aH,Hl l λc hc=>h c (aF _ hc),jE];cases b a<;>rfl
def Mt{l:List α}(hr:r U=.ok (l.map f))(hl:l.length<=16777216)(ht:∀a∈l,t (de ix U (.pu (f a)))=.ok (.bl (b a)))(hg:∀a∈l,g (de ix U (.pu (f a)))=.ok (f' a)):
  cm r ix t g U=.ok (.lst ((l.filter b).map f')):=by
 unfold cm;rw[hr];dsimp only;rw[aB (by rw[aJ];exact hl),Hl (b:=b) (f':=f') l λa ha=>by
  rw[Gw (b:=b a) (y:=f' a) (ht a ha) λ_=>hg a ha]]
def zg{l:List α}(hr:r U=.ok (l.map f))(hl:l.length<=16777216)(ht:∀a∈l,t (de ix U (.pu (f a)))=.ok (.bl (b a))):
  cm r ix t (dh 0) U=.ok (.lst ((l.filter b).map f)):=Mt hr hl ht λa _=>rfl
def uc{l:List α}(hr:r U=.ok (l.map f))(hl:l.length<=16777216)(hg:∀a∈l,g (de ix U (.pu (f a)))=.ok (f' a)):
  cm r ix (gC (.bl true)) g U=.ok (.lst (l.map f')):=by
 have:=Mt (b:=λ_=>true) (t:=gC (.bl true)) hr hl (λ_ _=>rfl) hg;rwa [List.filter_eq_self.mpr (λ_ _=>rfl)]at this
theorem zc(b:α->Bool):∀l:List α,mz (l.map λa=>D.bl (b a))=some (l.map b)
 |[]=>rfl
 |a::l=>by
  show(mz (l.map λa=>D.bl (b a))).map (b a::·)=_;rw[zc b l];rfl
def Fd(b:α->Bool)(l:List α):su (.lst (l.map λa=>D.bl (b a)))=some (.bl (l.all b)):=by
 unfold su;dsimp only;rw[zc];show some (D.bl ((l.map b).all id))=_;rw[List.all_map];rfl
def wy(n:Nat)(d:D):Prop:=∃p,gj d=some p/\dI p=true/\p.depth<=n
theorem DV{n:Nat}:∀{ds:List D},(∀d∈ds,wy n d)->∃ps,fh ds=some ps/\bB ps=true/\fJ ps<=n
 |[],_=>⟨[],rfl,rfl,cA _⟩
 |d::r,h=>by
  obtain⟨p,e1,e2,e3⟩:=h d aH;obtain⟨ps,f1,f2,f3⟩:=DV (ds:=r) λd hd=>h d (aF _ hd);refine⟨p::ps,by unfold fh;rw[e1,f1],?_,Nat.max_le.mpr ⟨e3,f3⟩⟩;show(dI p && bB ps)=true;rw[e2,f2];rfl
def uy{n:Nat}{ds:List D}(h:∀d∈ds,wy n d):wy (n+1) (.tup ds):=by
 obtain⟨ps,e1,e2,e3⟩:=DV h;exact⟨.tuple ps,by unfold gj;rw[e1],e2,show fJ ps+1<=n+1 by lia⟩
def Q6{n m:Nat}{d:D}(h:wy n d)(l:n<=m):wy m d:=by
 obtain⟨p,e1,e2,e3⟩:=h;exact⟨p,e1,e2,by lia⟩
def Wb(i:Int):wy 0 (.int i):=⟨.int i,rfl,rfl,aO _⟩
def Yd{n:Nat}{d:D}(h:wy n d)(hn:n<=63):f6 d d=some (.bl true)/\i9 d d=some (.bl false):=by
 obtain⟨p,e1,e2,e3⟩:=h;have e:Px d d=some true:=by rw[Ks e1 e1 e2 (by lia) e2 (by lia),PySem.SeqAt.eqv_refl p e2]
 unfold f6 i9;rw[e];exact⟨rfl,rfl⟩
open Builtin.Str (subAt strSub occurrences partsBetween)
abbrev sg(x:Str):List Nat:=x.cps.toList
def S(l:List Nat):Str:=⟨l.toArray⟩
def p7(l:List Nat):sg (S l)=l:=rfl
def G8(x:Str):S (sg x)=x:=by cases x;rfl
def l9{x y:Str}(h:sg x=sg y):x=y:=by rw[<-G8 x,<-G8 y,h]
def aq(x y:Str):sg (x++y)=sg x++sg y:=by show(x++y).cps.toList=_;rw[Str.cps_append,Array.toList_append]
def ah(x:Str):(sg x).length=x.length:=cL
def bg(x y:Str):(x++y).length=x.length+y.length:=by rw[<-ah,aq,aI,ah,ah]
def pe(x y:Str)(i:Nat):subAt x y i=true↔((sg x).drop i).take y.length=sg y:=by
 rw[StrLaws.subAt_eq,beq_iff_eq]
def yx(x:Str)(i j:Nat):sg (strSub x i j)=((sg x).drop i).take (j - i):=StrLaws.strSub_toList x i j
def rg{x y:Str}{i c:Nat}{ys:List Nat}(hy:sg y=c::ys)(h:subAt x y i=true):(sg x)[i]?=some c:=by
 rw[pe,hy]at h;have:(((sg x).drop i).take y.length)[0]?=some c:=by rw[h];rfl
 rw[kM]at this;split at this
 ·rw[kN]at this;exact this
 ·cases this
def IQ(a y b:Str):subAt (a++y++b) y a.length=true:=by
 rw[pe,aq,aq,aV,<-ah a,hJ,<-ah y,hU]
def Ui{a r:List Nat}{x y:Str}{c:Nat}{ys:List Nat}(hx:sg x=a++r)(hy:sg y=c::ys)(ha:c∉a){k:Nat}(hk:k<a.length):¬subAt x y k=true:=λh=>by
 have h:=rg hy h;rw[hx,bL hk]at h;exact ha (cB h)
def cn(w:Nat):Nat->List Str->List Nat
 |_,[]=>[]
 |_,[_]=>[]
 |o,p::q::ps=>(o+p.length)::cn w (o+p.length+w) (q::ps)
theorem n4{x y:Str}{hi limit:Nat}:∀(l:List Nat)(st:Array Nat×Nat),(∀i∈l,i<st.2\/¬(i+y.length<=hi/\subAt x y i=true))->(lW l st (dA x y hi limit)).run=st
 |[],_,_=>rfl
 |a::l,st,h=>by
  rw[iJ];unfold dA;rw[aG (λz=>by
   rcases h a aH with h|h
   ·lia
   ·exact h ⟨z.1.2,z.2⟩)]
  exact n4 l st λi hi=>h i (aF _ hi)
theorem o7{x y:Str}{hi limit:Nat}:∀(l m:List Nat)(st:Array Nat×Nat),(lW (l++m) st (dA x y hi limit)).run=(lW m (lW l st (dA x y hi limit)).run (dA x y hi limit)).run
 |[],_,_=>rfl
 |a::l,m,st=>by
  rw[List.cons_append,iJ,iJ];unfold dA;split
  ·exact o7 l m _
  ·exact o7 l m _
def Nu{x y:Str}{hi limit i:Nat}{st:Array Nat×Nat}(h:((st.1.size<limit/\st.2<=i)/\i+y.length<=hi)/\subAt x y i=true):(lW [i] st (dA x y hi limit)).run=(st.1.push i,i+y.length):=by
 rw[iJ];unfold dA;rw[aB h];rfl
def cz(y p q:Str)(ps:List Str):bH y (p::q::ps)=p++y++bH y (q::ps):=rfl
def Uk{x y:Str}{c:Nat}{ys:List Nat}(hy:sg y=c::ys){limit:Nat}(hlim:x.length<limit):∀(ps:List Str)(p:Str)(o:Nat)(pre:List Nat)(acc:Array Nat)(free:Nat),
  (∀q∈p::ps,c∉sg q)->sg x=pre++sg (bH y (p::ps))->pre.length=o->free<=o->acc.size<=o->
  ∃f,(lW (dN o (x.length+1 - o)) (acc,free) (dA x y x.length limit)).run=(acc++(cn y.length o (p::ps)).toArray,f):=by
 intro ps;induction ps with
 |nil=>
  intro p o pre acc free hc hx ho hf ha;refine⟨free,?_⟩;have hx:sg x=pre++sg p:=hx;have hy1:1<=y.length:=by rw[<-ah,hy];simp
  rw[n4 _ _ λi hi=>.inr λz=>?_]
  ·simp[cn]
  ·have h1:=rg hy z.2;have hi':=List.mem_range'.mp hi;obtain⟨j,hj,e⟩:=hi';rw[hx,bI (by lia)]at h1;exact hc p (by simp) (cB h1)
 |cons q ps ih=>
  intro p o pre acc free hc hx ho hf ha;rw[cz]at hx;have hy1:1<=y.length:=by rw[<-ah,hy];simp
  have hxl:x.length=o+p.length+y.length+(bH y (q::ps)).length:=by
   rw[<-ah x,hx,aI,ho,ah,bg,bg];lia
  have hx2:sg x=(pre++sg p++sg y)++sg (bH y (q::ps)):=by rw[hx,aq,aq];simp
  have er:dN o (x.length+1 - o)=dN o p.length++([o+p.length]++(dN (o+p.length+1) (y.length - 1)++dN (o+p.length+y.length) (x.length+1 - (o+p.length+y.length)))):=by
   have a1:x.length+1 - o=p.length+(1+((y.length - 1)+(x.length+1 - (o+p.length+y.length)))):=by lia
   rw[a1,<-eI,<-eI,<-eI];have a2:o+p.length+1+(y.length - 1)=o+p.length+y.length:=by lia
   rw[a2];rfl
  obtain⟨f,e⟩:=ih q (o+p.length+y.length) (pre++sg p++sg y) (acc.push (o+p.length)) (o+p.length+y.length) (λr hr=>hc r (aF _ hr)) hx2 (by rw[aI,aI,ah,ah,ho]) (aO _) (by rw[Array.size_push];lia);refine⟨f,?_⟩;rw[er,o7,o7,o7];have s1:(lW (dN o p.length) (acc,free) (dA x y x.length limit)).run=(acc,free):=n4 _ _ λi hi=>.inr λz=>by
   have h1:=rg hy z.2;obtain⟨j,hj,e⟩:=List.mem_range'.mp hi;rw[hx,aq,aq,aV,bI (by lia),bL (by rw[ah];lia)]at h1;exact hc p (by simp) (cB h1)
  rw[s1,Nu (st:=(acc,free)) ⟨⟨⟨by show acc.size<limit;lia,by show free<=_;lia⟩,by lia⟩,?_⟩]
  ·rw[n4 (dN (o+p.length+1) (y.length - 1)) _ λi hi=>.inl ?_,e]
   ·have ec:cn y.length o (p::q::ps)=(o+p.length)::cn y.length (o+p.length+y.length) (q::ps):=rfl;rw[ec];simp
   ·obtain⟨j,hj,e⟩:=List.mem_range'.mp hi;show i<o+p.length+y.length
    lia
  ·rw[pe,hx,aq,aq,<-ho];have:pre.length+p.length=(pre++sg p).length:=by rw[aI,ah]
   rw[this,aV,<-aV pre,hJ,<-ah y,hU]
def B1{x y:Str}:∀(ps:List Str)(p:Str)(o:Nat)(pre:List Nat),sg x=pre++sg (bH y (p::ps))->pre.length=o->StrLaws.partsFrom x y.length o (cn y.length o (p::ps))=p::ps:=by
 intro ps;induction ps with
 |nil=>
  intro p o pre hx ho;have hx:sg x=pre++sg p:=hx;show[strSub x o x.length]=[p];have hl:x.length=o+p.length:=by rw[<-ah x,hx,aI,ho,ah]
  congr 1
  refine l9 ?_;rw[yx,hx,<-ho,hJ,hl,ho];have:o+p.length - o=(sg p).length:=by rw[ah];lia
  rw[this,lL]
 |cons q ps ih=>
  intro p o pre hx ho;rw[cz]at hx;have hx2:sg x=(pre++sg p++sg y)++sg (bH y (q::ps)):=by rw[hx,aq,aq];simp
  show strSub x o (o+p.length)::StrLaws.partsFrom x y.length (o+p.length+y.length) (cn y.length (o+p.length+y.length) (q::ps))=_;rw[ih q (o+p.length+y.length) (pre++sg p++sg y) hx2 (by rw[aI,aI,ah,ah,ho])]
  congr 1
  refine l9 ?_;rw[yx,hx,<-ho,hJ,aq,aq,aV];have:pre.length+p.length - pre.length=(sg p).length:=by rw[ah];lia
  rw[this,hU]
def Im(x:Str):1<=cS x:=by
 unfold cS;split
 ·exact aO 1
 ·split<;>decide
def Lv{y:Str}{c:Nat}{ys:List Nat}(hy:sg y=c::ys)(hk:cS y=1){ps:List Str}{p:Str}(hc:∀q∈p::ps,c∉sg q):bF (bH y (p::ps)) y=p::ps:=by
 obtain⟨f,e⟩:=Uk (x:=bH y (p::ps)) hy (limit:=(bH y (p::ps)).length+1) (lH _) ps p 0 [] #[] 0 hc rfl rfl (aO _) (aO _);have eo:occurrences (bH y (p::ps)) y 0 (bH y (p::ps)).length ((bH y (p::ps)).length+1)=cn y.length 0 (p::ps):=by
  rw[StrLaws.occ_eq,e];simp
 have hy1:1<=y.length:=by rw[<-ah,hy];simp
 unfold bF;rw[eo];cases ps with
 |nil=>
  have:cn y.length 0 [p]=[]:=rfl;rw[this];show(if _ then[p]else if _ then[p]else _)=[p];split
  ·rfl
  ·rfl
 |cons q ps=>
  have h1:¬((decide ((bH y (p::q::ps)).length<y.length)||decide (cS (bH y (p::q::ps))<cS y))=true):=by
   rw[cT,decide_eq_true_eq,decide_eq_true_eq,hk,cz,bg,bg];have:=Im (p++y++bH y (q::ps))
   lia
  rw[aG h1,aG (by unfold cn;simp),StrLaws.partsBetween_eq];exact B1 (q::ps) p 0 [] rfl rfl
end Pu
end
section
namespace LK
open PySem PySem.Spec PyProof.Rows Pu
def vp(n:Nat):List Nat:=(lV 10 n).map Char.toNat
def Qk(z:Int):Str:=(toString z:String)
def A9:∀d:Nat,d<10->(Nat.digitChar d).toNat=48+d:=by decide
def Ap{k:Nat}(h:k<10):vp k=[48+k]:=by
 unfold vp;rw[Nat.toDigits_of_lt_base h];simp[A9 k h]
def Nt{k:Nat}(h:10<=k):vp k=vp (k / 10)++[48+k % 10]:=by
 have hm:k % 10<10:=Nat.mod_lt k (by decide);have t:lV 10 (k / 10)++lV 10 (k % 10)=lV 10 (10 * (k / 10)+k % 10):=Nat.toDigits_append_toDigits (by decide) (by lia) hm;rw[Nat.div_add_mod]at t;unfold vp;rw[<-t,eL,Nat.toDigits_of_lt_base hm];simp[A9 _ hm]
def IZ(n:Nat):sg (Qk (n:Int))=vp n:=PySem.W.KIN.signs_num n
def IY(n:Nat):sg (Qk (mI n))=45::vp (n+1):=by
 show(PySem.Str.ofString (toString (mI n))).cps.toList=_;rw[PyProof.Rows.signs_ofString];show("-"++Nat.repr (n+1)).toList.map Char.toNat=_;rw[String.toList_append,eL,Nat.toList_repr];rfl
def Uj:∀(f k:Nat),k<10 ^ (f+1)->(vp k).length<=f+1/\1<=(vp k).length:=by
 intro f;induction f with
 |zero=>intro k h;rw[Ap (by simpa using h)];simp
 |succ f ih=>
  intro k h
  by_cases hk:k<10
  ·rw[Ap hk];simp
  ·rw[Nt (by lia),aI];have:=ih (k / 10) (by rw[Nat.pow_succ]at h;lia);simp
   lia
def La:∀(f k:Nat),k<10 ^ (f+1)->∀c∈vp k,48<=c/\c<=57:=by
 intro f;induction f with
 |zero=>
  intro k h c hc;have hk:k<10:=by simpa using h
  rw[Ap hk]at hc;have:=List.mem_singleton.mp hc
  lia
 |succ f ih=>
  intro k h c hc
  by_cases hk:k<10
  ·rw[Ap hk]at hc;have:=List.mem_singleton.mp hc
   lia
  ·rw[Nt (by lia)]at hc;rcases List.mem_append.mp hc with hc|hc
   ·exact ih (k / 10) (by rw[Nat.pow_succ]at h;lia) c hc
   ·have:=List.mem_singleton.mp hc;have:=Nat.mod_lt k (show 0<10 by decide)
    lia
def Asc(x:Str):Prop:=x.length<=10000/\∀c∈sg x,c<128
def wa{x:Str}(h:Asc x):eE x=true:=by
 unfold eE;rw[Array.all_eq_true_iff_forall_mem];intro c hc;have:=h.2 c (Array.mem_toList_iff.mpr hc);exact decide_eq_true (by lia)
def rn{x y:Str}(hx:Asc x)(hy:Asc y):f6 (.str x) (.str y)=some (.bl (decide (x=y)))/\i9 (.str x) (.str y)=some (.bl (!decide (x=y))):=by
 have e:Px (.str x) (.str y)=some (decide (x=y)):=by
  rw[Ks (p:=.str x) (q:=.str y) rfl rfl (wa hx) (cA _) (wa hy) (cA _)];show some (x==y)=_
  by_cases h:x=y
  ·subst h;simp
  ·simp[h]
 unfold f6 i9;rw[e];exact⟨rfl,rfl⟩
def E8{x y:Str}(h:x.length+y.length<=100000):aj (.str x) (.str y)=some (.str (x++y)):=aB (show _<=16777216 by lia)
def Asc.app{x y:Str}(hx:Asc x)(hy:Asc y)(h:x.length+y.length<=10000):Asc (x++y):=⟨by rw[bg];exact h,λc hc=>by
 rw[aq]at hc;rcases List.mem_append.mp hc with hc|hc
 ·exact hx.2 c hc
 ·exact hy.2 c hc⟩
def iq:Str:="abcdefghijklmnopqrstuvwxyz"
def s9(x:Str):Bool:=decide (1<=x.length/\x.length<=8) && (sg x).all λc=>decide (c∈sg iq)
abbrev Rn(x:Str):Prop:=Asc x
def Yh(c:Nat)(z:Str):j0 (.str ⟨#[c]⟩) (.str z)=some (.bl (decide (c∈sg z))):=by
 show(some (!(bM z ⟨#[c]⟩ 0 z.length 1).isEmpty)).map Pu.D.bl=_;rw[lB];rfl
def K9(c:Nat)(z:Str):gw (.str ⟨#[c]⟩) (.str z)=some (.bl (!decide (c∈sg z))):=by
 show((some (!(bM z ⟨#[c]⟩ 0 z.length 1).isEmpty)).map λb=>Pu.D.bl (!b))=_;rw[lB];rfl
def Rt{r:En->ResL}{U:En}{x z:Str}(hr:r U=.ok (Om x))(hl:x.length<=10000):g1 su (cm r [] (gC (.bl true)) (g2 j0 (aa 0) (gC (.str z)))) U=.ok (.bl ((sg x).all λc=>decide (c∈sg z))):=by
 have hc:cm r [] (gC (.bl true)) (g2 j0 (aa 0) (gC (.str z))) U=.ok (.lst ((sg x).map λc=>Pu.D.bl (decide (c∈sg z)))):=
  uc (f:=λc=>Pu.D.str ⟨#[c]⟩) hr (by rw[ah];lia) λc _=>by
   show Res.of (j0 (.str ⟨#[c]⟩) (.str z))=_;rw[Yh];rfl
 rw[Me,hc,cc,Fd];rfl
def Pe(n:Nat){x:Str}(h:Rn x):af (tab (n+1)) l5 [.str x]=.ok (.bl (s9 x)):=by
 rw[nj];have z0:bx [true] [.str x]++aS (1 - [Pu.D.str x].length) Sl.no=[.bo (.str x)]:=rfl;rw[z0];have hl:x.length<=aD:=bC h.1 (by decide);have hlen:g1 bj (aa 0) [.bo (.str x)]=.ok (.int (x.length:Nat)):=by
  show(Res.of (if x.length<=aD then some (Pu.D.int (x.length:Nat))else none))=_;rw[aB hl];rfl
 have his:g1 (bq "str") (aa 0) [.bo (.str x)]=.ok (.bl true):=by simp
 have ha:g1 su (cm (bc (aa 0)) [] (gC (.bl true)) (g2 j0 (aa 0) (gC (.str iq)))) [.bo (.str x)]=.ok (.bl ((sg x).all λc=>decide (c∈sg iq))):=Rt rfl h.1;unfold iq at ha;unfold s9 iq;have le:∀a b:Int,Ag (.int a) (.int b)=some (.bl (decide (a<=b))):=λ_ _=>rfl
 by_cases h1:(1:Int)<=(x.length:Int)
 ·by_cases h8:(x.length:Int)<=8
  ·rw[decide_eq_true (show 1<=x.length/\x.length<=8 by lia),cV];simp only[jl,oj,O5,his,cc,i8,vn,hlen,Xl,le,decide_eq_true h1,decide_eq_true h8,ha,bf,u7]
  ·rw[decide_eq_false (show¬(1<=x.length/\x.length<=8) by lia),Bool.false_and];simp only[jl,oj,O5,his,cc,i8,vn,hlen,Xl,le,decide_eq_true h1,decide_eq_false h8,bf,u7]
 ·rw[decide_eq_false (show¬(1<=x.length/\x.length<=8) by lia),Bool.false_and];simp only[jl,oj,O5,his,cc,i8,vn,hlen,Xl,le,decide_eq_false h1,bf,u7]
def Q7(l:List Nat)(h:∀c∈l,c<128):Rl (l.map λc=>Pu.D.str ⟨#[c]⟩):=AE λd hd=>by
 obtain⟨c,hm,rfl⟩:=List.mem_map.mp hd;have hc:eE ⟨#[c]⟩=true:=wa ⟨by show 1<=10000;decide,λd hd=>by
  have:d=c:=by simpa[sg]using hd
  rw[this];exact h c hm⟩
 exact⟨.str ⟨#[c]⟩,rfl,hc,by show 0<=_;exact cA _⟩
def Ye{l:List Nat}(h:∀c∈l,c<128):f6 (.lst (l.map λc=>Pu.D.str ⟨#[c]⟩)) (.lst [])=some (.bl l.isEmpty):=
 (Fv (Q7 l h)).1.trans (by rw[List.isEmpty_map])
def Np(n:Nat){x:Str}(h:Rn x):af (tab (n+1)) dm [.str x]=.ok (.bl (s9 x)):=by
 rw[l6];have z0:bx [true] [.str x]++aS (1 - [Pu.D.str x].length) Sl.no=[.bo (.str x)]:=rfl;rw[z0];have hl:x.length<=aD:=bC h.1 (by decide);have hlen:bj (.str x)=some (.int (x.length:Nat)):=aB hl;have his:g1 (bq "str") (aa 0) [.bo (.str x)]=.ok (.bl true):=by simp
 have hc:cm (bc (aa 0)) [] (g2 gw (aa 0) (gC (.str iq))) (dh 0) [.bo (.str x)]=.ok (.lst (((sg x).filter λc=> !decide (c∈sg iq)).map λc=>Pu.D.str ⟨#[c]⟩)):=
  zg (f:=λc=>Pu.D.str ⟨#[c]⟩) (l:=sg x) rfl (by rw[ah];have:=h.1;lia) λc _=>by
   show Res.of (gw (.str ⟨#[c]⟩) (.str iq))=_;rw[K9];rfl
 have he:=Ye (l:=(sg x).filter λc=> !decide (c∈sg iq)) λc hc=>h.2 c (List.mem_filter.mp hc).1;have fe:((sg x).filter λc=> !decide (c∈sg iq)).isEmpty=(sg x).all λc=>decide (c∈sg iq):=by
  rw[jV,List.isEmpty_iff,List.filter_eq_nil_iff,dC];simp
 rw[fe]at he;unfold iq at hc he;unfold s9 iq;generalize ((sg x).filter _).map _=W at hc he;generalize ((sg x).all _)=b at he⊢;have lt:gz (.int (x.length:Nat)) (.int 1)=some (.bl (decide ((x.length:Int)<1))):=rfl;have gt:Di (.int (x.length:Nat)) (.int 8)=some (.bl (decide ((x.length:Int)>8))):=rfl
 by_cases h1:(x.length:Int)<1
 ·rw[decide_eq_false (show¬(1<=x.length/\x.length<=8) by lia),Bool.false_and];rw[decide_eq_true h1]at lt;simp[ik,hlen,lt]
 ·rw[decide_eq_false h1]at lt
  by_cases h8:(x.length:Int)>8
  ·rw[decide_eq_false (show¬(1<=x.length/\x.length<=8) by lia),Bool.false_and];rw[decide_eq_true h8]at gt;simp[ik,hlen,lt,gt]
  ·rw[decide_eq_true (show 1<=x.length/\x.length<=8 by lia),cV];rw[decide_eq_false h8]at gt;simp[ik,hlen,lt,gt,hc,he]
inductive T0:Pu.D->Prop where
 |str {x:Str} (h:Rn x):T0 (.str x)
 |int (i:Int):T0 (.int i)
 |bl (b:Bool):T0 (.bl b)
 |non:T0 .non
 |tup (ds:List Pu.D):T0 (.tup ds)
 |lst (ds:List Pu.D):T0 (.lst ds)
def je:Pu.D->Bool
 |.str x=>s9 x
 |.int _=>true
 |_=>false
def lq:Pu.D->Bool
 |.str x=>s9 x
 |_=>false
def wx:Pu.D->Bool
 |.int _=>true
 |_=>false
def D8(n:Nat){d:Pu.D}(h:T0 d):af (tab (n+1)) l5 [d]=.ok (.bl (lq d)):=by
 cases h with
 |str h=>exact Pe n h
 |int i=>rw[nj];simp[jl,lq]
 |bl b=>rw[nj];simp[jl,lq]
 |non=>rw[nj];simp[jl,lq]
 |tup ds=>rw[nj];simp[jl,lq]
 |lst ds=>rw[nj];simp[jl,lq]
def Bs(n:Nat){d:Pu.D}(h:T0 d):af (tab (n+1)) dm [d]=.ok (.bl (lq d)):=by
 cases h with
 |str h=>exact Np n h
 |int i=>rw[l6];simp[ik,lq]
 |bl b=>rw[l6];simp[ik,lq]
 |non=>rw[l6];simp[ik,lq]
 |tup ds=>rw[l6];simp[ik,lq]
 |lst ds=>rw[l6];simp[ik,lq]
def Tn(n:Nat){d:Pu.D}(h:T0 d):af (tab (n+1)) o4 [d]=.ok (.bl (wx d)):=by
 cases h<;>(rw[Hr];simp[y8,wx])
def Eb(n:Nat){d:Pu.D}(h:T0 d):af (tab (n+1)) fu [d]=.ok (.bl (wx d)):=by
 cases h<;>(rw[Ht];simp[za,wx])
def Ov(d:Pu.D):(lq d||wx d)=je d:=by
 cases d<;>simp[lq,wx,je]
def D7(n:Nat){d:Pu.D}(h:T0 d):af (tab (n+2)) qf [d]=.ok (.bl (je d)):=by
 rw[Pr,<-Ov];have h1:=D8 n h;have h2:=Tn n h;cases hw:lq d
 ·rw[hw]at h1;simp[yc,h1,h2]
 ·rw[hw]at h1;simp[yc,h1]
def ni(lo hi:Int)(pB:Pu.D->Bool):Pu.D->Bool
 |.tup xs=>decide (lo<=(xs.length:Int)) && decide ((xs.length:Int)<=hi) && xs.all pB
 |_=>false
def u3(n:Nat){d0:Pu.D}{lo hi:Int}{y:Str}{d:DefR}{pB:Pu.D->Bool}(hd:look Fs y=some d)(hms:d.ms=[true])(ht:T0 d0)(h:∀xs,d0=.tup xs->xs.length<=1000/\∀x∈xs,af (tab n) d [x]=.ok (.bl (pB x))):
  af (tab (n+1)) fq [d0,.int lo,.int hi,.fn y]=.ok (.bl (ni lo hi pB d0)):=by
 rw[C7];cases ht with
 |str h=>simp[d8,ni]
 |int i=>simp[d8,ni]
 |bl b=>simp[d8,ni]
 |non=>simp[d8,ni]
 |lst ds=>simp[d8,ni]
 |tup xs=>
  obtain⟨hl,hx⟩:=h xs rfl;have hc:cm (bc (aa 0)) [3] (gC (.bl true)) (Bg (tab (n+1)) 1 [((aa 0),(dh 0))]) [.bo (.tup xs),.bo (.int lo),.bo (.int hi),.bo (.fn y)]=.ok (.lst (xs.map λx=>Pu.D.bl (pB x))):=
   uc (f:=id) (by simp) (by lia) λx hx'=>by
    have ht:(tab (n+1)).fns y=some ⟨d.ms,af (tab n) d⟩:=Wq n hd;unfold Bg;simp[de,ht,hms,V5,hx x hx']
  have ha:=Fd pB xs
  by_cases h1:lo<=(xs.length:Int)
  ·by_cases h2:(xs.length:Int)<=hi
   ·simp[d8,ni,h1,h2,hc,ha]
   ·simp[d8,ni,h1,h2]
  ·simp[d8,ni,h1]
def TT(d:Pu.D):Prop:=T0 d/\∀ds,d=.tup ds->ds.length<=1000/\∀x∈ds,T0 x/\KZ x
def AT(d:Pu.D):Prop:=T0 d/\∀ds,d=.tup ds->∀x∈ds,TT x
def ia:Pu.D->Bool
 |.tup [a,b]=>lq a && ni 1 4 je b
 |_=>false
def Nv(n:Nat){d:Pu.D}(h:T0 d):af (tab (n+1)) jm [d]=.ok (.bl (match d with|.tup ds=>decide ((ds.length:Int)=2)|_=>false)):=by
 rw[D2];cases h with
 |tup ds=>
  by_cases hl:(ds.length:Int)=2
  ·simp[jk,hl]
  ·simp[jk,hl]
 |str h=>simp[jk]
 |int i=>simp[jk]
 |bl b=>simp[jk]
 |non=>simp[jk]
 |lst ds=>simp[jk]
def T0.tup_or{d:Pu.D}(hd:T0 d):(∃ds,d=.tup ds)\/((∀ds,d≠.tup ds)/\bq "tuple" d=some (.bl false)):=by
 cases hd with
 |tup ds=>exact .inl ⟨ds,rfl⟩
 |str h=>exact .inr ⟨(λ_ z=>nomatch z),Pa _⟩
 |int i=>exact .inr ⟨(λ_ z=>nomatch z),O7 _⟩
 |bl b=>exact .inr ⟨(λ_ z=>nomatch z),O6 _⟩
 |non=>exact .inr ⟨(λ_ z=>nomatch z),O9⟩
 |lst ds=>exact .inr ⟨(λ_ z=>nomatch z),O8 _⟩
def W2{lo hi:Int}{pB:Pu.D->Bool}{d:Pu.D}(h:∀ds,d≠.tup ds):ni lo hi pB d=false:=by
 cases d with
 |tup ds=>exact absurd rfl (h ds)
 |_=>rfl
def Dq{d:Pu.D}(h:∀ds,d≠.tup ds):ia d=false:=by
 cases d with
 |tup ds=>exact absurd rfl (h ds)
 |_=>rfl
def Uw(n:Nat){d:Pu.D}(h:T0 d)(hn:∀ds,d≠.tup ds):af (tab (n+1)) jm [d]=.ok (.bl false):=by
 rw[Nv n h];cases d with
 |tup ds=>exact absurd rfl (hn ds)
 |_=>rfl
def P8(n:Nat){d:Pu.D}(h:AT d):af (tab (n+4)) vb [d]=.ok (.bl (ia d)):=by
 rw[Pq];have hp:=Nv (n+2) h.1;rcases h.1.tup_or with ⟨ds,rfl⟩|⟨hn,_⟩
 ·skip
  by_cases hl:ds.length=2
  ·match ds,hl,h with
   |[a,b],_,h=>
    have ha:=h.2 _ rfl a (by simp);have hb:=h.2 _ rfl b (by simp);have e1:=D8 (n+2) ha.1;have e2:=u3 (n+2) (lo:=1) (hi:=4) (y:="is_term") (d:=qf) (pB:=je) (by kernel_rfl) rfl hb.1 (λxs hx=>⟨(hb.2 xs hx).1,λx hx'=>D7 n ((hb.2 xs hx).2 x hx').1⟩);have e0:af (tab (n+3)) jm [.tup [a,b]]=.ok (.bl true):=hp;cases hw:lq a
    ·rw[hw]at e1;simp[qa,e0,e1,ia,hw]
    ·rw[hw]at e1;simp[qa,e0,e1,e2,ia,hw]
  ·have hl':¬(ds.length:Int)=2:=by lia
   have e0:af (tab (n+3)) jm [.tup ds]=.ok (.bl false):=by rw[hp];simp[hl']
   have hB:ia (.tup ds)=false:=by
    match ds,hl with
    |[],_=>rfl
    |[_],_=>rfl
    |[_,_],hl=>exact absurd rfl hl
    |_::_::_::_,_=>rfl
   simp[qa,e0,hB]
 ·have e0:=Uw (n+2) h.1 hn;simp[qa,e0,Dq hn]
def Fw{α:Type}(b:α->Bool)(l:List α):(l.filter b).isEmpty=l.all λx=> !b x:=by
 induction l with
 |nil=>rfl
 |cons a l ih=>
  rw[jE,bK];cases hb:b a
  ·simpa using ih
  ·simp
def Io(n:Nat){d:Pu.D}(h:AT d):af (tab (n+2)) i5 [d]=.ok (.bl (ia d)):=by
 rw[Da];rcases h.1.tup_or with ⟨ds,rfl⟩|⟨hn,hi⟩
 ·skip
  by_cases hl:ds.length=2
  ·match ds,hl,h with
   |[a,b],_,h=>
    have ha:=h.2 _ rfl a (by simp);have hb:=h.2 _ rfl b (by simp);have e1:=Bs n ha.1;cases hw:lq a
    ·rw[hw]at e1;simp[fm,e1,ia,hw]
    ·rw[hw]at e1;rcases hb.1.tup_or with ⟨xs,rfl⟩|⟨bn,bi⟩
     case inr=>simp[fm,e1,bi,ia,hw,W2 bn]
     case inl=>
      obtain⟨hxl,hx⟩:=hb.2 xs rfl
      by_cases h1:(xs.length:Int)<1
      ·have h1':¬(1:Int)<=(xs.length:Int):=by lia
       simp[fm,e1,ia,hw,ni,h1,h1']
      ·by_cases h2:(4:Int)<(xs.length:Int)
       ·have h2':¬(xs.length:Int)<=4:=by lia
        simp[fm,e1,ia,hw,ni,h1,h2,h2']
       ·have h1':(1:Int)<=(xs.length:Int):=by lia
        have h2':(xs.length:Int)<=4:=by lia
        have hc:∀U:En,U[0]?=some (.bo (.tup [a,.tup xs]))->cm (bc (g2 ar (aa 0) (gC (.int 1)))) [] (ro (fy (dq (ao (af (tab (n+1)) fu) (ae (aa 0) ak)))) (fy (dq (ao (af (tab (n+1)) dm) (ae (aa 0) ak))))) (dh 0) U=.ok (.lst ((xs.filter λx=> !je x).map id)):=λU hδ=>
         zg (f:=id) (by simp[hδ]) (by lia) λx hx'=>by
          have w1:=Eb n (hx x hx').1;have w2:=Bs n (hx x hx').1;rw[<-Ov];cases hh:wx x
          ·rw[hh]at w1;simp[de,w1,w2]
          ·rw[hh]at w1;simp[de,w1]
        have hs:Rl ((xs.filter λx=> !je x).map id):=AE λd hd=>by
         rw[mJ]at hd;exact(hx d (List.mem_filter.mp hd).1).2
        have he:=(Fv hs).1;rw[mJ]at he;have hf:=Fw (λx=> !je x) xs;simp only[Bool.not_not]at hf;rw[hf]at he;simp only[mJ]at hc;simp[fm,e1,ia,hw,ni,h1,h2,h1',h2',hc,he]
  ·have hl':((ds.length:Int)==2)=false:=beq_eq_false_iff_ne.mpr (by lia);have hB:ia (.tup ds)=false:=by
    match ds,hl with
    |[],_=>rfl
    |[_],_=>rfl
    |[_,_],hl=>exact absurd rfl hl
    |_::_::_::_,_=>rfl
   simp[fm,hl',hB]
 ·simp[fm,hi,Dq hn]
theorem vd:∀{kvs:List (Pu.D×Pu.D)}{j:L2.j9},P1 kvs j=(cf kvs j).isSome
 |[],_=>rfl
 |(k,d)::r,j=>by
  unfold cf
  by_cases h:cg k=some j
  ·rw[aB h];simp[P1,h]
  ·rw[aG h,<-vd];simp[P1,h]
theorem vh:∀{kvs:List (Pu.D×Pu.D)}{j j':L2.j9}{v:Pu.D},cf kvs j=none->cf (kvs++[(kD j,v)]) j'=if j'=j then some v else cf kvs j'
 |[],j,j',v,_=>by
  show(if cg (kD j)=some j' then some v else none)=_;rw[uj]
  by_cases h:j'=j
  ·subst h;rw[aB rfl,aB rfl]
  ·rw[aG (λz=>h (bP z).symm),aG h];rfl
 |(k,d)::r,j,j',v,hn=>by
  unfold cf at hn
  by_cases hk:cg k=some j
  ·rw[aB hk]at hn;cases hn
  ·rw[aG hk]at hn;show(if cg k=some j' then some d else cf (r++[(kD j,v)]) j')=_;rw[vh hn]
   by_cases h:j'=j
   ·subst h;rw[aG hk,aB rfl,aB rfl]
   ·rw[aG h,aG h];rfl
def N9{kvs:List (Pu.D×Pu.D)}{j:L2.j9}{v:Pu.D}(h:cf kvs j=none):sf kvs j v=kvs++[(kD j,v)]:=by
 unfold sf;rw[vd,h];rfl
def Ae:En->Out:=(Gj (zm i9 (m9 1 (g2 ar (aa 2) (gC (.int 0))) (g1 bj (g2 ar (aa 2) (gC (.int 1))))) (g1 bj (g2 ar (aa 2) (gC (.int 1))))) (b9 (gC (.bl false))) fc)
def Bz(kvs:List (Pu.D×Pu.D)):List At->Bool
 |[]=>true
 |a::r=>match cf kvs (.inr a.nm)with
  |some (.int k)=>if k=(a.ts.length:Int)then Bz kvs r else false
  |some _=>false
  |none=>Bz (kvs++[(kD (.inr a.nm),.int (a.ts.length:Nat))]) r
def IntV(kvs:List (Pu.D×Pu.D)):Prop:=∀(x:Str) d,cf kvs (.inr x)=some d->∃k:Int,d=.int k
def IntV.snoc{kvs:List (Pu.D×Pu.D)}{x:Str}{k:Int}(h:IntV kvs)(e:cf kvs (.inr x)=none):IntV (kvs++[(kD (.inr x),.int k)]):=λy d hd=>by
 rw[vh e]at hd;split at hd
 ·cases hd;exact⟨_,rfl⟩
 ·exact h y d hd
def Ul(v0:Sl):∀(as:List At)(kvs:List (Pu.D×Pu.D))(v2:Sl),IntV kvs->kvs.length+as.length<=1000->
  (Bz kvs as=true/\∃kvs' w2,turns (br 2) Ae (as.map At.D) [v0,.od false kvs,v2]=.nx [v0,.od false kvs',w2])\/(Bz kvs as=false/\turns (br 2) Ae (as.map At.D) [v0,.od false kvs,v2]=.rt (.bl false)):=by
 intro as;induction as with
 |nil=>intro kvs v2 _ _;exact .inl ⟨rfl,kvs,v2,rfl⟩
 |cons a as ih=>
  intro kvs v2 hv hl;rw[aM]at hl;rw[aU,gy (δ1:=[v0,.od false kvs,.pu a.D]) rfl];have hlt:kvs.length<aD:=by show _<16777216;lia
  unfold Bz;cases e:cf kvs (.inr a.nm)with
  |some d=>
   obtain⟨k,rfl⟩:=hv a.nm d e;have es:m9 1 (g2 ar (aa 2) (gC (.int 0))) (g1 bj (g2 ar (aa 2) (gC (.int 1)))) [v0,.od false kvs,.pu a.D]=.ok (.int k) [v0,.od false kvs,.pu a.D]:=by
    unfold m9;simp[At.D,cg,hlt,e]
   dsimp only
   by_cases hk:k=(a.ts.length:Int)
   ·rw[aB hk];have eb:Ae [v0,.od false kvs,.pu a.D]=.nx [v0,.od false kvs,.pu a.D]:=by
     unfold Ae Gj zm;rw[es];simp[At.D,Res.ef,hk]
    rw[eb];exact ih kvs (.pu a.D) hv (by lia)
   ·rw[aG hk];have hk':(k==(a.ts.length:Int))=false:=beq_eq_false_iff_ne.mpr hk;have eb:Ae [v0,.od false kvs,.pu a.D]=.rt (.bl false):=by
     unfold Ae Gj zm;rw[es];simp[At.D,Res.ef,hk']
    rw[eb];exact .inr ⟨rfl,rfl⟩
  |none=>
   have es:m9 1 (g2 ar (aa 2) (gC (.int 0))) (g1 bj (g2 ar (aa 2) (gC (.int 1)))) [v0,.od false kvs,.pu a.D]=.ok (.int (a.ts.length:Nat)) [v0,.od false (kvs++[(kD (.inr a.nm),.int (a.ts.length:Nat))]),.pu a.D]:=by
    unfold m9;simp[At.D,cg,hlt,e,N9 e]
   have eb:Ae [v0,.od false kvs,.pu a.D]=.nx [v0,.od false (kvs++[(kD (.inr a.nm),.int (a.ts.length:Nat))]),.pu a.D]:=by
    unfold Ae Gj zm;rw[es];simp[At.D,Res.ef]
   rw[eb];exact ih _ (.pu a.D) (hv.snoc e) (by rw[aI];simp;lia)
def Eg(n:Nat){as:List At}(hl:as.length<=900):af (tab (n+1)) g7 [.tup (as.map At.D)]=.ok (.bl (Bz [] as)):=by
 rw[vo];have hs0:k6 (br 2) (bc (H8 0)) Ae [.bo (.tup (as.map At.D)),.od false [],.no]=turns (br 2) Ae (as.map At.D) [.bo (.tup (as.map At.D)),.od false [],.no]:=jr (by simp);rcases Ul (.bo (.tup (as.map At.D))) as [] .no (by intro x d e;cases e) (by simp;lia)with ⟨h1,kvs,w2,e⟩|⟨h1,e⟩
 ·rw[e]at hs0;unfold Ae at hs0;simp[js,hs0,h1]
 ·rw[e]at hs0;unfold Ae at hs0;simp[js,hs0,h1]
def Tm.good:Tm->Prop
 |.s x=>s9 x=true
 |.i _=>True
def BX{d:Pu.D}(h:je d=true):∃t:Tm,d=t.D/\t.good:=by
 cases d with
 |str x=>exact⟨.s x,rfl,h⟩
 |int z=>exact⟨.i z,rfl,trivial⟩
 |non=>cases h
 |bl _=>cases h
 |tup _=>cases h
 |lst _=>cases h
 |dct _ _=>cases h
 |obj _ _=>cases h
 |fn _=>cases h
theorem x8:∀{ds:List Pu.D},ds.all je=true->∃ts:List Tm,ds=ts.map Tm.D/\∀t∈ts,t.good
 |[],_=>⟨[],rfl,by intro t ht;cases ht⟩
 |d::r,h=>by
  rw[bK,aA]at h;obtain⟨t,rfl,ht⟩:=BX h.1;obtain⟨ts,rfl,hts⟩:=x8 h.2;refine⟨t::ts,rfl,λu hu=>?_⟩;rcases List.mem_cons.mp hu with rfl|hu
  ·exact ht
  ·exact hts u hu
def At.good(a:At):Prop:=s9 a.nm=true/\1<=a.ts.length/\a.ts.length<=4/\∀t∈a.ts,t.good
def Hd{d:Pu.D}(hb:ia d=true):∃a:At,d=a.D/\a.good:=by
 unfold ia at hb;split at hb
 ·rename_i a b;rw[aA]at hb;obtain⟨h1,h2⟩:=hb;cases a with
  |str x=>
   cases b with
   |tup xs=>
    have h2':(decide ((1:Int)<=(xs.length:Int)) && decide ((xs.length:Int)<=4) && xs.all je)=true:=h2;simp only[aA,decide_eq_true_eq]at h2';obtain⟨ts,rfl,ht⟩:=x8 h2'.2;rw[aJ]at h2';exact⟨⟨x,ts⟩,rfl,h1,by show 1<=ts.length;lia,by show ts.length<=4;lia,ht⟩
   |_=>cases h2
  |_=>cases h1
 ·cases hb
def nq(k d:Pu.D)(r:List (Pu.D×Pu.D))(j:L2.j9):cf ((k,d)::r) j=if cg k=some j then some d else cf r j:=rfl
theorem Iu(j j':L2.j9)(v:Pu.D):∀kvs:List (Pu.D×Pu.D),cf (kvs.map λp=>if cg p.1=some j then(p.1,v)else p) j'=if j'=j then(cf kvs j).map (λ_=>v)else cf kvs j'
 |[]=>by split<;>rfl
 |(k,d)::r=>by
  have ih:=Iu j j' v r;rw[aU]
  by_cases hk:cg k=some j
  ·rw[aB hk,nq,ih,nq,nq,aB hk]
   by_cases hj:j'=j
   ·subst hj;rw[aB hk,aB rfl];rfl
   ·rw[aG hj,aG hj,hk];have:¬(some j=some j'):=λz=>hj (bP z).symm;rw[aG this,aG this]
  ·rw[aG hk,nq,ih,nq,nq,aG hk]
   by_cases hj:j'=j
   ·subst hj;rw[aG hk,aB rfl,aB rfl]
   ·rw[aG hj,aG hj]
def Bu(kvs:List (Pu.D×Pu.D))(j j':L2.j9)(v:Pu.D):cf (sf kvs j v) j'=if j'=j then some v else cf kvs j':=by
 unfold sf;rw[vd];cases e:cf kvs j with
 |none=>
  rw[aG (by decide)];exact vh e
 |some d=>
  rw[aB (show(some d).isSome=true from rfl),Iu,e];rfl
def Nc(n:Nat):En->Out:=(ba (ml (m7 (fy (dq (ao (af (tab n) i5) (ae (aa 3) ak)))) (g2 i9 (xh (aa 1) (g2 ar (aa 3) (gC (.int 0))) (g1 bj (g2 ar (aa 3) (gC (.int 1))))) (g1 bj (g2 ar (aa 3) (gC (.int 1)))))) (b9 (gC (.bl false))) fc)
 (ba (Lp 1 (g2 ar (aa 3) (gC (.int 0))) (g1 bj (g2 ar (aa 3) (gC (.int 1)))))
 (fz [4] (xq 2 (cm (bc (g2 ar (aa 3) (gC (.int 1)))) [] (dq (g1 (bq "str") (aa 0))) (dh 0))))))
def BE{a:At}(h:a.good):ia a.D=true:=by
 obtain⟨h1,h2,h3,h4⟩:=h;show(s9 a.nm && (decide ((1:Int)<=((a.ts.map Tm.D).length:Int)) && decide (((a.ts.map Tm.D).length:Int)<=4) && (a.ts.map Tm.D).all je))=true;rw[aJ,h1,decide_eq_true (by lia),decide_eq_true (by lia)];simp only[cV,dC];intro d hd;obtain⟨t,ht,rfl⟩:=List.mem_map.mp hd;have:=h4 t ht;cases t with
 |s x=>exact this
 |i z=>rfl
def sd{x:Str}(h:s9 x=true):Rn x:=by
 unfold s9 at h;rw[aA,decide_eq_true_eq,dC]at h;refine⟨by lia,λc hc=>?_⟩;have hm:=of_decide_eq_true (h.2 c hc);have:∀c∈sg iq,c<128:=by decide+kernel
 exact this c hm
def nu{x:Str}(h:Rn x):eE x=true:=wa h
def Tm.good_T0{t:Tm}(h:t.good):T0 t.D/\KZ t.D:=by
 cases t with
 |s x=>exact⟨.str (sd h),Oo (nu (sd h))⟩
 |i z=>exact⟨.int z,AD z⟩
def At.good_AT{a:At}(h:a.good):AT a.D:=by
 refine⟨.tup _,λds e x hx=>?_⟩;unfold At.D at e;cases e;simp only[cP,eA,or_false]at hx;rcases hx with rfl|rfl
 ·exact⟨.str (sd h.1),λds e=>by cases e⟩
 ·refine⟨.tup _,λds e=>?_⟩;cases e;have:=h.2.2.1;refine⟨by rw[aJ];lia,λx hx=>?_⟩;obtain⟨t,ht,rfl⟩:=List.mem_map.mp hx;exact Tm.good_T0 (h.2.2.2 t ht)
def Nl(kvs:List (Pu.D×Pu.D))(a:At):Bool:=match cf kvs (.inr a.nm)with
 |none=>true
 |some (.int k)=>k==(a.ts.length:Int)
 |some _=>false
def Tw(n:Nat){a:At}(h:a.good){kvs:List (Pu.D×Pu.D)}(hv:IntV kvs)(hlt:kvs.length<16777216){pre:List Str}(hp:pre.length<=1000)(v0:Sl):
  Nc (n+2) [v0,.od false kvs,.ow (pre.map Pu.D.str),.pu a.D,.no]=if Nl kvs a=true then .nx [v0,.od false (sf kvs (.inr a.nm) (.int (a.ts.length:Nat))),.ow ((pre++rf a.ts).map Pu.D.str),.pu a.D,.no]else .rt (.bl false):=by
 have e1:=Io n (At.good_AT h);rw[BE h]at e1;have hl4:=h.2.2.1;have hs:=u0 a.ts;have hle:pre.length+(rf a.ts).length<=16777216:=by lia
 have hc:∀U:En,U[3]?=some (.pu a.D)->cm (bc (g2 ar (aa 3) (gC (.int 1)))) [] (dq (g1 (bq "str") (aa 0))) (dh 0) U=.ok (.lst ((rf a.ts).map Pu.D.str)):=λU hδ=>
  Dz (r:=bc (g2 ar (aa 3) (gC (.int 1)))) (U:=U) (ts:=a.ts) (by simp[hδ,At.D]) (by lia)
 have hsl:kvs.length<aD:=hlt;have put1:Lp 1 (g2 ar (aa 3) (gC (.int 0))) (g1 bj (g2 ar (aa 3) (gC (.int 1)))) [v0,.od false kvs,.ow (pre.map Pu.D.str),.pu a.D,.no]=.nx [v0,.od false (sf kvs (.inr a.nm) (.int (a.ts.length:Nat))),.ow (pre.map Pu.D.str),.pu a.D,.no]:=by
  simp[At.D,Lp,KF,B5,cg,hsl]
 have cx:∀k:Int,xh (aa 1) (g2 ar (aa 3) (gC (.int 0))) (g1 bj (g2 ar (aa 3) (gC (.int 1)))) [v0,.od false kvs,.ow (pre.map Pu.D.str),.pu a.D,.no]=.ok (.int k)->
   Nc (n+2) [v0,.od false kvs,.ow (pre.map Pu.D.str),.pu a.D,.no]=if(k==(a.ts.length:Int))=true then .nx [v0,.od false (sf kvs (.inr a.nm) (.int (a.ts.length:Nat))),.ow ((pre++rf a.ts).map Pu.D.str),.pu a.D,.no]else .rt (.bl false):=λk hg=>by
  have ll:g1 bj (g2 ar (aa 3) (gC (.int 1))) [v0,.od false kvs,.ow (pre.map Pu.D.str),.pu a.D,.no]=.ok (.int (a.ts.length:Nat)):=by simp[At.D]
  have ne:g2 i9 (xh (aa 1) (g2 ar (aa 3) (gC (.int 0))) (g1 bj (g2 ar (aa 3) (gC (.int 1))))) (g1 bj (g2 ar (aa 3) (gC (.int 1)))) [v0,.od false kvs,.ow (pre.map Pu.D.str),.pu a.D,.no]=.ok (.bl (!(k==(a.ts.length:Int)))):=by
   rw[u5,hg,ll];rfl
  have tt:m7 (fy (dq (ao (af (tab (n+2)) i5) (ae (aa 3) ak)))) (g2 i9 (xh (aa 1) (g2 ar (aa 3) (gC (.int 0))) (g1 bj (g2 ar (aa 3) (gC (.int 1))))) (g1 bj (g2 ar (aa 3) (gC (.int 1))))) [v0,.od false kvs,.ow (pre.map Pu.D.str),.pu a.D,.no]=.ok (.bl (!(k==(a.ts.length:Int)))):=by
   rw[Cp,J8];simp only[Pb,Gz,Md,Xa,W7,eJ,cE,e1,cc,J9,i8,dP,ne]
  unfold Nc;rw[cb,oi,tt];cases hk:(k==(a.ts.length:Int))with
  |true=>
   simp only[bf,dP,u6,cb,put1,if_true];simp[hc,hle]
  |false=>
   simp only[bf,fW,oj,Xl];rfl
 unfold Nl;cases e:cf kvs (.inr a.nm)with
 |none=>
  dsimp only;rw[cx (a.ts.length:Nat) (by unfold xh;simp[At.D,cg,e])];simp
 |some d=>
  obtain⟨k,rfl⟩:=hv a.nm d e;exact cx k (by unfold xh;simp[At.D,cg,e])
def N8(kvs:List (Pu.D×Pu.D))(j:L2.j9)(v:Pu.D):(sf kvs j v).length<=kvs.length+1:=by
 unfold sf;split
 ·rw[aJ];lia
 ·rw[aI];simp
def IntV.put{kvs:List (Pu.D×Pu.D)}{x:Str}{k:Int}(h:IntV kvs):IntV (sf kvs (.inr x) (.int k)):=λy d hd=>by
 rw[Bu]at hd;split at hd
 ·cases hd;exact⟨_,rfl⟩
 ·exact h y d hd
def Yv(n:Nat)(v0:Sl):∀(as:List At)(kvs kvs':List (Pu.D×Pu.D))(pre:List Str)(v3:Sl),(∀a∈as,a.good)->IntV kvs->(∀x:Str,cf kvs' (.inr x)=cf kvs (.inr x))->kvs'.length+as.length<=1000->pre.length+4 * as.length<=900->
  (Bz kvs as=true/\∃kvs2 w3,turns (br 3) (Nc (n+2)) (as.map At.D) [v0,.od false kvs',.ow (pre.map Pu.D.str),v3,.no]=.nx [v0,.od false kvs2,.ow ((pre++jd as).map Pu.D.str),w3,.no])
  \/(Bz kvs as=false/\turns (br 3) (Nc (n+2)) (as.map At.D) [v0,.od false kvs',.ow (pre.map Pu.D.str),v3,.no]=.rt (.bl false)):=by
 intro as;induction as with
 |nil=>intro kvs kvs' pre v3 _ _ _ _ _;exact .inl ⟨rfl,kvs',v3,by simp[turns,jd]⟩
 |cons a as ih=>
  intro kvs kvs' pre v3 hg hv hr hl hp;have ha:=hg a aH;have hg':∀b∈as,b.good:=λb hb=>hg b (aF _ hb);rw[aM]at hl hp;have hv':IntV kvs':=λx d e=>hv x d (by rw[<-hr x];exact e);have hs:=u0 a.ts;have h4:=ha.2.2.1;have hA:jd (a::as)=rf a.ts++jd as:=by simp[jd]
  have hpl:=N8 kvs' (.inr a.nm) (.int (a.ts.length:Nat));rw[aU,gy (δ1:=[v0,.od false kvs',.ow (pre.map Pu.D.str),.pu a.D,.no]) rfl,Tw n ha hv' (by lia) (by lia) v0,hA,<-aV];unfold Bz Nl;rw[hr a.nm];cases e:cf kvs (.inr a.nm)with
  |none=>
   dsimp only;rw[aB rfl];dsimp only;refine ih _ _ _ _ hg' (hv.snoc e) (λx=>?_) (by lia) (by rw[aI];lia);rw[Bu,vh e,hr x]
  |some d=>
   obtain⟨k,rfl⟩:=hv a.nm d e;dsimp only
   by_cases hk:k=(a.ts.length:Int)
   ·subst hk;rw[aB (beq_self_eq_true _),aB rfl];dsimp only;refine ih _ _ _ _ hg' hv (λx=>?_) (by lia) (by rw[aI];lia);rw[Bu];split
    ·rename_i hx;rw[Sum.inr.inj hx];exact e.symm
    ·exact hr x
   ·rw[aG (show¬((k==(a.ts.length:Int))=true) by simpa using hk),aG hk];exact .inr ⟨rfl,rfl⟩
def FY(n:Nat)(v0:Sl):∀(ds:List Pu.D)(kvs:List (Pu.D×Pu.D))(pre:List Str)(v3:Sl),(∀d∈ds,AT d)->ds.all ia=false->IntV kvs->kvs.length+ds.length<=1000->pre.length+4 * ds.length<=900->
  turns (br 3) (Nc (n+2)) ds [v0,.od false kvs,.ow (pre.map Pu.D.str),v3,.no]=.rt (.bl false):=by
 intro ds;induction ds with
 |nil=>intro kvs pre v3 _ h;cases h
 |cons d ds ih=>
  intro kvs pre v3 hat hb hv hl hp;rw[aM]at hl hp;rw[gy (δ1:=[v0,.od false kvs,.ow (pre.map Pu.D.str),.pu d,.no]) rfl];cases e:ia d with
  |false=>
   have e1:=Io n (hat d aH);rw[e]at e1;have:Nc (n+2) [v0,.od false kvs,.ow (pre.map Pu.D.str),.pu d,.no]=.rt (.bl false):=by
    simp[Nc,e1]
   rw[this]
  |true=>
   rw[bK,e,cV]at hb;obtain⟨a,rfl,ha⟩:=Hd e;have hs:=u0 a.ts;have h4:=ha.2.2.1;have hpl:=N8 kvs (.inr a.nm) (.int (a.ts.length:Nat));rw[Tw n ha hv (by lia) (by lia) v0]
   by_cases hk:Nl kvs a=true
   ·rw[aB hk];dsimp only;exact ih _ _ _ (λd hd=>hat d (aF _ hd)) hb hv.put (by lia) (by rw[aI];lia)
   ·rw[aG hk]
def T6(n:Nat):En->Out:=(ml (m7 (ro (fy (dq (ao (af (tab n) fu) (ae (aa 4) ak)))) (fy (dq (ao (af (tab n) dm) (ae (aa 4) ak))))) (ro (dq (g1 (bq "str") (aa 4))) (g2 gw (aa 4) (aa 2)))) (b9 (gC (.bl false))) fc)
def S9(kn:List Str):Pu.D->Bool
 |.str x=>s9 x && decide (x∈kn)
 |.int _=>true
 |_=>false
theorem Cj:∀l:List Str,fh (l.map Pu.D.str)=some (l.map kR)
 |[]=>rfl
 |x::l=>by
  show(match gj (.str x)with|some p=>(match fh (l.map Pu.D.str)with|some ps=>some (p::ps)|none=>none)|none=>none)=_;rw[Cj l];rfl
theorem zd:∀{l:List Str},(∀x∈l,eE x=true)->bB (l.map kR)=true
 |[],_=>rfl
 |x::l,h=>by
  show(eE x && bB (l.map kR))=true;rw[h x aH,zd λy hy=>h y (aF _ hy)];rfl
def Ru(l:List Str)(x:Str):((l.map kR).any λy=>cC y (.str x))=decide (x∈l):=by
 induction l with
 |nil=>rfl
 |cons y l ih=>
  rw[aU,dQ,ih];show((y==x)||decide (x∈l))=_
  by_cases h:y=x
  ·subst h;simp
  ·have h':¬x=y:=λz=>h z.symm;have:(y==x)=false:=by simpa using h
   rw[this];simp[h']
def M5{l:List Str}{x:Str}(hl:∀y∈l,eE y=true)(hx:eE x=true):Ge (.str x) (.lst (l.map Pu.D.str))=some (.bl (decide (x∈l)))/\pb (.str x) (.lst (l.map Pu.D.str))=some (.bl (!decide (x∈l))):=by
 have e:z6 (.str x) (.lst (l.map Pu.D.str))=some (decide (x∈l)):=by
  show(match fh (l.map Pu.D.str),gj (.str x)with
   |some ps,some q=>if bB ps && bV q then some (ps.any λy=>cC y q)else none
   |_,_=>none)=_
  rw[Cj];show(if bB (l.map kR) && bV (.str x)then some ((l.map kR).any λy=>cC y (.str x))else none)=_;rw[zd hl,si (p:=.str x) hx (cA _),Ru];rfl
 unfold Ge pb;rw[e];exact⟨rfl,rfl⟩
def FW(n:Nat){d:Pu.D}(h:T0 d){kn:List Str}(hk:∀x∈kn,s9 x=true)(v0 v1 v3:Sl):
  T6 (n+1) [v0,v1,.ow (kn.map Pu.D.str),v3,.pu d]=if S9 kn d then .nx [v0,v1,.ow (kn.map Pu.D.str),v3,.pu d]else .rt (.bl false):=by
 have e1:=Eb n h;have e2:=Bs n h;have gen:∀{d:Pu.D}(e1:af (tab (n+1)) fu [d]=.ok (.bl false))(e2:af (tab (n+1)) dm [d]=.ok (.bl false)),S9 kn d=false->
   T6 (n+1) [v0,v1,.ow (kn.map Pu.D.str),v3,.pu d]=if S9 kn d then .nx [v0,v1,.ow (kn.map Pu.D.str),v3,.pu d]else .rt (.bl false):=λ{d} e1 e2 hb=>by
  rw[hb];simp[T6,e1,e2]
 cases h with
 |str h=>
  rename_i x;have e3:=(M5 (l:=kn) (x:=x) (λy hy=>nu (sd (hk y hy))) (nu h)).2;show _=if(s9 x && decide (x∈kn))=true then _ else _
  have e2':af (tab (n+1)) dm [.str x]=.ok (.bl (s9 x)):=e2;have e1':af (tab (n+1)) fu [.str x]=.ok (.bl false):=e1;cases ho:s9 x with
  |false=>
   rw[ho]at e2';simp[T6,e1',e2']
  |true=>
   rw[ho]at e2'
   by_cases hx:x∈kn
   ·rw[decide_eq_true hx]at e3;simp[T6,e1',e2',e3,hx]
   ·rw[decide_eq_false hx]at e3;simp[T6,e1',e2',e3,hx]
 |int i=>
  have e1':af (tab (n+1)) fu [.int i]=.ok (.bl true):=e1;simp[T6,e1',S9]
 |bl b=>exact gen (e1:=e1) (e2:=e2) rfl
 |non=>exact gen (e1:=e1) (e2:=e2) rfl
 |tup ds=>exact gen (e1:=e1) (e2:=e2) rfl
 |lst ds=>exact gen (e1:=e1) (e2:=e2) rfl
def Y0(n:Nat){kn:List Str}(hk:∀x∈kn,s9 x=true)(v0 v1 v3:Sl):∀(ds:List Pu.D)(v4:Sl),(∀d∈ds,T0 d)->
  (ds.all (S9 kn)=true/\∃w4,turns (br 4) (T6 (n+1)) ds [v0,v1,.ow (kn.map Pu.D.str),v3,v4]=.nx [v0,v1,.ow (kn.map Pu.D.str),v3,w4])
  \/(ds.all (S9 kn)=false/\turns (br 4) (T6 (n+1)) ds [v0,v1,.ow (kn.map Pu.D.str),v3,v4]=.rt (.bl false)):=by
 intro ds;induction ds with
 |nil=>intro v4 _;exact .inl ⟨rfl,v4,rfl⟩
 |cons d ds ih=>
  intro v4 h;rw[gy (δ1:=[v0,v1,.ow (kn.map Pu.D.str),v3,.pu d]) rfl,FW n (h d aH) hk,bK];cases e:S9 kn d with
  |true=>
   rw[aB rfl,cV];exact ih (.pu d) λd hd=>h d (aF _ hd)
  |false=>exact .inr ⟨rfl,rfl⟩
def yi(acc:List Str):List Str->List Str
 |[]=>acc
 |x::r=>if x∈acc then yi acc r else yi (acc++[x]) r
def jy(l:List Str):List (Pu.D×Pu.D):=l.map λx=>(.str x,.bl true)
def T7(l:List Str)(x:Str):cf (jy l) (.inr x)=if x∈l then some (.bl true)else none:=by
 induction l with
 |nil=>rfl
 |cons y l ih=>
  show(if cg (.str y)=some (.inr x)then some (Pu.D.bl true)else cf (jy l) (.inr x))=_;rw[ih]
  by_cases h:y=x
  ·subst h;simp[cg]
  ·have h':¬x=y:=λz=>h z.symm;have hk:¬cg (.str y)=some (.inr x):=by simp[cg,h]
   rw[aG hk];simp[h']
def Z7(l:List Str)(x:Str):sf (jy l) (.inr x) (.bl true)=jy (if x∈l then l else l++[x]):=by
 have h:=T7 l x
 by_cases hx:x∈l
 ·rw[aB hx]at h⊢;unfold sf;rw[vd,h];show(jy l).map _=jy l;unfold jy;rw[eF];apply List.map_congr_left;intro y _;show(if cg (.str y)=some (.inr x)then(Pu.D.str y,Pu.D.bl true)else(.str y,.bl true))=_;split<;>rfl
 ·rw[aG hx]at h⊢;rw[N9 h];unfold jy;rw[eL];rfl
def AH:En->Out:=(ml (dq (g1 (bq "str") (aa 2))) (Lp 1 (aa 2) (gC (.bl true))) fc)
def Ol(v0:Sl):∀(ts:List Tm)(acc:List Str)(v2:Sl),acc.length+ts.length<=1000->∃w2,turns (br 2) AH (ts.map Tm.D) [v0,.od false (jy acc),v2]=.nx [v0,.od false (jy (yi acc (rf ts))),w2]:=by
 intro ts;induction ts with
 |nil=>intro acc v2 _;exact⟨v2,rfl⟩
 |cons t ts ih=>
  intro acc v2 hl;rw[aM]at hl;rw[aU,gy (δ1:=[v0,.od false (jy acc),.pu t.D]) rfl];cases t with
  |i z=>
   have eb:AH [v0,.od false (jy acc),.pu (Tm.i z).D]=.nx [v0,.od false (jy acc),.pu (Tm.i z).D]:=by simp[AH,Tm.D]
   rw[eb];exact ih acc _ (by lia)
  |s x=>
   have hlt:(jy acc).length<aD:=by unfold jy;rw[aJ];show _<16777216;lia
   have eb:AH [v0,.od false (jy acc),.pu (Tm.s x).D]=.nx [v0,.od false (jy (if x∈acc then acc else acc++[x])),.pu (Tm.s x).D]:=by
    simp[AH,Tm.D,Lp,KF,B5,cg,hlt,Z7]
   rw[eb];have hde:yi acc (rf (.s x::ts))=yi (if x∈acc then acc else acc++[x]) (rf ts):=by
    show(if x∈acc then yi acc (rf ts)else yi (acc++[x]) (rf ts))=_
    by_cases h:x∈acc<;>simp[h]
   rw[hde];refine ih _ _ ?_;split
   ·lia
   ·rw[aI];simp;lia
def Il(l:List Str):Na (jy l)=l.map Pu.D.str:=by unfold Na jy;rw[eF];rfl
def Js(n:Nat)(ts:List Tm)(hl:ts.length<=1000)(b:Bool):af (tab (n+1)) kc [if b then .tup (ts.map Tm.D)else .lst (ts.map Tm.D)]=.ok (.lst ((yi [] (rf ts)).map Pu.D.str)):=by
 rw[Hw];cases b with
 |true=>
  obtain⟨w2,e⟩:=Ol (.bo (.tup (ts.map Tm.D))) ts [] .no (by simpa using hl);have hs:k6 (br 2) (bc (H8 0)) AH [.bo (.tup (ts.map Tm.D)),.od false [],.no]=.nx [.bo (.tup (ts.map Tm.D)),.od false (jy (yi [] (rf ts))),w2]:=by
   rw[jr (ds:=ts.map Tm.D) (by simp)];exact e
  unfold AH at hs;simp[t8,hs,ky,Il]
 |false=>
  obtain⟨w2,e⟩:=Ol (.bo (.lst (ts.map Tm.D))) ts [] .no (by simpa using hl);have hs:k6 (br 2) (bc (H8 0)) AH [.bo (.lst (ts.map Tm.D)),.od false [],.no]=.nx [.bo (.lst (ts.map Tm.D)),.od false (jy (yi [] (rf ts))),w2]:=by
   rw[jr (ds:=ts.map Tm.D) (by simp)];exact e
  unfold AH at hs;simp[t8,hs,ky,Il]
theorem vc(x:Str):∀(l acc:List Str),x∈yi acc l↔x∈acc\/x∈l
 |[],acc=>by simp[yi]
 |y::l,acc=>by
  unfold yi
  by_cases h:y∈acc
  ·rw[aB h,vc x l acc,cP];constructor
   ·rintro (z|z)
    ·exact .inl z
    ·exact .inr (.inr z)
   ·rintro (z|z|z)
    ·exact .inl z
    ·subst z;exact .inl h
    ·exact .inr z
  ·rw[aG h,vc x l,fI,List.mem_singleton,cP];constructor
   ·rintro ((z|z)|z)
    ·exact .inl z
    ·exact .inr (.inl z)
    ·exact .inr (.inr z)
   ·rintro (z|z|z)
    ·exact .inl (.inl z)
    ·exact .inl (.inr z)
    ·exact .inr z
def O3(as:List At):List Tm:=as.flatMap At.ts
def Cg(v0:Sl):∀(as:List At)(pre:List Tm)(v2:Sl),(∀a∈as,a.good)->pre.length+4 * as.length<=4000->
  ∃w2,turns (br 2) (xq 1 (g2 ar (aa 2) (gC (.int 1)))) (as.map At.D) [v0,.ow (pre.map Tm.D),v2]=.nx [v0,.ow ((pre++O3 as).map Tm.D),w2]:=by
 intro as;induction as with
 |nil=>intro pre v2 _ _;exact⟨v2,by simp[turns,O3]⟩
 |cons a as ih=>
  intro pre v2 hok hl;have ha:=(hok a aH).2;rw[aM]at hl;obtain⟨w2,e⟩:=ih (pre++a.ts) (.pu a.D) (λb hb=>hok b (aF _ hb)) (by rw[aI];lia);refine⟨w2,?_⟩;rw[aU,gy (δ1:=[v0,.ow (pre.map Tm.D),.pu a.D]) rfl];have hle:pre.length+a.ts.length<=16777216:=by lia
  have eb:xq 1 (g2 ar (aa 2) (gC (.int 1))) [v0,.ow (pre.map Tm.D),.pu a.D]=.nx [v0,.ow ((pre++a.ts).map Tm.D),.pu a.D]:=by simp[At.D,hle]
  rw[eb];dsimp only;rw[e];simp[O3]
def Wu(n:Nat){as:List At}(h:∀a∈as,a.good)(hl:as.length<=900)(b:Bool):af (tab (n+1)) rl [if b then .tup (as.map At.D)else .lst (as.map At.D)]=.ok (.lst ((O3 as).map Tm.D)):=by
 rw[Kq];cases b with
 |true=>
  obtain⟨w2,e⟩:=Cg (.bo (.tup (as.map At.D))) as [] .no h (by simp;lia);have hs:k6 (br 2) (bc (H8 0)) (xq 1 (g2 ar (aa 2) (gC (.int 1)))) [.bo (.tup (as.map At.D)),.ow [],.no]=.nx [.bo (.tup (as.map At.D)),.ow ((O3 as).map Tm.D),w2]:=by
   rw[jr (ds:=as.map At.D) (by simp)];simpa using e
  simp[wc,hs]
 |false=>
  obtain⟨w2,e⟩:=Cg (.bo (.lst (as.map At.D))) as [] .no h (by simp;lia);have hs:k6 (br 2) (bc (H8 0)) (xq 1 (g2 ar (aa 2) (gC (.int 1)))) [.bo (.lst (as.map At.D)),.ow [],.no]=.nx [.bo (.lst (as.map At.D)),.ow ((O3 as).map Tm.D),w2]:=by
   rw[jr (ds:=as.map At.D) (by simp)];simpa using e
  simp[wc,hs]
def Ly(a b:List Tm):rf (a++b)=rf a++rf b:=List.filterMap_append ..
def AA(as:List At):rf (O3 as)=jd as:=by
 induction as with
 |nil=>rfl
 |cons a as ih=>
  have:O3 (a::as)=a.ts++O3 as:=by simp[O3]
  rw[this,Ly,ih];simp[jd]
def BM{as:List At}(h:∀a∈as,a.good):(O3 as).length<=4 * as.length:=by
 induction as with
 |nil=>simp[O3]
 |cons a as ih=>
  have h2:=(h a aH).2.2.1;have h3:=ih λb hb=>h b (aF _ hb);unfold O3 at h3⊢;rw[List.flatMap_cons,aI,aM]
  lia
def Ou{ts:List Tm}(h:∀t∈ts,t.good):∀x∈rf ts,s9 x=true:=λx hx=>by
 unfold rf at hx;obtain⟨t,ht,e⟩:=List.mem_filterMap.mp hx;cases t with
 |s y=>cases e;exact h _ ht
 |i z=>cases e
def Ex{as:List At}(h:∀a∈as,a.good):∀x∈jd as,s9 x=true:=λx hx=>by
 obtain⟨a,ha,hx⟩:=List.mem_flatMap.mp hx;exact Ou (h a ha).2.2.2 x hx
def Ya:∀(l acc:List Str),(yi acc l).length<=acc.length+l.length:=by
 intro l;induction l with
 |nil=>intro acc;simp[yi]
 |cons x l ih=>
  intro acc;unfold yi;split
  ·have:=ih acc;simp;lia
  ·have:=ih (acc++[x]);simp at this⊢;lia
def JQ(hd:List Tm)(as:List At):Bool:=(yi [] (rf hd)).all λx=>decide (x∈yi [] (jd as))
def Jt(n:Nat){hd:List Tm}{as:List At}(hh:∀t∈hd,t.good)(ha:∀a∈as,a.good)(hl1:hd.length<=900)(hl2:as.length<=200):af (tab (n+2)) km [.tup (hd.map Tm.D),.tup (as.map At.D)]=.ok (.bl (JQ hd as)):=by
 rw[Bd];have hl3:=BM ha;have e1:=Wu n ha (by lia) true;have e2:=Js n (O3 as) (by lia) false;have e3:=Js n hd (by lia) true;simp only[if_true,Bool.false_eq_true,if_false]at e1 e2 e3;rw[AA]at e2;have hw:=Ex ha;have hw2:=Ou hh;have hdl:(yi [] (rf hd)).length<=1000:=by
  have h1:=Ya (rf hd) [];have h2:=u0 hd;simp at h1
  lia
 have hc:cm (bc (ao (af (tab (n+1)) kc) (ae (aa 0) ak))) [2] (gC (.bl true)) (g2 j0 (aa 0) (aa 1)) [.bo (.tup (hd.map Tm.D)),.bo (.tup (as.map At.D)),.pu (.lst ((yi [] (jd as)).map Pu.D.str))]=.ok (.lst ((yi [] (rf hd)).map λx=>Pu.D.bl (decide (x∈yi [] (jd as))))):=
  uc (f:=Pu.D.str) (by simp[e3]) (by lia) λy hy=>by
   have hy':y∈rf hd:=by simpa using(vc y (rf hd) []).mp hy
   have:=(M5 (l:=yi [] (jd as)) (x:=y) (λz hz=>nu (sd (hw z (by simpa using(vc z _ []).mp hz)))) (nu (sd (hw2 y hy')))).1;simp[de,this]
 have hall:=Fd (λx=>decide (x∈yi [] (jd as))) (yi [] (rf hd));unfold JQ;simp[t6,e1,e2,hc,hall,-eF]
def Os(hd:List Tm)(as:List At):JQ hd as=(rf hd).all λx=>decide (x∈jd as):=by
 unfold JQ;rw[jV,dC,dC];have m1:∀x,x∈yi [] (rf hd)↔x∈rf hd:=λx=>by rw[vc];simp
 have m2:∀x,x∈yi [] (jd as)↔x∈jd as:=λx=>by rw[vc];simp
 constructor
 ·intro h x hx;have:=of_decide_eq_true (h x ((m1 x).mpr hx));exact decide_eq_true ((m2 x).mp this)
 ·intro h x hx;have:=of_decide_eq_true (h x ((m1 x).mp hx));exact decide_eq_true ((m2 x).mpr this)
theorem Al{kn:List Str}:∀{hd:List Tm},(∀t∈hd,t.good)->(hd.map Tm.D).all (S9 kn)=(rf hd).all λx=>decide (x∈kn)
 |[],_=>rfl
 |.s x::r,h=>by
  have hx:s9 x=true:=h _ aH;have ih:=Al (kn:=kn) (hd:=r) λt ht=>h t (aF _ ht);show((s9 x && decide (x∈kn)) && (r.map Tm.D).all (S9 kn))=(decide (x∈kn) && (rf r).all λx=>decide (x∈kn));rw[ih,hx,cV]
 |.i z::r,h=>by
  have ih:=Al (kn:=kn) (hd:=r) λt ht=>h t (aF _ ht);show(true && (r.map Tm.D).all (S9 kn))=(rf r).all λx=>decide (x∈kn);rw[ih,cV]
def Ta{kn:List Str}{d:Pu.D}(h:S9 kn d=true):je d=true:=by
 cases d with
 |str x=>
  have h':(s9 x && decide (x∈kn))=true:=h;rw[aA]at h';exact h'.1
 |int i=>rfl
 |_=>cases h
theorem Hf:∀{ds:List Pu.D},ds.all ia=true->∃as:List At,ds=as.map At.D/\∀a∈as,a.good
 |[],_=>⟨[],rfl,by intro a ha;cases ha⟩
 |d::r,h=>by
  rw[bK,aA]at h;obtain⟨a,rfl,ha⟩:=Hd h.1;obtain⟨as,rfl,has⟩:=Hf h.2;refine⟨a::as,rfl,λb hb=>?_⟩;rcases List.mem_cons.mp hb with rfl|hb
  ·exact ha
  ·exact has b hb
structure PT(h a:Pu.D):Prop where
 h0:T0 h
 h1:∀ds,h=.tup ds->ds.length<=1000/\∀x∈ds,T0 x
 a0:T0 a
 a1:∀ds,a=.tup ds->ds.length<=1000/\∀x∈ds,AT x
section
variable(n:Nat){h a:Pu.D}
def Fg(P:PT h a):af (tab (n+5)) fq [h,.int 0,.int 4,.fn "is_term"]=.ok (.bl (ni 0 4 je h)):=
 u3 (n+4) (lo:=0) (hi:=4) (y:="is_term") (d:=qf) (pB:=je) (by kernel_rfl) rfl P.h0 (λxs hx=>⟨(P.h1 xs hx).1,λx hx'=>D7 (n+2) ((P.h1 xs hx).2 x hx')⟩)
def Ff(P:PT h a):af (tab (n+5)) fq [a,.int 1,.int 6,.fn "is_atom"]=.ok (.bl (ni 1 6 ia a)):=
 u3 (n+4) (lo:=1) (hi:=6) (y:="is_atom") (d:=vb) (pB:=ia) (by kernel_rfl) rfl P.a0 (λxs hx=>⟨(P.a1 xs hx).1,λx hx'=>P8 n ((P.a1 xs hx).2 x hx')⟩)
def Fh:af (tab (n+5)) jm [.tup [h,a]]=.ok (.bl true):=by rw[D2];simp[jk]
def Hk(P:PT h a)(e:ni 0 4 je h=false):af (tab (n+6)) bw [.tup [h,a]]=.er "NoAsking":=by
 rw[jq];have e1:=Fh n (h:=h) (a:=a);have e2:=Fg n P;rw[e]at e2;simp[fx,e1,e2,iu]
def Mq(P:PT h a)(e:ni 1 6 ia a=false):af (tab (n+6)) bw [.tup [h,a]]=.er "NoAsking":=by
 cases f:ni 0 4 je h with
 |false=>exact Hk n P f
 |true=>
  rw[jq];have e1:=Fh n (h:=h) (a:=a);have e2:=Fg n P;have e3:=Ff n P;rw[e]at e3;rw[f]at e2;simp[fx,e1,e2,e3,iu]
def KP(P:PT h a){as:List At}(ha:a=.tup (as.map At.D))(hl:as.length<=900)(e:Bz [] as=false):af (tab (n+6)) bw [.tup [h,a]]=.er "NoAsking":=by
 cases f:ni 0 4 je h with
 |false=>exact Hk n P f
 |true=>
  cases g:ni 1 6 ia a with
  |false=>exact Mq n P g
  |true=>
   rw[jq];have e1:=Fh n (h:=h) (a:=a);have e2:=Fg n P;have e3:=Ff n P;have e4:=Eg (n+4) hl;rw[e,<-ha]at e4;rw[f]at e2;rw[g]at e3;simp[fx,e1,e2,e3,e4,iu]
def BB{hd:List Tm}{as:List At}(P:PT (.tup (hd.map Tm.D)) (.tup (as.map At.D)))(hh:∀t∈hd,t.good)(ha:∀a∈as,a.good)(l1:hd.length<=4)(l2:1<=as.length)(l3:as.length<=6)(e:Bz [] as=true):
  af (tab (n+6)) bw [g9 hd as]=if JQ hd as then .ok (g9 hd as)else .er "NoAsking":=by
 rw[jq];have e1:=Fh n (h:=.tup (hd.map Tm.D)) (a:=.tup (as.map At.D));have e2:=Fg n P;have e3:=Ff n P;have e4:=Eg (n+4) (as:=as) (by lia);have e5:=Jt (n+3) hh ha (by lia) (by lia);have f:ni 0 4 je (.tup (hd.map Tm.D))=true:=by
  show(decide ((0:Int)<=((hd.map Tm.D).length:Int)) && decide (((hd.map Tm.D).length:Int)<=4) && (hd.map Tm.D).all je)=true;rw[aJ,decide_eq_true (by lia),decide_eq_true (by lia)];simp only[cV,dC];intro d hd';obtain⟨t,ht,rfl⟩:=List.mem_map.mp hd';have:=hh t ht;cases t with
  |s x=>exact this
  |i z=>rfl
 have g:ni 1 6 ia (.tup (as.map At.D))=true:=by
  show(decide ((1:Int)<=((as.map At.D).length:Int)) && decide (((as.map At.D).length:Int)<=6) && (as.map At.D).all ia)=true;rw[aJ,decide_eq_true (by lia),decide_eq_true (by lia)];simp only[cV,dC];intro d hd';obtain⟨b,hb,rfl⟩:=List.mem_map.mp hd';exact BE (ha b hb)
 rw[f]at e2;rw[g]at e3;rw[e]at e4;unfold g9;cases hs:JQ hd as with
 |true=>
  rw[hs]at e5;simp[fx,e1,e2,e3,e4,e5,iu]
 |false=>
  rw[hs]at e5;simp[fx,e1,e2,e3,e4,e5,iu]
end
def JF(n m:Nat)(t:Pu.D):Prop:=
 (af (tab (n+3)) a9 [t]=.ok (.bl true)/\af (tab (m+6)) bw [t]=.ok t/\∃hd as,t=g9 hd as/\(∀x∈hd,x.good)/\∀b∈as,b.good)\/(af (tab (n+3)) a9 [t]=.ok (.bl false)/\af (tab (m+6)) bw [t]=.er "NoAsking")
def Nj(n:Nat){hs ds:List Pu.D}{d:Pu.D}(l1:hs.length<=4)(l2:1<=ds.length)(l3:ds.length<=6)(ht:turns (br 3) (Nc (n+2)) ds [.bo (.tup [.tup hs,.tup ds]),.od false [],.ow [],.no,.no]=.rt d):
  af (tab (n+3)) a9 [.tup [.tup hs,.tup ds]]=.ok d:=by
 rw[gp];have a1:¬(4:Int)<(hs.length:Int):=by lia
 have a2:¬(ds.length:Int)<1:=by lia
 have a3:¬(6:Int)<(ds.length:Int):=by lia
 have hs0:k6 (br 3) (bc (g2 ar (aa 0) (gC (.int 1)))) (Nc (n+2)) [.bo (.tup [.tup hs,.tup ds]),.od false [],.ow [],.no,.no]=.rt d:=(jr (by simp)).trans ht;unfold Nc at hs0;simp[cv,a1,a2,a3,hs0]
def Ni(n:Nat){hs ds:List Pu.D}{U:En}{o:Out}(l1:hs.length<=4)(l2:1<=ds.length)(l3:ds.length<=6)(ht:turns (br 3) (Nc (n+2)) ds [.bo (.tup [.tup hs,.tup ds]),.od false [],.ow [],.no,.no]=.nx U)(hf:k6 (br 4) (bc (g2 ar (aa 0) (gC (.int 0)))) (T6 (n+2)) U=o)(ho:(∃δ',o=.nx δ')\/o=.rt (.bl false)):
  af (tab (n+3)) a9 [.tup [.tup hs,.tup ds]]=.ok (.bl (match o with|.nx _=>true|_=>false)):=by
 rw[gp];have a1:¬(4:Int)<(hs.length:Int):=by lia
 have a2:¬(ds.length:Int)<1:=by lia
 have a3:¬(6:Int)<(ds.length:Int):=by lia
 have hs0:k6 (br 3) (bc (g2 ar (aa 0) (gC (.int 1)))) (Nc (n+2)) [.bo (.tup [.tup hs,.tup ds]),.od false [],.ow [],.no,.no]=.nx U:=(jr (by simp)).trans ht;unfold Nc at hs0;unfold T6 at hf;rcases ho with ⟨δ',rfl⟩|rfl
 ·simp[cv,a1,a2,a3,hs0,hf]
 ·simp[cv,a1,a2,a3,hs0,hf]
def E9(n m:Nat){h a:Pu.D}(P:PT h a):JF n m (.tup [h,a]):=by
 have nb:∀{d:Pu.D},T0 d->(∃ds,d=.tup ds)\/((∀ds,d≠.tup ds)/\bq "tuple" d=some (.bl false)):=λ{d} hd=>by
  cases hd with
  |tup ds=>exact .inl ⟨ds,rfl⟩
  |str h=>exact .inr ⟨(λ_ z=>nomatch z),Pa _⟩
  |int i=>exact .inr ⟨(λ_ z=>nomatch z),O7 _⟩
  |bl b=>exact .inr ⟨(λ_ z=>nomatch z),O6 _⟩
  |non=>exact .inr ⟨(λ_ z=>nomatch z),O9⟩
  |lst ds=>exact .inr ⟨(λ_ z=>nomatch z),O8 _⟩
 have nt:∀{lo hi:Int}{pB:Pu.D->Bool}{d:Pu.D},(∀ds,d≠.tup ds)->ni lo hi pB d=false:=λ{lo hi pB d} hd=>by
  cases d with
  |tup ds=>exact absurd rfl (hd ds)
  |_=>rfl
 rcases nb P.h0 with ⟨hs,rfl⟩|⟨hn,hi⟩
 ·by_cases l1:hs.length<=4
  ·rcases nb P.a0 with ⟨ds,rfl⟩|⟨an,ai⟩
   ·by_cases l2:1<=ds.length/\ds.length<=6
    ·have hx:=(P.h1 hs rfl).2;have ax:=(P.a1 ds rfl).2;cases e:ds.all ia with
     |false=>
      refine .inr ⟨Nj n l1 l2.1 l2.2 (FY n _ ds [] [] .no ax e (by intro x d z;cases z) (by simp;lia) (by simp;lia)),Mq m P ?_⟩;show(_ && ds.all ia)=false;rw[e,Bool.and_false]
     |true=>
      obtain⟨as,rfl,hg⟩:=Hf e;have l2':=l2;rw[aJ]at l2';rcases Yv n (.bo (.tup [.tup hs,.tup (as.map At.D)])) as [] [] [] .no hg (by intro x d z;cases z) (λ_=>rfl) (by simp;lia) (by simp;lia)with ⟨o1,kvs2,w3,t1⟩|⟨o1,t1⟩
      ·rw[mD]at t1;rcases Y0 (n+1) (Ex hg) (.bo (.tup [.tup hs,.tup (as.map At.D)])) (.od false kvs2) w3 hs .no hx with ⟨b1,w4,t2⟩|⟨b1,t2⟩
       ·have hl:=Ni n l1 l2.1 l2.2 t1 ((jr (ds:=hs) (by simp)).trans t2) (.inl ⟨_,rfl⟩);have ht:hs.all je=true:=by
         rw[dC]at b1⊢;exact λd hd=>Ta (b1 d hd)
        obtain⟨hd,rfl,hgd⟩:=x8 ht;rw[aJ]at l1;rw[Al hgd,<-Os]at b1;have:=BB m P hgd hg l1 l2'.1 l2'.2 o1;rw[b1,aB rfl]at this;exact .inl ⟨hl,this,hd,as,rfl,hgd,hg⟩
       ·have hl:=Ni n l1 l2.1 l2.2 t1 ((jr (ds:=hs) (by simp)).trans t2) (.inr rfl);refine .inr ⟨hl,?_⟩;cases ht:hs.all je with
        |false=>
         refine Hk m P ?_;show(_ && hs.all je)=false;rw[ht,Bool.and_false]
        |true=>
         obtain⟨hd,rfl,hgd⟩:=x8 ht;rw[aJ]at l1;rw[Al hgd,<-Os]at b1;have:=BB m P hgd hg l1 l2'.1 l2'.2 o1;rw[b1]at this;exact this
      ·exact .inr ⟨Nj n l1 l2.1 l2.2 t1,KP m P rfl (by lia) o1⟩
    ·refine .inr ⟨?_,Mq m P ?_⟩
     ·rw[gp];have a1:¬(4:Int)<(hs.length:Int):=by lia
      by_cases l3:1<=ds.length
      ·have a2:¬(ds.length:Int)<1:=by lia
       have a3:(6:Int)<(ds.length:Int):=by lia
       simp[cv,a1,a2,a3]
      ·have a2:(ds.length:Int)<1:=by lia
       simp[cv,a1,a2]
     ·show(decide ((1:Int)<=(ds.length:Int)) && decide ((ds.length:Int)<=6) && ds.all ia)=false
      by_cases l3:1<=ds.length
      ·rw[decide_eq_false (p:=(ds.length:Int)<=6) (by lia)];simp
      ·rw[decide_eq_false (p:=(1:Int)<=(ds.length:Int)) (by lia)];simp
   ·refine .inr ⟨?_,Mq m P (nt an)⟩;rw[gp];have a1:¬(4:Int)<(hs.length:Int):=by lia
    simp[cv,a1,ai]
  ·refine .inr ⟨?_,Hk m P ?_⟩
   ·rw[gp];have a1:(4:Int)<(hs.length:Int):=by lia
    simp[cv,a1]
   ·show(decide ((0:Int)<=(hs.length:Int)) && decide ((hs.length:Int)<=4) && hs.all je)=false;rw[decide_eq_false (p:=(hs.length:Int)<=4) (by lia)];simp
 ·refine .inr ⟨?_,Hk m P (nt hn)⟩;rw[gp];simp[cv,hi]
def Cm{x:Str}{a b:Nat}(hab:a<=b)(hb:b<=x.length):bO x (some (a:Int)) (some (b:Int))=S (((sg x).drop a).take (b - a)):=by
 unfold bO;have e:=StrLaws.sliced_plain x hab hb;split
 ·rename_i h;rw[aA,beq_iff_eq,beq_iff_eq,StrLaws.strSliceIndices_plain hab hb,aJ,gN]at h;have h1:a=0:=by lia
  have h2:b=x.length:=by lia
  subst h1 h2;rw[hG,kE,<-ah x,lL,G8]
 ·rw[e];rfl
def Gx{x:Str}{a:Nat}(ha:a<=x.length):bO x (some (a:Int)) none=S ((sg x).drop a):=by
 have:bO x (some (a:Int)) none=bO x (some (a:Int)) (some (x.length:Int)):=by
  unfold bO;rw[StrLaws.sliceIdx_none_hi]
 rw[this,Cm ha (aO _)]
 congr 1
 apply eP;rw[bY,ah];exact aO _
def Mc{x:Str}{a b:Nat}(h:a+b<=x.length)(hb:1<=b):bO x (some (a:Int)) (some (-(b:Int)))=S (((sg x).drop a).take (x.length - b - a)):=by
 have:bO x (some (a:Int)) (some (-(b:Int)))=bO x (some (a:Int)) (some ((x.length - b:Nat):Int)):=by
  unfold bO;rw[StrLaws.sliceIdx_neg_hi _ x.length (by lia) (by lia),show -(b:Int)+(x.length:Int)=((x.length - b:Nat):Int) by lia]
 rw[this,Cm (by lia) (by lia)]
def Wn(x:Str)(c:Nat):dF x (S [c])=decide ((sg x)[0]?=some c):=by
 have h:=StrLaws.subAt_one x c 0;unfold dF;rw[jV,aA,decide_eq_true_eq,decide_eq_true_eq];exact h
def neg(x:Str):Bool:=decide ((sg x)[0]?=some 45)
def bb(x:Str):Str:=if neg x then S ((sg x).drop 1)else x
def mi:Str:="0123456789"
def qj(x:Str):Bool:=(decide (1<=(bb x).length/\(bb x).length<=30) && (sg (bb x)).all λc=>decide (c∈sg mi)) && (decide (x="0")|| !decide ((sg (bb x))[0]?=some 48))
def Hz{x:Str}(h:Asc x):Asc (bb x):=by
 unfold bb;split
 ·refine⟨?_,λc hc=>h.2 c (gY (by rwa [p7]at hc))⟩;rw[<-ah,p7,bY,ah];have:=h.1
  lia
 ·exact h
def Y8{x:Str}(h:neg x=true):1<=x.length:=by
 have h:=of_decide_eq_true h;rw[<-ah];have:=(List.getElem?_eq_some_iff.mp h).1
 lia
def Mv:("-":Str)=S [45]:=by decide+kernel
def Ed:("0":Str)=S [48]:=by decide+kernel
def fg{x:Str}(h:Asc x):x.length<=aD:=bC h.1 (by decide)
def Q5(n:Nat){x:Str}(h:Asc x):af (tab (n+1)) jb [.str x]=.ok (.bl (qj x)):=by
 rw[xf];have hsz:=fg h;have hf:=Hz h;have s1:Xi (dq (lg yu (aa 0) (gC (.str "-")))) (jx (aa 0) (some (gC (.int 1))) none) (dh 0) [.pu (.str x),.no]=.ok (.str (bb x)):=by
  have hsw:dq (lg yu (aa 0) (gC (.str "-"))) [.pu (.str x),.no]=.ok (.bl (dF x "-")):=rfl;rw[W9,hsw,cc,Mv,Wn];show(match Pu.D.bl (neg x)with
   |.bl true=>_
   |.bl false=>_
   |_=>_)=_
  unfold bb;cases hn:neg x with
  |true=>
   have hs:jx (aa 0) (some (gC (.int 1))) none [.pu (.str x),.no]=Res.of (if x.length<=aD then some (Pu.D.str (bO x (some ((1:Nat):Int)) none))else none):=rfl;dsimp only;rw[hs,aB hsz,Gx (Y8 hn)];rfl
  |false=>rfl
 have hlen:g1 bj (aa 1) [.pu (.str x),.pu (.str (bb x))]=.ok (.int ((bb x).length:Nat)):=by
  show(Res.of (if(bb x).length<=aD then some (Pu.D.int ((bb x).length:Nat))else none))=_;rw[aB (fg hf)];rfl
 have ha:=Rt (r:=bc (aa 1)) (U:=[.pu (.str x),.pu (.str (bb x))]) (x:=bb x) (z:=mi) rfl hf.1;have heq:=(rn (x:=x) (y:="0") h ⟨by decide,by decide⟩).1;have hne:lg yu (aa 1) (gC (.str "0")) [.pu (.str x),.pu (.str (bb x))]=.ok (.bl (decide ((sg (bb x))[0]?=some 48))):=by
  show Res.ok (.bl (dF (bb x) "0"))=_;rw[Ed,Wn]
 have le:∀a b:Int,Ag (.int a) (.int b)=some (.bl (decide (a<=b))):=λ_ _=>rfl;unfold mi at ha;have s2:m7 (fy (rq Ag Ag (gC (.int 1)) (g1 bj (aa 1)) (gC (.int 30)))) (fy (dq (g1 su (cm (bc (aa 1)) [] (gC (.bl true)) (g2 j0 (aa 0) (gC (.str "0123456789"))))))) [.pu (.str x),.pu (.str (bb x))]
   =.ok (.bl (!(decide (1<=(bb x).length/\(bb x).length<=30) && (sg (bb x)).all λc=>decide (c∈sg mi)))):=by
  unfold mi;generalize ((sg (bb x)).all _)=b at ha⊢
  by_cases g1':(1:Int)<=((bb x).length:Int)
  ·by_cases g2':((bb x).length:Int)<=30
   ·rw[decide_eq_true (show 1<=(bb x).length/\(bb x).length<=30 by lia)];simp only[Cp,J8,vn,Xl,hlen,cc,le,i8,decide_eq_true g1',decide_eq_true g2',dP,Pb,ha,J9,cV]
   ·rw[decide_eq_false (show¬(1<=(bb x).length/\(bb x).length<=30) by lia)];simp only[Cp,J8,vn,Xl,hlen,cc,le,i8,decide_eq_true g1',decide_eq_false g2',fW,Bool.false_and]
  ·rw[decide_eq_false (show¬(1<=(bb x).length/\(bb x).length<=30) by lia)];simp only[Cp,J8,vn,Xl,hlen,cc,le,i8,decide_eq_false g1',fW,Bool.false_and]
 have s3:m7 (g2 f6 (aa 0) (gC (.str "0"))) (fy (lg yu (aa 1) (gC (.str "0")))) [.pu (.str x),.pu (.str (bb x))]=.ok (.bl (decide (x="0")|| !decide ((sg (bb x))[0]?=some 48))):=by
  generalize decide ((sg (bb x))[0]?=some 48)=b at hne⊢;generalize decide (x="0")=c at heq⊢;cases c
  ·simp only[Cp,u5,W7,Xl,cE,cc,heq,i8,J8,hne,Bool.false_or]
  ·simp only[Cp,u5,W7,Xl,cE,cc,heq,i8,Bool.true_or]
 unfold qj;generalize (decide (1<=(bb x).length/\(bb x).length<=30) && (sg (bb x)).all λc=>decide (c∈sg mi))=b at s2⊢;generalize (decide (x="0")|| !decide ((sg (bb x))[0]?=some 48))=c at s3⊢;show cj (ja n [.pu (.str x),.no])=_;cases b
 ·simp only[ja,cb,IC,Cn,W8,cE,mq,s1,bf,gG,gH,oi,s2,oj,Xl,u7,fW,Bool.false_and]
 ·simp only[ja,cb,IC,Cn,W8,cE,mq,s1,bf,gG,gH,oi,s2,u6,oj,s3,u7,dP,cV]
def Ql(x:Str):Int:=if neg x then -((PySem.NumText.digitsVal (sg (bb x)):Nat):Int)else((PySem.NumText.digitsVal (sg (bb x)):Nat):Int)
def yk{c:Nat}:c∈sg mi↔48<=c/\c<=57:=by
 have e:sg mi=[48,49,50,51,52,53,54,55,56,57]:=by decide+kernel
 rw[e];simp only[cP,eA,or_false];omega
def yn{x:Str}(h:qj x=true):(1<=(bb x).length/\(bb x).length<=30)/\(∀c∈sg (bb x),48<=c/\c<=57)/\(x="0"\/(sg (bb x))[0]?≠some 48):=by
 unfold qj at h;rw[aA,aA,decide_eq_true_eq,dC,cT,decide_eq_true_eq,gO,decide_eq_false_iff_not]at h;exact⟨h.1.1,λc hc=>yk.mp (of_decide_eq_true (h.1.2 c hc)),h.2⟩
def yw{x:Str}(h:neg x=true):sg x=45::sg (bb x):=by
 unfold bb;rw[aB h,p7];have h:=of_decide_eq_true h;cases e:sg x with
 |nil=>rw[e]at h;cases h
 |cons c r=>
  rw[e]at h;cases h;rfl
def Za{x:Str}(h:qj x=true):x.length<=31:=by
 have hd:=(yn h).1.2;cases hn:neg x with
 |true=>
  have:=congrArg mF (yw hn);rw[ah,aM,ah]at this
  lia
 |false=>
  unfold bb at hd;rw[hn]at hd;exact bC hd (by decide)
def EL{x:Str}(h:qj x=true):Gf (.str x)=some (.int (Ql x)):=by
 obtain⟨⟨h1,h2⟩,h3,_⟩:=yn h;have hl:=Za h;have ne:sg (bb x)≠[]:=λz=>by
  rw[<-ah,z]at h1;simp at h1
 have e:gZ x=some (Ql x):=by
  unfold Ql;cases hn:neg x with
  |true=>exact PySem.intText_neg (yw hn) h3 ne (by lia)
  |false=>
   have ef:bb x=x:=by unfold bb;rw[hn];rfl
   rw[ef]at h3 ne⊢;exact PySem.intText_digits h3 ne (by lia)
 show(if x.length<=640 then(gZ x).map Pu.D.int else none)=_;rw[aB (by lia),e];rfl
def rT(x:Str):Option Tm:=if s9 x then some (.s x)else if qj x then some (.i (Ql x))else none
def MJ(o:Option Tm):Res:=match o with
 |some t=>.ok t.D
 |none=>.er "NoText"
def Vy(n:Nat){x:Str}(h:Asc x):af (tab (n+2)) mh [.str x]=MJ (rT x):=by
 rw[Hv];have e1:=Pe n h;have e2:=Q5 n h;unfold rT;cases hw:s9 x with
 |true=>
  rw[hw]at e1;simp[ot,MJ,Tm.D,e1]
 |false=>
  rw[hw]at e1;cases hn:qj x with
  |true=>
   rw[hn]at e2;have e3:=EL hn;simp[ot,MJ,Tm.D,e1,e2,e3]
  |false=>
   rw[hn]at e2;simp[ot,MJ,e1,e2,iu]
def ij{α β:Type}(f:α->Option β):List α->Option (List β)
 |[]=>some []
 |a::l=>match f a with
  |some b=>(ij f l).map (b::·)
  |none=>none
theorem Dy{α β:Type}{F:Pu.D->TR}{f:α->Pu.D}{g:α->Option β}{d:β->Pu.D}{c:Str}:∀(l:List α),(∀a∈l,F (f a)=match g a with
  |some b=>.ok (some (d b))
  |none=>.er c)->lb F (l.map f)=match ij g l with
  |some bs=>.ok (bs.map d)
  |none=>.er c
 |[],_=>rfl
 |a::l,h=>by
  have h1:=h a aH;have h2:=Dy l λa ha=>h a (aF _ ha);rw[aU];unfold lb ij;rw[h1];cases g a with
  |none=>rfl
  |some b=>
   dsimp only;rw[h2];cases ij g l<;>rfl
def Bh{α β:Type}{r:En->ResL}{ix:List Nat}{k:En->Res}{U:En}{l:List α}{f:α->Pu.D}{g:α->Option β}{d:β->Pu.D}{c:Str}(hr:r U=.ok (l.map f))(hl:l.length<=16777216)(hk:∀a∈l,k (de ix U (.pu (f a)))=match g a with
  |some b=>.ok (d b)
  |none=>.er c):wj r ix k U=match ij g l with
  |some bs=>.ok (.lst (bs.map d))
  |none=>.er c:=by
 unfold wj;rw[hr];dsimp only;rw[aB (by rw[aJ];exact hl),Dy (F:=λd=>RA (k (de ix U (.pu d)))) (g:=g) (d:=d) (c:=c) l λa ha=>by
  rw[hk a ha];cases g a<;>rfl]
 cases ij g l<;>rfl
theorem ui{y:Str}:∀(l:List Str)(p:Str),p∈l->(∀c∈sg p,c∈sg (bH y l))/\p.length<=(bH y l).length
 |[],p,h=>by cases h
 |[q],p,h=>by
  rw[List.mem_singleton.mp h];exact⟨λc hc=>hc,aO _⟩
 |q::r::l,p,h=>by
  rw[cz];rcases List.mem_cons.mp h with rfl|h
  ·refine⟨λc hc=>?_,?_⟩
   ·rw[aq,aq];exact dM _ (dM _ hc)
   ·rw[bg,bg];lia
  ·obtain⟨h1,h2⟩:=ui (r::l) p h;refine⟨λc hc=>?_,?_⟩
   ·rw[aq];exact cJ _ (h1 c hc)
   ·rw[bg];lia
def nr{x y p:Str}(h:Asc x)(hp:p∈bF x y):Asc p:=by
 obtain⟨h1,h2⟩:=ui (y:=y) _ p hp;rw[eB]at h1 h2;exact⟨bC h2 h.1,λc hc=>h.2 c (h1 c hc)⟩
def xt{x y:Str}(h:Asc x)(hy:y.length≠0):c9 (.str x) (.str y)=some (.lst ((bF x y).map Pu.D.str)):=by
 have hl:=kS x y;have:=h.1;exact aB ⟨hy,fg h,by show _<=16777216;lia⟩
def xr:Str:=", "
def ju(x:Str):Option (List Tm):=ij rT (bF x xr)
def Ga{α:Type}(d:α->Pu.D)(o:Option α):Res:=match o with
 |some a=>.ok (d a)
 |none=>.er "NoText"
def Ep(n:Nat){x:Str}(h:Asc x):af (tab (n+3)) jn [.str x]=Ga (λts=>.tup (ts.map Tm.D)) (ju x):=by
 rw[Fu];have hs:=xt (y:=xr) h (by decide);have hl:=kS x xr;have hx:=h.1;have hw:bc (lg c9 (aa 0) (gC (.str ", "))) [.bo (.str x)]=.ok ((bF x xr).map Pu.D.str):=by
  have:lg c9 (aa 0) (gC (.str ", ")) [.bo (.str x)]=Res.of (c9 (.str x) (.str xr)):=rfl;rw[G7,this,hs];rfl
 have hc:=Bh (r:=bc (lg c9 (aa 0) (gC (.str ", ")))) (ix:=[]) (k:=ao (af (tab (n+2)) mh) (ae (dh 0) ak)) (f:=Pu.D.str) (g:=rT) (d:=Tm.D) (c:="NoText") hw (by lia) λp hp=>by
  have e:=Vy n (nr h hp);rw[Gz];unfold MJ at e;simp[de,e];cases rT p<;>rfl
 unfold ju Ga;cases ea:ij rT (bF x xr)with
 |none=>
  rw[ea]at hc;show cj (ki (n+2) [.bo (.str x)])=_;unfold ki;rw[oj,Me,hc];rfl
 |some ts=>
  rw[ea]at hc;show cj (ki (n+2) [.bo (.str x)])=_;unfold ki;rw[oj,Me,hc];rfl
def pA(x y:Str):Str:=(ku x y).headD cX
def pC(x y:Str):Str:=((ku x y).drop 2).headD cX
def jj(x y:Str):∃m,ku x y=[pA x y,m,pC x y]/\((x=pA x y++y++pC x y/\m=y)\/(pA x y=x/\pC x y=cX/\m=cX)):=by
 unfold pA pC;cases e:bM x y 0 x.length 1 with
 |nil=>
  have e3:ku x y=[x,cX,cX]:=by unfold ku;rw[e]
  rw[e3];exact⟨cX,rfl,.inr ⟨rfl,rfl,rfl⟩⟩
 |cons i r=>
  have e3:ku x y=[bZ x 0 i,y,bZ x (i+y.length) x.length]:=by unfold ku;rw[e]
  rw[e3];refine⟨y,rfl,.inl ⟨?_,rfl⟩⟩;obtain⟨h1,h2⟩:=StrLaws.occ_spec x y 0 x.length 1 i (by rw[e];exact aH);have h2:=(pe x y i).mp h2;refine l9 ?_;show sg x=sg (bZ x 0 i++y++bZ x (i+y.length) x.length);rw[aq,aq,yx,yx,<-h2,hG,kE,<-ah x,eP (l:=(sg x).drop (i+y.length)) (by rw[bY];exact aO _),<-List.drop_drop,aV,dH,dH]
def uv{x y:Str}(h:Asc x):Asc (pA x y)/\Asc (pC x y):=by
 obtain⟨m,_,⟨e,_⟩|⟨e1,e2,_⟩⟩:=jj x y
 ·have hl:=congrArg lP e;rw[bg,bg]at hl;have hx:=h.1;have hm:∀c,c∈sg (pA x y)\/c∈sg (pC x y)->c∈sg x:=λc hc=>by
   rw[e,aq,aq];rcases hc with hc|hc
   ·exact dM _ (dM _ hc)
   ·exact cJ _ hc
  exact⟨⟨by lia,λc hc=>h.2 c (hm c (.inl hc))⟩,⟨by lia,λc hc=>h.2 c (hm c (.inr hc))⟩⟩
 ·rw[e1,e2];exact⟨h,⟨by decide,λc hc=>by cases hc⟩⟩
def Nw{x y:Str}(h:Asc x)(hy:y.length≠0):∃m,n9 (.str x) (.str y)=some (.tup [.str (pA x y),.str m,.str (pC x y)]):=by
 obtain⟨m,e,_⟩:=jj x y;refine⟨m,(aB ⟨hy,fg h⟩).trans ?_⟩;rw[e];rfl
def brk:Str:="("
def ka(x:Str):Option At:=(ju (pC x brk)).map λts=>⟨pA x brk,ts⟩
def Vw(n:Nat){x:Str}(h:Asc x):af (tab (n+4)) jh [.str x]=Ga At.D (ka x):=by
 rw[Hu];obtain⟨m,e⟩:=Nw (y:=brk) h (by decide);have e2:=Ep n (uv (y:=brk) h).2;have s1:lg n9 (aa 0) (gC (.str "(")) [.bo (.str x),.no]=.ok (.tup [.str (pA x brk),.str m,.str (pC x brk)]):=by
  have:lg n9 (aa 0) (gC (.str "(")) [.bo (.str x),.no]=Res.of (n9 (.str x) (.str brk)):=rfl;rw[this,e];rfl
 unfold ka Ga at *;cases et:ju (pC x brk)with
 |none=>
  rw[et]at e2;simp[t7,s1,e2]
 |some ts=>
  rw[et]at e2;simp[t7,s1,e2,At.D]
def e8:Str:="), "
def jf:Str:=") :- "
def jz(x:Str):Str:=S (((sg x).drop 4).take (x.length - 2 - 4))
def Nn{x:Str}(h:Asc x):Asc (jz x):=by
 unfold jz;refine⟨?_,λc hc=>h.2 c (gY (jN (by rwa [p7]at hc)))⟩;rw[<-ah,p7,cN,bY,ah];have:=h.1
 lia
def L0(x y:Str):dF x y=true↔(sg x).take y.length=sg y:=by
 unfold dF;rw[aA,decide_eq_true_eq,pe,hG];refine⟨λh=>h.2,λh=>⟨?_,h⟩⟩;have:=congrArg mF h;rw[cN,ah,ah]at this
 lia
def Ku(x y:Str):gD x y=true↔y.length<=x.length/\(sg x).drop (x.length - y.length)=sg y:=by
 unfold gD;rw[aA,decide_eq_true_eq,pe,lT];refine and_congr_right λhl=>?_;rw[eP (by rw[bY,ah];lia)]
def CS{x:Str}(h1:dF x "ask("=true) (h2:gD x ")."=true):6<=x.length:=by
 have h1:=(L0 _ _).mp h1;obtain⟨hl,h2⟩:=(Ku _ _).mp h2;have e1:sg ("ask(":Str)=[97,115,107,40]:=by decide+kernel
 have e2:sg (").":Str)=[41,46]:=by decide+kernel
 have l1:("ask(":Str).length=4:=by decide+kernel
 have l2:(").":Str).length=2:=by decide+kernel
 rw[e1,l1]at h1;rw[e2,l2]at h2;rw[<-ah]at h2⊢;rw[l2,<-ah]at hl;generalize sg x=l at h1 h2 hl⊢
 match l,h1,h2,hl with
 |[],h1,_,_=>cases h1
 |[_],h1,_,_=>cases h1
 |[_,_],h1,_,_=>cases h1
 |[_,_,_],h1,_,_=>cases h1
 |[_,_,_,_],h1,h2,_=>cases h1;cases h2
 |[_,_,_,_,_],h1,h2,_=>cases h1;cases h2
 |_::_::_::_::_::_::l,_,_,_=>simp
def FU{x:Str}(h:6<=x.length):bO x (some 4) (some (-2))=jz x:=Mc (a:=4) (b:=2) (by lia) (by decide)
def Ry(n:Nat){x:Str}(h:Asc x){k:En->Res}{U:En}{r:En->ResL}(hr:r U=.ok ((bF x e8).map Pu.D.str))(hk:∀p:Str,k (de [] U (.pu (.str p)))=af (tab (n+4)) jh [.str p]):wj r [] k U=Ga (λas=>.lst (as.map At.D)) (ij ka (bF x e8)):=by
 have hl:=kS x e8;have hx:=h.1;rw[Bh (f:=Pu.D.str) (g:=ka) (d:=At.D) (c:="NoText") hr (by lia) λp hp=>by
  rw[hk,Vw n (nr h hp)];unfold Ga;cases ka p<;>rfl]
 unfold Ga;cases ij ka (bF x e8)<;>rfl
def Dl(x:Str):Bool:=dF x "ask(" && gD x ")."
def AS(n:Nat){x:Str}(hs:Dl x=false):af (tab (n+7)) jg [.str x]=.er "NoText":=by
 rw[Kp];unfold Dl at hs;have c1:lg yu (aa 0) (gC (.str "ask(")) [.bo (.str x),.no,.no,.no]=.ok (.bl (dF x "ask(")):=rfl;have c2:lg Lj (aa 0) (gC (.str ").")) [.bo (.str x),.no,.no,.no]=.ok (.bl (gD x ").")):=rfl;generalize dF x "ask("=b1 at hs c1;generalize gD x ")."=b2 at hs c2;cases b1
 ·simp[yd,c1,iu]
 ·cases b2
  ·simp[yd,c1,c2,iu]
  ·cases hs
def RP(n:Nat):En->Out:=cu 2 (Xi (dq (g2 ar (aa 1) (gC (.int 0)))) (ao (af (tab (n+6)) jn) (ae (g2 ar (aa 1) (gC (.int 0))) ak)) (k8 ak))
def RO(n:Nat):En->Out:=cu 3 (g1 gf (wj (bc (lg c9 (g2 ar (aa 1) (gC (.int 2))) (gC (.str "), ")))) [] (ao (af (tab (n+6)) jh) (ae (aa 0) ak))))
def SI(n:Nat):En->Out:=Jn (af (tab (n+6)) bw) (ae (k8 (ae (dh 2) (ae (dh 3) ak))) ak) (ED (tab (n+7)) "NoAsking" "NoText")
def Vx(n:Nat){x:Str}(h:Asc x)(hs:Dl x=true):∃m:Str,af (tab (n+7)) jg [.str x]=cj ((ba (RP n) (ba (RO n) (SI n))) [.bo (.str x),.pu (.tup [.str (pA (jz x) jf),.str m,.str (pC (jz x) jf)]),.no,.no]):=by
 unfold Dl at hs;rw[aA]at hs;have h6:=CS hs.1 hs.2;obtain⟨m,e⟩:=Nw (y:=jf) (Nn h) (by decide);refine⟨m,?_⟩;rw[Kp];have c1:lg yu (aa 0) (gC (.str "ask(")) [.bo (.str x),.no,.no,.no]=.ok (.bl (dF x "ask(")):=rfl;have c2:lg Lj (aa 0) (gC (.str ").")) [.bo (.str x),.no,.no,.no]=.ok (.bl (gD x ").")):=rfl;rw[hs.1]at c1;rw[hs.2]at c2;have s1:lg n9 (jx (aa 0) (some (g1 bj (gC (.str "ask(")))) (some (g1 dj (g1 bj (gC (.str ").")))))) (gC (.str ") :- ")) [.bo (.str x),.no,.no,.no]=.ok (.tup [.str (pA (jz x) jf),.str m,.str (pC (jz x) jf)]):=by
  have z:jx (aa 0) (some (g1 bj (gC (.str "ask(")))) (some (g1 dj (g1 bj (gC (.str ").")))))  [.bo (.str x),.no,.no,.no]=Res.of (if x.length<=aD then some (Pu.D.str (bO x (some 4) (some (-2))))else none):=rfl;rw[aB (fg h),FU h6]at z;unfold lg;rw[z];show Res.of (n9 (.str (jz x)) (.str jf))=_;rw[e];rfl
 show cj (yd (n+6) [.bo (.str x),.no,.no,.no])=_;unfold yd;have c0:m7 (fy (dq (g1 (bq "str") (aa 0)))) (m7 (fy (dq (lg yu (aa 0) (gC (.str "ask("))))) (fy (dq (lg Lj (aa 0) (gC (.str ")."))))))  [.bo (.str x),.no,.no,.no]=.ok (.bl false):=by simp[c1,c2]
 rw[cb,oi,c0,bf];dsimp only;rw[u6];dsimp only;rw[cb,mq,s1,bf];rfl
def Ct(a:Str):Option (List Tm):=if a=cX then some []else ju a
def HP(n:Nat){a m b:Str}{v0:Sl}(h:Asc a):RP n [v0,.pu (.tup [.str a,.str m,.str b]),.no,.no]=match Ct a with
  |none=>.er "NoText"
  |some hd=>.nx [v0,.pu (.tup [.str a,.str m,.str b]),.pu (.tup (hd.map Tm.D)),.no]:=by
 unfold RP Ct;have ix:g2 ar (aa 1) (gC (.int 0)) [v0,.pu (.tup [.str a,.str m,.str b]),.no,.no]=.ok (.str a):=rfl
 by_cases he:a=cX
 ·subst he;rw[aB rfl];rw[mq,W9,Pb,ix];rfl
 ·rw[aG he];have e:=Ep (n+3) h;have ht:Dn (.str a)=some true:=by
   refine(aB (fg h)).trans ?_;have hl:a.length≠0:=λz=>he (l9 (by
    rw[<-ah]at z;rw[jP z];rfl))
   have:((a.length:Int) !=0)=true:=bne_iff_ne.mpr (by lia);rw[this]
  unfold Ga at e;rw[mq,W9,Pb,ix];cases et:ju a with
  |none=>
   rw[et]at e;simp[ht,bD,e]
  |some ts=>
   rw[et]at e;simp[ht,bD,e]
def HN(n:Nat){a m b:Str}{v0 v2:Sl}(h:Asc b):RO n [v0,.pu (.tup [.str a,.str m,.str b]),v2,.no]=match ij ka (bF b e8)with
  |none=>.er "NoText"
  |some as=>.nx [v0,.pu (.tup [.str a,.str m,.str b]),v2,.pu (.tup (as.map At.D))]:=by
 unfold RO;have hw:bc (lg c9 (g2 ar (aa 1) (gC (.int 2))) (gC (.str "), "))) [v0,.pu (.tup [.str a,.str m,.str b]),v2,.no]=.ok ((bF b e8).map Pu.D.str):=by
  have:lg c9 (g2 ar (aa 1) (gC (.int 2))) (gC (.str "), ")) [v0,.pu (.tup [.str a,.str m,.str b]),v2,.no]=Res.of (c9 (.str b) (.str e8)):=rfl;rw[G7,this,xt h (by decide)];rfl
 have hc:=Ry (n+2) h (k:=ao (af (tab (n+6)) jh) (ae (aa 0) ak)) hw λp=>by
  rw[Gz];simp[de]
 rw[mq,Me,hc];unfold Ga;cases ij ka (bF b e8)<;>rfl
theorem p9{α β:Type}{f:α->Option β}:∀{l:List α}{bs:List β},ij f l=some bs->bs.length=l.length/\∀b∈bs,∃a∈l,f a=some b
 |[],bs,h=>by cases h;exact⟨rfl,λb hb=>by cases hb⟩
 |a::l,bs,h=>by
  unfold ij at h;cases e:f a with
  |none=>rw[e]at h;cases h
  |some b=>
   rw[e]at h;cases e2:ij f l with
   |none=>rw[e2]at h;cases h
   |some cs=>
    rw[e2]at h;cases h;obtain⟨h1,h2⟩:=p9 e2;refine⟨by rw[aM,aM,h1],λd hd=>?_⟩;rcases List.mem_cons.mp hd with rfl|hd
    ·exact⟨a,aH,e⟩
    ·obtain⟨c,hc,q⟩:=h2 d hd;exact⟨c,aF _ hc,q⟩
def AU{x:Str}{t:Tm}(h:rT x=some t):t.good:=by
 unfold rT at h
 by_cases hw:s9 x=true
 ·rw[aB hw]at h;cases h;exact hw
 ·rw[aG hw]at h
  by_cases hn:qj x=true
  ·rw[aB hn]at h;cases h;trivial
  ·rw[aG hn]at h;cases h
def sj{x:Str}{ts:List Tm}(h:ju x=some ts):(∀t∈ts,t.good)/\ts.length<=x.length+2:=by
 obtain⟨h1,h2⟩:=p9 h;refine⟨λt ht=>?_,by rw[h1];exact kS x xr⟩;obtain⟨a,_,q⟩:=h2 t ht;exact AU q
def Ph{x:Str}{a:At}(h:Asc x)(e:ka x=some a):Asc a.nm/\(∀t∈a.ts,t.good)/\a.ts.length<=x.length+2:=by
 unfold ka at e;cases et:ju (pC x brk)with
 |none=>rw[et]at e;cases e
 |some ts=>
  rw[et]at e;cases e;obtain⟨g1,g2⟩:=sj et;refine⟨(uv h).1,g1,bC g2 (Nat.add_le_add_right ?_ 2)⟩;obtain⟨m,_,⟨e,_⟩|⟨e1,e2,_⟩⟩:=jj x brk
  ·have hl:=congrArg lP e;rw[bg,bg]at hl
   lia
  ·rw[e2];exact cA _
structure Got(hd:List Tm)(as:List At):Prop where
 hg:∀t∈hd,t.good
 hl:hd.length<=1000
 al:as.length<=1000
 ag:∀a∈as,Asc a.nm/\(∀t∈a.ts,t.good)/\a.ts.length<=1000
def Got.pt{hd:List Tm}{as:List At}(g:Got hd as):PT (.tup (hd.map Tm.D)) (.tup (as.map At.D)):=by
 refine⟨.tup _,λds e=>?_,.tup _,λds e=>?_⟩
 ·cases e;refine⟨by rw[aJ];exact g.hl,λd hd'=>?_⟩;obtain⟨t,ht,rfl⟩:=List.mem_map.mp hd';exact(Tm.good_T0 (g.hg t ht)).1
 ·cases e;refine⟨by rw[aJ];exact g.al,λd hd'=>?_⟩;obtain⟨a,ha,rfl⟩:=List.mem_map.mp hd';obtain⟨a1,a2,a3⟩:=g.ag a ha;refine⟨.tup _,λds e=>?_⟩;cases e;intro d hd;rcases List.mem_cons.mp hd with rfl|hd
  ·exact⟨.str a1,λds e=>by cases e⟩
  ·rw[List.mem_singleton.mp hd];refine⟨.tup _,λds e=>?_⟩;cases e;refine⟨by rw[aJ];exact a3,λd hd=>?_⟩;obtain⟨t,ht,rfl⟩:=List.mem_map.mp hd;exact Tm.good_T0 (a2 t ht)
def vz(x:Str):Option (List Tm×List At):=if Dl x then(Ct (pA (jz x) jf)).bind λhd=>(ij ka (bF (pC (jz x) jf) e8)).map λas=>(hd,as)else none
def Eo(n m:Nat){x:Str}(h:Asc x)(hx:x.length<=900):match vz x with
  |none=>af (tab (n+7)) jg [.str x]=.er "NoText"
  |some (hd,as)=>Got hd as/\((af (tab (m+3)) a9 [g9 hd as]=.ok (.bl true)/\af (tab (n+7)) jg [.str x]=.ok (g9 hd as))\/(af (tab (m+3)) a9 [g9 hd as]=.ok (.bl false)/\af (tab (n+7)) jg [.str x]=.er "NoText")):=by
 unfold vz;cases hs:Dl x with
 |false=>exact AS n hs
 |true=>
  rw[aB rfl];obtain⟨mm,e⟩:=Vx n h hs;have hm:=Nn h;have hml:(jz x).length<=900:=by
   unfold jz;rw[<-ah,p7,cN,bY,ah]
   lia
  obtain⟨ha,hb⟩:=uv (y:=jf) hm;have hlen:(pA (jz x) jf).length<=900/\(pC (jz x) jf).length<=900:=by
   obtain⟨m,_,⟨e,_⟩|⟨e1,e2,_⟩⟩:=jj (jz x) jf
   ·have hl:=congrArg lP e;rw[bg,bg]at hl
    lia
   ·rw[e1,e2];exact⟨hml,by decide⟩
  rw[e,cb,HP n ha];cases e1:Ct (pA (jz x) jf)with
  |none=>rfl
  |some hd=>
   dsimp only[eX];rw[cb,HN n hb];cases e2:ij ka (bF (pC (jz x) jf) e8)with
   |none=>rfl
   |some as=>
    dsimp only[lZ];have hg:Got hd as:=by
     refine⟨?_,?_,?_,λa ha=>?_⟩
     ·unfold Ct at e1;split at e1
      ·cases e1;intro t ht;cases ht
      ·exact(sj e1).1
     ·unfold Ct at e1;split at e1
      ·cases e1;decide
      ·have:=(sj e1).2
       lia
     ·rw[(p9 e2).1];have:=kS (pC (jz x) jf) e8
      lia
     ·obtain⟨p,hp,q⟩:=(p9 e2).2 a ha;obtain⟨g1,g2,g3⟩:=Ph (nr hb hp) q;have:=(ui (y:=e8) _ p hp).2;rw[eB]at this;exact⟨g1,g2,by lia⟩
    refine⟨hg,?_⟩;have r3:SI n [.bo (.str x),.pu (.tup [.str (pA (jz x) jf),.str mm,.str (pC (jz x) jf)]),.pu (.tup (hd.map Tm.D)),.pu (.tup (as.map At.D))]=match af (tab (n+6)) bw [g9 hd as]with
     |.ok d=>.rt d
     |.er c=>ED (tab (n+7)) "NoAsking" "NoText" c [.bo (.str x),.pu (.tup [.str (pA (jz x) jf),.str mm,.str (pC (jz x) jf)]),.pu (.tup (hd.map Tm.D)),.pu (.tup (as.map At.D))]
     |.st=>.st:=rfl
    rw[r3];rcases E9 m n hg.pt with ⟨q1,q2,_⟩|⟨q1,q2⟩
    ·exact .inl ⟨q1,by rw[show g9 hd as=.tup [.tup (hd.map Tm.D),.tup (as.map At.D)]from rfl,q2];rfl⟩
    ·exact .inr ⟨q1,by rw[show g9 hd as=.tup [.tup (hd.map Tm.D),.tup (as.map At.D)]from rfl,q2];rfl⟩
def Sy(c:Nat):iU mi ⟨#[c]⟩=if 48<=c/\c<=57 then((c - 48:Nat):Int)else -1:=by
 by_cases h:48<=c/\c<=57
 ·rw[aB h];have:c=48\/c=49\/c=50\/c=51\/c=52\/c=53\/c=54\/c=55\/c=56\/c=57:=by omega
  rcases this with rfl|rfl|rfl|rfl|rfl|rfl|rfl|rfl|rfl|rfl<;>decide+kernel
 ·rw[aG h];have hf:=lB mi c;rw[decide_eq_false (λz=>h (yk.mp z))]at hf;unfold iU;cases e:bM mi ⟨#[c]⟩ 0 mi.length 1 with
  |nil=>rfl
  |cons i r=>rw[e]at hf;cases hf
def CH:En->Out:=(ba (fz [3] (cu 4 (lg n8 (gC (.str "0123456789")) (aa 3)))) (ba (ml (g2 gz (aa 4) (gC (.int 0))) (b9 (gC .non)) fc) (cu 2 (g2 aj (g2 jc (gC (.int 10)) (aa 2)) (aa 4)))))
def CV(c:Nat):Bool:=decide (48<=c/\c<=57)
def Y1(v0 v1 v4:Sl)(k c:Nat):CH [v0,v1,.pu (.int (k:Nat)),.pu (.str ⟨#[c]⟩),v4]=if CV c then .nx [v0,v1,.pu (.int ((k * 10+(c - 48):Nat):Int)),.pu (.str ⟨#[c]⟩),.pu (.int ((c - 48:Nat):Int))]else .rt .non:=by
 have hf:=Sy c;unfold mi at hf;have s4:lg n8 (gC (.str "0123456789")) (aa 3) [v0,v1,.pu (.int (k:Nat)),.pu (.str ⟨#[c]⟩),v4]=.ok (.int (iU "0123456789" ⟨#[c]⟩)):=rfl;unfold CV
 by_cases h:48<=c/\c<=57
 ·rw[aB h]at hf;rw[hf]at s4;rw[decide_eq_true h,aB rfl];have hm:jc (.int 10) (.int (k:Nat))=some (.int (10 * (k:Nat))):=Co 10 k (.inl (by decide));have lt:gz (.int ((c - 48:Nat):Int)) (.int 0)=some (.bl false):=by
   show some (Pu.D.bl (decide (((c - 48:Nat):Int)<0)))=_;rw[decide_eq_false (by lia)]
  unfold CH;simp[s4,lt,hm]
  lia
 ·rw[aG h]at hf;rw[hf]at s4;rw[decide_eq_false h,aG (by decide)];unfold CH;simp[s4]
def SW(k:Nat)(l:List Nat):Nat:=l.foldl (λa c=>a * 10+(c - 48)) k
theorem Nm(v0 v1:Sl):∀(l:List Nat)(k:Nat)(v3 v4:Sl),(l.all CV=true->∃w3 w4,turns (br 3) CH (l.map λc=>Pu.D.str ⟨#[c]⟩) [v0,v1,.pu (.int (k:Nat)),v3,v4]=.nx [v0,v1,.pu (.int (SW k l:Nat)),w3,w4])/\
  (l.all CV=false->turns (br 3) CH (l.map λc=>Pu.D.str ⟨#[c]⟩) [v0,v1,.pu (.int (k:Nat)),v3,v4]=.rt .non)
 |[],k,v3,v4=>⟨λ_=>⟨v3,v4,rfl⟩,λh=>by cases h⟩
 |c::l,k,v3,v4=>by
  have ht:br 3 (.str ⟨#[c]⟩) [v0,v1,.pu (.int (k:Nat)),v3,v4]=some [v0,v1,.pu (.int (k:Nat)),.pu (.str ⟨#[c]⟩),v4]:=rfl;rw[aU,gy ht,Y1,bK];cases hd:CV c with
  |false=>exact⟨λh=>(by cases h),λ_=>rfl⟩
  |true=>
   rw[aB rfl,cV];exact Nm v0 v1 l (k * 10+(c - 48)) _ _
def Yc{l:List Nat}:l.all CV=l.all λc=>decide (c∈sg mi):=by
 congr 1
 funext c
 unfold CV;rw[decide_eq_decide];exact yk.symm
def W6{x:Str}{b:Nat}(hb:b<=x.length):bO x none (some (b:Int))=S ((sg x).take b):=by
 have:bO x none (some (b:Int))=bO x (some ((0:Nat):Int)) (some (b:Int)):=by
  have e:eR none (some (b:Int)) 1 x.length=eR (some ((0:Nat):Int)) (some (b:Int)) 1 x.length:=by
   simp[eR];rw[show max (0:Int) (min 0 (x.length:Int))=0 by lia]
  unfold bO;rw[e]
 rw[this,Cm (cA _) hb];rfl
def Yz{x:Str}(h:x.length=0):x=cX:=l9 (by
 rw[<-ah]at h;rw[jP h];rfl)
def IG(x:Str):bO x none (some 1)=S ((sg x).take 1):=by
 by_cases h:1<=x.length
 ·exact W6 h
 ·rw[Yz (x:=x) (by lia)]
  decide+kernel
def BK(x:Str):bO x (some 1) none=S ((sg x).drop 1):=by
 by_cases h:1<=x.length
 ·exact Gx h
 ·rw[Yz (x:=x) (by lia)]
  decide+kernel
def Wt{x:Str}(h:Asc x)(k:Nat):Asc (S ((sg x).take k)):=⟨by rw[<-ah,p7,cN,ah];have:=h.1;lia,λc hc=>h.2 c (jN (by rwa [p7]at hc))⟩
def Hq{x:Str}(h:Asc x)(k:Nat):Asc (S ((sg x).drop k)):=⟨by rw[<-ah,p7,bY,ah];have:=h.1;lia,λc hc=>h.2 c (gY (by rwa [p7]at hc))⟩
def Y7(x:Str):decide (S ((sg x).take 1)="-")=neg x:=by
 unfold neg;rw[decide_eq_decide,Mv];constructor
 ·intro h;have h:=congrArg sg h;rw[p7,p7]at h;cases e:sg x with
  |nil=>rw[e]at h;cases h
  |cons c r=>rw[e]at h;cases h;rfl
 ·intro h;cases e:sg x with
  |nil=>rw[e]at h;cases h
  |cons c r=>rw[e]at h;cases h;rfl
def Qm(n:Nat){x:Str}(h:Asc x):af (tab (n+1)) iz [.str x]=.ok (if qj x then .int (Ql x)else .non):=by
 rw[Ab];have hf:=Hz h;have c1:∀v1 v2 v3 v4:Sl,g2 f6 (jx (aa 0) none (some (gC (.int 1)))) (gC (.str "-")) [.pu (.str x),v1,v2,v3,v4]=.ok (.bl (neg x)):=λv1 v2 v3 v4=>by
  have z:jx (aa 0) none (some (gC (.int 1))) [.pu (.str x),v1,v2,v3,v4]=Res.of (if x.length<=aD then some (Pu.D.str (bO x none (some 1)))else none):=rfl;rw[aB (fg h),IG]at z;rw[u5,z];show Res.of (f6 (.str (S ((sg x).take 1))) (.str "-"))=_;rw[(rn (Wt h 1) ⟨by decide,by decide⟩).1,Y7];rfl
 have s2:ml (g2 f6 (jx (aa 0) none (some (gC (.int 1)))) (gC (.str "-"))) (cu 1 (jx (aa 0) (some (gC (.int 1))) none)) fc [.pu (.str x),.pu (.str x),.no,.no,.no]=.nx [.pu (.str x),.pu (.str (bb x)),.no,.no,.no]:=by
  rw[oi,c1];unfold bb;cases hn:neg x with
  |false=>rfl
  |true=>
   have z:jx (aa 0) (some (gC (.int 1))) none [.pu (.str x),.pu (.str x),.no,.no,.no]=Res.of (if x.length<=aD then some (Pu.D.str (bO x (some 1) none))else none):=rfl;rw[aB (fg h),BK]at z;show cu 1 (jx (aa 0) (some (gC (.int 1))) none) [.pu (.str x),.pu (.str x),.no,.no,.no]=_;rw[mq,z];rfl
 have bad:∃b:Bool,g2 f6 (aa 1) (gC (.str "")) [.pu (.str x),.pu (.str (bb x)),.no,.no,.no]=.ok (.bl (decide (bb x=""))):=⟨true,by
  show Res.of (f6 (.str (bb x)) (.str ""))=_;rw[(rn hf ⟨by decide,λc hc=>by cases hc⟩).1];rfl⟩
 have c3:m7 (g2 f6 (aa 1) (gC (.str ""))) (m7 (g2 Di (g1 bj (aa 1)) (gC (.int 30))) (ro (g2 f6 (g2 ar (aa 1) (gC (.int 0))) (gC (.str "0"))) (g2 i9 (aa 0) (gC (.str "0"))))) [.pu (.str x),.pu (.str (bb x)),.no,.no,.no]=.ok (.bl (!(decide (1<=(bb x).length/\(bb x).length<=30) && (decide (x="0")|| !decide ((sg (bb x))[0]?=some 48))))):=by
  obtain⟨_,e1⟩:=bad
  by_cases h0:bb x=""
  ·have l0:(bb x).length=0:=by rw[h0];decide
   rw[decide_eq_true h0]at e1;rw[decide_eq_false (show¬(1<=(bb x).length/\(bb x).length<=30) by lia)];simp only[Cp,e1,cc,Bool.false_and,fW]
  ·rw[decide_eq_false h0]at e1;have l1:1<=(bb x).length:=by
    rcases Nat.eq_zero_or_pos (bb x).length with z|z
    ·exact absurd (Yz z) h0
    ·exact z
   have e2:g2 Di (g1 bj (aa 1)) (gC (.int 30)) [.pu (.str x),.pu (.str (bb x)),.no,.no,.no]=.ok (.bl (decide (((bb x).length:Int)>30))):=by
    have z:bj (.str (bb x))=some (.int ((bb x).length:Nat)):=aB (fg hf);rw[u5,Me];show((Res.of (bj (.str (bb x)))).bind _)=_;rw[z];rfl
   by_cases h30:((bb x).length:Int)>30
   ·rw[decide_eq_true h30]at e2;rw[decide_eq_false (show¬(1<=(bb x).length/\(bb x).length<=30) by lia)];simp only[Cp,e1,e2,cc,Bool.false_and,fW]
   ·rw[decide_eq_false h30]at e2;rw[decide_eq_true (show 1<=(bb x).length/\(bb x).length<=30 by lia),cV];have e3:g2 f6 (g2 ar (aa 1) (gC (.int 0))) (gC (.str "0")) [.pu (.str x),.pu (.str (bb x)),.no,.no,.no]=.ok (.bl (decide ((sg (bb x))[0]?=some 48))):=by
     cases el:sg (bb x)with
     |nil=>rw[<-ah,el]at l1;simp at l1
     |cons c r=>
      have ix:ar (.str (bb x)) (.int 0)=some (.str ⟨#[c]⟩):=by
       have ea:L2.atI (sg (bb x)) 0=some c:=by rw[el];exact L2.Aj (j:=0) rfl
       show(if(bb x).length<=aD then(match L2.atI (sg (bb x)) 0 with
        |some c=>some (Pu.D.str ⟨#[c]⟩)
        |none=>none)else none)=_
       rw[aB (fg hf),ea]
      have hc:c<128:=hf.2 c (by rw[el];exact aH);rw[u5];show((Res.of (ar (.str (bb x)) (.int 0))).bind λz=>Res.of (f6 z (.str "0")))=_;rw[ix];show Res.of (f6 (.str ⟨#[c]⟩) (.str "0"))=_;rw[(rn (x:=⟨#[c]⟩) (y:="0") ⟨by show 1<=10000;decide,λd hd=>by
       have:d=c:=by simpa[sg]using hd
       rw[this];exact hc⟩ ⟨by decide,by decide⟩).1]
      have:decide ((⟨#[c]⟩:Str)="0")=decide ((c::r)[0]?=some 48):=by
       rw[decide_eq_decide,Ed];constructor
       ·intro z;have z:[c]=[48]:=congrArg sg z;cases z;rfl
       ·intro z;cases z;rfl
      rw[this];rfl
    have e4:g2 i9 (aa 0) (gC (.str "0")) [.pu (.str x),.pu (.str (bb x)),.no,.no,.no]=.ok (.bl (!decide (x="0"))):=by
     show Res.of (i9 (.str x) (.str "0"))=_;rw[(rn h ⟨by decide,by decide⟩).2];rfl
    generalize decide ((sg (bb x))[0]?=some 48)=b3 at e3⊢;generalize decide (x="0")=b4 at e4⊢;cases b3<;>cases b4<;>simp only[Cp,O5,e1,e2,e3,e4,cc]<;>rfl
 show cj (mr n [.pu (.str x),.no,.no,.no,.no])=_;unfold mr;have s1:fz [0] (cu 1 (dh 0)) [.pu (.str x),.no,.no,.no,.no]=.nx [.pu (.str x),.pu (.str x),.no,.no,.no]:=rfl;rw[cb,s1];dsimp only;rw[cb,s2];dsimp only;rw[cb,oi,c3,bf];unfold qj;cases hb:(decide (1<=(bb x).length/\(bb x).length<=30) && (decide (x="0")|| !decide ((sg (bb x))[0]?=some 48)))with
 |false=>
  have hz:((decide (1<=(bb x).length/\(bb x).length<=30) && (sg (bb x)).all λc=>decide (c∈sg mi)) && (decide (x="0")|| !decide ((sg (bb x))[0]?=some 48)))=false:=by
   rw[Bool.and_right_comm,hb,Bool.false_and]
  rw[hz];rfl
 |true=>
  have hz:((decide (1<=(bb x).length/\(bb x).length<=30) && (sg (bb x)).all λc=>decide (c∈sg mi)) && (decide (x="0")|| !decide ((sg (bb x))[0]?=some 48)))=(sg (bb x)).all λc=>decide (c∈sg mi):=by
   rw[Bool.and_right_comm,hb,cV]
  rw[hz,<-Yc];obtain⟨l1,l2⟩:=Nm (.pu (.str x)) (.pu (.str (bb x))) (sg (bb x)) 0 .no .no;have s4:cu 2 (gC (.int 0)) [.pu (.str x),.pu (.str (bb x)),.no,.no,.no]=.nx [.pu (.str x),.pu (.str (bb x)),.pu (.int 0),.no,.no]:=rfl;show cj ((ba (cu 2 (gC (.int 0))) (ba (fz [1] (k6 (br 3) (bc (H8 1)) CH)) (ba (ml (g2 f6 (jx (aa 0) none (some (gC (.int 1)))) (gC (.str "-"))) (b9 (g1 dj (aa 2))) fc) (fz [2] (b9 (dh 2)))))) [.pu (.str x),.pu (.str (bb x)),.no,.no,.no])=_;rw[cb,s4];dsimp only;have s5:fz [1] (k6 (br 3) (bc (H8 1)) CH) [.pu (.str x),.pu (.str (bb x)),.pu (.int 0),.no,.no]=turns (br 3) CH ((sg (bb x)).map λc=>Pu.D.str ⟨#[c]⟩) [.pu (.str x),.pu (.str (bb x)),.pu (.int ((0:Nat):Int)),.no,.no]:=jr rfl;rw[cb,s5];cases ha:(sg (bb x)).all CV with
  |false=>rw[l2 ha];rfl
  |true=>
   obtain⟨w3,w4,e⟩:=l1 ha;rw[e];dsimp only;rw[cb,oi,c1,bf];unfold Ql;cases neg x<;>rfl
def CI(n:Nat):En->Out:=(ba (fz [4] (cu 5 (dh 4)))
 (ba (ml (fy (dq (ao (af (tab (n+1)) dm) (ae (aa 4) ak)))) (fz [4] (cu 5 (ao (af (tab (n+1)) iz) (ae (dh 4) ak)))) fc)
 (ba (ml (g2 qr (aa 5) (gC .non)) (b9 (gC .non)) fc)
 (fz [5] (Dj 3 (dh 5))))))
def Yw(n:Nat){p:Str}(h:Asc p){acc:List Pu.D}(hl:acc.length<=100000)(v0 v1 v2 v5:Sl):CI n [v0,v1,v2,.ow acc,.pu (.str p),v5]=match rT p with
  |some t=>.nx [v0,v1,v2,.ow (acc++[t.D]),.pu (.str p),.pu t.D]
  |none=>.rt .non:=by
 have e1:=Np n h;have e2:=Qm n h;have hlt:acc.length<16777216:=by lia
 unfold rT CI;cases hw:s9 p with
 |true=>
  rw[hw]at e1;simp[e1,hlt,Tm.D,qi]
 |false=>
  rw[hw]at e1;cases hn:qj p with
  |true=>
   rw[hn]at e2;simp[e1,e2,hlt,Tm.D,qi]
  |false=>
   rw[hn]at e2;simp[e1,e2,qi]
theorem Nd(n:Nat)(v0 v1 v2:Sl):∀(l:List Str)(acc:List Tm)(v4 v5:Sl),(∀p∈l,Asc p)->acc.length+l.length<=20000->
  match ij rT l with
  |some ts=>∃w4 w5,turns (br 4) (CI n) (l.map Pu.D.str) [v0,v1,v2,.ow (acc.map Tm.D),v4,v5]=.nx [v0,v1,v2,.ow ((acc++ts).map Tm.D),w4,w5]
  |none=>turns (br 4) (CI n) (l.map Pu.D.str) [v0,v1,v2,.ow (acc.map Tm.D),v4,v5]=.rt .non
 |[],acc,v4,v5,_,_=>⟨v4,v5,by rw[cM];rfl⟩
 |p::l,acc,v4,v5,hp,hl=>by
  have ht:br 4 (.str p) [v0,v1,v2,.ow (acc.map Tm.D),v4,v5]=some [v0,v1,v2,.ow (acc.map Tm.D),.pu (.str p),v5]:=rfl;have hk:=Yw n (hp p aH) (acc:=acc.map Tm.D) (by rw[aJ];lia) v0 v1 v2 v5;rw[aU,gy ht,hk];unfold ij;cases e:rT p with
  |none=>rfl
  |some t=>
   dsimp only;have ih:=Nd n v0 v1 v2 l (acc++[t]) (.pu (.str p)) (.pu t.D) (λq hq=>hp q (aF _ hq)) (by simp at hl⊢;lia);rw[eL]at ih;cases e2:ij rT l with
   |none=>rw[e2]at ih;exact ih
   |some ts=>
    rw[e2]at ih;obtain⟨w4,w5,q⟩:=ih;refine⟨w4,w5,?_⟩;rw[aV]at q;exact q
def at?(x y:Str):Option Nat:=(bM x y 0 x.length 1).head?
def Fy(x y:Str):iU x y=match at? x y with
  |some i=>(i:Int)
  |none=> -1:=by
 unfold iU at?;cases bM x y 0 x.length 1<;>rfl
def oq{x y:Str}{i:Nat}(h:at? x y=some i):i+y.length<=x.length/\sg (pA x y)=(sg x).take i/\sg (pC x y)=(sg x).drop (i+y.length)/\x=pA x y++y++pC x y:=by
 unfold at? at h;cases e:bM x y 0 x.length 1 with
 |nil=>rw[e]at h;cases h
 |cons j r=>
  rw[e]at h;cases h;have e3:ku x y=[bZ x 0 i,y,bZ x (i+y.length) x.length]:=by unfold ku;rw[e]
  have ep:pA x y=bZ x 0 i:=by unfold pA;rw[e3];rfl
  have ec:pC x y=bZ x (i+y.length) x.length:=by unfold pC;rw[e3];rfl
  obtain⟨h1,h2⟩:=StrLaws.occ_spec x y 0 x.length 1 i (by rw[e];exact aH);refine⟨h1,?_,?_,?_⟩
  ·rw[ep,yx,hG,kE]
  ·rw[ec,yx,eP (by rw[bY,ah];exact aO _)]
  ·obtain⟨m,q,⟨z,_⟩|⟨z1,z2,z3⟩⟩:=jj x y
   ·exact z
   ·rw[e3]at q;injection q with q1 q2
    injection q2 with q3 q4
    rw[z3]at q3;rw[z1]at ep;have hy:y.length=0:=by rw[q3];rfl
    have:sg x=sg (pA x y++y++pC x y):=by
     rw[aq,aq,z1,z2,q3];show sg x=sg x++[]++[];rw[cM,cM]
    exact l9 this
def O4(x:Str):bO x (some (-1)) none=S ((sg x).drop (x.length - 1)):=by
 by_cases h:1<=x.length
 ·have:bO x (some (-1)) none=bO x (some ((x.length - 1:Nat):Int)) none:=by
   unfold bO;rw[StrLaws.sliceIdx_neg_lo _ x.length (by decide) (by lia),show(-1:Int)+(x.length:Int)=((x.length - 1:Nat):Int) by lia]
  rw[this,Gx (by lia)]
 ·rw[Yz (x:=x) (by lia)]
  decide+kernel
def ji(x:Str):Str:=S ((sg (pC x brk)).dropLast)
def a8(x:Str):Option At:=match at? x brk with
 |none=>none
 |some i=>if S ((sg x).drop (x.length - 1))=")"/\i+2<=x.length then(Ct (ji x)).map λts=>⟨pA x brk,ts⟩else none
def tw:Option At->Pu.D
 |some a=>a.D
 |none=>.non
def wm(n:Nat){x:Str}(h:Asc x):af (tab (n+2)) cq [.str x]=.ok (tw (a8 x)):=by
 rw[C8];show cj (pj (n+1) [.bo (.str x),.no,.no,.no,.no,.no])=_;unfold pj;have s1:cu 1 (lg n8 (aa 0) (gC (.str "("))) [.bo (.str x),.no,.no,.no,.no,.no]=.nx [.bo (.str x),.pu (.int (iU x brk)),.no,.no,.no,.no]:=rfl;rw[cb,s1];dsimp only;unfold a8;rw[Fy];have hlen:bj (.str x)=some (.int (x.length:Nat)):=aB (fg h);cases ea:at? x brk with
 |none=>rfl
 |some i=>
  dsimp only;obtain⟨a1,a2,a3,a4⟩:=oq ea;have bl:brk.length=1:=by decide
  rw[bl]at a1 a3;have c1:m7 (g2 gz (aa 1) (gC (.int 0))) (m7 (g2 i9 (jx (aa 0) (some (g1 dj (gC (.int 1)))) none) (gC (.str ")"))) (g2 gz (g1 bj (aa 0)) (g2 aj (aa 1) (gC (.int 2))))) [.bo (.str x),.pu (.int (i:Int)),.no,.no,.no,.no]=.ok (.bl (!decide (S ((sg x).drop (x.length - 1))=")"/\i+2<=x.length))):=by
   have q1:g2 gz (aa 1) (gC (.int 0)) [.bo (.str x),.pu (.int (i:Int)),.no,.no,.no,.no]=.ok (.bl false):=by
    show Res.ok (.bl (decide ((i:Int)<0)))=_;rw[decide_eq_false (by lia)]
   have q2:g2 i9 (jx (aa 0) (some (g1 dj (gC (.int 1)))) none) (gC (.str ")")) [.bo (.str x),.pu (.int (i:Int)),.no,.no,.no,.no]=.ok (.bl (!decide (S ((sg x).drop (x.length - 1))=")"))):=by
    have z:jx (aa 0) (some (g1 dj (gC (.int 1)))) none [.bo (.str x),.pu (.int (i:Int)),.no,.no,.no,.no]=Res.of (if x.length<=aD then some (Pu.D.str (bO x (some (-1)) none))else none):=rfl;rw[aB (fg h),O4]at z;rw[u5,z];show Res.of (i9 (.str (S ((sg x).drop (x.length - 1)))) (.str ")"))=_;rw[(rn (Hq h _) ⟨by decide,by decide⟩).2];rfl
   have q3:g2 gz (g1 bj (aa 0)) (g2 aj (aa 1) (gC (.int 2))) [.bo (.str x),.pu (.int (i:Int)),.no,.no,.no,.no]=.ok (.bl (decide ((x.length:Int)<(i:Int)+2))):=by
    rw[u5,Me];show((Res.of (bj (.str x))).bind _)=_;rw[hlen];rfl
   have dd:decide (S ((sg x).drop (x.length - 1))=")"/\i+2<=x.length)=(decide (S ((sg x).drop (x.length - 1))=")") && !decide ((x.length:Int)<(i:Int)+2)):=by
    rw[jV];simp only[aA,decide_eq_true_eq,gO,decide_eq_false_iff_not];refine and_congr_right λ_=>?_
    lia
   rw[dd];generalize decide (S ((sg x).drop (x.length - 1))=")")=b1 at q2⊢;generalize decide ((x.length:Int)<(i:Int)+2)=b2 at q3⊢;cases b1<;>cases b2<;>simp only[Cp,q1,q2,q3,cc]<;>rfl
  rw[cb,oi,c1,bf]
  by_cases hc:S ((sg x).drop (x.length - 1))=")"/\i+2<=x.length
  ·rw[decide_eq_true hc,aB hc];have hi:Asc (ji x):=by
    unfold ji;have hp:=(uv (y:=brk) h).2;refine⟨?_,λc hc=>hp.2 c (jQ _ (by rwa [p7]at hc))⟩;rw[<-ah,p7,fP,ah];have:=hp.1
    lia
   have s2:cu 2 (jx (aa 0) (some (g2 aj (aa 1) (gC (.int 1)))) (some (g1 dj (gC (.int 1))))) [.bo (.str x),.pu (.int (i:Int)),.no,.no,.no,.no]=.nx [.bo (.str x),.pu (.int (i:Int)),.pu (.str (ji x)),.no,.no,.no]:=by
    have z:jx (aa 0) (some (g2 aj (aa 1) (gC (.int 1)))) (some (g1 dj (gC (.int 1)))) [.bo (.str x),.pu (.int (i:Int)),.no,.no,.no,.no]=Res.of (if x.length<=aD then some (Pu.D.str (bO x (some ((i:Int)+1)) (some (-1))))else none):=rfl;have e:bO x (some ((i:Int)+1)) (some (-1))=ji x:=by
     have e:=Mc (x:=x) (a:=i+1) (b:=1) (by lia) (aO _);refine Eq.trans e ?_;unfold ji;rw[a3,gL,bY,ah,show x.length - 1 - (i+1)=x.length - (i+1) - 1 by lia]
    rw[aB (fg h),e]at z;rw[mq,z];rfl
   show cj ((ba (cu 2 (jx (aa 0) (some (g2 aj (aa 1) (gC (.int 1)))) (some (g1 dj (gC (.int 1)))))) (ba (lh 3 (ie ak)) (ba (ml (g2 i9 (aa 2) (gC (.str ""))) (k6 (br 4) (bc (lg c9 (aa 2) (gC (.str ", ")))) (CI n)) fc) (b9 (k8 (ae (jx (aa 0) none (some (dh 1))) (ae (g1 gf (aa 3)) ak))))))) [.bo (.str x),.pu (.int (i:Int)),.no,.no,.no,.no])=_;have s3:lh 3 (ie ak) [.bo (.str x),.pu (.int (i:Int)),.pu (.str (ji x)),.no,.no,.no]=.nx [.bo (.str x),.pu (.int (i:Int)),.pu (.str (ji x)),.ow [],.no,.no]:=rfl;rw[cb,s2];dsimp only;rw[cb,s3];dsimp only;have c4:g2 i9 (aa 2) (gC (.str "")) [.bo (.str x),.pu (.int (i:Int)),.pu (.str (ji x)),.ow [],.no,.no]=.ok (.bl (!decide (ji x=""))):=by
    show Res.of (i9 (.str (ji x)) (.str ""))=_;rw[(rn hi ⟨by decide,λc hc=>by cases hc⟩).2];rfl
   have fin:∀(ts:List Tm)(w4 w5:Sl),b9 (k8 (ae (jx (aa 0) none (some (dh 1))) (ae (g1 gf (aa 3)) ak))) [.bo (.str x),.pu (.int (i:Int)),.pu (.str (ji x)),.ow (ts.map Tm.D),w4,w5]=.rt (At.D ⟨pA x brk,ts⟩):=λts w4 w5=>by
    have z:jx (aa 0) none (some (dh 1)) [.bo (.str x),.pu (.int (i:Int)),.pu (.str (ji x)),.ow (ts.map Tm.D),w4,w5]=Res.of (if x.length<=aD then some (Pu.D.str (bO x none (some (i:Int))))else none):=rfl;have e:bO x none (some (i:Int))=pA x brk:=by
     rw[W6 (by lia),<-a2,G8]
    rw[aB (fg h),e]at z;simp[z,At.D]
   rw[cb,oi,c4,bf];unfold Ct
   by_cases he:ji x=cX
   ·have he':ji x="":=he;rw[decide_eq_true he',aB he];show cj (b9 _ [.bo (.str x),.pu (.int (i:Int)),.pu (.str (ji x)),.ow (([]:List Tm).map Tm.D),.no,.no])=_;rw[fin];rfl
   ·have he':¬ji x="":=he;rw[decide_eq_false he',aG he];have hs:k6 (br 4) (bc (lg c9 (aa 2) (gC (.str ", ")))) (CI n) [.bo (.str x),.pu (.int (i:Int)),.pu (.str (ji x)),.ow [],.no,.no]=turns (br 4) (CI n) ((bF (ji x) xr).map Pu.D.str) [.bo (.str x),.pu (.int (i:Int)),.pu (.str (ji x)),.ow (([]:List Tm).map Tm.D),.no,.no]:=by
     refine jr ?_;have:lg c9 (aa 2) (gC (.str ", ")) [.bo (.str x),.pu (.int (i:Int)),.pu (.str (ji x)),.ow [],.no,.no]=Res.of (c9 (.str (ji x)) (.str xr)):=rfl;rw[G7,this,xt hi (by decide)];rfl
    have hl:=Nd n (.bo (.str x)) (.pu (.int (i:Int))) (.pu (.str (ji x))) (bF (ji x) xr) [] .no .no (λp hp=>nr hi hp) (by
     have:=kS (ji x) xr;have:=hi.1;show 0+_<=_
     lia)
    show cj (match k6 (br 4) (bc (lg c9 (aa 2) (gC (.str ", ")))) (CI n) [.bo (.str x),.pu (.int (i:Int)),.pu (.str (ji x)),.ow [],.no,.no]with
     |.nx δ'=>_
     |o=>o)=_
    rw[hs];unfold ju;cases et:ij rT (bF (ji x) xr)with
    |none=>
     rw[et]at hl;rw[hl];rfl
    |some ts=>
     rw[et]at hl;obtain⟨w4,w5,e⟩:=hl;rw[e];show cj (b9 _ _)=_;rw[mD,fin];rfl
  ·rw[decide_eq_false hc,aG hc];rfl
def fk:Str:=" :- "
def p8:Str:=")"
def kf(x:Str):Str:=S ((sg (pC x fk)).dropLast)
def ib(l:List Str):List Str:=(l.dropLast.map λp=>p++p8)++[l.getLastD cX]
def mf(x:Str):Option (List Tm×List At):=match at? x fk with
 |none=>none
 |some _=>if S ((sg x).drop (x.length - 1))="." then
   (a8 (pA x fk)).bind λh=>(ij a8 (ib (bF (kf x) e8))).bind λas=>if h.nm="ask" then some (h.ts,as)else none else none
def Ow{t:Tm}(h:t.good):wy 0 t.D:=by
 cases t with
 |s x=>exact⟨.str x,rfl,nu (sd h),aO _⟩
 |i z=>exact Wb z
def Mm{a:At}(h1:Asc a.nm)(h2:∀t∈a.ts,t.good):wy 2 a.D:=uy λd hd=>by
 rcases List.mem_cons.mp hd with rfl|hd
 ·exact⟨.str a.nm,rfl,wa h1,cA _⟩
 ·rw[List.mem_singleton.mp hd];refine uy λd hd=>?_;obtain⟨t,ht,rfl⟩:=List.mem_map.mp hd;exact Ow (h2 t ht)
theorem zo:∀(l:List (Option At)),(∀a,some a∈l->wy 2 a.D)->∃ps,fh (l.map tw)=some ps/\bB ps=true/\(ps.any λy=>cC y .none)=l.any eV
 |[],_=>⟨[],rfl,rfl,rfl⟩
 |o::l,h=>by
  obtain⟨ps,f1,f2,f3⟩:=zo l λa ha=>h a (aF _ ha);have k:∃p,gj (tw o)=some p/\dI p=true/\cC p .none=o.isNone:=by
   cases o with
   |none=>exact⟨.none,rfl,rfl,rfl⟩
   |some a=>
    obtain⟨p,e1,e2,e3⟩:=h a aH;refine⟨p,e1,e2,?_⟩;have q:gj (.tup [.str a.nm,.tup (a.ts.map Tm.D)])=some p:=e1;unfold gj at q;cases e:fh [.str a.nm,.tup (a.ts.map Tm.D)]with
    |none=>rw[e]at q;cases q
    |some qs=>rw[e]at q;cases q;rfl
  obtain⟨p,e1,e2,e3⟩:=k;refine⟨p::ps,by rw[aU];unfold fh;rw[e1,f1],?_,?_⟩
  ·show(dI p && bB ps)=true;rw[e2,f2];rfl
  ·rw[dQ,dQ,e3,f3]
def Yg{l:List (Option At)}(h:∀a,some a∈l->wy 2 a.D):j0 .non (.lst (l.map tw))=some (.bl (l.any eV)):=by
 obtain⟨ps,f1,f2,f3⟩:=zo l h;have e:z6 .non (.lst (l.map tw))=some (l.any eV):=by
  show(match fh (l.map tw),gj .non with
   |some ps,some q=>if bB ps && bV q then some (ps.any λy=>cC y q)else none
   |_,_=>none)=_
  rw[f1];show(if bB ps && bV .none then some (ps.any λy=>cC y .none)else none)=_;rw[f2,si (p:=.none) rfl (cA _),f3];rfl
 show(z6 .non (.lst (l.map tw))).map Pu.D.bl=_;rw[e];rfl
theorem Hc{α β:Type}(f:α->Option β):∀l:List α,((l.map f).any eV=true/\ij f l=none)\/∃bs,(l.map f).any eV=false/\ij f l=some bs/\l.map f=bs.map some
 |[]=>.inr ⟨[],rfl,rfl,rfl⟩
 |a::l=>by
  unfold ij;rw[aU,dQ];cases e:f a with
  |none=>exact .inl ⟨rfl,rfl⟩
  |some b=>
   rcases Hc f l with ⟨h1,h2⟩|⟨bs,h1,h2,h3⟩
   ·exact .inl ⟨by rw[h1];rfl,by rw[h2];rfl⟩
   ·exact .inr ⟨b::bs,by rw[h1];rfl,by rw[h2];rfl,by rw[h3];rfl⟩
def um{x:Str}{a:At}(h:Asc x)(e:a8 x=some a):Asc a.nm/\(∀t∈a.ts,t.good)/\a.ts.length<=x.length+2:=by
 unfold a8 at e;cases ea:at? x brk with
 |none=>rw[ea]at e;cases e
 |some i=>
  rw[ea]at e;dsimp only at e;split at e
  ·cases eh:Ct (ji x)with
   |none=>rw[eh]at e;cases e
   |some ts=>
    rw[eh]at e;cases e;obtain⟨a1,a2,a3,a4⟩:=oq ea;refine⟨(uv h).1,?_⟩;unfold Ct at eh;split at eh
    ·cases eh;exact⟨λt ht=>(by cases ht),cA _⟩
    ·obtain⟨g1,g2⟩:=sj eh;refine⟨g1,bC g2 (Nat.add_le_add_right ?_ 2)⟩;unfold ji;rw[<-ah,p7,fP,a3,bY,ah]
     lia
  ·cases e
def Sj(ds:List Pu.D)(h:1<=ds.length):Kk ds none (some (-1))=ds.dropLast:=by
 unfold Kk HT.j6;dsimp only;rw[aB (by decide),hG,kE,show(-1+(ds.length:Int)).toNat=ds.length - 1 by lia,<-gL]
def Yp(ds:List Pu.D)(h:1<=ds.length):ar (.lst ds) (.int (-1))=some (ds.getLastD .non):=by
 show L2.atI ds (-1)=_;unfold L2.atI L2.CK;rw[aG (by decide),aB (by lia),show(-1+(ds.length:Int)).toNat=ds.length - 1 by lia];show ds[ds.length - 1]?=_;rw[<-List.getLast?_eq_getElem?];cases ds with
 |nil=>simp at h
 |cons d r=>simp[List.getLast?_cons,fE]
def Jm{x:Str}(h:Asc x):Asc (kf x)/\(kf x).length<=x.length:=by
 unfold kf;have hp:=(uv (y:=fk) h).2;have hl:(pC x fk).length<=x.length:=by
  obtain⟨m,_,⟨e,_⟩|⟨e1,e2,_⟩⟩:=jj x fk
  ·have hl:=congrArg lP e;rw[bg,bg]at hl
   lia
  ·rw[e2];exact cA _
 refine⟨⟨?_,λc hc=>hp.2 c (jQ _ (by rwa [p7]at hc))⟩,?_⟩
 ·rw[<-ah,p7,fP,ah];have:=hp.1
  lia
 ·rw[<-ah,p7,fP,ah]
  lia
def Ms{p:Str}(h:Asc p)(hl:p.length<=900):Asc (p++p8):=h.app ⟨by decide,by decide⟩ (by
 have:p8.length=1:=by decide
 lia)
def Qc(n:Nat){x:Str}(h:Asc x)(hx:x.length<=900)(v0 v1 v2 v4:Sl):
  g2 aj (cm (bc (jx (aa 3) none (some (g1 dj (gC (.int 1)))))) [] (gC (.bl true)) (ao (af (tab (n+2)) cq) (ae (g2 aj (aa 0) (gC (.str ")"))) ak))) (ie (ae (ao (af (tab (n+2)) cq) (ae (g2 ar (aa 3) (g1 dj (gC (.int 1)))) ak)) ak))
   [v0,v1,v2,.pu (.lst ((bF x e8).map Pu.D.str)),v4]=.ok (.lst (((ib (bF x e8)).map a8).map tw)):=by
 have hp:=split_pos x e8;have hle:=kS x e8;have pas:∀p∈bF x e8,Asc p/\p.length<=900:=λp q=>by
  refine⟨nr h q,?_⟩;have:=(ui (y:=e8) _ p q).2;rw[eB]at this
  lia
 generalize bF x e8=ps at hp hle pas⊢;have hw:bc (jx (aa 3) none (some (g1 dj (gC (.int 1))))) [v0,v1,v2,.pu (.lst (ps.map Pu.D.str)),v4]=.ok (ps.dropLast.map Pu.D.str):=by
  have z:jx (aa 3) none (some (g1 dj (gC (.int 1)))) [v0,v1,v2,.pu (.lst (ps.map Pu.D.str)),v4]=.ok (.lst (Kk (ps.map Pu.D.str) none (some (-1)))):=rfl;rw[G7,z,Sj _ (by rw[aJ];exact hp),<-List.map_dropLast];rfl
 have hc:=uc (ix:=[]) (g:=ao (af (tab (n+2)) cq) (ae (g2 aj (aa 0) (gC (.str ")"))) ak)) (f:=Pu.D.str) (f':=λp=>tw (a8 (p++p8))) hw (by rw[fP];lia) λp hp'=>by
  obtain⟨p1,p2⟩:=pas p (jQ _ hp');have e:=wm n (Ms p1 p2);have ea:aj (.str p) (.str ")")=some (.str (p++p8)):=E8 (by
   have:(")":Str).length=1:=by decide
   lia)
  rw[Gz];simp[de,ea,e]
 have hcl:∃qs q,ps=qs++[q]:=by
  rcases List.eq_nil_or_concat ps with z|⟨qs,q,z⟩
  ·rw[z]at hp;simp at hp
  ·exact⟨qs,q,by rw[z,List.concat_eq_append]⟩
 obtain⟨qs,q,rfl⟩:=hcl;have e2:=wm n (pas q (by simp)).1;have hi:ar (.lst ((qs++[q]).map Pu.D.str)) (.int (-1))=some (.str q):=by
  rw[Yp _ (by rw[aJ];exact hp)];simp[fE]
 rw[fQ]at hc;have hcc:ib (qs++[q])=(qs.map λp=>p++p8)++[q]:=by
  unfold ib;rw[fQ];simp[fE]
 have hg:ie (ae (ao (af (tab (n+2)) cq) (ae (g2 ar (aa 3) (g1 dj (gC (.int 1)))) ak)) ak) [v0,v1,v2,.pu (.lst ((qs++[q]).map Pu.D.str)),v4]=.ok (.lst [tw (a8 q)]):=by
  have hn:dj (.int 1)=some (.int (-1)):=rfl;have hi':=hi;simp only[eL,aU,hV]at hi';simp[hn,hi',e2]
 rw[u5,hc,hg,hcc];show Res.of (aj (.lst (qs.map λp=>tw (a8 (p++p8)))) (.lst [tw (a8 q)]))=_;have ad:aj (.lst (qs.map λp=>tw (a8 (p++p8)))) (.lst [tw (a8 q)])=some (.lst ((qs.map λp=>tw (a8 (p++p8)))++[tw (a8 q)])):=aB (show _<=16777216 by
  rw[aJ];simp at hle⊢
  lia)
 rw[ad,eL,eL,eF,eF];rfl
def Kh{x:Str}(h:Asc x)(hx:x.length<=900):(ib (bF x e8)).length<=910/\∀p∈ib (bF x e8),Asc p/\p.length<=901:=by
 have hp:=split_pos x e8;have hle:=kS x e8;have pas:∀p∈bF x e8,Asc p/\p.length<=900:=λp q=>by
  refine⟨nr h q,?_⟩;have:=(ui (y:=e8) _ p q).2;rw[eB]at this
  lia
 generalize bF x e8=ps at hp hle pas⊢;have hcl:∃qs q,ps=qs++[q]:=by
  rcases List.eq_nil_or_concat ps with z|⟨qs,q,z⟩
  ·rw[z]at hp;simp at hp
  ·exact⟨qs,q,by rw[z,List.concat_eq_append]⟩
 obtain⟨qs,q,rfl⟩:=hcl;have hcc:ib (qs++[q])=(qs.map λp=>p++p8)++[q]:=by
  unfold ib;rw[fQ];simp[fE]
 rw[hcc];refine⟨by simp at hle⊢;lia,λp hp=>?_⟩;rcases List.mem_append.mp hp with hp|hp
 ·obtain⟨r,hr,rfl⟩:=List.mem_map.mp hp;obtain⟨r1,r2⟩:=pas r (dM _ hr);refine⟨Ms r1 r2,?_⟩;have:p8.length=1:=by decide
  rw[bg]
  lia
 ·rw[List.mem_singleton.mp hp];obtain⟨r1,r2⟩:=pas q (by simp);exact⟨r1,by lia⟩
def Mx{x:Str}{i:Nat}(ea:at? x fk=some i)(hd:S ((sg x).drop (x.length - 1))="."):i+5<=x.length:=by
 obtain⟨a1,a2,a3,a4⟩:=oq ea;have bl:fk.length=4:=by decide
 rw[bl]at a1 a3;rcases lU (i+4) x.length with h|h
 ·exact h
 ·exfalso;have hl:x.length=i+4:=by lia
  have es:sg fk=[32,58,45]++[32]:=by decide+kernel
  have e:sg x=((sg x).take i++[32,58,45])++[32]:=by
   conv=>lhs;rw[a4]
   rw[aq,aq,a2,a3,List.drop_of_length_le (by rw[ah];lia),es,cM,<-aV]
  have q:(sg x).drop (x.length - 1)=[32]:=by
   rw[e];refine List.drop_left' ?_;rw[aI,cN,ah];simp
   lia
  rw[q]at hd;exact absurd hd (by decide+kernel)
def Yu(n:Nat):En->Out:=(ba (ml (m7 (g2 qr (aa 2) (gC .non)) (m7 (g2 j0 (gC .non) (aa 4)) (m7 (g2 i9 (g2 ar (aa 2) (gC (.int 0))) (gC (.str "ask"))) (fy (dq (ao (af (tab (n+3)) a9) (ae (k8 (ae (g2 ar (aa 2) (gC (.int 1))) (ae (g1 gf (aa 4)) ak))) ak))))))) (b9 (gC .non)) fc)
 (b9 (k8 (ae (g2 ar (aa 2) (gC (.int 1))) (ae (g1 gf (aa 4)) ak)))))
def Ng{x:Str}(h:Asc x)(i:Nat):m7 (g2 gz (aa 1) (gC (.int 0))) (g2 i9 (jx (aa 0) (some (g1 dj (gC (.int 1)))) none) (gC (.str "."))) [.bo (.str x),.pu (.int (i:Int)),.no,.no,.no]=.ok (.bl (!decide (S ((sg x).drop (x.length - 1))="."))):=by
 have q1:g2 gz (aa 1) (gC (.int 0)) [.bo (.str x),.pu (.int (i:Int)),.no,.no,.no]=.ok (.bl false):=by
  show Res.ok (.bl (decide ((i:Int)<0)))=_;rw[decide_eq_false (by lia)]
 have q2:g2 i9 (jx (aa 0) (some (g1 dj (gC (.int 1)))) none) (gC (.str ".")) [.bo (.str x),.pu (.int (i:Int)),.no,.no,.no]=.ok (.bl (!decide (S ((sg x).drop (x.length - 1))="."))):=by
  have z:jx (aa 0) (some (g1 dj (gC (.int 1)))) none [.bo (.str x),.pu (.int (i:Int)),.no,.no,.no]=Res.of (if x.length<=aD then some (Pu.D.str (bO x (some (-1)) none))else none):=rfl;rw[aB (fg h),O4]at z;rw[u5,z];show Res.of (i9 (.str (S ((sg x).drop (x.length - 1)))) (.str "."))=_;rw[(rn (Hq h _) ⟨by decide,by decide⟩).2];rfl
 simp only[Cp,q1,q2,cc]
def T1(n:Nat){x:Str}{i:Nat}(h:Asc x)(hx:x.length<=900)(ea:at? x fk=some i)(hd:S ((sg x).drop (x.length - 1))="."):af (tab (n+4)) b8 [.str x]=cj (Yu n [.bo (.str x),.pu (.int (i:Int)),.pu (tw (a8 (pA x fk))),.pu (.lst ((bF (kf x) e8).map Pu.D.str)),.pu (.lst (((ib (bF (kf x) e8)).map a8).map tw))]):=by
 rw[so];show cj (iy (n+3) [.bo (.str x),.no,.no,.no,.no])=_;unfold iy;have s1:cu 1 (lg n8 (aa 0) (gC (.str " :- "))) [.bo (.str x),.no,.no,.no,.no]=.nx [.bo (.str x),.pu (.int (iU x fk)),.no,.no,.no]:=rfl;have fa:iU x fk=(i:Int):=by rw[Fy,ea]
 rw[fa]at s1;obtain⟨a1,a2,a3,a4⟩:=oq ea;have bl:fk.length=4:=by decide
 rw[bl]at a1 a3;have c1:=Ng h i;rw[decide_eq_true hd]at c1;have h5:=Mx ea hd;have hpa:=(uv (y:=fk) h).1;have hr:=Jm h;have e2:=wm (n+1) hpa;have s2:cu 2 (ao (af (tab (n+3)) cq) (ae (jx (aa 0) none (some (dh 1))) ak)) [.bo (.str x),.pu (.int (i:Int)),.no,.no,.no]=.nx [.bo (.str x),.pu (.int (i:Int)),.pu (tw (a8 (pA x fk))),.no,.no]:=by
  have z:jx (aa 0) none (some (dh 1)) [.bo (.str x),.pu (.int (i:Int)),.no,.no,.no]=Res.of (if x.length<=aD then some (Pu.D.str (bO x none (some (i:Int))))else none):=rfl;have e:bO x none (some (i:Int))=pA x fk:=by
   rw[W6 (by lia),<-a2,G8]
  rw[aB (fg h),e]at z;simp[z,e2]
 have s3:cu 3 (lg c9 (jx (aa 0) (some (g2 aj (aa 1) (gC (.int 4)))) (some (g1 dj (gC (.int 1))))) (gC (.str "), "))) [.bo (.str x),.pu (.int (i:Int)),.pu (tw (a8 (pA x fk))),.no,.no]=.nx [.bo (.str x),.pu (.int (i:Int)),.pu (tw (a8 (pA x fk))),.pu (.lst ((bF (kf x) e8).map Pu.D.str)),.no]:=by
  have z:jx (aa 0) (some (g2 aj (aa 1) (gC (.int 4)))) (some (g1 dj (gC (.int 1)))) [.bo (.str x),.pu (.int (i:Int)),.pu (tw (a8 (pA x fk))),.no,.no]=Res.of (if x.length<=aD then some (Pu.D.str (bO x (some ((i:Int)+4)) (some (-1))))else none):=rfl;have e:bO x (some ((i:Int)+4)) (some (-1))=kf x:=by
   have e:=Mc (x:=x) (a:=i+4) (b:=1) (by lia) (aO _);refine Eq.trans e ?_;unfold kf;rw[a3,gL,bY,ah,show x.length - 1 - (i+4)=x.length - (i+4) - 1 by lia]
  rw[aB (fg h),e]at z;have zz:lg c9 (jx (aa 0) (some (g2 aj (aa 1) (gC (.int 4)))) (some (g1 dj (gC (.int 1))))) (gC (.str "), ")) [.bo (.str x),.pu (.int (i:Int)),.pu (tw (a8 (pA x fk))),.no,.no]=.ok (.lst ((bF (kf x) e8).map Pu.D.str)):=by
   unfold lg;rw[z];show Res.of (c9 (.str (kf x)) (.str e8))=_;rw[xt hr.1 (by decide)];rfl
  rw[mq,zz];rfl
 have s4:=Qc (n+1) hr.1 (by lia) (.bo (.str x)) (.pu (.int (i:Int))) (.pu (tw (a8 (pA x fk)))) .no;rw[cb,s1];dsimp only;have s0:ml (m7 (g2 gz (aa 1) (gC (.int 0))) (g2 i9 (jx (aa 0) (some (g1 dj (gC (.int 1)))) none) (gC (.str ".")))) (b9 (gC .non)) fc [.bo (.str x),.pu (.int (i:Int)),.no,.no,.no]=.nx [.bo (.str x),.pu (.int (i:Int)),.no,.no,.no]:=by
  rw[oi,c1];rfl
 rw[cb,s0];dsimp only;rw[cb,s2];dsimp only;rw[cb,s3];dsimp only;rw[cb,mq,s4,bf];rfl
def Nh(n:Nat){x:Str}(h:Asc x)(hn:at? x fk=none\/¬S ((sg x).drop (x.length - 1))="."):af (tab (n+4)) b8 [.str x]=.ok .non:=by
 rw[so];show cj (iy (n+3) [.bo (.str x),.no,.no,.no,.no])=_;unfold iy;have s1:cu 1 (lg n8 (aa 0) (gC (.str " :- "))) [.bo (.str x),.no,.no,.no,.no]=.nx [.bo (.str x),.pu (.int (iU x fk)),.no,.no,.no]:=rfl;rw[Fy]at s1;rw[cb,s1];cases ea:at? x fk with
 |none=>rfl
 |some i=>
  have hd:=hn.resolve_left (by rw[ea];exact λz=>by cases z);have c1:=Ng h i;rw[decide_eq_false hd]at c1;dsimp only;rw[cb,oi,c1];rfl
def Tx(n:Nat)(v0 v1 v3 v4:Sl):Yu n [v0,v1,.pu (tw none),v3,v4]=.rt .non:=by
 unfold Yu;simp[tw,qi]
def Tz(n:Nat){a:At}{l:List (Option At)}(ha:Asc a.nm)(hl:∀b,some b∈l->wy 2 b.D)(v0 v1 v3:Sl):
  (l.any eV=true->Yu n [v0,v1,.pu (tw (some a)),v3,.pu (.lst (l.map tw))]=.rt .non)/\
  (l.any eV=false->¬a.nm="ask"->Yu n [v0,v1,.pu (tw (some a)),v3,.pu (.lst (l.map tw))]=.rt .non)/\
  (∀as:List At,l=as.map some->a.nm="ask"->∀b,af (tab (n+3)) a9 [g9 a.ts as]=.ok (.bl b)->Yu n [v0,v1,.pu (tw (some a)),v3,.pu (.lst (l.map tw))]=.rt (if b then g9 a.ts as else .non)):=by
 have hin:Ge .non (.lst (l.map tw))=some (.bl (l.any eV)):=Yg hl;have hne:=(rn (x:=a.nm) (y:="ask") ha ⟨by decide,by decide⟩).2;have e0:tw (some a)=.tup [.str a.nm,.tup (a.ts.map Tm.D)]:=rfl;refine⟨λh=>?_,λh hn=>?_,λas e hn b hb=>?_⟩
 ·rw[h]at hin;rw[e0];unfold Yu;simp[qi,hin]
 ·rw[h]at hin;rw[decide_eq_false hn]at hne;rw[e0];unfold Yu;simp[qi,hin,hne]
 ·have h:l.any eV=false:=by rw[e];simp
  rw[h]at hin;rw[decide_eq_true hn]at hne;rw[e0];have ee:l.map tw=as.map At.D:=by rw[e,eF];rfl
  rw[ee]at hin⊢;unfold g9 at hb⊢;unfold Yu;generalize as.map At.D=W at hin hb⊢;cases b
  ·simp[qi,hin,hne,hb]
  ·simp[qi,hin,hne,hb]
def K5(n:Nat){x:Str}(h:Asc x)(hx:x.length<=900):match mf x with
  |none=>af (tab (n+4)) b8 [.str x]=.ok .non
  |some (hd,as)=>Got hd as/\∀b,af (tab (n+3)) a9 [g9 hd as]=.ok (.bl b)->af (tab (n+4)) b8 [.str x]=.ok (if b then g9 hd as else .non):=by
 unfold mf;cases ea:at? x fk with
 |none=>exact Nh n h (.inl ea)
 |some i=>
  dsimp only
  by_cases hd:S ((sg x).drop (x.length - 1))="."
  ·rw[aB hd,T1 n h hx ea hd];have hpa:=(uv (y:=fk) h).1;have hpl:(pA x fk).length<=900:=by
    obtain⟨a1,a2,_,_⟩:=oq ea;rw[<-ah,a2,cN,ah]
    lia
   obtain⟨hr1,hr2⟩:=Jm h;obtain⟨k1,k2⟩:=Kh hr1 (by lia);cases eh:a8 (pA x fk)with
   |none=>
    rw[Tx];rfl
   |some a=>
    obtain⟨g1,g2,g3⟩:=um hpa eh;have sm:∀b,some b∈(ib (bF (kf x) e8)).map a8->wy 2 b.D:=λb hb=>by
     obtain⟨p,hp,e⟩:=List.mem_map.mp hb;obtain⟨q1,q2,_⟩:=um (k2 p hp).1 e;exact Mm q1 q2
    obtain⟨t1,t2,t3⟩:=Tz n g1 sm (.bo (.str x)) (.pu (.int (i:Int))) (.pu (.lst ((bF (kf x) e8).map Pu.D.str)));dsimp only[eX];rcases Hc a8 (ib (bF (kf x) e8))with ⟨w1,w2⟩|⟨as,w1,w2,w3⟩
    ·rw[w2];dsimp only[Option.bind_none];rw[t1 w1];rfl
    ·rw[w2];dsimp only[eX]
     by_cases hn:a.nm="ask"
     ·rw[aB hn];dsimp only;refine⟨⟨g2,by lia,?_,λb hb=>?_⟩,λb hb=>?_⟩
      ·rw[(p9 w2).1];lia
      ·obtain⟨p,hp,e⟩:=(p9 w2).2 b hb;obtain⟨q1,q2,q3⟩:=um (k2 p hp).1 e;have:=(k2 p hp).2;exact⟨q1,q2,by lia⟩
      ·rw[t3 as w3 hn b hb];rfl
     ·rw[aG hn];dsimp only;rw[t2 w1 hn];rfl
  ·rw[aG hd];exact Nh n h (.inr hd)
def l8(n:Nat){d:Pu.D}(h:af (tab (n+7)) jg [d]=.er "NoText"):af (tab (n+8)) ft [d]=.ok (.bl true):=by
 rw[Dc];have k1:K3 (tab (n+7+1)) "NoText" 1 1 "NoText" [.bo d,.pu (.int 0),.no]=.nx [.bo d,.pu (.int 1),.no]:=by
  unfold K3;rw[aB (by kernel_rfl)];rfl
 have k2:Bo (tab (n+7+1)) "AskError" 1 2 "NoText" [.bo d,.pu (.int 1),.no]=.nx [.bo d,.pu (.int 2),.no]:=by
  unfold Bo;rw[aB (by kernel_rfl)];rfl
 simp[vq,Gk,h,k1,k2]
def ux(n:Nat){d:Pu.D}(h:bq "str" d=some (.bl false)):af (tab (n+7)) jg [d]=.er "NoText":=by
 rw[Kp];simp[yd,h,iu]
def FO(n:Nat)(c:Int):∃d,ar (.lst [.non,.int 2,.lst [.str "ask()"],.tup [.tup [],.tup []],.bl true]) (.int (c % 5))=some d/\af (tab (n+8)) ft [d]=.ok (.bl true):=by
 have:c % 5=0\/c % 5=1\/c % 5=2\/c % 5=3\/c % 5=4:=by lia
 rcases this with h|h|h|h|h<;>rw[h]
 ·exact⟨.non,rfl,l8 n (ux n rfl)⟩
 ·exact⟨.int 2,rfl,l8 n (ux n rfl)⟩
 ·exact⟨.lst [.str "ask()"],rfl,l8 n (ux n rfl)⟩
 ·exact⟨.tup [.tup [],.tup []],rfl,l8 n (ux n rfl)⟩
 ·exact⟨.bl true,rfl,l8 n (ux n rfl)⟩
def Kc(r:Res)(k:Nat):Prop:=∃x,r=.ok (.str x)/\Asc x/\x.length<=k
def k7{a b:En->Res}{U:En}{k l:Nat}(ha:Kc (a U) k)(hb:Kc (b U) l)(h:k+l<=10000):Kc (g2 aj a b U) (k+l):=by
 obtain⟨x,ex,ax,lx⟩:=ha;obtain⟨y,ey,ay,ly⟩:=hb;refine⟨x++y,?_,ax.app ay (by lia),by rw[bg];lia⟩;rw[u5,ex,ey];show Res.of (aj (.str x) (.str y))=_;rw[E8 (by lia)];rfl
def Eu{x:Str}(h:Asc x)(l u:Option Int):Asc (bO x l u)/\(bO x l u).length<=x.length:=by
 have hl:=Txt.slice_le x l u;refine⟨⟨bC hl h.1,λc hc=>?_⟩,hl⟩;unfold bO at hc;split at hc
 ·exact h.2 c hc
 ·have hc:c∈List.filterMap (λi=>x.cps[i]?) (eR l u 1 x.length):=by simpa[sg]using hc
  obtain⟨i,_,e⟩:=List.mem_filterMap.mp hc;exact h.2 c (Array.mem_toList_iff.mpr (Array.mem_of_getElem? e))
def Ck{x:Str}(h:Asc x){r:Res}{l u:Option Int}{k:Nat}(hk:x.length<=k)(e:r=Res.of (if x.length<=aD then some (Pu.D.str (bO x l u))else none)):Kc r k:=by
 rw[aB (fg h)]at e;exact⟨_,e,(Eu h l u).1,bC (Eu h l u).2 hk⟩
def BL{l:List Str}{r:Res}{i:Int}{k:Nat}(hi:0<=i/\i<l.length)(ha:∀p∈l,Asc p/\p.length<=k)(e:r=Res.of (ar (.lst (l.map Pu.D.str)) (.int i))):Kc r k:=by
 obtain⟨j,rfl⟩:∃j:Nat,i=(j:Int):=⟨i.toNat,by lia⟩;have hj:j<l.length:=by lia
 have ix:ar (.lst (l.map Pu.D.str)) (.int (j:Int))=some (.str l[j]):=L2.Aj (by rw[bW,dB hj];rfl);rw[ix]at e;obtain⟨h1,h2⟩:=ha l[j] (List.getElem_mem hj);exact⟨l[j],e,h1,h2⟩
def Le{r:Res}{k:Nat}(h:Kc r k):∃x,Asc x/\x.length<=k/\cj (r.then Out.rt)=.ok (.str x):=by
 obtain⟨x,e,a,l⟩:=h;exact⟨x,a,l,by rw[e];rfl⟩
instance (x:Str):Decidable (Asc x):=by unfold Asc;infer_instance
def On:List Str:=[" ",",","(",")",".",":","-","0","9","a","A","_","\n"]
def vj{l:List Str}{i:Int}{k:Nat}(hi:0<=i/\i<l.length)(ha:∀p∈l,Asc p/\p.length<=k):∃t,ar (.lst (l.map Pu.D.str)) (.int i)=some (.str t)/\Asc t/\t.length<=k:=by
 obtain⟨t,et,h1,h2⟩:=BL (r:=Res.of (ar (.lst (l.map Pu.D.str)) (.int i))) hi ha rfl;refine⟨t,?_,h1,h2⟩;cases q:ar (.lst (l.map Pu.D.str)) (.int i)with
 |none=>rw[q]at et;cases et
 |some d=>rw[q]at et;cases et;rfl
def We(n:Nat){x:Str}(h:Asc x)(hx:x.length<=440)(w c:Int)(h2:w<2)(hc:0<=c):∃y,Asc y/\y.length<=900/\af (tab (n+1)) fj [.str x,.int w,.int c]=.ok (.str y):=by
 rw[m4];show∃y,Asc y/\y.length<=900/\cj (fi n [.bo (.str x),.bo (.int w),.bo (.int c),.no,.no,.no])=.ok (.str y);have hlen:bj (.str x)=some (.int (x.length:Nat)):=aB (fg h);have m1:=sy c ((x.length:Int)+1) (by lia);have m2:=sy (c / 7) 13 (by decide);have d7:mw (.int c) (.int 7)=some (.int (c / 7)):=by
  show(if 0<(7:Int)/\(7:Int)<1073741824 then some (Pu.D.int (c / 7))else none)=_;rw[aB (by decide)]
 have lt:gz (.int w) (.int 2)=some (.bl true):=by
  show some (Pu.D.bl (decide (w<2)))=_;rw[decide_eq_true h2]
 obtain⟨t,et,at1,lt1⟩:=vj (l:=On) (i:=c / 7 % 13) (k:=1) ⟨by lia,by show _<(13:Int);lia⟩ (by decide+kernel);unfold On at et;simp only[aU,hV]at et;have s3:cu 3 (g2 ig (aa 2) (g2 aj (g1 bj (aa 0)) (gC (.int 1)))) [.bo (.str x),.bo (.int w),.bo (.int c),.no,.no,.no]=.nx [.bo (.str x),.bo (.int w),.bo (.int c),.pu (.int (c % ((x.length:Int)+1))),.no,.no]:=by
  have ad:aj (.int (x.length:Nat)) (.int 1)=some (.int ((x.length:Int)+1)):=rfl;simp[hlen,ad,m1]
 generalize c % ((x.length:Int)+1)=p at s3;have a1:Kc (g2 aj (g2 aj (jx (aa 0) none (some (dh 3))) (aa 4)) (jx (aa 0) (some (dh 3)) none) [.bo (.str x),.bo (.int w),.bo (.int c),.pu (.int p),.pu (.str t),.no]) (440+1+440):=
  k7 (k7 (Ck h (u:=some p) hx rfl) ⟨t,rfl,at1,lt1⟩ (by decide)) (Ck h (l:=some p) hx rfl) (by decide)
 obtain⟨y,y1,y2,y3⟩:=Le a1;refine⟨y,y1,by lia,?_⟩;unfold fi;rw[cb,s3];dsimp only;rw[<-y3];have c2:g2 gz (aa 1) (gC (.int 2)) [.bo (.str x),.bo (.int w),.bo (.int c),.pu (.int p),.no,.no]=.ok (.bl true):=by
  show Res.of (gz (.int w) (.int 2))=_;rw[lt];rfl
 rw[cb,oi,c2,bf];dsimp only;have s4:∀G:En->Out,ba (cu 4 (g2 ar (ie (ae (gC (.str " ")) (ae (gC (.str ",")) (ae (gC (.str "(")) (ae (gC (.str ")")) (ae (gC (.str ".")) (ae (gC (.str ":")) (ae (gC (.str "-")) (ae (gC (.str "0")) (ae (gC (.str "9")) (ae (gC (.str "a")) (ae (gC (.str "A")) (ae (gC (.str "_")) (ae (gC (.str "\n")) ak)))))))))))))) (g2 ig (g2 mw (aa 2) (gC (.int 7))) (gC (.int 13))))) G [.bo (.str x),.bo (.int w),.bo (.int c),.pu (.int p),.no,.no]=G [.bo (.str x),.bo (.int w),.bo (.int c),.pu (.int p),.pu (.str t),.no]:=λG=>by
  simp[d7,m2,et]
 rw[s4,oj];cases (g2 aj (g2 aj (jx (aa 0) none (some (dh 3))) (aa 4)) (jx (aa 0) (some (dh 3)) none) [.bo (.str x),.bo (.int w),.bo (.int c),.pu (.int p),.pu (.str t),.no])<;>rfl
def IU{x:Str}(h:Asc x)(w c:Int):cu 3 (g2 ig (aa 2) (g2 aj (g1 bj (aa 0)) (gC (.int 1)))) [.bo (.str x),.bo (.int w),.bo (.int c),.no,.no,.no]=.nx [.bo (.str x),.bo (.int w),.bo (.int c),.pu (.int (c % ((x.length:Int)+1))),.no,.no]:=by
 have hlen:bj (.str x)=some (.int (x.length:Nat)):=aB (fg h);have m1:=sy c ((x.length:Int)+1) (by lia);have ad:aj (.int (x.length:Nat)) (.int 1)=some (.int ((x.length:Int)+1)):=rfl;simp[hlen,ad,m1]
def JR{w k:Int}{U:List Sl}{d:Sl}(b:Bool)(hb:decide (w<k)=b):g2 gz (aa 1) (gC (.int k)) (d::.bo (.int w)::U)=.ok (.bl b):=by
 show Res.of (gz (.int w) (.int k))=_;show Res.ok (.bl (decide (w<k)))=_;rw[hb]
def Wf(n:Nat){x:Str}(h:Asc x)(hx:x.length<=440)(w c:Int)(h2:2<=w)(h4:w<4):∃y,Asc y/\y.length<=900/\af (tab (n+1)) fj [.str x,.int w,.int c]=.ok (.str y):=by
 rw[m4];show∃y,Asc y/\y.length<=900/\cj (fi n [.bo (.str x),.bo (.int w),.bo (.int c),.no,.no,.no])=.ok (.str y);have s3:=IU h w c;generalize c % ((x.length:Int)+1)=p at s3;have a1:Kc (g2 aj (jx (aa 0) none (some (dh 3))) (jx (aa 0) (some (g2 aj (aa 3) (gC (.int 1)))) none) [.bo (.str x),.bo (.int w),.bo (.int c),.pu (.int p),.no,.no]) (440+440):=
  k7 (Ck h (u:=some p) hx rfl) (Ck h (l:=some (p+1)) hx rfl) (by decide)
 obtain⟨y,y1,y2,y3⟩:=Le a1;refine⟨y,y1,by lia,?_⟩;unfold fi;rw[cb,s3];dsimp only;rw[<-y3];rw[cb,oi,JR false (decide_eq_false (by lia)),bf];dsimp only;rw[u6];dsimp only;rw[cb,oi,JR true (decide_eq_true h4),bf];dsimp only;rw[oj];cases (g2 aj (jx (aa 0) none (some (dh 3))) (jx (aa 0) (some (g2 aj (aa 3) (gC (.int 1)))) none) [.bo (.str x),.bo (.int w),.bo (.int c),.pu (.int p),.no,.no])<;>rfl
def Wg(n:Nat){x:Str}(h:Asc x)(hx:x.length<=440)(c:Int):∃y,Asc y/\y.length<=900/\af (tab (n+1)) fj [.str x,.int 4,.int c]=.ok (.str y):=by
 rw[m4];show∃y,Asc y/\y.length<=900/\cj (fi n [.bo (.str x),.bo (.int 4),.bo (.int c),.no,.no,.no])=.ok (.str y);have s3:=IU h 4 c;generalize c % ((x.length:Int)+1)=p at s3;have m6:=sy c 6 (by decide);have con:∀z:Str,Asc z->z.length<=1->Kc (gC (.str z) [.bo (.str x),.bo (.int 4),.bo (.int c),.pu (.int p),.no,.no]) 1:=λz a b=>⟨z,rfl,a,b⟩;have lin:Kc (aa 0 [.bo (.str x),.bo (.int 4),.bo (.int c),.pu (.int p),.no,.no]) 440:=⟨x,rfl,h,hx⟩;obtain⟨t0,e0,b0,l0⟩:Kc (jx (aa 0) (some (gC (.int 1))) none [.bo (.str x),.bo (.int 4),.bo (.int c),.pu (.int p),.no,.no]) 440:=Ck h (l:=some 1) hx rfl;obtain⟨t1,e1,b1,l1⟩:=k7 (con "a" (by decide+kernel) (by decide+kernel)) lin (by decide);obtain⟨t2,e2,b2,l2⟩:=k7 lin (con " " (by decide+kernel) (by decide+kernel)) (by decide);obtain⟨t3,e3,b3,l3⟩:Kc (jx (aa 0) none (some (g1 dj (gC (.int 1)))) [.bo (.str x),.bo (.int 4),.bo (.int c),.pu (.int p),.no,.no]) 440:=Ck h (u:=some (-1)) hx rfl;obtain⟨t4,e4,b4,l4⟩:=k7 lin (con "." (by decide+kernel) (by decide+kernel)) (by decide);obtain⟨y,ey,y1,y2⟩:=vj (l:=[t0,t1,t2,t3,t4,""]) (i:=c % 6) (k:=900) ⟨by lia,by show _<(6:Int);lia⟩ (by
  intro q hq;simp only[cP,eA,or_false]at hq;rcases hq with rfl|rfl|rfl|rfl|rfl|rfl
  ·exact⟨b0,by lia⟩
  ·exact⟨b1,by lia⟩
  ·exact⟨b2,by lia⟩
  ·exact⟨b3,by lia⟩
  ·exact⟨b4,by lia⟩
  ·decide+kernel)
 simp only[aU,hV]at ey;refine⟨y,y1,y2,?_⟩;unfold fi;rw[cb,s3];dsimp only;rw[cb,oi,JR false (by decide),bf];dsimp only;rw[u6];dsimp only;rw[cb,oi,JR false (by decide),bf];dsimp only;rw[u6];dsimp only;have c4:g2 f6 (aa 1) (gC (.int 4)) [.bo (.str x),.bo (.int 4),.bo (.int c),.pu (.int p),.no,.no]=.ok (.bl true):=rfl;rw[cb,oi,c4,bf];dsimp only;rw[oj,u5];have gl:ie (ae (jx (aa 0) (some (gC (.int 1))) none) (ae (g2 aj (gC (.str "a")) (aa 0)) (ae (g2 aj (aa 0) (gC (.str " "))) (ae (jx (aa 0) none (some (g1 dj (gC (.int 1))))) (ae (g2 aj (aa 0) (gC (.str "."))) (ae (gC (.str "")) ak)))))) [.bo (.str x),.bo (.int 4),.bo (.int c),.pu (.int p),.no,.no]=.ok (.lst [.str t0,.str t1,.str t2,.str t3,.str t4,.str ""]):=by
  unfold ie ae;simp only[e0,e1,e2,e3,e4];rfl
 rw[gl];have gm:g2 ig (aa 2) (gC (.int 6)) [.bo (.str x),.bo (.int 4),.bo (.int c),.pu (.int p),.no,.no]=.ok (.int (c % 6)):=by
  show Res.of (ig (.int c) (.int 6))=_;rw[m6];rfl
 rw[cc,gm,cc,ey];rfl
def CF:List Str:=["00","-0","01","+1","X","1000000000000000000000000000000","","x y","x,y","999999999999999999999999999999"]
def Wh(n:Nat){x:Str}(h:Asc x)(hx:x.length<=440)(c:Int):∃y,Asc y/\y.length<=900/\af (tab (n+1)) fj [.str x,.int 5,.int c]=.ok (.str y):=by
 rw[m4];show∃y,Asc y/\y.length<=900/\cj (fi n [.bo (.str x),.bo (.int 5),.bo (.int c),.no,.no,.no])=.ok (.str y);have s3:=IU h 5 c;generalize c % ((x.length:Int)+1)=p at s3;have m10:=sy (c / 7) 10 (by decide);have m2:=sy c 2 (by decide);have d7:mw (.int c) (.int 7)=some (.int (c / 7)):=by
  show(if 0<(7:Int)/\(7:Int)<1073741824 then some (Pu.D.int (c / 7))else none)=_;rw[aB (by decide)]
 obtain⟨t,et,t1,t2⟩:=vj (l:=CF) (i:=c / 7 % 10) (k:=31) ⟨by lia,by show _<(10:Int);lia⟩ (by decide+kernel);obtain⟨u,eu,u1,u2⟩:=vj (l:=[", ",","]) (i:=c % 2) (k:=2) ⟨by lia,by show _<(2:Int);lia⟩ (by decide+kernel);have s5:cu 5 (g2 ar (ie (ae (gC (.str "00")) (ae (gC (.str "-0")) (ae (gC (.str "01")) (ae (gC (.str "+1")) (ae (gC (.str "X")) (ae (g2 aj (gC (.str "1")) (g2 jc (gC (.str "0")) (gC (.int 30)))) (ae (gC (.str "")) (ae (gC (.str "x y")) (ae (gC (.str "x,y")) (ae (g2 jc (gC (.str "9")) (gC (.int 30))) ak))))))))))) (g2 ig (g2 mw (aa 2) (gC (.int 7))) (gC (.int 10)))) [.bo (.str x),.bo (.int 5),.bo (.int c),.pu (.int p),.no,.no]=.nx [.bo (.str x),.bo (.int 5),.bo (.int c),.pu (.int p),.no,.pu (.str t)]:=by
  have gl:∀U:En,ie (ae (gC (.str "00")) (ae (gC (.str "-0")) (ae (gC (.str "01")) (ae (gC (.str "+1")) (ae (gC (.str "X")) (ae (g2 aj (gC (.str "1")) (g2 jc (gC (.str "0")) (gC (.int 30)))) (ae (gC (.str "")) (ae (gC (.str "x y")) (ae (gC (.str "x,y")) (ae (g2 jc (gC (.str "9")) (gC (.int 30))) ak)))))))))) U=.ok (.lst (CF.map Pu.D.str)):=λU=>by kernel_rfl
  have gm:g2 ig (g2 mw (aa 2) (gC (.int 7))) (gC (.int 10)) [.bo (.str x),.bo (.int 5),.bo (.int c),.pu (.int p),.no,.no]=.ok (.int (c / 7 % 10)):=by
   rw[u5,u5];show((Res.of (mw (.int c) (.int 7))).bind λz=>Res.of (ig z (.int 10)))=_;rw[d7];show Res.of (ig (.int (c / 7)) (.int 10))=_;rw[m10];rfl
  rw[mq,u5,gl,cc,gm,cc,et];rfl
 have a1:Kc (g2 aj (g2 aj (g2 aj (jx (aa 0) none (some (g1 dj (gC (.int 2))))) (g2 ar (ie (ae (gC (.str ", ")) (ae (gC (.str ",")) ak))) (g2 ig (aa 2) (gC (.int 2))))) (aa 5)) (gC (.str ").")) [.bo (.str x),.bo (.int 5),.bo (.int c),.pu (.int p),.no,.pu (.str t)]) (440+2+31+2):=by
  refine k7 (k7 (k7 (Ck h (u:=some (-2)) hx rfl) ⟨u,?_,u1,u2⟩ (by decide)) ⟨t,rfl,t1,t2⟩ (by decide)) ⟨").",rfl,by decide+kernel,by decide+kernel⟩ (by decide);rw[u5];show((Res.ok (Pu.D.lst (([", ",","]:List Str).map Pu.D.str))).bind λz=>(Res.of (ig (.int c) (.int 2))).bind λy=>Res.of (ar z y))=_;rw[m2];show Res.of (ar (.lst (([", ",","]:List Str).map Pu.D.str)) (.int (c % 2)))=_;rw[eu];rfl
 obtain⟨y,y1,y2,y3⟩:=Le a1;refine⟨y,y1,by lia,?_⟩;unfold fi;rw[cb,s3];dsimp only;rw[cb,oi,JR false (by decide),bf];dsimp only;rw[u6];dsimp only;rw[cb,oi,JR false (by decide),bf];dsimp only;rw[u6];dsimp only;have c4:g2 f6 (aa 1) (gC (.int 4)) [.bo (.str x),.bo (.int 5),.bo (.int c),.pu (.int p),.no,.no]=.ok (.bl false):=rfl;rw[cb,oi,c4,bf];dsimp only;rw[u6];dsimp only;rw[cb,s5];dsimp only;rw[oj];exact y3
def Q8(n:Nat){x:Str}(h:Asc x)(hx:x.length<=440)(w c:Int)(h0:0<=w)(h5:w<=5)(hc:0<=c):∃y,Asc y/\y.length<=900/\af (tab (n+1)) fj [.str x,.int w,.int c]=.ok (.str y):=by
 by_cases h2:w<2
 ·exact We n h hx w c h2 hc
 ·by_cases h4:w<4
  ·exact Wf n h hx w c (by lia) h4
  ·rcases(show w=4\/w=5 by lia)with rfl|rfl
   ·exact Wg n h hx c
   ·exact Wh n h hx c
def DN:Tm->Str
 |.s x=>x
 |.i z=>Qk z
def Cw:Tm->Prop
 |.s x=>x∈v9
 |.i z=>z.natAbs<10 ^ 20
def Pl(c:Nat):Prop:=(97<=c/\c<=122)\/(48<=c/\c<=57)\/c=45
structure Wd(x:Str):Prop where
 l1:1<=x.length
 l2:x.length<=21
 pl:∀c∈sg x,Pl c
def Xd{x:Str}(h:x∈v9):Wd x:=by
 unfold v9 at h;simp only[cP,eA,or_false]at h;have key:∀y:Str,(decide (1<=y.length) && decide (y.length<=21) && (sg y).all λc=>decide (97<=c) && decide (c<=122))=true->Wd y:=λy hy=>by
  simp only[aA,decide_eq_true_eq,dC]at hy;exact⟨hy.1.1,hy.1.2,λc hc=>.inl (hy.2 c hc)⟩
 rcases h with rfl|rfl|rfl|rfl|rfl|rfl<;>exact key _ (by decide+kernel)
def FQ{z:Int}(h:z.natAbs<10 ^ 20):Wd (Qk z):=by
 have hl:=Uj 19 z.natAbs h;have hd:=La 19 z.natAbs h;rcases(show z<0\/0<=z by lia)with hn|hn
 ·obtain⟨m,rfl⟩:∃m:Nat,z=mI m:=⟨z.natAbs - 1,by lia⟩;have e:=IY m;have hl':(Qk (mI m)).length=(vp (m+1)).length+1:=by rw[<-ah,e];rfl
  have hl:(vp (m+1)).length<=20/\1<=(vp (m+1)).length:=hl;refine⟨by lia,by lia,λc hc=>?_⟩;rw[e]at hc;rcases List.mem_cons.mp hc with rfl|hc
  ·exact .inr (.inr rfl)
  ·exact .inr (.inl (hd c hc))
 ·obtain⟨m,rfl⟩:∃m:Nat,z=(m:Int):=⟨z.natAbs,by lia⟩;have e:=IZ m;have hl':(Qk (m:Nat)).length=(vp m).length:=by rw[<-ah,e]
  have hl:(vp m).length<=20/\1<=(vp m).length:=hl;exact⟨by lia,by lia,λc hc=>by rw[e]at hc;exact .inr (.inl (hd c hc))⟩
def Wx{t:Tm}(h:Cw t):Wd (DN t):=by
 cases t with
 |s x=>exact Xd h
 |i z=>exact FQ h
def IR{t:Tm}(h:Cw t):qz t.D=some (.str (DN t)):=by
 cases t with
 |s x=>rfl
 |i z=>
  have h:z.natAbs<10 ^ 20:=h;have hl:z.natAbs.log2<1920:=by
   by_cases h0:z.natAbs=0
   ·rw[h0];decide
   ·exact(Nat.log2_lt h0).mpr (lQ h (by decide+kernel))
  exact aB hl
def Jo:Str:=", "
def V8:sg Jo=[44,32]:=by decide+kernel
def AO(ts:List Tm):Str:=bH Jo (ts.map DN)
theorem Ii{y:Str}{c:Nat}:∀{l:List Str},c∈sg (bH y l)->c∈sg y\/∃p∈l,c∈sg p
 |[],h=>by cases h
 |[p],h=>.inr ⟨p,by simp,h⟩
 |p::q::l,h=>by
  rw[cz,aq,aq]at h;rcases List.mem_append.mp h with h|h
  ·rcases List.mem_append.mp h with h|h
   ·exact .inr ⟨p,by simp,h⟩
   ·exact .inl h
  ·rcases Ii h with h|⟨r,hr,h⟩
   ·exact .inl h
   ·exact .inr ⟨r,aF _ hr,h⟩
theorem Ih{y:Str}{b:Nat}:∀{l:List Str},(∀p∈l,p.length<=b)->(bH y l).length<=l.length * (b+y.length)
 |[],_=>cA _
 |[p],h=>by
  have:=h p (by simp);show p.length<=1 * _
  lia
 |p::q::l,h=>by
  have h1:=h p (by simp);have h2:=Ih (y:=y) (l:=q::l) λr hr=>h r (aF _ hr);rw[cz,bg,bg,aM,Nat.succ_mul]
  lia
def Od{ts:List Tm}(h:∀t∈ts,Cw t):(AO ts).length<=ts.length * 23:=by
 have h2:Jo.length=2:=by rw[<-ah,V8];rfl
 have:=Ih (y:=Jo) (b:=21) (l:=ts.map DN) λp hp=>by
  obtain⟨t,ht,rfl⟩:=List.mem_map.mp hp;exact(Wx (h t ht)).l2
 rwa [h2,aJ]at this
def HM{ts:List Tm}(h:∀t∈ts,Cw t){c:Nat}(hc:c∈sg (AO ts)):Pl c\/c=44\/c=32:=by
 rcases Ii hc with hc|⟨p,hp,hc⟩
 ·rw[V8]at hc;simp only[cP,eA,or_false]at hc;exact .inr hc
 ·obtain⟨t,ht,rfl⟩:=List.mem_map.mp hp;exact .inl ((Wx (h t ht)).pl c hc)
def AN{ts:List Tm}(h:∀t∈ts,Cw t)(hl:ts.length<=20):Asc (AO ts):=by
 have:=Od h;refine⟨by lia,λc hc=>?_⟩;rcases HM h hc with (h|h|h)|h|h<;>lia
def bo:Str:="("
theorem Ce:∀l:List Str,uz (l.map Pu.D.str)=some l
 |[]=>rfl
 |x::l=>by
  show(uz (l.map Pu.D.str)).map (x::·)=_;rw[Ce l];rfl
def El{y:Str}{l:List Str}{b:Nat}(h:∀p∈l,p.length<=b)(hb:l.length * b+l.length * y.length<=16777216):jt (.str y) (.lst (l.map Pu.D.str))=some (.str (bH y l)):=by
 unfold jt;dsimp only;rw[Ce];dsimp only;have hj:JoinOk y l=true:=by
  unfold JoinOk;rw[StrLaws.joinFits h hb];rfl
 rw[aB hj];show some (Pu.D.str (Builtin.Str.glued y l))=_;rw[StrLaws.glued_eq_join]
def Ij{ts:List Tm}(h:∀t∈ts,Cw t)(hl:ts.length<=4){r:En->ResL}{U:En}(hr:r U=.ok (ts.map Tm.D)):Kc (lg jt (gC (.str ", ")) (cm r [] (gC (.bl true)) (g1 qz (aa 0))) U) (ts.length * 23):=by
 have hc:cm r [] (gC (.bl true)) (g1 qz (aa 0)) U=.ok (.lst ((ts.map DN).map Pu.D.str)):=by
  rw[uc (f:=Tm.D) (f':=λt=>Pu.D.str (DN t)) hr (by lia) λt ht=>by
   show Res.of (qz t.D)=_;rw[IR (h t ht)];rfl,eF]
  rfl
 have hj:=El (y:=Jo) (l:=ts.map DN) (b:=21) (λp hp=>by
  obtain⟨t,ht,rfl⟩:=List.mem_map.mp hp;exact(Wx (h t ht)).l2) (by
  rw[aJ];have:Jo.length=2:=by decide
  lia)
 refine⟨AO ts,?_,AN h (by lia),Od h⟩;have z:lg jt (gC (.str ", ")) (cm r [] (gC (.bl true)) (g1 qz (aa 0))) U=(cm r [] (gC (.bl true)) (g1 qz (aa 0)) U).bind λy=>Res.of (jt (.str ", ") y):=rfl;rw[z,hc];show Res.of (jt (.str Jo) (.lst ((ts.map DN).map Pu.D.str)))=_;rw[hj];rfl
def Xz{a:At}(h:∀t∈a.ts,Cw t)(hl:a.ts.length<=3)(hn:Asc a.nm)(hn1:a.nm.length<=1):Kc (g2 aj (g2 aj (g2 aj (aa 0) (gC (.str "("))) (lg jt (gC (.str ", ")) (cm (bc (aa 1)) [] (gC (.bl true)) (g1 qz (aa 0))))) (gC (.str ")")) [.pu (.str a.nm),.pu (.tup (a.ts.map Tm.D))]) 72:=by
 have hj:=Ij h (by lia) (r:=bc (aa 1)) (U:=[.pu (.str a.nm),.pu (.tup (a.ts.map Tm.D))]) rfl;obtain⟨x,e,b,l⟩:=k7 (k7 (k7 (a:=aa 0) (b:=gC (.str "(")) (U:=[.pu (.str a.nm),.pu (.tup (a.ts.map Tm.D))]) (k:=1) (l:=1) ⟨a.nm,rfl,hn,hn1⟩ ⟨"(",rfl,by decide+kernel,by decide+kernel⟩ (by decide)) hj (by lia)) (b:=gC (.str ")")) (l:=1) ⟨")",rfl,by decide+kernel,by decide+kernel⟩ (by lia);exact⟨x,e,b,by lia⟩
def DK:En->Res:=g2 aj (g2 aj (g2 aj (aa 0) (gC (.str "("))) (lg jt (gC (.str ", ")) (cm (bc (aa 1)) [] (gC (.bl true)) (g1 qz (aa 0))))) (gC (.str ")"))
structure WrA(a:At):Prop where
 t:∀t∈a.ts,Cw t
 l:a.ts.length<=3
 n:Asc a.nm
 n1:a.nm.length<=1
theorem Hg(U:En):∀as:List At,(∀a∈as,WrA a)->∃xs:List Str,oz (u4 [] DK U) (as.map At.D)=some (xs.map Pu.D.str)/\xs.length=as.length/\∀x∈xs,Asc x/\x.length<=72
 |[],_=>⟨[],rfl,rfl,λx hx=>by cases hx⟩
 |a::as,h=>by
  obtain⟨xs,e,l,k⟩:=Hg U as λb hb=>h b (aF _ hb);have w:=h a aH;obtain⟨x,ex,ax,lx⟩:=Xz w.t w.l w.n w.n1;have et:u4 [] DK U a.D=some (some (.str x)):=by
   have z:u4 [] DK U a.D=match DK [.pu (.str a.nm),.pu (.tup (a.ts.map Tm.D))]with
    |.ok y=>some (some y)
    |_=>none:=rfl
   rw[z];have ex':DK [.pu (.str a.nm),.pu (.tup (a.ts.map Tm.D))]=.ok (.str x):=ex;rw[ex']
  refine⟨x::xs,?_,by rw[aM,aM,l],λy hy=>?_⟩
  ·rw[aU];unfold oz;rw[et,e];rfl
  ·rcases List.mem_cons.mp hy with rfl|hy
   ·exact⟨ax,lx⟩
   ·exact k y hy
theorem zr{y:Str}{b:Nat}:∀l:List Str,(∀p∈l,Asc p/\p.length<=b)->(bH y l).length<=l.length * (b+y.length)
 |[],_=>cA _
 |[p],h=>by
  have:=(h p aH).2;show p.length<=1 * (b+y.length)
  lia
 |p::q::l,h=>by
  have h1:=(h p aH).2;have h2:=zr (y:=y) (q::l) λr hr=>h r (aF _ hr);rw[cz,bg,bg];have e:(p::q::l).length * (b+y.length)=(b+y.length)+(q::l).length * (b+y.length):=by
   rw[aM,Nat.add_mul,Nat.one_mul,Nat.add_comm]
  rw[e]
  lia
theorem M8{y:Str}(hy:Asc y):∀l:List Str,(∀p∈l,Asc p)->∀c∈sg (bH y l),c<128
 |[],_,c,hc=>by cases hc
 |[p],h,c,hc=>(h p aH).2 c hc
 |p::q::l,h,c,hc=>by
  rw[cz,aq,aq]at hc;rcases List.mem_append.mp hc with hc|hc
  ·rcases List.mem_append.mp hc with hc|hc
   ·exact(h p aH).2 c hc
   ·exact hy.2 c hc
  ·exact M8 hy (q::l) (λr hr=>h r (aF _ hr)) c hc
def Mh(n:Nat){hd:List Tm}{as:List At}(h1:∀t∈hd,Cw t)(h2:hd.length<=2)(h3:∀a∈as,WrA a)(h4:as.length<=5):∃x,Asc x/\x.length<=440/\af (tab (n+1)) i6 [g9 hd as]=.ok (.str x):=by
 rw[Dd];show∃x,Asc x/\x.length<=440/\cj (pk n [.bo (g9 hd as),.no,.no])=.ok (.str x);have j1:=Ij h1 (by lia) (r:=bc (g2 ar (aa 0) (gC (.int 0)))) (U:=[.bo (g9 hd as),.no,.no]) rfl;obtain⟨u,eu,au,lu⟩:=k7 (k7 (a:=gC (.str "ask(")) (k:=4) ⟨"ask(",rfl,by decide+kernel,by decide+kernel⟩ j1 (by lia)) (b:=gC (.str ") :- ")) (l:=5) ⟨") :- ",rfl,by decide+kernel,by decide+kernel⟩ (by lia);obtain⟨xs,ex,lx,kx⟩:=Hg [.bo (g9 hd as),.pu (.str u),.no] as h3;have hj:=El (y:=Jo) (l:=xs) (b:=72) (λp hp=>(kx p hp).2) (by
  have:Jo.length=2:=by decide
  rw[lx]
  lia)
 have hjl:=zr (y:=Jo) xs kx;have hja:=M8 (y:=Jo) ⟨by decide,by decide⟩ xs λp hp=>(kx p hp).1;have sl:Jo.length=2:=by decide
 rw[sl,lx]at hjl;have ab:Asc (u++bH Jo xs):=⟨by rw[bg];lia,λc hc=>by
  rw[aq]at hc;rcases List.mem_append.mp hc with hc|hc
  ·exact au.2 c hc
  ·exact hja c hc⟩
 refine⟨u++bH Jo xs++".",ab.app ⟨by decide,by decide⟩ (by rw[bg];have:(".":Str).length=1:=(by decide);lia),by rw[bg,bg];have:(".":Str).length=1:=(by decide);lia,?_⟩;unfold pk;rw[cb,mq,eu,bf];have gc:ug (bc (g2 ar (aa 0) (gC (.int 1)))) (u4 [] DK) [.bo (g9 hd as),.pu (.str u),.no]=.ok (.lst (xs.map Pu.D.str)):=by
  have hr:bc (g2 ar (aa 0) (gC (.int 1))) [.bo (g9 hd as),.pu (.str u),.no]=.ok (as.map At.D):=rfl;unfold ug;rw[hr];dsimp only;rw[aB (by rw[aJ];show _<=16777216;lia),ex]
 have s2:lh 2 (ug (bc (g2 ar (aa 0) (gC (.int 1)))) (u4 [] DK)) [.bo (g9 hd as),.pu (.str u),.no]=.nx [.bo (g9 hd as),.pu (.str u),.ow (xs.map Pu.D.str)]:=by
  unfold lh;rw[gc];rfl
 show cj ((ba (lh 2 (ug (bc (g2 ar (aa 0) (gC (.int 1)))) (u4 [] DK))) (fz [2] (b9 (g2 aj (g2 aj (aa 1) (lg jt (gC (.str ", ")) (aa 2))) (gC (.str ".")))))) [.bo (g9 hd as),.pu (.str u),.no])=_;rw[cb,s2];dsimp only;show cj (((Res.of (jt (.str Jo) (.lst (xs.map Pu.D.str)))).bind λz=>Res.of (aj (.str u) z)).bind (λz=>Res.of (aj z (.str ".")))|>.then Out.rt)=_;rw[hj];show cj (((Res.of (aj (.str u) (.str (bH Jo xs)))).bind (λz=>Res.of (aj z (.str ".")))).then Out.rt)=_;rw[E8 (by lia)];show cj ((Res.of (aj (.str (u++bH Jo xs)) (.str "."))).then Out.rt)=_;rw[E8 (by rw[bg];have:(".":Str).length=1:=(by decide);lia)];rfl
def Ws(c:Nat):Prop:=(97<=c/\c<=122)\/(48<=c/\c<=57)\/c=45
def Ee{x:Str}(h:s9 x=true):∀c∈sg x,97<=c/\c<=122:=λc hc=>by
 unfold s9 at h;rw[aA,dC]at h;have hm:=of_decide_eq_true (h.2 c hc);have:∀c∈sg iq,97<=c/\c<=122:=by decide+kernel
 exact this c hm
def Vs{x:Str}{t:Tm}(h:rT x=some t):∀c∈sg x,Ws c:=λc hc=>by
 unfold rT at h
 by_cases hw:s9 x=true
 ·exact .inl (Ee hw c hc)
 ·rw[aG hw]at h
  by_cases hn:qj x=true
  ·obtain⟨_,hd,_⟩:=yn hn;cases hg:neg x with
   |true=>
    rw[yw hg]at hc;rcases List.mem_cons.mp hc with rfl|hc
    ·exact .inr (.inr rfl)
    ·exact .inr (.inl (hd c hc))
   |false=>
    have ef:bb x=x:=by unfold bb;rw[hg];rfl
    rw[ef]at hd;exact .inr (.inl (hd c hc))
  ·rw[aG hn]at h;cases h
theorem Bl{y:Str}{P:Nat->Prop}(hy:∀c∈sg y,P c):∀l:List Str,(∀p∈l,∀c∈sg p,P c)->∀c∈sg (bH y l),P c
 |[],_,c,hc=>by cases hc
 |[p],h,c,hc=>h p aH c hc
 |p::q::l,h,c,hc=>by
  rw[cz,aq,aq]at hc;rcases List.mem_append.mp hc with hc|hc
  ·rcases List.mem_append.mp hc with hc|hc
   ·exact h p aH c hc
   ·exact hy c hc
  ·exact Bl hy (q::l) (λr hr=>h r (aF _ hr)) c hc
theorem Dp{α β:Type}{f:α->Option β}:∀{l:List α}{bs:List β},ij f l=some bs->∀a∈l,∃b∈bs,f a=some b
 |[],_,_,a,ha=>by cases ha
 |a::l,bs,h,c,hc=>by
  unfold ij at h;cases e:f a with
  |none=>rw[e]at h;cases h
  |some b=>
   rw[e]at h;cases e2:ij f l with
   |none=>rw[e2]at h;cases h
   |some cs=>
    rw[e2]at h;cases h;rcases List.mem_cons.mp hc with rfl|hc
    ·exact⟨b,aH,e⟩
    ·obtain⟨d,hd,q⟩:=Dp e2 c hc;exact⟨d,aF _ hd,q⟩
def J0{x:Str}{ts:List Tm}(h:ju x=some ts):∀c∈sg x,Ws c\/c=44\/c=32:=by
 have e:=eB x xr;rw[<-e];refine Bl (λc hc=>?_) _ λp hp c hc=>?_
 ·have:sg xr=[44,32]:=by decide+kernel
  rw[this]at hc;simp only[cP,eA,or_false]at hc;exact .inr hc
 ·obtain⟨t,_,q⟩:=Dp h p hp;exact .inl (Vs q c hc)
def Tc{x:Str}{ts:List Tm}(h:Ct x=some ts):∀c∈sg x,Ws c\/c=44\/c=32:=by
 unfold Ct at h;split at h
 ·rename_i he;rw[he];intro c hc;cases hc
 ·exact J0 h
def A1{a y b:Str}(none:∀k,k<a.length->¬Builtin.Str.subAt (a++y++b) y k=true):at? (a++y++b) y=some a.length/\pA (a++y++b) y=a/\pC (a++y++b) y=b:=by
 have hx:sg (a++y++b)=sg a++(sg y++sg b):=by rw[aq,aq,aV]
 have hl:(a++y++b).length=a.length+y.length+b.length:=by rw[bg,bg]
 have hat:StrLaws.At (a++y++b) y (a++y++b).length a.length:=⟨by rw[hl];lia,IQ a y b⟩;have e:at? (a++y++b) y=some a.length:=by
  unfold at?;rcases StrLaws.occ_head (a++y++b) y 1 (aO 1)with ⟨_,h⟩|⟨i,r,e,h1,h2⟩
  ·exact absurd hat (h _)
  ·have hi:i=a.length:=by
    rcases lA i a.length with h|h|h
    ·exact absurd h1.2 (none i h)
    ·exact h
    ·exact absurd hat (h2 _ h)
   rw[e,hi];rfl
 obtain⟨_,p1,p2,_⟩:=oq e;refine⟨e,l9 ?_,l9 ?_⟩
 ·rw[p1,hx,<-ah a,hU]
 ·rw[p2,hx,<-aV,<-ah a,<-ah y,<-aI,hJ]
def Xx{a b:Str}(ha:58∉sg a):at? (a++fk++b) fk=some a.length/\pA (a++fk++b) fk=a/\pC (a++fk++b) fk=b:=A1 λk hk h=>by
 have hx:sg (a++fk++b)=sg a++(sg fk++sg b):=by rw[aq,aq,aV]
 have es:sg fk=[32,58,45,32]:=by decide+kernel
 have ls:fk.length=4:=by decide
 rw[pe,es,ls]at h;have h1:((((sg (a++fk++b)).drop k).take 4))[1]?=some 58:=by rw[h];rfl
 rw[kM,aB (by decide),kN,hx]at h1;rw[<-ah]at hk
 by_cases hk1:k+1<(sg a).length
 ·rw[bL hk1]at h1;exact ha (cB h1)
 ·have:k+1=(sg a).length:=by lia
  rw[this,bI (aO _),Nat.sub_self,es]at h1;cases h1
def Rw{a b:Str}(ha:40∉sg a):at? (a++brk++b) brk=some a.length/\pA (a++brk++b) brk=a/\pC (a++brk++b) brk=b:=A1 λk hk h=>Ui (a:=sg a) (r:=sg brk++sg b) (by rw[aq,aq,aV]) (show sg brk=40::[] by decide+kernel) ha (by rw[ah];exact hk) h
def Xy{a b:Str}(ha:41∉sg a):at? (a++jf++b) jf=some a.length/\pA (a++jf++b) jf=a/\pC (a++jf++b) jf=b:=A1 λk hk h=>Ui (a:=sg a) (r:=sg jf++sg b) (by rw[aq,aq,aV]) (show sg jf=41::[32,58,45,32] by decide+kernel) ha (by rw[ah];exact hk) h
open Builtin.Str (subAt strSub occurrences partsBetween)
def tu(a b c:Str):a++b++c=a++(b++c):=l9 (by rw[aq,aq,aq,aq,aV])
def tl(z:Str):List Str->List Str
 |[]=>[z]
 |[p]=>[p++z]
 |p::q::l=>p::tl z (q::l)
def Av(z p:Str)(ps:List Str):∃r rs,tl z (p::ps)=r::rs:=by
 cases ps with
 |nil=>exact⟨_,_,rfl⟩
 |cons q l=>exact⟨_,_,rfl⟩
theorem M9(y z:Str):∀(ps:List Str)(p:Str),bH y (tl z (p::ps))=bH y (p::ps)++z
 |[],p=>rfl
 |q::ps,p=>by
  obtain⟨r,rs,e⟩:=Av z q ps;have ih:=M9 y z ps q;show bH y (p::tl z (q::ps))=_;rw[cz,e,cz,<-e,ih,tu];rw[tu,tu]
theorem Mu(z:Str)(w:Nat):∀(ps:List Str)(p:Str)(o:Nat),cn w o (tl z (p::ps))=cn w o (p::ps)
 |[],p,o=>rfl
 |q::ps,p,o=>by
  obtain⟨r,rs,e⟩:=Av z q ps;have ih:=Mu z w ps q (o+p.length+w);show cn w o (p::tl z (q::ps))=_;rw[e]at ih⊢;show(o+p.length)::cn w (o+p.length+w) (r::rs)=_;rw[ih];rfl
def FP{x y z:Str}{c:Nat}{ys:List Nat}(hy:sg y=c::ys)(hz:z.length<y.length){limit:Nat}(hlim:x.length<limit):∀(ps:List Str)(p:Str)(o:Nat)(pre:List Nat)(acc:Array Nat)(free:Nat),
  (∀q∈p::ps,c∉sg q)->sg x=pre++sg (bH y (p::ps)++z)->pre.length=o->free<=o->acc.size<=o->
  ∃f,(lW (dN o (x.length+1 - o)) (acc,free) (dA x y x.length limit)).run=(acc++(cn y.length o (p::ps)).toArray,f):=by
 intro ps;induction ps with
 |nil=>
  intro p o pre acc free hc hx ho hf ha;refine⟨free,?_⟩;have hx:sg x=pre++sg (p++z):=hx;have hxl:x.length=o+(p.length+z.length):=by rw[<-ah x,hx,aI,ho,ah,bg]
  rw[n4 _ _ λi hi=>.inr λw=>?_]
  ·simp[cn]
  ·have h1:=rg hy w.2;have hw:=w.1;obtain⟨j,hj,e⟩:=List.mem_range'.mp hi;rw[hx,bI (by lia),aq,bL (by rw[ah];lia)]at h1;exact hc p (by simp) (cB h1)
 |cons q ps ih=>
  intro p o pre acc free hc hx ho hf ha;rw[cz]at hx;have hy1:1<=y.length:=by rw[<-ah,hy];simp
  have hxl:x.length=o+p.length+y.length+(bH y (q::ps)++z).length:=by
   rw[<-ah x,hx,aI,ho,ah,bg,bg,bg,bg];lia
  have hx2:sg x=(pre++sg p++sg y)++sg (bH y (q::ps)++z):=by rw[hx,aq,aq,aq,aq];simp
  have er:dN o (x.length+1 - o)=dN o p.length++([o+p.length]++(dN (o+p.length+1) (y.length - 1)++dN (o+p.length+y.length) (x.length+1 - (o+p.length+y.length)))):=by
   have a1:x.length+1 - o=p.length+(1+((y.length - 1)+(x.length+1 - (o+p.length+y.length)))):=by lia
   rw[a1,<-eI,<-eI,<-eI];have a2:o+p.length+1+(y.length - 1)=o+p.length+y.length:=by lia
   rw[a2];rfl
  obtain⟨f,e⟩:=ih q (o+p.length+y.length) (pre++sg p++sg y) (acc.push (o+p.length)) (o+p.length+y.length) (λr hr=>hc r (aF _ hr)) hx2 (by rw[aI,aI,ah,ah,ho]) (aO _) (by rw[Array.size_push];lia);refine⟨f,?_⟩;rw[er,o7,o7,o7];have s1:(lW (dN o p.length) (acc,free) (dA x y x.length limit)).run=(acc,free):=n4 _ _ λi hi=>.inr λw=>by
   have h1:=rg hy w.2;obtain⟨j,hj,e⟩:=List.mem_range'.mp hi;rw[hx2,aV,aV,bI (by lia),bL (by rw[ah];lia)]at h1;exact hc p (by simp) (cB h1)
  rw[s1,Nu (st:=(acc,free)) ⟨⟨⟨by show acc.size<limit;lia,by show free<=_;lia⟩,by lia⟩,?_⟩]
  ·rw[n4 (dN (o+p.length+1) (y.length - 1)) _ λi hi=>.inl ?_,e]
   ·have ec:cn y.length o (p::q::ps)=(o+p.length)::cn y.length (o+p.length+y.length) (q::ps):=rfl;rw[ec];simp
   ·obtain⟨j,hj,e⟩:=List.mem_range'.mp hi;show i<o+p.length+y.length
    lia
  ·rw[pe,hx2,<-ho];have:pre.length+p.length=(pre++sg p).length:=by rw[aI,ah]
   rw[this,aV,hJ,<-ah y,hU]
def Wc{y z:Str}{c:Nat}{ys:List Nat}(hy:sg y=c::ys)(hk:cS y=1)(hz:z.length<y.length){ps:List Str}{p:Str}(hc:∀q∈p::ps,c∉sg q):bF (bH y (p::ps)++z) y=tl z (p::ps):=by
 obtain⟨f,e⟩:=FP (x:=bH y (p::ps)++z) hy hz (limit:=(bH y (p::ps)++z).length+1) (lH _) ps p 0 [] #[] 0 hc rfl rfl (aO _) (aO _);have eo:occurrences (bH y (p::ps)++z) y 0 (bH y (p::ps)++z).length ((bH y (p::ps)++z).length+1)=cn y.length 0 (p::ps):=by
  rw[StrLaws.occ_eq,e];simp
 have hy1:1<=y.length:=by rw[<-ah,hy];simp
 unfold bF;rw[eo];cases ps with
 |nil=>
  have:cn y.length 0 [p]=[]:=rfl;rw[this];show(if _ then[p++z]else if _ then[p++z]else _)=[p++z];split
  ·rfl
  ·rfl
 |cons q ps=>
  have h1:¬((decide ((bH y (p::q::ps)++z).length<y.length)||decide (cS (bH y (p::q::ps)++z)<cS y))=true):=by
   rw[cT,decide_eq_true_eq,decide_eq_true_eq,hk,cz,bg,bg,bg];have:=Im (p++y++bH y (q::ps)++z)
   lia
  rw[aG h1,aG (by unfold cn;simp),StrLaws.partsBetween_eq,<-Mu z];obtain⟨r,rs,er⟩:=Av z p (q::ps);rw[er];exact B1 rs r 0 [] (by rw[<-er,M9];rfl) rfl
def ze(p q:Str)(l:List Str):ib (p::q::l)=(p++p8)::ib (q::l):=by
 unfold ib;simp[List.getLastD_cons]
theorem Dw:∀(ps:List Str)(p:Str),ib (tl p8 (p::ps))=(p::ps).map λq=>q++p8
 |[],p=>rfl
 |q::ps,p=>by
  obtain⟨r,rs,e⟩:=Av p8 q ps;have ih:=Dw ps q;show ib (p::tl p8 (q::ps))=_;rw[e]at ih⊢;rw[ze,ih];rfl
def Xq{a b c:Str}(h:a++c=b++c):a=b:=l9 (by
 have:=congrArg sg h;rw[aq,aq]at this;exact List.append_cancel_right this)
theorem zf(y:Str):∀(l ps:List Str),l≠[]->ib l=ps.map (λq=>q++p8)->bH y l=bH y ps++p8
 |[],_,h,_=>absurd rfl h
 |[p],ps,_,h=>by
  cases ps with
  |nil=>cases h
  |cons r rs=>
   injection h with h1 h2
   cases rs with
   |nil=>exact h1
   |cons _ _=>cases h2
 |p::q::l,ps,_,h=>by
  rw[ze]at h;cases ps with
  |nil=>cases h
  |cons r rs=>
   injection h with h1 h2
   have ih:=zf y (q::l) rs (by simp) h2;cases rs with
   |nil=>unfold ib at h2;simp at h2
   |cons s ss=>
    rw[cz,cz,ih,Xq h1,tu,tu,tu]
def Lb{x:Str}(h:s9 x=true){c:Nat}(hc:c<97):c∉sg x:=λz=>by
 have:=Ee h c z
 lia
def Tb{x:Str}{ts:List Tm}(h:Ct x=some ts){c:Nat}(hc:c=40\/c=41\/c=58):c∉sg x:=λz=>by
 rcases Tc h c z with (w|w|w)|w|w<;>lia
def Jz{x:Str}{ts:List Tm}(h:ju x=some ts):x≠cX:=λz=>by
 rw[z]at h;have:ju cX=none:=by decide+kernel
 rw[this]at h;cases h
def Jy{x:Str}{ts:List Tm}(h:ju x=some ts):Ct x=some ts:=by
 unfold Ct;rw[aG (Jz h),h]
def Td{x:Str}{ts:List Tm}(h:Ct x=some ts)(hn:ts≠[]):ju x=some ts:=by
 unfold Ct at h;split at h
 ·cases h;exact absurd rfl hn
 ·exact h
def A4:sg p8=[41]:=by decide+kernel
def Nk{x:Str}{c:Nat}(h:S ((sg x).drop (x.length - 1))=S [c]):sg x=(sg x).dropLast++[c]:=by
 have h:(sg x).drop (x.length - 1)=[c]:=by
  have:=congrArg sg h;rwa [p7,p7]at this
 have e:=dH (x.length - 1) (sg x);rw[h,<-ah,<-gL]at e;exact e.symm
def Oj{x:Str}{l:List Nat}{c:Nat}(h:sg x=l++[c]):S ((sg x).drop (x.length - 1))=S [c]:=by
 rw[<-ah,h];simp
def BA:(")":Str)=S [41]:=by decide+kernel
def CU:(".":Str)=S [46]:=by decide+kernel
def Mo:brk.length=1:=by decide
def Bp{x:Str}{a:At}(e:a8 x=some a):∃C,x=a.nm++brk++C++p8/\Ct C=some a.ts:=by
 unfold a8 at e;cases ea:at? x brk with
 |none=>rw[ea]at e;cases e
 |some i=>
  rw[ea]at e;dsimp only at e;split at e
  ·rename_i hc;cases eh:Ct (ji x)with
   |none=>rw[eh]at e;cases e
   |some ts=>
    rw[eh]at e;cases e;obtain⟨a1,a2,a3,a4⟩:=oq ea;refine⟨ji x,?_,eh⟩;rw[Mo]at a1 a3;have l:=Nk (hc.1.trans BA);have hx:sg (pC x brk)=sg (ji x)++[41]:=by
     show _=(sg (pC x brk)).dropLast++[41];have:sg (pC x brk)≠[]:=λz=>by
      have:=congrArg mF z;rw[a3,bY,ah]at this;have:=hc.2;simp at *
      lia
     have q:(sg (pC x brk)).getLast?=some 41:=by
      rw[a3,List.getLast?_drop,aG (by rw[ah];have:=hc.2;lia),l];simp
     obtain⟨ys,ey⟩:=List.getLast?_eq_some_iff.mp q;rw[ey];simp
    refine l9 ?_;show sg x=sg (pA x brk++brk++ji x++p8)
    conv=>lhs;rw[a4]
    rw[aq,aq,aq,aq,aq,hx,A4,aV,aV,aV]
  ·cases e
def Ip{nm C:Str}{ts:List Tm}(hn:40∉sg nm)(e:Ct C=some ts):a8 (nm++brk++C++p8)=some ⟨nm,ts⟩:=by
 have e0:nm++brk++C++p8=nm++brk++(C++p8):=by rw[tu]
 rw[e0];obtain⟨q1,q2,q3⟩:=Rw (b:=C++p8) hn;unfold a8;rw[q1];dsimp only;have el:sg (nm++brk++(C++p8))=sg (nm++brk++C)++[41]:=by rw[<-e0,aq,A4]
 have ei:ji (nm++brk++(C++p8))=C:=by
  unfold ji;rw[q3,aq,A4,fQ,G8]
 rw[aB ⟨(Oj el).trans BA.symm,by rw[bg,bg,bg,Mo];have:p8.length=1:=(by decide);lia⟩,ei,e,q2];rfl
def AtF(p:Str)(a:At):Prop:=∃C,p=a.nm++brk++C/\s9 a.nm=true/\ju C=some a.ts
def AtF.no{p:Str}{a:At}(h:AtF p a){c:Nat}(hc:c=41\/c=58):c∉sg p:=by
 obtain⟨C,rfl,h1,h2⟩:=h;rw[aq,aq];have eb:sg brk=[40]:=by decide+kernel
 rw[eb,fI,fI,List.mem_singleton]
 rintro ((h|h)|h)
 ·exact Lb h1 (by lia) h
 ·lia
 ·exact Tb (Jy h2) (.inr hc) h
def AtF.atom{p:Str}{a:At}(h:AtF p a):ka p=some a:=by
 obtain⟨C,rfl,h1,h2⟩:=h;obtain⟨_,q2,q3⟩:=Rw (b:=C) (Lb h1 (c:=40) (by decide));unfold ka;rw[q2,q3,h2];rfl
def AtF.latom{p:Str}{a:At}(h:AtF p a):a8 (p++p8)=some a:=by
 obtain⟨C,rfl,h1,h2⟩:=h;exact Ip (Lb h1 (by decide)) (Jy h2)
def DC{p:Str}{a:At}(e:ka p=some a)(h:s9 a.nm=true):AtF p a:=by
 unfold ka at e;cases et:ju (pC p brk)with
 |none=>rw[et]at e;cases e
 |some ts=>
  rw[et]at e;cases e;obtain⟨m,_,⟨z,_⟩|⟨_,z,_⟩⟩:=jj p brk
  ·exact⟨pC p brk,z,h,et⟩
  ·exact absurd z (Jz et)
def Yx{q:Str}{a:At}(e:a8 q=some a)(h:s9 a.nm=true)(hn:a.ts≠[]):∃p,q=p++p8/\AtF p a:=by
 obtain⟨C,e1,e2⟩:=Bp e;exact⟨_,e1,C,rfl,h,Td e2 hn⟩
inductive AtsF:List Str->List At->Prop
 |nil:AtsF [] []
 |cons {p a ps as}:AtF p a->AtsF ps as->AtsF (p::ps) (a::as)
def AtsF.all{ps:List Str}{as:List At}(h:AtsF ps as){f:Str->Option At}{g:Str->Str}(k:∀p a,AtF p a->f (g p)=some a):ij f (ps.map g)=some as:=by
 induction h with
 |nil=>rfl
 |cons h1 _ ih=>
  rw[aU];unfold ij;rw[k _ _ h1,ih];rfl
theorem AtsF.no{ps:List Str}{as:List At}(h:AtsF ps as):∀p∈ps,41∉sg p:=by
 induction h with
 |nil=>intro p hp;cases hp
 |cons h1 _ ih=>
  intro p hp;rcases List.mem_cons.mp hp with rfl|hp
  ·exact h1.no (.inl rfl)
  ·exact ih p hp
def Do{α β:Type}{f:α->Option β}{a:α}{l:List α}{bs:List β}(h:ij f (a::l)=some bs):∃b cs,bs=b::cs/\f a=some b/\ij f l=some cs:=by
 unfold ij at h;cases e:f a with
 |none=>rw[e]at h;cases h
 |some b=>
  rw[e]at h;cases e2:ij f l with
  |none=>rw[e2]at h;cases h
  |some cs=>
   rw[e2]at h;cases h;exact⟨b,cs,rfl,rfl,rfl⟩
theorem Mn:∀{ps:List Str}{as:List At},ij ka ps=some as->(∀a∈as,s9 a.nm=true)->AtsF ps as
 |[],as,h,_=>by cases h;exact .nil
 |p::ps,as,h,hg=>by
  obtain⟨b,cs,rfl,h1,h2⟩:=Do h;exact .cons (DC h1 (hg b aH)) (Mn h2 λa ha=>hg a (aF _ ha))
theorem Iq:∀{qs:List Str}{as:List At},ij a8 qs=some as->(∀a∈as,s9 a.nm=true/\a.ts≠[])->∃ps,qs=ps.map (λq=>q++p8)/\AtsF ps as
 |[],as,h,_=>by cases h;exact⟨[],rfl,.nil⟩
 |p::ps,as,h,hg=>by
  obtain⟨b,cs,rfl,h1,h2⟩:=Do h;obtain⟨g1,g2⟩:=hg b aH;obtain⟨q,rfl,k⟩:=Yx h1 g1 g2;obtain⟨qs,rfl,ks⟩:=Iq h2 λa ha=>hg a (aF _ ha);exact⟨q::qs,rfl,.cons k ks⟩
def w9:Str:="ask"
def Ac:Str:=")."
def Xn(x:Str)(hd:List Tm)(as:List At):Prop:=∃H p ps,Ct H=some hd/\AtsF (p::ps) as/\x=w9++brk++(H++jf++bH e8 (p::ps))++Ac
def Lr:sg (w9++brk)=[97,115,107,40]:=by decide+kernel
def Ls:sg Ac=[41,46]:=by decide+kernel
def Oh:sg e8=41::[44,32]:=by decide+kernel
def Oi:jf=p8++fk:=by decide+kernel
def S1{M:Str}:Dl (w9++brk++M++Ac)=true/\jz (w9++brk++M++Ac)=M:=by
 have e:sg (w9++brk++M++Ac)=[97,115,107,40]++(sg M++[41,46]):=by rw[aq,aq,Lr,Ls,aV]
 have l:(w9++brk++M++Ac).length=6+M.length:=by
  rw[<-ah,e,aI,aI,ah];simp
  lia
 refine⟨?_,?_⟩
 ·unfold Dl;rw[aA,L0,Ku];have l1:("ask(":Str).length=4:=by decide+kernel
  have l2:(").":Str).length=2:=by decide+kernel
  refine⟨?_,?_,?_⟩
  ·rw[e,l1,show sg ("ask(":Str)=[97,115,107,40] by decide+kernel];rfl
  ·rw[l,l2];lia
  ·rw[l,l2,e,<-aV];refine(List.drop_left' ?_).trans (by decide+kernel);rw[aI,ah];simp
   lia
 ·unfold jz;rw[l,e];show S ((sg M++[41,46]).take (6+M.length - 2 - 4))=M;rw[show 6+M.length - 2 - 4=(sg M).length by rw[ah];lia,hU,G8]
def Ua{x:Str}(h:Dl x=true):x=w9++brk++jz x++Ac:=by
 unfold Dl at h;rw[aA]at h;have h6:=CS h.1 h.2;have h1:=(L0 _ _).mp h.1;obtain⟨hl,h2⟩:=(Ku _ _).mp h.2;have l1:("ask(":Str).length=4:=by decide+kernel
 have l2:(").":Str).length=2:=by decide+kernel
 have e1:sg ("ask(":Str)=[97,115,107,40]:=by decide+kernel
 have e2:sg (").":Str)=[41,46]:=by decide+kernel
 rw[l1,e1]at h1;rw[l2,e2]at h2;refine l9 ?_;rw[aq,aq,Lr,Ls];unfold jz;rw[p7,<-h1,<-h2,aV]
 conv=>lhs;rw[<-dH 4 (sg x)]
 congr 1
 conv=>lhs;rw[<-dH (x.length - 2 - 4) ((sg x).drop 4)]
 congr 1
 rw[List.drop_drop]
 congr 1
 lia
def Py{x:Str}{hd:List Tm}{as:List At}(h:Xn x hd as):vz x=some (hd,as):=by
 obtain⟨H,p,ps,h1,h2,rfl⟩:=h;obtain⟨m1,m2⟩:=S1 (M:=H++jf++bH e8 (p::ps));unfold vz;obtain⟨_,q2,q3⟩:=Xy (b:=bH e8 (p::ps)) (Tb h1 (c:=41) (.inr (.inl rfl)));rw[aB m1,m2,q2,q3,h1,Lv Oh (by decide+kernel) h2.no];have:=h2.all (f:=ka) (g:=id) λp a h=>h.atom;rw[mJ]at this;rw[this];rfl
def Q3{x:Str}{hd:List Tm}{as:List At}(h:vz x=some (hd,as))(hg:∀a∈as,s9 a.nm=true):Xn x hd as:=by
 unfold vz at h;split at h
 ·rename_i hs;have e:=Ua hs;cases e1:Ct (pA (jz x) jf)with
  |none=>rw[e1]at h;cases h
  |some hd'=>
   rw[e1,eX]at h;cases e2:ij ka (bF (pC (jz x) jf) e8)with
   |none=>rw[e2]at h;cases h
   |some as'=>
    rw[e2]at h;cases h;have j:=eB (pC (jz x) jf) e8;have sp:=split_pos (pC (jz x) jf) e8;obtain⟨m,_,⟨z,_⟩|⟨_,z,_⟩⟩:=jj (jz x) jf
    ·cases es:bF (pC (jz x) jf) e8 with
     |nil=>rw[es]at sp;simp at sp
     |cons p ps=>
      rw[es]at e2 j;refine⟨_,p,ps,e1,Mn e2 hg,?_⟩;rw[j,<-z];exact e
    ·exfalso;rw[z]at e2;have:ij ka (bF cX e8)=none:=by decide+kernel
     rw[this]at e2;cases e2
 ·cases h
def S0{x:Str}{hd:List Tm}{as:List At}(h:Xn x hd as):mf x=some (hd,as):=by
 obtain⟨H,p,ps,h1,h2,e⟩:=h;have e:x=w9++brk++H++p8++fk++(bH e8 (p::ps)++Ac):=by
  rw[e,Oi];simp only[tu]
 have ha:a8 (w9++brk++H++p8)=some ⟨w9,hd⟩:=Ip (by decide+kernel) h1;have no:58∉sg (w9++brk++H++p8):=by
  rw[aq,aq,Lr,A4,fI,fI];have:=Tb h1 (c:=58) (.inr (.inr rfl));simp[this]
 obtain⟨q1,q2,q3⟩:=Xx (b:=bH e8 (p::ps)++Ac) no;rw[<-e]at q1 q2 q3;have ee:Ac=p8++".":=by decide+kernel
 have l:sg x=sg (w9++brk++H++p8++fk++bH e8 (p::ps)++p8)++[46]:=by
  rw[e,ee];have:sg (".":Str)=[46]:=by decide+kernel
  simp only[aq,this,aV]
 have er:kf x=bH e8 (p::ps)++p8:=by
  unfold kf;rw[q3];have:sg (bH e8 (p::ps)++Ac)=sg (bH e8 (p::ps)++p8)++[46]:=by
   rw[aq,Ls,aq,A4,aV];rfl
  rw[this,fQ,G8]
 unfold mf;rw[q1];dsimp only;rw[aB ((Oj l).trans CU.symm),q2,ha,er,Wc Oh (by decide+kernel) (by decide) h2.no,Dw];have:=h2.all (f:=a8) (g:=λq=>q++p8) λp a h=>h.latom;rw[this];dsimp only[eX];exact aB (show w9="ask" from rfl)
def T2{x:Str}{hd:List Tm}{as:List At}(h:mf x=some (hd,as))(hg:∀a∈as,s9 a.nm=true/\a.ts≠[]):Xn x hd as:=by
 unfold mf at h;cases ea:at? x fk with
 |none=>rw[ea]at h;cases h
 |some i=>
  rw[ea]at h;dsimp only at h;split at h
  ·rename_i hdot;obtain⟨a1,a2,a3,a4⟩:=oq ea;have h5:=Mx ea hdot;have ll:fk.length=4:=by decide
   cases e1:a8 (pA x fk)with
   |none=>rw[e1]at h;cases h
   |some b=>
    rw[e1,eX]at h;cases e2:ij a8 (ib (bF (kf x) e8))with
    |none=>rw[e2]at h;cases h
    |some as'=>
     rw[e2,eX]at h;split at h
     ·rename_i hn;cases h;obtain⟨H,f1,f2⟩:=Bp e1;obtain⟨ps,g1,g2⟩:=Iq e2 hg;have sp:=split_pos (kf x) e8;have hne:bF (kf x) e8≠[]:=λz=>by rw[z]at sp;simp at sp
      have j:=zf e8 _ ps hne g1;rw[eB]at j;cases ps with
      |nil=>unfold ib at g1;simp at g1
      |cons p ps=>
       refine⟨H,p,ps,f2,g2,?_⟩;have lx:=Nk (hdot.trans CU);have hc:sg (pC x fk)=sg (kf x)++[46]:=by
        show _=(sg (pC x fk)).dropLast++[46];have q:(sg (pC x fk)).getLast?=some 46:=by
         rw[a3,List.getLast?_drop,aG (by rw[ah,ll];lia),lx];simp
        obtain⟨ys,ey⟩:=List.getLast?_eq_some_iff.mp q;rw[ey];simp
       refine l9 ?_
       conv=>lhs;rw[a4]
       have en:b.nm=w9:=hn;rw[f1,en,aq,hc,j,Oi];have:sg Ac=sg p8++[46]:=by decide+kernel
       simp only[aq,this,aV]
     ·cases h
  ·cases h
def Et{x:Str}{hd:List Tm}{as:List At}(hg:∀a∈as,a.good):vz x=some (hd,as)↔mf x=some (hd,as):=
 ⟨λh=>S0 (Q3 h λa ha=>(hg a ha).1),λh=>Py (T2 h λa ha=>⟨(hg a ha).1,λz=>by have:=(hg a ha).2.1;rw[z]at this;simp at this⟩)⟩
def BU{t u:Tm}(h:t.D=u.D):t=u:=by
 cases t<;>cases u<;>cases h<;>rfl
def Xt{a b:At}(h:a.D=b.D):a=b:=by
 obtain⟨n,ts⟩:=a;obtain⟨m,us⟩:=b;have h:Pu.D.tup [.str n,.tup (ts.map Tm.D)]=.tup [.str m,.tup (us.map Tm.D)]:=h;injection h with h
 injection h with h1 h2
 injection h1 with h1
 injection h2 with h2
 injection h2 with h2
 rw[h1,(List.map_inj_right λ_ _=>BU).mp h2]
def M4{m:Nat}{hd:List Tm}{as:List At}(g:Got hd as)(h:af (tab (m+3)) a9 [g9 hd as]=.ok (.bl true)):∀a∈as,a.good:=by
 rcases E9 m 0 g.pt with ⟨_,_,hd',as',e,_,k⟩|⟨q,_⟩
 ·unfold g9 at e;injection e with e
  injection e with _ e
  injection e with e
  injection e with e
  rw[(List.map_inj_right λ_ _=>Xt).mp e];exact k
 ·have q:af (tab (m+3)) a9 [g9 hd as]=.ok (.bl false):=q;rw[q]at h;cases h
def FV{m:Nat}{hd:List Tm}{as:List At}(g:Got hd as):af (tab (m+3)) a9 [g9 hd as]=.ok (.bl true)\/af (tab (m+3)) a9 [g9 hd as]=.ok (.bl false):=by
 rcases E9 m 0 g.pt with ⟨q,_⟩|⟨q,_⟩
 ·exact .inl q
 ·exact .inr q
def QK(n:Nat){x:Str}(h:Asc x)(hx:x.length<=900):(af (tab (n+8)) b8 [.str x]=.ok .non/\af (tab (n+7)) jg [.str x]=.er "NoText")\/∃hd as,Got hd as/\af (tab (n+8)) b8 [.str x]=.ok (g9 hd as)/\af (tab (n+8)) jg [.str x]=.ok (g9 hd as):=by
 have L:=K5 (n+4) h hx;have R:=Eo n (n+4) h hx;have R1:=Eo (n+1) (n+4) h hx;have rr:∀{hd as},vz x=some (hd,as)->¬mf x=some (hd,as)->af (tab (n+7)) jg [.str x]=.er "NoText":=λ{hd as} e ne=>by
  rw[e]at R;obtain⟨g,⟨q,_⟩|⟨_,q⟩⟩:=R
  ·exact absurd ((Et (M4 g q)).mp e) ne
  ·exact q
 cases el:mf x with
 |none=>
  rw[el]at L;refine .inl ⟨L,?_⟩;cases er:vz x with
  |none=>rw[er]at R;exact R
  |some a=>exact rr (hd:=a.1) (as:=a.2) er (by rw[el];exact λz=>by cases z)
 |some a=>
  obtain⟨hd,as⟩:=a;rw[el]at L;obtain⟨g,L⟩:=L;rcases FV (m:=n+4) g with q|q
  ·have e:=(Et (M4 g q)).mpr el;have L:=L true q;rw[e]at R1;obtain⟨_,⟨_,k⟩|⟨k,_⟩⟩:=R1
   ·exact .inr ⟨hd,as,g,L,k⟩
   ·rw[k]at q;cases q
  ·have L:=L false q;refine .inl ⟨L,?_⟩;cases er:vz x with
   |none=>rw[er]at R;exact R
   |some b=>
    obtain⟨hd',as'⟩:=b
    by_cases hb:mf x=some (hd',as')
    ·rw[el]at hb;cases hb;rw[er]at R;obtain⟨_,⟨k,_⟩|⟨_,k⟩⟩:=R
     ·rw[k]at q;cases q
     ·exact k
    ·exact rr er hb
def Rv{hd:List Tm}{as:List At}(g:Got hd as):wy 4 (g9 hd as):=uy λd hd'=>by
 rcases List.mem_cons.mp hd' with rfl|hd'
 ·exact Q6 (uy (n:=0) λd h=>by
   obtain⟨t,ht,rfl⟩:=List.mem_map.mp h;exact Ow (g.hg t ht)) (by decide)
 ·rw[List.mem_singleton.mp hd'];exact uy (n:=2) λd h=>by
   obtain⟨a,ha,rfl⟩:=List.mem_map.mp h;exact Mm (g.ag a ha).1 (g.ag a ha).2.1
def Sr{hd:List Tm}{as:List At}(d:Drawn hd as):(∀t∈hd,Cw t)/\∀a∈as,WrA a:=by
 refine⟨λt ht=>?_,λa ha=>?_⟩
 ·rcases d.ho t ht with ⟨z,rfl,h|h⟩|⟨x,rfl,h⟩
  ·rw[h];show(0:Int).natAbs<_;decide
  ·rw[h];show(1:Int).natAbs<_;decide
  ·exact z7 d.ok x h
 ·obtain⟨h1,h2⟩:=d.ok a ha;have hn:(a.nm="r"\/a.nm="s"\/a.nm="t")/\a.ts.length<=3:=by
   rcases h1 with ⟨e,l⟩|⟨e,l⟩|⟨e,l⟩
   ·exact⟨.inl e,by lia⟩
   ·exact⟨.inr (.inl e),by lia⟩
   ·exact⟨.inr (.inr e),by lia⟩
  refine⟨λt ht=>?_,hn.2,?_,?_⟩
  ·have:=h2 t ht;cases t with
   |s x=>exact this
   |i z=>
    rcases this with h|h
    ·rw[h];show(-1:Int).natAbs<_;decide
    ·rw[h];show(0:Int).natAbs<_;decide
  ·rcases hn.1 with e|e|e<;>rw[e]<;>exact⟨by decide,by decide⟩
  ·rcases hn.1 with e|e|e<;>rw[e]<;>decide
def kj{fn:List Pu.D->Res}{r:En->ResL}{U:En}{ds:List Pu.D}{x:Res}(h1:r U=.ok ds)(h2:fn ds=x):ao fn r U=x:=by
 unfold ao;rw[h1];exact h2
def Yy(n:Nat)(ns:List Int):af (tab (n+9)) ue [sh ns]=.ok (.bl true):=by
 rw[KM];show cj (R0 (n+8) [.pu (sh ns),.no,.no,.no,.no])=_;have p6:Ji (.int 10) (.int 6)=some (.int 1000000):=by kernel_rfl
 have m1:=kq (n+6) ns 60 7 (by decide) (by decide);have m2:=kq (n+6) ns 61 1000000 (by decide) (by decide);obtain⟨a1,a2⟩:=ir ns 60 7 (by decide);obtain⟨b1,b2⟩:=ir ns 61 1000000 (by decide);generalize pv ns 60 7=w at m1 a1 a2;generalize pv ns 61 1000000=c at m2 b1 b2;unfold R0;have s1:cu 1 (ao (af (tab (n+8)) bu) (ae (aa 0) (ae (gC (.int 60)) (ae (gC (.int 7)) ak)))) [.pu (sh ns),.no,.no,.no,.no]=.nx [.pu (sh ns),.pu (.int w),.no,.no,.no]:=by
  rw[mq,kj (ds:=[sh ns,.int 60,.int 7]) rfl m1];rfl
 have s2:cu 2 (ao (af (tab (n+8)) bu) (ae (aa 0) (ae (gC (.int 61)) (ae (g2 Ji (gC (.int 10)) (gC (.int 6))) ak)))) [.pu (sh ns),.pu (.int w),.no,.no,.no]=.nx [.pu (sh ns),.pu (.int w),.pu (.int c),.no,.no]:=by
  rw[mq,kj (ds:=[sh ns,.int 61,.int 1000000]) (by simp[p6]) m2];rfl
 rw[cb,s1];dsimp only;rw[cb,s2];dsimp only;have c1:g2 f6 (aa 1) (gC (.int 6)) [.pu (sh ns),.pu (.int w),.pu (.int c),.no,.no]=.ok (.bl (w==6)):=by simp
 rw[cb,oi,c1,bf]
 by_cases hw:w=6
 ·subst hw;obtain⟨d,e1,e2⟩:=FO n c;have r1:ae (g2 ar (ie (ae (gC .non) (ae (gC (.int 2)) (ae (ie (ae (gC (.str "ask()")) ak)) (ae (k8 (ae (k8 ak) (ae (k8 ak) ak))) (ae (gC (.bl true)) ak)))))) (g2 ig (aa 2) (gC (.int 5)))) ak [.pu (sh ns),.pu (.int 6),.pu (.int c),.no,.no]=.ok [d]:=by
   have em:ig (.int c) (.int 5)=some (.int (c % 5)):=sy c 5 (by decide);simp[e1,em]
  show cj (match b9 (ao (af (tab (n+8)) ft) _) [.pu (sh ns),.pu (.int 6),.pu (.int c),.no,.no]with
   |.nx δ'=>_
   |o=>o)=_
  rw[oj,kj r1 e2];rfl
 ·rw[show(w==6)=false from beq_eq_false_iff_ne.mpr hw];dsimp only;rw[u6];dsimp only;obtain⟨hd,as,dr,e3⟩:=Pg (n+3) ns 0 4 (by decide) (by decide) (by decide);obtain⟨d1,d2⟩:=Sr dr;obtain⟨x,x1,x2,x3⟩:=Mh (n+7) d1 dr.hl d2 dr.len.2;obtain⟨y,y1,y2,y3⟩:=Q8 (n+7) x1 x2 w c a1 (by lia) b1;have s3:cu 3 (ao (af (tab (n+8)) fj) (ae (ao (af (tab (n+8)) i6) (ae (ao (af (tab (n+8)) il) (ae (aa 0) (ae (gC (.int 0)) (ae (gC (.int 4)) ak)))) ak)) (ae (aa 1) (ae (aa 2) ak)))) [.pu (sh ns),.pu (.int w),.pu (.int c),.no,.no]=.nx [.pu (sh ns),.pu (.int w),.pu (.int c),.pu (.str y),.no]:=by
   have k1:ao (af (tab (n+8)) il) (ae (aa 0) (ae (gC (.int 0)) (ae (gC (.int 4)) ak))) [.pu (sh ns),.pu (.int w),.pu (.int c),.no,.no]=.ok (g9 hd as):=kj rfl e3;have k2:ao (af (tab (n+8)) i6) (ae (ao (af (tab (n+8)) il) (ae (aa 0) (ae (gC (.int 0)) (ae (gC (.int 4)) ak)))) ak) [.pu (sh ns),.pu (.int w),.pu (.int c),.no,.no]=.ok (.str x):=by
    refine kj ?_ x3;rw[Md,k1];rfl
   rw[mq,kj (ds:=[.str x,.int w,.int c]) (by rw[Md,k2];rfl) y3];rfl
  rw[cb,s3];dsimp only;have ob:∀{d:Pu.D},af (tab (n+8)) b8 [.str y]=.ok d->cu 4 (ao (af (tab (n+8)) b8) (ae (aa 3) ak)) [.pu (sh ns),.pu (.int w),.pu (.int c),.pu (.str y),.no]=.nx [.pu (sh ns),.pu (.int w),.pu (.int c),.pu (.str y),.pu d]:=λ{d} e=>by
   rw[mq,kj (ds:=[.str y]) rfl e];rfl
  rcases QK n y1 y2 with ⟨f1,f2⟩|⟨hd',as',g,f1,f2⟩
  ·rw[cb,ob f1];dsimp only;have c2:g2 qr (aa 4) (gC .non) [.pu (sh ns),.pu (.int w),.pu (.int c),.pu (.str y),.pu .non]=.ok (.bl true):=rfl;rw[cb,oi,c2,bf];show cj (match b9 (ao (af (tab (n+8)) ft) _) [.pu (sh ns),.pu (.int w),.pu (.int c),.pu (.str y),.pu .non]with
    |.nx δ'=>_
    |o=>o)=_
   rw[oj,kj (ds:=[.str y]) rfl (l8 n f2)];rfl
  ·rw[cb,ob f1];dsimp only;have c2:g2 qr (aa 4) (gC .non) [.pu (sh ns),.pu (.int w),.pu (.int c),.pu (.str y),.pu (g9 hd' as')]=.ok (.bl false):=rfl;rw[cb,oi,c2,bf];dsimp only;rw[u6];dsimp only;have r:ao (af (tab (n+8)) jg) (ae (aa 3) ak) [.pu (sh ns),.pu (.int w),.pu (.int c),.pu (.str y),.pu (g9 hd' as')]=.ok (g9 hd' as'):=kj (ds:=[.str y]) rfl f2;have q:=(Yd (Rv g) (by decide)).1;have fin:g2 f6 (ao (af (tab (n+8)) jg) (ae (aa 3) ak)) (aa 4) [.pu (sh ns),.pu (.int w),.pu (.int c),.pu (.str y),.pu (g9 hd' as')]=.ok (.bl true):=by
    rw[u5,r];show Res.of (f6 (g9 hd' as') (g9 hd' as'))=_;rw[q];rfl
   rw[oj,fin];rfl
def T3(ns:List Int)(hn:ns.length<=63):af (tab 29) ue [.lst (ns.map Pu.D.int)]=.ok (.bl true):=Yy 20 ns
end LK
end
section
namespace LK
open PySem PySem.Spec PyProof.Rows L2 Pu
def SS(K:aP)(d:DefR):Prop:=∃f oc kV dc pm cd ct od an sl,eQ K cG d.x=some (some (.ref f))/\K.lookup f=some ⟨oc,od,.func (dJ d.x d.x (j5 d.st) (gd d.st) (bp d.st) .none kV dc pm an cd ct),sl⟩/\fY K cd d.x=true/\bU K (.ref f)=true
def TH{K:aP}{d:DefR}{f oc kV dc pm cd ct od an sl}(a:eQ K cG d.x=some (some (.ref f)))(l:K.lookup f=some ⟨oc,od,.func (dJ d.x d.x (j5 d.st) (gd d.st) (bp d.st) .none kV dc pm an cd ct),sl⟩)(c:fY K cd d.x=true)(k:bU K (.ref f)=true):SS K d:=⟨_,_,_,_,_,_,_,_,_,_,a,l,c,k⟩
def CD:∀d∈Fs,By d=true/\d.lm=false:=by decide+kernel
def KU:∀d∈Fs,E5 d.st d.x:=by
 intro d hd;simp only[Fs,cP,eA,or_false]at hd;rcases hd with rfl|rfl|rfl|rfl|rfl|rfl|rfl|rfl|rfl|rfl|rfl|rfl|rfl|rfl|rfl|rfl|rfl|rfl|rfl|rfl|rfl|rfl|rfl|rfl|rfl|rfl|rfl|rfl|rfl|rfl|rfl|rfl
 all_goals (intro _ _ _ _ _ _ us hl;rcases us with _|⟨_,_|⟨_,_|⟨_,_|⟨_,_|_⟩⟩⟩⟩<;>first|rfl|cases hl)
def DG{l:PySem.W.OpenLaw}{w:cH}{K:aP}{h:Heap}{mg:Str->Option aC}{fa:Addr}{n:Nat}{s:FS}(X:K.In h)(G:h.Ns cG mg)(hfa:mg "law"=some (.ref fa))(hl:(tab n).fns "law"=some s)(hm:s.ms=[false])(law:∀ns:List Int,ns.length<=63->s.f [.lst (ns.map D.int)]=.ok (.bl true))
  {t0:Tok}
  {t1:Tok}
  {C0:Addr}
  {C1:Addr}
  {C2:Addr}
  (hD:∀d∈Fs,SS K d)
  (hB:∀x∈wd,eQ K cG x=some none)
  (s0:eQ K cG "LETTERS"=some (some (.str "abcdefghijklmnopqrstuvwxyz" t0)))
  (s1:eQ K cG "FIGURES"=some (some (.str "0123456789" t1)))
  (xa0:eQ K cG "AskError"=some (some (.ref C0)))
  (xe0:eD K C0 [.type "ValueError",.type "Exception",.type "BaseException",.type "object"] "ValueError.__new__"=true)
  (xv0:iG K (.ref C0) (.type "ValueError")=some true)
  (xa1:eQ K cG "NoAsking"=some (some (.ref C1)))
  (xe1:eD K C1 [.type "ValueError",.type "Exception",.type "BaseException",.type "object"] "ValueError.__new__"=true)
  (xv1:iG K (.ref C1) (.type "ValueError")=some true)
  (xa2:eQ K cG "NoText"=some (some (.ref C2)))
  (xe2:eD K C2 [.type "ValueError",.type "Exception",.type "BaseException",.type "object"] "ValueError.__new__"=true)
  (xv2:iG K (.ref C2) (.type "ValueError")=some true)
  (xp0:cU K (.ref C0) (.ref C0)=some true)
  (xp1:cU K (.ref C1) (.ref C1)=some true)
  (xp2:cU K (.ref C1) (.ref C0)=some true)
  (xp3:cU K (.ref C2) (.ref C2)=some true)
  (xp4:cU K (.ref C2) (.ref C0)=some true)
  (xl2:C2∈uk)
  (xn0:C0∉uk)
  (xn1:C1∉uk):
  ∃fd:dX,(∀(s:aK)(v:aC),BindsTo s fd ⟨[v],[]⟩ [("_law_script",v)])/\∀base:Heap,K.In base->base.Ns cG mg->Bm mg base->FnOk l.prog w K mg base DI n fa fd ["_law_script"] (Oq K):=by
 obtain⟨_,_,kV,dc,pm,cd,ct,_,an,_,a,l,c,k⟩:=hD ue (by simp only[Fs,cP,true_or,or_true]);cases hfa.symm.trans (bS X G a);have hd:∀d∈Fs,DefIn K mg d:=by
  intro d hd;obtain⟨_,_,_,_,_,_,_,_,_,_,a,l,c,k⟩:=hD d hd;exact EV X G (CD d hd).1 (KU d hd) a l c k (λz=>by rw[(CD d hd).2]at z;cases z)
 have hs:∀x y,gs x=some y->∃t,mg x=some (.str y t):=by
  intro x y e;unfold gs at e
  by_cases h0:x="LETTERS"
  ·rw[aB h0]at e;cases e;subst h0;exact⟨_,bS X G s0⟩
  rw[aG h0]at e
  by_cases h1:x="FIGURES"
  ·rw[aB h1]at e;cases e;subst h1;exact⟨_,bS X G s1⟩
  rw[aG h1]at e;cases e
 have hb:∀x∈wd,mg x=none:=λx hx=>PySem.W.mg_none_of X G (hB x hx);have hX:XsIn K mg xs:=by
  refine⟨λx h=>?_,λc y h=>?_,λc h=>?_,λc y h=>?_,λx h=>?_,λc h=>?_⟩
  ·simp only[xs,cT,aA,decide_eq_true_eq,Bool.false_eq_true,or_false]at h;rcases h with rfl|rfl|rfl
   ·exact⟨C0,_,_,bS X G xa0,xe0,Mf⟩
   ·exact⟨C1,_,_,bS X G xa1,xe1,Mf⟩
   ·exact⟨C2,_,_,bS X G xa2,xe2,Mf⟩
  ·simp only[xs,cT,aA,decide_eq_true_eq,Bool.false_eq_true,or_false]at h;rcases h with ⟨rfl,rfl⟩|⟨rfl,rfl⟩|⟨rfl,rfl⟩|⟨rfl,rfl⟩|⟨rfl,rfl⟩
   ·exact⟨C0,bS X G xa0,by rw[kg (bS X G xa0)];exact xp0⟩
   ·exact⟨C1,bS X G xa1,by rw[kg (bS X G xa1)];exact xp1⟩
   ·exact⟨C0,bS X G xa0,by rw[kg (bS X G xa1)];exact xp2⟩
   ·exact⟨C2,bS X G xa2,by rw[kg (bS X G xa2)];exact xp3⟩
   ·exact⟨C0,bS X G xa0,by rw[kg (bS X G xa2)];exact xp4⟩
  ·simp only[xs,cT,aA,decide_eq_true_eq,Bool.false_eq_true,or_false]at h;rcases h with rfl|rfl|rfl
   ·rw[kg (bS X G xa0)];show(if mE "ValueError"=true then iG K (.ref C0) (.type "ValueError")else none)=some true;rw[aB (by decide+kernel)];exact xv0
   ·rw[kg (bS X G xa1)];show(if mE "ValueError"=true then iG K (.ref C1) (.type "ValueError")else none)=some true;rw[aB (by decide+kernel)];exact xv1
   ·rw[kg (bS X G xa2)];show(if mE "ValueError"=true then iG K (.ref C2) (.type "ValueError")else none)=some true;rw[aB (by decide+kernel)];exact xv2
  ·simp only[xs,cT,aA,decide_eq_true_eq,Bool.false_eq_true,or_false]at h
  ·simp only[xs,cT,aA,decide_eq_true_eq,Bool.false_eq_true,or_false]at h;rcases h with rfl
   ·exact⟨C2,xl2,bS X G xa2⟩
  ·simp only[xs,cT,aA,decide_eq_true_eq,Bool.false_eq_true,or_false]at h;rcases h with rfl|rfl
   ·rw[kg (bS X G xa0)];exact xn0
   ·rw[kg (bS X G xa1)];exact xn1
 refine⟨dJ ue.x ue.x (j5 ue.st) (gd ue.st) (bp ue.st) .none kV dc pm an cd ct,λs v=>.of_eq rfl,λbase kb _ bm=>?_⟩;exact FX FN rfl a l c k kb bm hd hs hb hX hl hm law
end LK
namespace PySem.W.Fast
def tw13310971218137421193:Nat:=0
def tw8911719523353457527:Nat:=0
def tw17499037515562491812:Nat:=0
def tw17812586639315903841:Nat:=0
def tw12704095314938496840:Nat:=0
def tw15383842929446171019:Nat:=0
def tw14546544255821954478:Nat:=0
def tw5090710427987198642:Nat:=0
def tw15814509738363383102:Nat:=0
def tw15443388317290584416:Nat:=0
def tw6188597006867220628:Nat:=0
def tw12784429811544547132:Nat:=0
def tw8120496648217680342:Nat:=0
def tw2752620249486179525:Nat:=0
def tw16904697666814442182:Nat:=0
def tw16262103137570366770:Nat:=0
def tw7603591852915741014:Nat:=0
def tw12232187642608590816:Nat:=0
def tw16382922898165950425:Nat:=0
def tw1260878366013963086:Nat:=0
def tw12133008255241890994:Nat:=0
def tw6106778199560351572:Nat:=0
def tw12849411610369401887:Nat:=0
def tw4258372786544784237:Nat:=0
def tw9669530352901923142:Nat:=0
def tw16397973118429687789:Nat:=0
def tw16717476866321338611:Nat:=0
def tw11855076404916647862:Nat:=0
def tw17214189067320637882:Nat:=0
def tw139707066641932884:Nat:=0
def tw10210116259459150851:Nat:=0
def tw10640338792198101604:Nat:=0
def tw10963154212902045411:Nat:=0
def tw11080939872867535880:Nat:=0
def tw15143105149117944569:Nat:=0
def tw6358571113420727520:Nat:=0
def tw640760039422891555:Nat:=0
def tw10724774375031674202:Nat:=0
def tw15062116066075850570:Nat:=0
def tw204913925391220727:Nat:=0
def tw2277560621245253793:Nat:=0
def tw5894683496298110759:Nat:=0
def tw5713380342845042079:Nat:=0
def tw4397495998515587255:Nat:=0
def tw17536130191417103033:Nat:=0
def tw10628008579713765782:Nat:=0
def tw321817142189775604:Nat:=0
def tw1357542067575817693:Nat:=0
def tw5335623011643365208:Nat:=0
def tw14876853669448285708:Nat:=0
def tw9482132936735389000:Nat:=0
def tw125958909997900186:Nat:=0
def tw5962060540451595458:Nat:=0
def tw15991076018517081867:Nat:=0
def tw11226911370950604368:Nat:=0
def tw204411814781434484:Nat:=0
def tw6049376921915905863:Nat:=0
def tw14050591451193997829:Nat:=0
def tw6932517358985517409:Nat:=0
def tw3915775104832292058:Nat:=0
def tw89366622942951685:Nat:=0
def tw13340091672146243294:Nat:=0
def tw11833210551215218850:Nat:=0
def tw11491458992180786108:Nat:=0
def tw8055051498657653433:Nat:=0
def tw6236582294477407551:Nat:=0
def tw17424890756681226086:Nat:=0
def tw6337286908163014539:Nat:=0
def tw2449230472435921252:Nat:=0
def tw3929462583897345328:Nat:=0
def tw16113165953563863583:Nat:=0
end PySem.W.Fast
open PySem PySem.W PyProof.Rows
set_option maxRecDepth 100000 in
set_option maxHeartbeats 0 in
theorem PySem.Challenge.cw_askbook_k20_texts_refused_holds : PySem.Challenge.rw_askbook_k20_texts_refused.Holds := by
 w_on;o_law;k_head;(case hw=>w_witness2)
 k_fill
 refine Pu.OW (l:=PySem.Challenge.rw_askbook_k20_texts_refused) (k:=30) rfl rfl ⟨rfl,by decide,by decide⟩ (by decide) (λw h Y=>PySem.W.kIn_of Y) ?hNt ?hTb ?hFn
 case hNt=>intro w;kernel_rfl
 case hTb=>intro w h Y p hp;cases hp
 case hFn=>
  intro w mg fa h KX G hmg
  refine' LK.DG (n:=30) KX G hmg (Pu.Wq 29 rfl) rfl LK.T3 ?hD ?hB ?s0 ?s1 ?xa0 ?xe0 ?xv0 ?xa1 ?xe1 ?xv1 ?xa2 ?xe2 ?xv2 ?xp0 ?xp1 ?xp2 ?xp3 ?xp4 ?xl2 ?xn0 ?xn1
  case hD=>
   intro d hd
   simp only[LK.Fs,List.mem_cons,List.not_mem_nil,or_false]at hd
   rcases hd with rfl|rfl|rfl|rfl|rfl|rfl|rfl|rfl|rfl|rfl|rfl|rfl|rfl|rfl|rfl|rfl|rfl|rfl|rfl|rfl|rfl|rfl|rfl|rfl|rfl|rfl|rfl|rfl|rfl|rfl|rfl|rfl
   all_goals (refine' LK.TH ?a ?l ?c ?k;(case a=>k_is);(case l=>k_is);(case c=>k_is);(case k=>k_is))
  case hB=>
   intro x hx
   simp only[Pu.wd,List.mem_cons,List.not_mem_nil,or_false]at hx
   rcases hx with rfl|rfl|rfl|rfl|rfl|rfl|rfl|rfl|rfl|rfl|rfl|rfl|rfl|rfl|rfl|rfl|rfl|rfl|rfl|rfl
   all_goals k_is
  (case s0=>k_is)
  (case s1=>k_is)
  (case xa0=>k_is)
  (case xe0=>k_exc)
  (case xv0=>k_is)
  (case xa1=>k_is)
  (case xe1=>k_exc)
  (case xv1=>k_is)
  (case xa2=>k_is)
  (case xe2=>k_exc)
  (case xv2=>k_is)
  (case xp0=>kts_exm)
  (case xp1=>kts_exm)
  (case xp2=>kts_exm)
  (case xp3=>kts_exm)
  (case xp4=>kts_exm)
  (case xl2=>decide)
  (case xn0=>decide)
  (case xn1=>decide)
end
