import PyProof.Rows.All
import Wide.All
import OpenK.AllK
import Wide.FinOn
import Lean
import PyProof.EqAt
import PyProof.EqKinds
import PyProof.TupleCall
import KE.KTryMore
import KE.KDictLaws
import KE.KDictList
import KE.KDictOf
import PyProof.AttrMiss
import KE.KSortTup
import PyProof.SetScanFacts
import PyProof.SetKind
import PyProof.ZipIter
import PyProof.WalkInts
import KE.KMinKey
import KE.KIntText
import PyProof.Draws
import PySem.Challenge.RW_askbook_k15_put_together
import PyProof.P3Eq
import KE.RegKTryMore
set_option Elab.async false
set_option linter.all false
set_option maxRecDepth 100000
set_option maxHeartbeats 4000000
open PySem renaming wpAny_bind→aC,wpAny_pure→aD,Value→aG,Shared→aI,sizeLine→aQ,model→bB,wpAny→bF,Program→bH,starEach→bM,World→bV,Around→cB,wpAny_mono→cJ,wpAny_call_entry→cL,sizeLine_eq→cR,SetTable→cT,wpAny_holding→cX,cLine→cZ,wpAny_newObj_type→dI,wpAny_callSpecial?_slot→dR,wpAny_truthy_bool→dS,wpAny_setState_of→dW,compareOp→dX,rawInt→eA,mainGlobals→eB,codeAny_builtin→eM,plainId_quiet→eV,IsTupleKey→eW,wpAny_rule→eY,wpAny_seqItems→eZ,backTo→fF,wpAny_forIn_list→fG,wpAny_isInstance→fH,wpAny_typeNameOfWhole_itemiter→fJ,Scope→fK,wpAny_typeNameOfWhole_keyiter→fQ,wpAny_setField→fR,foldedSetIterable→fV,wpAny_pyIter_list→fW,wpAny_dictEntries→fY,sysModules→gE,wpAny_setEntries_of→gI,wpAny_attempt→gQ,NameKind→gR,wpAny_fieldsOf→gW,firstArgMember→gX,wpAny_passesOwn→hU,wpAny_updateSeq→iB,codeAny→iE,Keyword→iF,wpAny_pyIter_slot→iI,attributeBase→iM,mem_of_lookup→iP,wpAny_askSetting→iT,keywordEach→iW,codeAny_mono→jA,wpAny_Call_Name_kw→jB,PyData→jD,wpAny_setField_rec→jG,wpAny_specialOf→jH,binaryOp→jI,wpAny_dictEpoch→jK,wpAny_notOrdered_dict→jL,assignEach→jT,FuncData→jV,swapsWith→kC,wpAny_typeOf→kG,IsItemIter→kX,sliceBounds→lA,wpAny_of_eq→lC,bootBuiltins→lG,atKey_none_of_get→lQ,wpAny_storeSet_of→lT,wpAny_isOneOf_itemiter→lU,wpAny_tryCatch→lV,isSubtype_tuple_tuple→lZ,cellsFrom→mG,behindInMarks→mN,backToKw→mS,wpAny_execs_nil→mZ,pyNext→nA,wpAny_ite_split→nE,storedH→nL,argBest→nN,PassesOwn→nO,wpAny_tupleItemsOf→nQ,builtinsNs→nS,call_meets→nU,isSubtype_stop→nZ,Reads→oF,relabel→oG,ofAClassStatement→oK,wpAny_letGo→oM,wpAny_handled→oQ,noFill_tuple_add→oR,seqIndex?→oS,DictEntry→oY,concat_meets→pB,call_meetsIn→pC,notedBy→pE,letOwnedTupleGo→pH,atKey→pK,pyIter→pQ,wpAny_throw→pT,hashByValue→pU,wpAny_field→pV,eqIsQuiet→pX,lastMarks→pY,pushCells→pZ
open List renaming length_cons→aE,length_map→aF,length_append→aM,map_cons→aR,range→aS,getD_eq_getElem?_getD→aU,getElem?_eq_getElem→aW,mem_cons_of_mem→aY,mem_cons_self→aZ,getElem?_set_ne→bE,getElem?_map→bJ,getElem?_set_self→bK,size_toArray→bO,mem_of_getElem?→bR,append_nil→bT,map_map→bW,replicate→bY,length_range→bZ,getElem?_append_left→cA,append_assoc→cD,all_cons→cF,mem_append_right→cH,take_append_drop→cI,getElem?_append_right→cK,map_congr_left→cM,map_append→cO,drop_eq_getElem_cons→cU,idxOf_lt_length_of_mem→cW,cons_append→cY,length_nil→dA,length_set→dB,length_filter_le→dD,length_drop→dE,lookup_cons→dF,mem_append_left→dG,length→dH,take_of_length_le→dJ,mem_cons→dM,length_replicate→dN,length_take→dQ,length_singleton→eD,getElem?_eq_none→eI,getElem?_of_mem→eL,length_range'→eS,nodup_nil→fE,map_nil→fO,getElem?_cons_zero→fX,getElem?_cons_succ→gA,filterMap_cons→gH,drop_of_length_le→gK,any_cons→gN,cons_lt_cons_iff→gY,find?_cons→iA,nil_append→iD,pairwise_map→iH,mem_map→iJ,filter_cons→iR,getElem_mem→iV,mem_singleton→jF,nodup_append→jP,ext_getElem?→jR,lookup→jU,mem_of_mem_drop→jY,mem_of_mem_take→jZ,lt_irrefl→kA,perm_ext_iff_of_nodup→kB,ext_getElem→kF,getElem?_range→kH,lt_trans→kQ,pairwise_singleton→lD,flatten_cons→lP,pairwise_lt_range→lS,eraseIdxIfInBounds_toArray→lX,drop_length→mH,any_eq_true→mJ,not_mem_nil→mK,of_mem_zip→nB,mem_append→nG,mem_filter→nH,drop_drop→nX,set_cons_succ→nY,flatMap_cons→oN,nodup_range→oV,range'_succ→oW,map_fst_zip→oX,foldl_cons→pO,Perm→qB
open PySem.Heap renaming get?_push_of_some→aH,get?_push_size→aT,lt_size→aV,get?_update_self→cE,SameBut→cQ,get?_update_other→dZ,size_push→eN,ExtBut→pS
open Nat renaming le_refl→aJ,ne_of_lt→bL,lt_of_lt_of_le→bS,zero_le→bX,le_trans→cG,lt_irrefl→cP,lt_or_ge→eO,zero_add→eP,lt_succ_self→fI,ne_of_gt→fL,le_of_eq→fM,lt_succ_of_lt→fZ,add_assoc→iL,le_add_right→iS,lt_trichotomy→jQ,le_succ→jW,lt_trans→kE,add_sub_cancel_left→lB,lt_of_le_of_lt→nV,le_of_not_lt→oT,pow_succ→pG,le_antisymm→pM,not_lt_zero→pN
open Array renaming length_toList→aO,getElem?_toList→bI,getElem?_eq_getElem→bQ,toList_append→dO,size_map→gU,map_push→gV,forIn_toList→iX,map_extract→jO,getD_eq_getD_getElem?→nM,getD→nW
open PySem.W renaming Frag→aP,kasC_bind→aX,kasC_pure→bC,fnOf→dC,keepIn→dP,kasC_range→eR,findIn→fA,emptyDict→fB,codeIn→fC,instObj→gF,hasDictIn→lH,cellsFrom_some→lI,kasC_get→lO,nsIn→lW,plainGet→mE,kasC_modify→mV,kasC_lift→nP,plainOver→oC,takerIn→pI,makesIn→pJ,kas_rev→qA
open Bool renaming and_eq_true→bA,or_eq_true→iC,and_false→lM,not_eq_true'→lN
open Option.some renaming inj→bN
open PySem.PyData renaming canLayAll0→bP,depthAll→cN,int→cS,eqv→cV,depth→fP,canLay0→fT,eqvAll→iO
open PySem.SeqAt renaming shaped→bU,canLay_of_shaped→gJ
open PySem.Heap.SameBut renaming update→cC
open Int renaming toNat_natCast→dU
open False renaming elim→dY
open PyProof.Rows renaming SortSt→eF,callWith_type1→jN,Keyed→jX,room_in_shaped→lK,SortKind→mU,lt_int→nI,AllBare→oB,envOfC→pA,bubble→pR
open PySem.F renaming plainAttrs_list→eJ,slot_dict_itemiterator_next→fS,slot_dict_keyiterator_next→gG,plainAttrs_dict→iQ,slot_dict_setdefault→jJ,slot_set_iter→jM,args_tuple_add_2→kL,slot_list_append→kN,type_list_append→kP,entry_tuple_add→kZ,slot_tuple_add→lJ,args_dict_itemiterator_next_1→lY,slot_dict_get→mB,args_dict_keyiterator_next_1→mI,entry_dict_itemiterator_next→mL,plain_min_loop→mM,entry_dict_keyiterator_next→mW,slot_tuple_lt→nD,type_dict_setdefault→nF,args_tuple_lt_2→oH,entry_tuple_lt→oU,entry_min_loop→oZ
open PySem.Value renaming none→eK,ref→fU,type→mD,bool→nR,int→pW
open PySem.Builtin.Dict_items renaming ownsTuple→eQ,ownedTupleFields→kS
open LawfulBEq renaming eq_of_beq→eU
open PySem.NameKind renaming cell→fN,free→gO
open List.Perm renaming refl→gS,swap→iU,eq_of_pairwise→kR
open PySem.Builtin.Tuple renaming tupleHashOf→gZ
open Classical renaming byContradiction→hJ
open List.Pairwise renaming nil→iG,imp→lR,filter→mY,map→oO
open PySem.AutoSeq1 renaming wpAny_loadPart'→iN
open Ne renaming symm→iY
open PySem.Calls renaming spliced_cons→iZ,callWith_builtin→jC,evalArgs_plain→mT,spliced_nil→oE
open PySem.SetTable renaming insertAt→jS,below→oA
open PyProof.Rows.F renaming entry_set_update_loop→kI,plain_set_update_loop→kJ
open PySem.Paired renaming length→kK
open PySem.Builtin.List renaming listTooLong→kM
open PyProof.Rows.SortSt renaming mk'→kU
open PySem.Obj renaming putSet→kW,mapSeq→nT,mapFields→oP
open PySem.Builtin.Str renaming occurrences→kY
open Option renaming bind_eq_some_iff→lE,map_some→pL
open Sum renaming inl→lF,inr→nJ
open PySem.Builtin.Dict renaming showsAll→mC
open True renaming intro→mF
open PySem.Shared renaming TypeIs→mO
open Inhabited renaming default→mP
open Sum.inl renaming inj→mQ
open ForInStep renaming yield→nC
open Function renaming comp_def→oJ
open PySem.Walks renaming list→pF
abbrev aK.{u}:=@if_neg.{u}
abbrev aN.{u}:=@if_pos.{u}
set_option bootstrap.genMatcherCode false
set_option compiler.extract_closed false
noncomputable section
set_option genInjectivity false
set_option genSizeOf false
namespace L2
open PySem
def wo:List Str:=["many"]
end L2
namespace L2
open PySem PySem.Spec PyProof.Rows
abbrev iu:=Sum Int Str
def Bg:iu->aG->Bool
 |.inl k,v=>Value.isInt k v
 |.inr x,v=>Value.isStrOf x v
def PQ(w:bV):iu->Int
 |.inl k=>hashInt k
 |.inr x=>hashStr w x
def bp:∀{k:iu}{v:aG},Bg k v=true->(∃i t,k=lF i/\v=pW i t)\/(∃x t,k=nJ x/\v=Value.str x t)
 |.inl i,v,h=>by
  obtain⟨t,e⟩:=Value.isInt_shape h;exact .inl ⟨i,t,rfl,e⟩
 |.inr x,v,h=>by
  obtain⟨t,e⟩:=Value.isStrOf_shape h;exact .inr ⟨x,t,rfl,e⟩
def P8(i:Int)(t:Tok):Bg (.inl i) (.int i t)=true:=by simp[Bg,Value.isInt]
def P9(x:Str)(t:Tok):Bg (.inr x) (.str x t)=true:=by simp[Bg,Value.isStrOf]
def FE(a b:Int):decide ((lF a:iu)=lF b)=(a==b):=by
 by_cases e:a=b
 ·subst e;simp
 ·rw[decide_eq_false (λq=>e (mQ q))];exact(beq_eq_false_iff_ne.mpr e).symm
def FB(a b:Str):decide ((nJ a:iu)=nJ b)=decide (a=b):=by
 by_cases e:a=b
 ·simp
 ·rw[decide_eq_false (λq=>e (Sum.inr.inj q)),decide_eq_false e]
def FD(a:Int)(b:Str):decide ((lF a:iu)=nJ b)=false:=decide_eq_false (λq=>nomatch q)
def FC(a:Str)(b:Int):decide ((nJ a:iu)=lF b)=false:=decide_eq_false (λq=>nomatch q)
def ao(c:bH)(w:bV):PySem.KeyKind c w iu where
 is:=Bg
 hash:=PQ w
 inj:=λv a b m g=>by
  rcases bp m with ⟨i,t,rfl,rfl⟩|⟨x,t,rfl,rfl⟩
  ·rcases bp g with ⟨j,u,rfl,e⟩|⟨y,u,rfl,e⟩
   ·injection e with d _;rw[d]
   ·exact nomatch e
  ·rcases bp g with ⟨j,u,rfl,e⟩|⟨y,u,rfl,e⟩
   ·exact nomatch e
   ·injection e with d _;rw[d]
 byValue:=λk v h=>by
  rcases bp h with ⟨i,t,rfl,rfl⟩|⟨x,t,rfl,rfl⟩<;>rfl
 pyHash:=λf h=>by
  rcases bp f with ⟨i,t,rfl,rfl⟩|⟨x,t,rfl,rfl⟩
  ·exact wpAny_pyHash_int h
  ·exact wpAny_pyHash_str h
 eqBool:=λl f h=>by
  rcases bp l with ⟨i,t,rfl,rfl⟩|⟨x,t,rfl,rfl⟩
  ·rcases bp f with ⟨j,u,rfl,rfl⟩|⟨y,u,rfl,rfl⟩
   ·rw[FE]at h;exact wpAny_eqBool_int h
   ·rw[FD]at h;exact SeqAt.EqAt.int_str i t y u _ _ _ _ h
  ·rcases bp f with ⟨j,u,rfl,rfl⟩|⟨y,u,rfl,rfl⟩
   ·rw[FC]at h;exact SeqAt.EqAt.str_int x t j u _ _ _ _ h
   ·rw[FB]at h;exact wpAny_eqBool_str h
 «strs»:=λk x t v h=>by
  rcases bp h with ⟨i,u,rfl,e⟩|⟨y,u,rfl,e⟩
  ·exact nomatch e
  ·injection e with d _
   subst d;cases v<;>rfl
def Ik(a:bH)(w:bV)(i:Int)(t:Tok):(ao a w).is (.inl i) (.int i t)=true:=P8 i t
def Il(a:bH)(w:bV)(x:Str)(t:Tok):(ao a w).is (.inr x) (.str x t)=true:=P9 x t
abbrev NK:=Sum iu (List iu)
abbrev a7:=List NK
def yb(a:bH)(w:bV)(h:Heap):NK->aG->Prop
 |.inl k,v=>(ao a w).is k v=true
 |.inr c,v=>∃b,v=.ref b/\eW (ao a w) h c b
inductive Cn{α:Type}(P:α->Prop)(Q:List α->Prop)(vs:List α):Prop
 |mk (v t) (_:vs=v::t) (_:P v) (_:Q t):Cn P Q vs
def e8(a:bH)(w:bV)(h:Heap):a7->List aG->Prop
 |[],b=>b=[]
 |k::r,b=>Cn (yb a w h k) (e8 a w h r) b
inductive ir(prog:bH)(w:bV)(h:Heap)(ks:a7)(a:Addr):Prop
 |mk (o items n) (_:h.get? a=some o) (_:o.cls=.type "tuple") (_:o.data=.seq items n) (_:e8 prog w h ks items.toList):ir prog w h ks a
section
variable{prog:bH}{w:bV}
def Vg:∀{x y:NK}{v:aG},yb prog w h x v->yb prog w h y v->x=y
 |.inl a,.inl b,v,l,j=>by rw[(ao prog w).inj v a b l j]
 |.inl a,.inr m,v,l,i=>by obtain⟨b,e,_⟩:=i;subst e;exact absurd ((ao prog w).byValue _ _ l) (by intro z;cases z)
 |.inr xs,.inl b,v,g,j=>by obtain⟨c,e,_⟩:=g;subst e;exact absurd ((ao prog w).byValue _ _ j) (by intro z;cases z)
 |.inr xs,.inr m,v,f,d=>by obtain⟨b,e,q⟩:=f;obtain⟨c,o,n⟩:=d;subst e;cases o;rw[q.inj n]
theorem e8.inj:∀{x y:a7}{c:List aG},e8 prog w h x c->e8 prog w h y c->x=y
 |[],[],_,_,_=>rfl
 |[],_::_,c,n,i=>by obtain⟨v,t,e,_⟩:=i;rw[n]at e;cases e
 |_::_,[],c,g,l=>by obtain⟨v,t,e,_⟩:=g;rw[l]at e;cases e
 |a::x,b::y,c,f,d=>by
  obtain⟨v,t,e,n,l⟩:=f;obtain⟨p,q,o,m,j⟩:=d;subst e;cases o;rw[Vg n m,e8.inj l j]
def Lw{h c:Heap}{o:Obj}{es j}(g:h.get? d=some o)(i:o.data=.dict es j)(f:cQ d h c):∀{k:NK}{v:aG},yb prog w h k v->yb prog w c k v
 |.inl k,v,e=>e
 |.inr l,v,a=>by obtain⟨b,e,q⟩:=a;exact⟨b,e,q.keeps g i f⟩
def e8.keeps{h g:Heap}{o:Obj}{es p}(j:h.get? d=some o)(l:o.data=.dict es p)(i:cQ d h g):∀{f:a7}{c:List aG},e8 prog w h f c->e8 prog w g f c:=by
 intro a;induction a with
 |nil=>rintro _ e;exact e
 |cons _ _ b=>rintro _ ⟨v,t,e,n,m⟩;exact⟨v,t,e,Lw j l i n,b m⟩
def bz(w:bV)(prog:bH):NK->Int
 |.inl k=>(ao prog w).hash k
 |.inr a=>tupleKeyHash (ao prog w) a
def N8:NK->Nat
 |.inl _=>1
 |.inr a=>a.length+1
def Ai(k:a7):Nat:=(k.map N8).sum
variable{A:cB}{E:aG->aI->Prop}{s:aI}
def Dz(c:A.units<cZ)(a:yb prog w s.1 k v)(h:Q (bz w prog k) {s with toks:=s.toks+N8 k}):bF (bB prog w) A (pyHash v) Q E s:=by
 cases k with
 |inl k=>exact(ao prog w).pyHash a h
 |inr d=>obtain⟨b,rfl,q⟩:=a;exact wpAny_pyHash_tuple c q h
def Q9{d:a7}(C:A.units+4<cZ)(r:ir prog w s.1 d a)(h:Q (reduceHash (gZ (d.map (bz w prog)))) {s with toks:=s.toks+(Ai d+1)}):
  bF (bB prog w) A (pyHash (.ref a)) Q E s:=by
 obtain⟨o,l,n,q,z,y,u⟩:=r;have i:s.TypeIs (.ref a) "tuple":=⟨o,q,z⟩
 first|unfold pyHashByItsType|skip
 first|refine aC (wpAny_cRoomFor_or (.inr (by lia)) ?_)|skip
 refine aC (jH i F.slot_tuple_hash.lookup ?_);refine aC (jH i F.slot_tuple_hash.lookup ?_);refine aC (wpAny_callSpecialIfBoundUnlessNone?_slot i F.slot_tuple_hash (cL F.slot_tuple_hash i F.entry_tuple_hash ?_ (F.args_tuple_hash_1 _)));show bF _ _ (Builtin.Tuple.tupleItemsOf _>>=_) _ _ s;refine aC (nQ q y ?_);refine aC ?_;rw[<-iX];refine fG _
  (λrest b j=>∃done left,d=done++left/\e8 prog w s.1 left rest/\b.toList=done.map (bz w prog)/\j={s with toks:=s.toks+Ai done})
  _ ?_ ?_ _ _ ⟨[],d,rfl,u,rfl,rfl⟩
 ·rintro x rest b j ⟨done,left,rfl,g,p,rfl⟩
  cases left with
  |nil=>cases (g)
  |cons k c=>
   obtain⟨v,t,e,B,m⟩:=g;cases e;refine aC (Dz (by show A.units+_<cZ;lia) B ?_)
   first
    |exact aD ⟨done++[k],c,by simp,m,by simp[p],by simp[Ai,iL]⟩
    |exact aC _
 ·rintro b j ⟨done,left,rfl,g,p,rfl⟩
  cases left with
  |cons k c=>obtain⟨v,t,e,_⟩:=g;cases e
  |nil=>
  rw[bT]at h;show bF _ _ (retInt _) _ _ _;rw[p];refine wpAny_ret_mkInt ?_;show bF _ _ (if _=true then _ else _) Q E _;unfold reduceHash at h
  by_cases f:(decide (-2 ^ 63<=gZ (done.map (bz w prog))) && decide (gZ (done.map (bz w prog))<2 ^ 63))=true
  ·rw[aN f];rw[aN f]at h;exact aD (by simpa[iL]using h)
  ·rw[aK f];rw[aK f]at h;exact aC (eY (aD (by simpa[iL]using h)))
def yd(g:eW (ao prog w) s.1 x a)(h:Q true s):bF (bB prog w) A (pX (n+1) (.ref a)) Q E s:=by
 have i:=g.typeIs;obtain⟨o,d,n,j,_,m,l⟩:=g;unfold pX;refine aC (jH i F.slot_tuple_eq.lookup ?_);refine aC (fH i lZ ?_);refine aC (eZ j m ?_);refine aC ?_;rw[<-iX];refine fG _ (λrest r c=>r.1=none/\c=s/\∀v∈rest,carriedByValue v=true) _ ?_ ?_ _ _ ⟨rfl,rfl,l.byValue⟩
 ·rintro v rest r c ⟨f,rfl,b⟩
  rw[eqIsQuiet_byValue _ (b v aZ)];refine aC (aD ?_);exact aD ⟨rfl,rfl,λu e=>b u (aY _ e)⟩
 ·rintro ⟨q,p⟩ c ⟨f,rfl,_⟩
  subst f;exact aD h
def Ww(y:ir prog w s.1 x a)(h:Q true s):bF (bB prog w) A (pX 8 (.ref a)) Q E s:=by
 obtain⟨o,g,n,l,C,B,z⟩:=y;have p:s.TypeIs (.ref a) "tuple":=⟨o,l,C⟩;unfold pX;refine aC (jH p F.slot_tuple_eq.lookup ?_);refine aC (fH p lZ ?_);refine aC (eZ l B ?_);refine aC ?_;rw[<-iX];refine fG _ (λrest r d=>r.1=none/\d=s/\∃left,e8 prog w s.1 left rest) _ ?_ ?_ _ _ ⟨rfl,rfl,x,z⟩
 ·rintro v rest r d ⟨j,rfl,left,m⟩
  cases left with
  |nil=>cases (m)
  |cons k f=>
   obtain⟨L,t,e,u,i⟩:=m;cases e;refine aC ?_;have G:bF (bB prog w) A (pX 7 v) (λb c=>b=true/\c=d) E d:=by
    cases k with
    |inl k=>rw[eqIsQuiet_byValue _ ((ao prog w).byValue _ _ u)];exact aD ⟨rfl,rfl⟩
    |inr J=>obtain⟨b,rfl,q⟩:=u;exact yd q ⟨rfl,rfl⟩
   refine cJ G (λb c ⟨I,H⟩=>?_) λ_ _ q=>q;subst I H;exact aD ⟨rfl,rfl,f,i⟩
 ·rintro ⟨N,M⟩ d ⟨j,rfl,_⟩
  subst j;exact aD h
def Dq(a:A.units<cZ)(e:Bg k v=true)(c:s.1.IsTuple b d)(h:Q false s):bF (bB prog w) A (eqBool v (.ref b)) Q E s/\bF (bB prog w) A (eqBool (.ref b) v) Q E s:=by
 rcases bp e with ⟨i,t,rfl,rfl⟩|⟨x,t,rfl,rfl⟩
 ·exact⟨SeqAt.EqAt.int_tuple i t c a _ _ _ _ h,SeqAt.EqAt.tuple_int i t c a _ _ _ _ h⟩
 ·exact⟨SeqAt.EqAt.str_tuple x t c a _ _ _ _ h,SeqAt.EqAt.tuple_str x t c a _ _ _ _ h⟩
def xt(j:A.units<cZ)(g:yb prog w s.1 x u)(f:yb prog w s.1 y v)(h:Q (decide (x=y)) s):bF (bB prog w) A (eqBool u v) Q E s:=by
 cases x with
 |inl a=>
  cases y with
  |inl b=>exact(ao prog w).eqBool g f (by
    have e:decide (a=b)=decide ((lF a:NK)=lF b):=by by_cases q:a=b<;>simp[q]
    rwa [e])
  |inr d=>
   obtain⟨b,rfl,o,i,n,p,m,l,_⟩:=f;exact(Dq j g ⟨o,p,m,n,l⟩ h).1
 |inr xs=>
  cases y with
  |inl b=>
   obtain⟨c,rfl,o,i,n,p,m,l,_⟩:=g;exact(Dq j f ⟨o,p,m,n,l⟩ h).2
  |inr d=>
   obtain⟨b,rfl,q⟩:=g;obtain⟨c,rfl,r⟩:=f;exact wpAny_eqBool_tuple j q r (by
    have e:decide (xs=d)=decide ((nJ xs:NK)=nJ d):=by by_cases q:xs=d<;>simp[q]
    rwa [e])
def e8.length:∀{x:a7}{b:List aG},e8 prog w h x b->x.length=b.length:=by
 intro a;induction a with
 |nil=>rintro b e;rw[e];rfl
 |cons _ _ c=>rintro _ ⟨v,t,e,_,d⟩;rw[e,aE,aE,c d]
def My(hu:A.units+2<cZ)(hx:ir prog w s.1 x a)(hy:ir prog w s.1 y b)(h:P (.done (.ret (.bool (decide (x=y))))) s):
  bF (bB prog w) A (Builtin.«tuple.__eq__» ⟨[.ref a,.ref b],[]⟩) P E s:=by
 obtain⟨oa,xs,na,L,η,T,O⟩:=hx;obtain⟨ob,J,nb,G,U,Q,N⟩:=hy;show bF _ _ (isInstance _ _>>=_) _ _ s;refine aC (fH (⟨ob,G,U⟩) lZ ?_);refine aC (nQ L T ?_);refine aC (nQ G Q ?_);refine aC ?_;refine fG _
  (λrest r I=>r.1=none/\I=s/\∃m j e d,rest=List.zip e d/\e8 prog w s.1 m e/\e8 prog w s.1 j d/\decide (m=j)=decide _/\(e.length==d.length)=(xs.size==J.size))
  _ ?_ ?_ _ _ ⟨rfl,rfl,x,y,xs.toList,J.toList,rfl,O,N,rfl,by simp⟩
 ·rintro ⟨u,v⟩ rest r I ⟨Y,rfl,m,j,e,d,l,g,f,c,i⟩
  cases m with
  |nil=>rw[g]at l;simp at l
  |cons k1 q=>
   cases j with
   |nil=>rw[f]at l;simp at l
   |cons k2 o=>
    obtain⟨u',p,rfl,h1,C⟩:=g;obtain⟨v',n,rfl,h2,z⟩:=f;obtain⟨⟨rfl,rfl⟩,rfl⟩:=l;refine aC (xt (by lia) h1 h2 ?_)
    by_cases M:k1=k2
    ·subst M;rw[decide_eq_true rfl];refine aD ⟨rfl,rfl,q,o,p,n,rfl,C,z,?_,by simpa using i⟩;rw[<-c]
     by_cases B:q=o
     ·simp[B]
     ·simp[B]
    ·rw[decide_eq_false M];have hf:decide (x=y)=false:=by rw[<-c];simp[M]
     rw[hf]at h;exact aC (aD (aD (aD h)))
 ·rintro ⟨r1,r2⟩ I ⟨Y,rfl,m,j,e,d,l,g,f,c,i⟩
  subst Y;refine aD ?_;have H:(xs.size==J.size)=decide (x=y):=by
   rw[<-c,<-i,<-g.length,<-f.length];cases m with
   |nil=>
    cases j with
    |nil=>simp
    |cons _ _=>simp
   |cons _ _=>
    cases j with
    |nil=>simp
    |cons _ _=>
     obtain⟨_,_,rfl,_⟩:=g;obtain⟨_,_,rfl,_⟩:=f;simp at l
  show P (.done (.ret (.bool _))) I;rwa [H]
def Pq(G:A.units+4<cZ)(l:ir prog w s.1 x a)(j:ir prog w s.1 y b)(h:Q (decide (x=y)) s):
  bF (bB prog w) A (eqBool (.ref a) (.ref b)) Q E s:=by
 have r:s.TypeIs (.ref a) "tuple":=let ⟨o,_,_,f,q,_,_⟩:=l;⟨o,f,q⟩;have ty:s.TypeIs (.ref b) "tuple":=let ⟨o,_,_,f,q,_,_⟩:=j;⟨o,f,q⟩;unfold eqBool
 try with_reducible refine cX ?_
 by_cases c:(fU a==fU b)=true
 ·rw[aN c];have e:a=b:=by have:=eU c;injection this
  subst e;obtain⟨o,i,n,v,_,B,z⟩:=l;obtain⟨u,g,C,m,_,d,p⟩:=j;obtain rfl:o=u:=bN (v.symm.trans m);rw[B]at d;injection d with f _
  subst f;obtain rfl:=z.inj p;exact aC (eY (aD (by simpa using h)))
 ·rw[aK c];exact aC (wpAny_richCompare_same_room r ty F.slot_tuple_eq
   (cL F.slot_tuple_eq r F.entry_tuple_eq (My (by show A.units+1+2<cZ;lia) l j ⟨_,rfl,(λe=>nomatch e),dS h⟩) (F.args_tuple_eq_2 _ _)) (by lia))
end
noncomputable def fj(b:bH)(w:bV):HeapKind b w a7 where
 is:=ir b w
 hash:=λk=>reduceHash (gZ (k.map (bz w b)))
 draws:=λk=>Ai k+1
 room:=λA=>A.units+4<cZ
 inj:=λl j=>by
  obtain⟨o,c,n,f,_,g,r⟩:=l;obtain⟨i,e,y,d,_,a,q⟩:=j;obtain rfl:o=i:=bN (f.symm.trans d);rw[g]at a;injection a with v _
  subst v;exact r.inj q
 keeps:=λx f g s=>by
  obtain⟨i,c,n,d,u,a,r⟩:=x;refine⟨i,c,n,(s.2 _ ?_).trans d,u,a,r.keeps f g s⟩
  rintro rfl
  obtain rfl:=bN (d.symm.trans f);rw[g]at a;exact nomatch a
 pyHash:=λm p h=>Q9 m p h
 eqBool:=λm l j h=>Pq m l j h
 quiet:=λp h=>Ww p h
def j0{A:cB}(h:A.units+5<cZ):(fj a w).room A.in1:=by show A.units+1+4<cZ;lia
inductive V where
 |hZ|bl (b:Bool)|int (i:Int)|str (x:Str)|sZ (b:Array UInt8)|vH (b:UInt64)|ref (a:Addr)|ty (n:String)
 deriving DecidableEq
def RelV:V->aG->Prop
 |.hZ,u=>u=eK
 |.bl b,u=>u=nR b
 |.int i,u=>∃t,u=pW i t
 |.str x,u=>∃t,u=Value.str x t
 |.sZ b,u=>∃t,u=Value.bytes b t
 |.vH b,u=>∃t,u=Value.float b t
 |.ref a,u=>u=fU a
 |.ty n,u=>u=mD n
abbrev Vals:List V->List aG->Prop:=Paired RelV
def Vals.length{xs:List V}{a:List aG}(r:Vals xs a):xs.length=a.length:=kK r
theorem Vals.get:∀{xs:List V}{a:List aG}{i:Nat}{x:V},Vals xs a->xs[i]?=some x->∃u,a[i]?=some u/\RelV x u
 |_,_,_,_,.nil,e=>by simp at e
 |_,_,0,_,.cons r _,e=>by simp at e;subst e;exact⟨_,rfl,r⟩
 |_,_,i+1,x,.cons _ t,e=>by
  obtain⟨u,c,b⟩:=Vals.get t (by simpa using e);exact⟨u,by simpa using c,b⟩
theorem Vals.append:∀{xs a:List V}{c b:List aG},Vals xs c->Vals a b->Vals (xs++a) (c++b)
 |_,_,_,_,.nil,s=>s
 |_,_,_,_,.cons r t,s=>.cons r (Vals.append t s)
theorem Vals.take:∀{xs:List V}{a:List aG}(n:Nat),Vals xs a->Vals (xs.take n) (a.take n)
 |_,_,0,_=>.nil
 |_,_,_+1,.nil=>.nil
 |_,_,n+1,.cons r t=>.cons r (Vals.take n t)
theorem Vals.drop:∀{xs:List V}{a:List aG}(n:Nat),Vals xs a->Vals (xs.drop n) (a.drop n)
 |_,_,0,r=>r
 |_,_,_+1,.nil=>.nil
 |_,_,n+1,.cons _ t=>Vals.drop n t
def n7:Option V->Option aG->Prop
 |some v,some u=>RelV v u
 |none,none=>True
 |_,_=>False
def KV:List (κ×V)->List (κ×aG)->Prop:=Paired λ(p:κ×V)(q:κ×aG)=>p.1=q.1/\RelV p.2 q.2
def kV:iu->V
 |.inl i=>.int i
 |.inr x=>.str x
inductive HO where
 |lst (xs:List V)
 |tup (xs:List V)
 |dK (kvs:List (iu×V))|dT (kvs:List (a7×V))
 |set (S:Int->Bool) (n:Nat)
 |ins (C dx:Addr) (fs:List (Str×V))
 |own (x:Addr)
 |xd (fs:List (Str×V))
 |met (f x:Addr)
 |vQ (lo hi:Int)
 |jo (o:Obj) (u:HO)
 |rO (q:Str)
 |ext (φ:Heap->Prop)
abbrev Hp:=Addr->Option HO
def upd(H:Hp)(a:Addr)(o:HO):Hp:=λb=>if b=a then some o else H b
def ai:upd H a o a=some o:=by unfold upd;rw[aN rfl]
def ag(h:b≠a):upd H a o b=H b:=by unfold upd;rw[aK h]
def Aj:upd (upd H a o) a u=upd H a u:=by
 funext b;unfold upd;split<;>rfl
def DH{H:Hp}{a b:Addr}{o u:HO}(h:H a=some o)(c:H b=some u)(d:o≠u):a≠b:=by
 intro e;subst e;rw[h]at c;exact d (bN c)
def bf{H:Hp}{a b:Addr}{o:HO}(h:H a=some o)(c:H b=none):a≠b:=by
 intro e;subst e;rw[h]at c;cases c
def qd(H:Hp):NK->V->Prop
 |.inl k,v=>v=kV k
 |.inr a,v=>∃b,v=.ref b/\H b=some (.tup (a.map kV))
def sQ(H:Hp):a7->List V->Prop
 |[],a=>a=[]
 |k::r,a=>Cn (qd H k) (sQ H r) a
inductive ll(H:Hp)(k:a7)(b:Addr):Prop
 |mk (vs) (_:H b=some (.tup vs)) (_:sQ H k vs):ll H k b
def qd.mono(c:∀b xs,H b=some (.tup xs)->d b=some (.tup xs)):∀{k:NK}{v:V},qd H k v->qd d k v
 |.inl _,_,e=>e
 |.inr _,_,a=>by obtain⟨b,e,q⟩:=a;exact⟨b,e,c _ _ q⟩
def sQ.mono(f:∀b xs,H b=some (.tup xs)->g b=some (.tup xs)):∀{k:a7}{d:List V},sQ H k d->sQ g k d:=by
 intro a;induction a with
 |nil=>rintro _ e;exact e
 |cons _ _ c=>rintro _ ⟨v,t,e,q,r⟩;exact⟨v,t,e,qd.mono f q,c r⟩
def ll.mono(a:∀b xs,H b=some (.tup xs)->f b=some (.tup xs))(h:ll H k b):ll f k b:=
 let ⟨c,e,d⟩:=h
 ⟨c,a _ _ e,d.mono a⟩
section
variable(P:bH)(w:bV)
def hV(H:Hp)(h:Heap)(a:Addr):HO->Prop
 |.lst xs=>xs.length<=aQ/\∃(c:List aG) (n:Nat),Vals xs c/\h.get? a=some {cls:=.type "list",data:=.seq c.toArray n}
 |.tup xs=>xs.length<=aQ/\∃c:List aG,Vals xs c/\IsTup h a c.toArray
 |.dK b=>b.length<=aQ/\(a==gE)=false/\∃g,KV b g/\h.DictOf (ao P w) a g
 |.dT b=>b.length<=aQ/\(a==gE)=false/\∃xs:List (a7×Addr×aG),
   Paired (λ(p:a7×V)(q:a7×Addr×aG)=>p.1=q.1/\ll H p.1 q.2.1/\RelV p.2 q.2.2) b xs/\
   ∃o l s,h.get? a=some o/\o.ExactDict/\o.data=.dict l s/\l.toList=xs.map (entryOfKey (fj P w))/\(xs.map (·.1)).Nodup
 |.set S n=>h.SetOf (intKind P w) a S n
 |.ins C e fs=>H e=some (.own a)/\fs.length<=1000/\e≠a/\h.get? a=some (gF C e)/\
   ∃d,h.Ns1 e d/\(∀f,n7 (fs.lookup f) (d f))/\PySem.Within d (fs.map (·.1))
 |.own _=>∃o,h.get? a=some o
 |.xd fs=>∃d,h.Ns1 a d/\∀f,n7 (fs.lookup f) (d f)
 |.vQ lo r=>∃t u v,h.get? a=some {cls:=.type "range",data:=.fields #[.int lo t,.int r u,.int 1 v]}
 |.jo o u=>h.get? a=some o/\hV H h a u
 |.rO q=>∃m:Array aG,h.get? a=some {cls:=.none,data:=.fields m}
 |.met f x=>h.get? a=some (PySem.W.methodObj (.ref f) (.ref x))
 |.ext φ=>φ h/\(∃o,h.get? a=some o)/\∀j i:Heap,φ j->(∀o,j.get? a=some o->i.get? a=some o)->φ i
def lz(H:Hp)(h:Heap):Prop:=∀a o,H a=some o->hV P w H h a o
end
section
variable{P:bH}{w:bV}{H H':Hp}{h h':Heap}{a:Addr}{o:HO}
def hV.lt(x:hV P w H h a o):a<h.objs.size:=by
 cases o with
 |lst xs=>obtain⟨_,_,_,_,e⟩:=x;exact aV e
 |tup xs=>obtain⟨_,_,_,p⟩:=x;exact p.lt
 |dK b=>obtain⟨_,_,_,_,o,_,_,e,_⟩:=x;exact aV e
 |dT b=>obtain⟨_,_,_,_,o,_,_,e,_⟩:=x;exact aV e
 |set S n=>obtain⟨o,_,_,_,e,_⟩:=x;exact aV e
 |ins C i fs=>obtain⟨_,_,_,e,_⟩:=x;exact aV e
 |own y=>obtain⟨_,e⟩:=x;exact aV e
 |xd fs=>obtain⟨_,⟨_,_,_,e,_⟩,_⟩:=x;exact aV e
 |vQ lo g=>obtain⟨_,_,_,e⟩:=x;exact aV e
 |jo d u=>obtain⟨e,_⟩:=x;exact aV e
 |rO q=>obtain⟨c,e⟩:=x;exact aV e
 |met f y=>exact aV (x)
 |ext φ=>obtain⟨_,⟨_,e⟩,_⟩:=x;exact aV e
theorem Paired.tS:∀{d:List α}{c:List β},Paired F d c->(∀a b,F a b->G a b)->Paired G d c
 |_,_,.nil,_=>.nil
 |_,_,.cons r t,f=>.cons (f _ _ r) (Paired.tS t f)
def hV.qX(x:hV P w H h a o)(k:∀b u,(b=a\/H b=some (.own a))->h.get? b=some u->h'.get? b=some u)
  (I:∀b,H b=some (.own a)->H' b=some (.own a))(G:∀b xs,H b=some (.tup xs)->H' b=some (.tup xs))(L:∀b o u,H b=some (.jo o u)->H' b=some (.jo o u):=by exact λ_ _ _ q=>q):hV P w H' h' a o:=by
 induction o with
 |lst xs=>obtain⟨z,l,n,r,e⟩:=x;exact⟨z,l,n,r,k _ _ (.inl rfl) e⟩
 |tup xs=>obtain⟨z,l,r,g,e,c⟩:=x;exact⟨z,l,r,g,k _ _ (.inl rfl) e,c⟩
 |dK s=>obtain⟨z,y,A,r,g,i,j,e,c⟩:=x;exact⟨z,y,A,r,g,i,j,k _ _ (.inl rfl) e,c⟩
 |dT s=>
  obtain⟨z,y,xs,r,g,i,j,e,c⟩:=x;exact⟨z,y,xs,Paired.tS r λp q z=>⟨z.1,z.2.1.mono G,z.2.2⟩,g,i,j,k _ _ (.inl rfl) e,c⟩
 |set S n=>obtain⟨g,i,j,t,e,c⟩:=x;exact⟨g,i,j,t,k _ _ (.inl rfl) e,c⟩
 |ins C N fs=>
  obtain⟨d,z,ne,e,m,⟨od,i,j,J,c⟩,r⟩:=x;exact⟨I _ d,z,ne,k _ _ (.inl rfl) e,m,⟨od,i,j,k _ _ (.inr d) J,c⟩,r⟩
 |own y=>obtain⟨g,e⟩:=x;exact⟨g,k _ _ (.inl rfl) e⟩
 |xd fs=>obtain⟨m,⟨od,i,j,e,c⟩,r⟩:=x;exact⟨m,⟨od,i,j,k _ _ (.inl rfl) e,c⟩,r⟩
 |vQ lo M=>obtain⟨t,u,v,e⟩:=x;exact⟨t,u,v,k _ _ (.inl rfl) e⟩
 |jo g u E=>obtain⟨e,q⟩:=x;exact⟨k _ _ (.inl rfl) e,E q⟩
 |rO q=>
  obtain⟨B,e⟩:=x;exact⟨B,k a _ (.inl rfl) e⟩
 |met f y=>
  have e:=x;exact k a _ (.inl rfl) e
 |ext φ=>obtain⟨p,⟨o,e⟩,st⟩:=x;exact⟨st _ _ p λo q=>k _ _ (.inl rfl) q,⟨o,k _ _ (.inl rfl) e⟩,st⟩
def lz.lt(x:lz P w H h)(e:H a=some o):a<h.objs.size:=(x a o e).lt
def lz.fresh(x:lz P w H h)(e:h.objs.size<=a):H a=none:=by
 cases q:H a with
 |none=>rfl
 |some u=>exact absurd (bS (x.lt q) e) (cP _)
def lz.kept(x:lz P w H h)(k:∀b u,h.get? b=some u->h'.get? b=some u):lz P w H h':=λa o e=>
 (x a o e).qX (λb u _ q=>k b u q) (λ_ q=>q) λ_ _ q=>q
def lz.laid(x:lz P w H h)(k:∀b u,h.get? b=some u->h'.get? b=some u)(g:h.objs.size<=a)(new:hV P w (upd H a o) h' a o):lz P w (upd H a o) h':=λb u e=>by
 have d:=x.fresh g
 by_cases f:b=a
 ·subst f;rw[ai]at e;cases e;exact new
 ·rw[ag f]at e;exact(x b u e).qX (λc v _ q=>k c v q) (λc q=>by rwa [ag (bf q d)]) (λc xs q=>by rwa [ag (bf q d)]) λc i u q=>by rwa [ag (bf q d)]
end
def Rd(H:Hp)(a:Addr)(u:HO):Prop:=H a=some u\/∃o,H a=some (.jo o u)
def Rd.ok(r:Rd H a u)(x:lz P w H h):hV P w H h a u:=by
 obtain r|⟨o,r⟩:=r
 ·exact x a u r
 ·obtain⟨_,q⟩:=x a _ r;exact q
def JA:Option HO->Prop
 |some (.lst _)=>True
 |some (.dK _)=>True
 |some (.dT _)=>True
 |some (.set _ _)=>True
 |some (.ins _ _ _)=>True
 |some (.ext _)=>True
 |_=>False
section
variable{P:bH}{w:bV}{H:Hp}{h h':Heap}{x e:Addr}{o':HO}
def lz.write(ok:lz P w H h)(f:JA (H x))(p:e=x\/H e=some (.own x))(k:∀b u,b≠e->h.get? b=some u->h'.get? b=some u)(n:∃u,h'.get? e=some u)
  (new:hV P w (upd H x o') h' x o'):lz P w (upd H x o') h':=λb u q=>by
 have d:∀c y,H c=some (.own y)->c≠x:=λc y r z=>by subst z;rw[r]at f;exact f
 have g:∀c xs,H c=some (.tup xs)->c≠x:=λc xs r z=>by subst z;rw[r]at f;exact f
 have i:∀c j v,H c=some (.jo j v)->c≠x:=λc j v r z=>by subst z;rw[r]at f;exact f
 by_cases m:b=x
 ·subst m;rw[ai]at q;cases q;exact new
 ·rw[ag m]at q
  by_cases a:b=e
  ·have o:H b=some (.own x):=by
    obtain z|z:=p
    ·exact absurd (a.trans z) m
    ·rwa [a]
   rw[q]at o;cases o;obtain⟨v,s⟩:=n;exact⟨v,by rwa [a]⟩
  ·refine(ok b u q).qX (λc v l r=>k c v ?_ r) (λc r=>by rwa [ag (d c b r)]) (λc xs r=>by rwa [ag (g c xs r)]) λc j v r=>by rwa [ag (i c j v r)]
   obtain rfl|l:=l
   ·exact a
   ·rintro rfl
    obtain z|z:=p
    ·exact d c b l z
    ·rw[l]at z;cases z;exact m rfl
end
structure Un(fs ex:List Addr)(H H':Hp)(h h':Heap):Prop where
 keep:∀b o,h.get? b=some o->H b=none->b∉fs->b∉ex->h'.get? b=some o
 slot:∀b o,h.get? b=some o->H b=none->b∈fs->b∉ex->∃sl,h'.get? b=some {o with slots:=sl}
 free:∀b o,h.get? b=some o->H b=none->b∉ex->H' b=none
 there:∀b o,h.get? b=some o->b∉ex->∃o',h'.get? b=some o'
 qx:∀b xs,H b=some (.tup xs)->H' b=some (.tup xs)
 jb:∀b o u,H b=some (.jo o u)->H' b=some (.jo o u)
 p9:∀b q,H b=some (.rO q)->H' b=some (.rO q)
section
variable{fs w5 ex xC:List Addr}{H H1 H2:Hp}{h h1 h2 h':Heap}{a x e:Addr}{o:HO}
def Un.any(u:Un fs ex H H1 h h1)(q:h.get? b=some c)(n:H b=none)(d:b∉ex):∃g,h1.get? b=some {c with slots:=g}:=by
 by_cases f:b∈fs
 ·exact u.slot b c q n f d
 ·exact⟨c.slots,u.keep b c q n f d⟩
def Un.trans(a:Un fs ex H H1 h h1)(b:Un fs ex H1 H2 h1 h2):Un fs ex H H2 h h2 where
 keep:=λc d q n g f=>b.keep c d (a.keep c d q n g f) (a.free c d q n f) g f
 slot:=λc d q n g f=>by
  obtain⟨r,i⟩:=a.slot c d q n g f;obtain⟨j,m⟩:=b.slot c _ i (a.free c d q n f) g f;exact⟨j,m⟩
 free:=λc d q n f=>by
  obtain⟨l,i⟩:=a.there c d q f;exact b.free c l i (a.free c d q n f) f
 there:=λc d q f=>by
  obtain⟨l,i⟩:=a.there c d q f;exact b.there c l i f
 qx:=λc xs q=>b.qx c xs (a.qx c xs q)
 jb:=λc d xs q=>b.jb c d xs (a.jb c d xs q)
 p9:=λp q z=>b.p9 p q (a.p9 p q z)
def Un.kept(k:∀b u,h.get? b=some u->h'.get? b=some u):Un fs ex H H h h':=
 ⟨λb c q _ _ _=>k b c q,λb c q _ _ _=>⟨c.slots,k b c q⟩,λ_ _ _ n _=>n,λb c q _=>⟨c,k b c q⟩,λ_ _ q=>q,λ_ _ _ q=>q,λ_ _ q=>q⟩
def Un.refl:Un fs ex H H h h:=Un.kept λ_ _ q=>q
def Un.laid(k:∀b u,h.get? b=some u->h'.get? b=some u)(d:h.objs.size<=a)(c:H a=none):Un fs ex H (upd H a o) h h' where
 keep:=λb u q _ _ _=>k b u q
 slot:=λb u q _ _ _=>⟨u.slots,k b u q⟩
 free:=λb u q n _=>by rwa [ag (bL (bS (aV q) d))]
 there:=λb u q _=>⟨u,k b u q⟩
 qx:=λb xs q=>by rwa [ag (bf q c)]
 jb:=λb u xs q=>by rwa [ag (bf q c)]
 p9:=λb _ q=>by rwa [ag (bf q c)]
def Un.write(d:JA (H x))(m:e=x\/H e=some (.own x))(k:∀b u,b≠e->h.get? b=some u->h'.get? b=some u)(g:∃u,h'.get? e=some u):Un fs ex H (upd H x o) h h':=by
 have i:∀b,H b=none->b≠x:=λb n z=>by subst z;rw[n]at d;exact d
 have j:∀b,H b=none->b≠e:=λb n z=>by
  subst z;obtain r|r:=m
  ·exact i b n r
  ·rw[n]at r;cases r
 have f:∀b u,H b=some u->¬JA (some u)->b≠x:=λb u q l z=>by subst z;rw[q]at d;exact l d
 refine⟨λb u q n _ _=>k b u (j b n) q,λb u q n _ _=>⟨u.slots,k b u (j b n) q⟩,λb u q n _=>by rwa [ag (i b n)],λb u q _=>?_,
  λb xs q=>by rwa [ag (f b _ q λz=>z)],λb u xs q=>by rwa [ag (f b _ q λz=>z)],λb _ q=>by rwa [ag (f b _ q λz=>z)]⟩
 by_cases c:b=e
 ·subst c;exact g
 ·exact⟨u,k b u c q⟩
end
def SZ(h:Heap)(H:Hp):List Addr:=(aS h.objs.size).filter λa=>(H a).isSome
def Kx(h:Heap)(H:Hp):Heap:=PySem.W.hideAll h (SZ h H)
def Px(h:Heap)(H:Hp):(Kx h H).objs.size=h.objs.size:=PySem.W.hideAll_size _ _
def T7{h:Heap}(e:h.get? b=some o)(n:H b=none):(Kx h H).get? b=some o:=
 PySem.W.hideAll_get _ e λa=>by
  have q:=(List.mem_filter.mp a).2;rw[n]at q;simp at q
def AY{h:Heap}(e:(Kx h H).get? b=some o):h.get? b=some o/\H b=none:=by
 have a:=PySem.W.of_hideAll _ e;refine⟨a,?_⟩;cases q:H b with
 |none=>rfl
 |some x=>
  have z:(Kx h H).get? b=none:=PySem.W.hideAll_none _ (List.mem_filter.mpr ⟨List.mem_range.mpr (aV a),by simp[q]⟩);rw[z]at e;cases e
structure Mod(K:aP)(mg:Str->Option aG)(base:Heap):Prop where
 uV:K.In base
 glob:base.Ns eB mg
 blt:∃mb,base.Ns nS mb/\∀x:Str,x≠"__name__"->mb x=lG x
 nolimit:base.NoLimit
structure Cx where
 prog:bH
 w:bV
 K:aP
 mg:Str->Option aG
 base:Heap
 A:cB
 N:List Str
 h7:aI
 oD:Hp
 env:Env
 outer:List Env
 stack:List Env
 ex:List Addr
 fn:Str->Bool
 calm:Bool
 pn:List (Addr×Obj)
 xe:aG->aI->Prop
def Tv(l:List Env):List Addr:=l.filterMap (·.frame)
abbrev Cx.fs(X:Cx):List Addr:=Tv X.outer
def KW(a:fK)(x:Str):Prop:=a.names.lookup x=some .local\/a.names.lookup x=some .cell\/a.names.lookup x=some .free
def Sb(a:fK)(x:Str):Prop:=a.names.lookup x=some .local\/a.names.lookup x=some .cell
def OH(a:Env)(h:Heap)(m:Str->Option aG)(x:Str)(u:aG):Prop:=
 (a.kindOf x=some .local/\m x=some u)\/((a.kindOf x=some .cell\/a.kindOf x=some .free)/\∃c,a.cells.lookup x=some c/\h.IsCell c (some u))
structure Cx.Ok(X:Cx):Prop where
 mod:Mod X.K X.mg X.base
 kind:X.env.scope.kind=.function
 glob:X.env.globals=eB
 blt:X.env.builtins=nS
 above:X.h7.1.1.size<=X.env.locals
 inj:∀x y c,X.env.cells.lookup x=some c->X.env.cells.lookup y=some c->x=y
 has:∀x,(X.env.kindOf x=some .cell\/X.env.kindOf x=some .free)->∃c,X.env.cells.lookup x=some c
 v5:∀x c,X.fn x=true->X.env.cells.lookup x=some c->X.h7.1.1.size<=c
 hd:X.calm=true->X.A.handled=none
 frames:X.A.frames=some X.stack
 vP:X.stack=X.outer\/(X.stack=X.env::X.outer/\X.env.frame=some X.env.locals)
 xA:∀b∈X.ex,b≠X.env.locals/\∀x c,X.env.cells.lookup x=some c->c≠b
 bs:∀b o,X.base.get? b=some o->X.h7.1.get? b=some o/\X.oD b=none
 tY:X.base.objs.size<=X.h7.1.1.size
 tR:∀b o,X.base.get? b=some o->b∉X.ex
 uY:∀b∈X.ex,b∉X.fs
 qy:X.h7.1.FunFrames X.base X.outer
 uX:∀b∈X.fs,X.oD b=none
structure Inv(X:Cx)(pins:List (Addr×Obj))(Z:List (Option V))(H:Hp)(s:aI):Prop where
 ok:X.Ok
 os:s.os=X.h7.os
 bare:oB s.gens
 base:Un X.fs X.ex X.oD H X.h7.1 s.1
 loc:∃m,s.1.Ns X.env.locals m/\∀(i:Nat)(x:Str)(v:V),X.N[i]?=some x->Z[i]?=some (some v)->KW X.env.scope x->∃u,RelV v u/\OH X.env s.1 m x u
 cell:∀x c,X.env.cells.lookup x=some c->∃v,s.1.IsCell c v
 free:H X.env.locals=none
 pk:∀x c,X.env.cells.lookup x=some c->H c=none\/(X.fn x=false/\∃o,H c=some (.jo o (.own 0)))
 pin:∀p∈X.pn++pins,s.1.get? p.1=some p.2/\H p.1=none/\p.1≠X.env.locals/\p.1∉X.fs/\∀v,p.2.data≠.cell v
 ez:lz X.prog X.w H s.1
 len:Z.length=X.N.length
section
variable{X:Cx}{pins:List (Addr×Obj)}{Z:List (Option V)}{H H':Hp}{s:aI}{h':Heap}
def Cx.Ok.vW(ok:X.Ok)(e:X.base.get? b=some o):b∉X.fs:=λa=>by
 have:=(ok.qy.mem a).1;rw[e]at this;cases this
def Inv.bs(I:Inv X pins Z H s):∀b o,X.base.get? b=some o->s.1.get? b=some o/\H b=none:=λb o e=>
 ⟨I.base.keep b o (I.ok.bs b o e).1 (I.ok.bs b o e).2 (I.ok.vW e) (I.ok.tR b o e),I.base.free b o (I.ok.bs b o e).1 (I.ok.bs b o e).2 (I.ok.tR b o e)⟩
def Inv.bk(I:Inv X pins Z H s):∀b o,X.base.get? b=some o->s.1.get? b=some o:=λb o e=>(I.bs b o e).1
def Inv.mod(I:Inv X pins Z H s):Mod X.K X.mg X.base:=I.ok.mod
def Inv.rP(I:Inv X pins Z H s):X.K.In s.1:=I.ok.mod.uV.keeps I.bk
def Inv.lt(I:Inv X pins Z H s):X.env.locals<s.1.1.size:=let ⟨_,a,_⟩:=I.loc;a.lt
def Inv.sz(I:Inv X pins Z H s):X.h7.1.1.size<=s.1.1.size:=cG I.ok.above (Nat.le_of_lt I.lt)
def Inv.vV(I:Inv X pins Z H s)(h:s.1.1.size<=a):a∉X.fs:=λc=>by
 obtain⟨_,o,b,_⟩:=I.ok.qy.mem c;exact absurd (bS (aV b) (cG I.sz h)) (cP _)
def Inv.sI(I:Inv X pins Z H s):∀x c,X.env.cells.lookup x=some c->c≠X.env.locals:=λx c e z=>by
 obtain⟨v,o,d,f⟩:=I.cell x c e;obtain⟨m,⟨g,h,i,a,b,_⟩,_⟩:=I.loc;rw[z,a]at d;cases d;rw[b]at f;cases f
def Inv.qy(I:Inv X pins Z H s):s.1.FunFrames X.base X.outer:=by
 have all:∀(l:List Env),(∀b∈Tv l,b∈X.fs)->X.h7.1.FunFrames X.base l->s.1.FunFrames X.base l:=by
  intro l;induction l with
  |nil=>intro _ _;trivial
  |cons q r g=>
   intro f m;obtain⟨n,⟨L,o,a,j,i,p⟩,h⟩:=m;have d:=f L (by unfold Tv;rw[gH,a];exact aZ);obtain⟨u,e⟩:=I.base.slot L o i (I.ok.uX L d) d λz=>I.ok.uY L z d;exact⟨n,⟨L,_,a,j,e,p⟩,g (λb c=>f b (by unfold Tv;rw[gH,a];exact aY _ c)) h⟩
 exact all X.outer (λ_ c=>c) I.ok.qy
def Inv.stack(I:Inv X pins Z H s):s.1.FunFrames X.base X.stack:=by
 obtain e|⟨e,b⟩:=I.ok.vP
 ·rw[e];exact I.qy
 ·rw[e];obtain⟨m,a,_⟩:=I.loc;refine .cons (by rw[I.ok.kind];decide) b a ?_ I.qy;exact Heap.get?_none_of_le (cG I.ok.tY I.ok.above)
def Inv.qb(I:Inv X pins Z H s):∀b∈Tv X.stack,b∈X.env.locals::X.fs:=λb a=>by
 obtain e|⟨e,c⟩:=I.ok.vP
 ·rw[e]at a;exact aY _ a
 ·rw[e]at a;unfold Tv at a;rw[gH,c]at a;exact a
def Inv.rA(I:Inv X pins Z H s):∀b∈Tv X.stack,H b=none:=λb a=>by
 rcases List.mem_cons.mp (I.qb b a)with e|a
 ·rw[e];exact I.free
 ·obtain⟨_,o,c,_⟩:=I.ok.qy.mem a;exact I.base.free b o c (I.ok.uX b a) λz=>I.ok.uY b z a
def Inv.step{g':Array GenState}{t':Nat}{d':Drawn}{ch:List Addr}(I:Inv X pins Z H s)
  (g:∀b∈ch,(b∈X.ex\/X.h7.1.1.size<=b)/\b≠X.env.locals/\(∀x c,X.env.cells.lookup x=some c->c≠b)/\∀p∈X.pn++pins,p.1≠b)
  (keep:∀b o,b≠X.env.locals->b∉X.fs->b∉ch->s.1.get? b=some o->H b=none->h'.get? b=some o)
  (slot:∀b o,b≠X.env.locals->b∈X.fs->b∉ch->s.1.get? b=some o->H b=none->∃T,h'.get? b=some {o with slots:=T}) (free:∀b o,b∉ch->s.1.get? b=some o->H b=none->H' b=none)
  (there:∀b o,b∉ch->s.1.get? b=some o->∃J,h'.get? b=some J)
  (E:∀b xs,H b=some (.tup xs)->H' b=some (.tup xs)) (jb:∀b o u,H b=some (.jo o u)->H' b=some (.jo o u)) (G:∀b q,H b=some (.rO q)->H' b=some (.rO q))
  (ns:∀m,s.1.Ns X.env.locals m->h'.Ns X.env.locals m) (M:lz X.prog X.w H' h') (hg:oB g'):
  Inv X pins Z H' {s with heap:=h',gens:=g',drawn:=d',toks:=t'}:=by
 have L:∀b o,X.h7.1.get? b=some o->b≠X.env.locals:=λb o e=>bL (bS (aV e) I.ok.above);have j:∀b o,X.h7.1.get? b=some o->b∉X.ex->b∉ch:=λb o e a B=>by
  rcases(g b B).1 with z|z
  ·exact a z
  ·exact absurd (bS (aV e) z) (cP _)
 have h:∀x c,X.env.cells.lookup x=some c->∀v,s.1.IsCell c v->h'.IsCell c v:=by
  rintro x c e v ⟨o,A,O⟩
  have f:c∉ch:=λz=>(g c z).2.2.1 x c e rfl;rcases I.pk x c e with y|⟨_,N,y⟩
  ·by_cases hc:c∈X.fs
   ·obtain⟨T,q⟩:=slot c o (I.sI x c e) hc f A y;exact⟨_,q,O⟩
   ·exact⟨o,keep c o (I.sI x c e) hc f A y,O⟩
  ·obtain⟨Y,_⟩:=I.ez c _ y;obtain⟨q2,_⟩:=M c _ (jb c N _ y);rw[A]at Y;cases Y;exact⟨o,q2,O⟩
 refine⟨I.ok,I.os,hg,⟨λb o e n B a=>?_,λb o e n B a=>?_,λb o e n a=>?_,λb o e a=>?_,λb xs e=>E b xs (I.base.qx b xs e),λb o xs e=>jb b o xs (I.base.jb b o xs e),λb q e=>G b q (I.base.p9 b q e)⟩,?_,λx c e=>?_,?_,λx c e=>?_,λp hp=>?_,M,I.len⟩
 ·exact keep b o (L b o e) B (j b o e a) (I.base.keep b o e n B a) (I.base.free b o e n a)
 ·obtain⟨T,C⟩:=I.base.slot b o e n B a;obtain⟨Q,U⟩:=slot b _ (L b o e) B (j b o e a) C (I.base.free b o e n a);exact⟨Q,U⟩
 ·obtain⟨J,C⟩:=I.base.there b o e a;exact free b J (j b o e a) C (I.base.free b o e n a)
 ·obtain⟨J,C⟩:=I.base.there b o e a;exact there b J (j b o e a) C
 ·obtain⟨m,hn,hl⟩:=I.loc;refine⟨m,ns m hn,λi x v C U e3=>?_⟩;obtain⟨u,r,l⟩:=hl i x v C U e3;refine⟨u,r,?_⟩;obtain l|⟨k,c,e,z⟩:=l
  ·exact .inl l
  ·exact .inr ⟨k,c,e,h x c e _ z⟩
 ·obtain⟨v,z⟩:=I.cell x c e;exact⟨v,h x c e v z⟩
 ·obtain⟨m,⟨o,_,_,A,_⟩,_⟩:=I.loc;exact free _ o (λz=>(g _ z).2.1 rfl) A I.free
 ·obtain⟨v,o,A,O⟩:=I.cell x c e;rcases I.pk x c e with y|⟨hf,N,y⟩
  ·exact .inl (free c o (λz=>(g c z).2.2.1 x c e rfl) A y)
  ·exact .inr ⟨hf,N,jb c N _ y⟩
 ·obtain⟨e,n,ne,nf,d⟩:=I.pin p hp;have f:p.1∉ch:=λz=>(g p.1 z).2.2.2 p hp rfl;exact⟨keep p.1 p.2 ne nf f e n,free p.1 p.2 f e n,ne,nf,d⟩
def Inv.un(I:Inv X pins Z H s)(u:Un X.fs [] H H' s.1 h')(c:lz X.prog X.w H' h'):Inv X pins Z H' {s with heap:=h',toks:=p}:=by
 obtain⟨m,⟨o,y,A,h,r⟩,_⟩:=id I.loc;obtain⟨q,l⟩:=u.any h I.free (by simp);exact I.step (ch:=[]) (λ_ z=>nomatch z) (λb o _ d _ e n=>u.keep b o e n d (by simp)) (λb o _ d _ e n=>u.slot b o e n d (by simp)) (λb o _ e n=>u.free b o e n (by simp)) (λb o _ e=>u.there b o e (by simp)) u.qx u.jb u.p9 (λx j=>by
  obtain⟨v,f,g,a,i⟩:=j;rw[h]at a;cases a;exact⟨_,f,g,l,i⟩) c I.bare
def Inv.call(I:Inv X pins Z H s)(u:Un (Tv X.stack) ch H H' s.1 h')(g:lz X.prog X.w H' h')(y:oB B)
  (f:∀b∈ch,(b∈X.ex\/X.h7.1.1.size<=b)/\b≠X.env.locals/\(∀x c,X.env.cells.lookup x=some c->c≠b)/\∀p∈X.pn++pins,p.1≠b):
  Inv X pins Z H' {s with heap:=h',gens:=B,drawn:=d',toks:=t'}:=by
 obtain⟨m,⟨o,J,L,l,r⟩,_⟩:=id I.loc;obtain⟨C,h⟩:=u.any l I.free λz=>(f _ z).2.1 rfl;exact I.step f (λb o h A a e n=>u.keep b o e n (λz=>(List.mem_cons.mp (I.qb b z)).elim h A) a) (λb o _ _ a e n=>u.any e n a) (λb o a e n=>u.free b o e n a) (λb o a e=>u.there b o e a) u.qx u.jb u.p9 (λG v=>by
  obtain⟨E,i,j,d,q⟩:=v;rw[l]at d;cases d;exact⟨_,i,j,h,q⟩) g y
def Inv.turned(I:Inv X pins Z H s)(k:∀b o,b≠it->s.1.get? b=some o->h'.get? b=some o)(h:H it=none)(f:it≠X.env.locals)
  (y:it∈X.ex\/X.h7.1.1.size<=it)(w:∀x c,X.env.cells.lookup x=some c->c≠it)(l:∀p∈X.pn++pins,p.1≠it):Inv X pins Z H {s with heap:=h',toks:=C}:=by
 have d:∀b u,H b=some u->b≠it:=λb u e z=>by rw[z,h]at e;cases e
 refine I.step (ch:=[it]) (λb j=>?_) (λb o _ _ a e _=>k b o (λz=>a (by simp[z])) e) (λb o _ _ a e _=>⟨o.slots,k b o (λz=>a (by simp[z])) e⟩) (λ_ _ _ _ n=>n)
  (λb o a e=>⟨o,k b o (λz=>a (by simp[z])) e⟩) (λ_ _ e=>e) (λ_ _ _ e=>e) (λ_ _ e=>e) (λm i=>?_) (λb u e=>?_) I.bare
 ·have e:b=it:=by simpa using j
  subst e;exact⟨y,f,w,l⟩
 ·obtain⟨o,A,B,g,r⟩:=i;exact⟨o,A,B,k _ o (iY f) g,r⟩
 ·refine(I.ez b u e).qX (λc v a q=>k c v ?_ q) (λ_ q=>q) λ_ _ q=>q;obtain z|z:=a
  ·rw[z];exact d b u e
  ·exact d c _ z
def Inv.tok(I:Inv X pins Z H s)(t:Nat):Inv X pins Z H {s with toks:=t}:=I.un Un.refl I.ez
def Inv.kept(I:Inv X pins Z H s)(k:∀b u,s.1.get? b=some u->h'.get? b=some u):Inv X pins Z H {s with heap:=h',toks:=t'}:=I.un (Un.kept k) (I.ez.kept k)
def Inv.laid(I:Inv X pins Z H s)(k:∀b u,s.1.get? b=some u->h'.get? b=some u)(c:s.1.1.size<=a)(new:hV X.prog X.w (upd H a o) h' a o):
  Inv X pins Z (upd H a o) {s with heap:=h',toks:=t'}:=I.un (Un.laid k c (I.ez.fresh c)) (I.ez.laid k c new)
def Inv.write(I:Inv X pins Z H s)(c:JA (H x))(d:e=x\/H e=some (.own x))(k:∀b u,b≠e->s.1.get? b=some u->h'.get? b=some u)(a:∃u,h'.get? e=some u)
  (new:hV X.prog X.w (upd H x o) h' x o):Inv X pins Z (upd H x o) {s with heap:=h',toks:=f}:=I.un (Un.write c d k a) (I.ez.write c d k a new)
def Inv.rD(I:Inv X pins Z H s)(h:∀p∈a,s.1.get? p.1=some p.2/\H p.1=none/\p.1≠X.env.locals/\p.1∉X.fs/\∀v,p.2.data≠.cell v):Inv X a Z H s:=
 ⟨I.ok,I.os,I.bare,I.base,I.loc,I.cell,I.free,I.pk,λp b=>(List.mem_append.mp b).elim (λz=>I.pin p (dG _ z)) (h p),I.ez,I.len⟩
def Iw{N:List Str}(c:N.Nodup){i j:Nat}{x:Str}(a:N[i]?=some x)(b:N[j]?=some x):i=j:=by
 obtain⟨g,e⟩:=List.getElem?_eq_some_iff.mp a;obtain⟨f,d⟩:=List.getElem?_eq_some_iff.mp b;exact(List.getElem_inj c).mp (e.trans d.symm)
def D4(I:Inv X pins Z H s)(hN:X.N.Nodup)(hi:X.N[i]?=some x)(C:Sb X.env.scope x)(r:RelV v u)
  (h:∀s',Inv X pins (Z.set i (some v)) H s'->(∃a,cQ a s.1 s'.1/\(a=X.env.locals\/X.env.cells.lookup x=some a))->Q () s')(hf:X.fn x=true\/X.env.scope.names.lookup x=some .local:=by first|exact .inl rfl|exact .inr rfl|assumption):bF M A (storeName X.env x u) Q E s:=by
 obtain⟨m,hn,hl⟩:=id I.loc;have γ:(X.env.scope.kind==.class||(X.env.scope.kind==.module && X.env.locals !=X.env.globals))=false:=by rw[I.ok.kind];rfl
 have T:i<Z.length:=by rw[I.len];exact(List.getElem?_eq_some_iff.mp hi).1
 have sI:=I.sI;have g:∀{a:Addr}{h':Heap},(∃o,s.1.get? a=some o/\H a=none)->cQ a s.1 h'->lz X.prog X.w H h':=λ{a h'} ha f b ob e=>by
  obtain⟨_,_,G⟩:=ha;refine(I.ez b ob e).qX (λc w' B q=>(f.2 c ?_).trans q) (λ_ q=>q) λ_ _ q=>q
  rintro rfl
  obtain rfl|B:=B
  ·rw[G]at e;cases e
  ·rw[G]at B;cases B
 obtain O|O:=C
 ·refine wpAny_storeName_local O hn (λh' υ f=>?_) γ;obtain⟨oL,_,_,τ,_⟩:=id hn;refine h _ ⟨I.ok,I.os,I.bare,⟨λb o e n Y C=>?_,λb o e n Y C=>?_,I.base.free,λb o e C=>?_,I.base.qx,I.base.jb,I.base.p9⟩,⟨_,υ,λj y v' l L e3=>?_⟩,λy c e=>?_,I.free,I.pk,λp hp=>?_,g ⟨oL,τ,I.free⟩ f,by simpa using I.len⟩ ⟨_,f,.inl rfl⟩
  ·exact(f.2 b (bL (bS (aV e) I.ok.above))).trans (I.base.keep b o e n Y C)
  ·obtain⟨sl,l⟩:=I.base.slot b o e n Y C;exact⟨sl,(f.2 b (bL (bS (aV e) I.ok.above))).trans l⟩
  ·obtain⟨o',l⟩:=I.base.there b o e C;exact⟨o',(f.2 b (bL (bS (aV e) I.ok.above))).trans l⟩
  ·by_cases U:j=i
   ·subst U;rw[hi]at l;cases l;rw[bK T]at L;cases L;exact⟨u,r,.inl ⟨O,by simp⟩⟩
   ·rw[bE (iY U)]at L;obtain⟨u',r',q⟩:=hl j y v' l L e3;refine⟨u',r',?_⟩;obtain ⟨k,e⟩|⟨k,c,e,z⟩:=q
    ·refine .inl ⟨k,?_⟩;have:y≠x:=λe=>U (Iw hN l (e▸hi));simp[this,e]
    ·exact .inr ⟨k,c,e,z.sameBut f (sI y c e)⟩
  ·obtain⟨w',z⟩:=I.cell y c e;exact⟨w',z.sameBut f (sI y c e)⟩
  ·obtain⟨e,n,ne,nf,d⟩:=I.pin p hp;exact⟨(f.2 p.1 ne).trans e,n,ne,nf,d⟩
 ·have J:X.fn x=true:=by
   obtain z|z:=hf
   ·exact z
   ·rw[z]at O;cases O
  obtain⟨c,B⟩:=I.ok.has x (.inl O);obtain⟨w',z⟩:=I.cell x c B;refine wpAny_storeName_cell I.ok.kind O B z (λh' ε f=>?_);obtain⟨oc,α,ω⟩:=id z;have χ:=(I.pk x c B).elim (λz=>z) λz=>by rw[J]at z;exact absurd z.1 (by decide)
  refine h {s with heap:=h'} ⟨I.ok,I.os,I.bare,⟨λb o e n Y C=>?_,λb o e n Y C=>?_,I.base.free,λb o e C=>?_,I.base.qx,I.base.jb,I.base.p9⟩,⟨m,hn.sameBut f (iY (sI x c B)),λj y v' l L e3=>?_⟩,λy c' e=>?_,I.free,I.pk,λp hp=>?_,g ⟨oc,α,χ⟩ f,by simpa using I.len⟩ ⟨c,f,.inr B⟩
  ·exact(f.2 b (bL (bS (aV e) (I.ok.v5 x c J B)))).trans (I.base.keep b o e n Y C)
  ·obtain⟨sl,l⟩:=I.base.slot b o e n Y C;exact⟨sl,(f.2 b (bL (bS (aV e) (I.ok.v5 x c J B)))).trans l⟩
  ·obtain⟨o',l⟩:=I.base.there b o e C;exact⟨o',(f.2 b (bL (bS (aV e) (I.ok.v5 x c J B)))).trans l⟩
  ·by_cases U:j=i
   ·subst U;rw[hi]at l;cases l;rw[bK T]at L;cases L;exact⟨u,r,.inr ⟨.inl O,c,B,ε⟩⟩
   ·rw[bE (iY U)]at L;obtain⟨u',r',q⟩:=hl j y v' l L e3;refine⟨u',r',?_⟩;obtain q|⟨k,c',e,z'⟩:=q
    ·exact .inl q
    ·refine .inr ⟨k,c',e,z'.sameBut f ?_⟩
     rintro rfl
     exact U (Iw hN l (I.ok.inj _ _ _ e B▸hi))
  ·by_cases δ:c'=c
   ·subst δ;exact⟨_,ε⟩
   ·obtain⟨w2,z2⟩:=I.cell y c' e;exact⟨w2,z2.sameBut f δ⟩
  ·obtain⟨e,n,ne,nf,d⟩:=I.pin p hp;refine⟨(f.2 p.1 ?_).trans e,n,ne,nf,d⟩;intro q;rw[q,α]at e;exact d w' (by rwa [<-(bN e)])
def Jt(I:Inv X pins Z H s)(e:X.N.Nodup)(c:X.N[i]?=some x)(b:Sb X.env.scope x)(r:RelV v u)
  (h:∀a,Inv X pins (Z.set i (some v)) H a->Q () a)(d:X.fn x=true\/X.env.scope.names.lookup x=some .local:=by first|exact .inl rfl|exact .inr rfl|assumption):bF M A (storeName X.env x u) Q E s:=
 D4 I e c b r (λa f _=>h a f) d
def Inv.vl{a:aI}(I:Inv X pins Z H s)(f:a.os=s.os)(u:Un (Tv X.stack) i H H' s.1 a.1)(d:lz X.prog X.w H' a.1)(g:oB a.gens)
  (e:∀b∈i,(b∈X.ex\/X.h7.1.1.size<=b)/\b≠X.env.locals/\(∀x c,X.env.cells.lookup x=some c->c≠b)/\∀p∈X.pn++pins,p.1≠b):Inv X pins Z H' a:=by
 obtain⟨h',m,h,j,l⟩:=a;subst f;exact I.call (d':=h) u d g e
end
abbrev XK:=aG->Option Addr->Hp->Prop
abbrev St:=List (Option V)
abbrev VK:=V->Hp->Prop
abbrev TE:=St->Hp->VK->Prop
abbrev TT:=St->Hp->(Bool->Hp->Prop)->Prop
abbrev TA:=St->Hp->(List V->Hp->Prop)->Prop
structure Ends where
 nx:St->Hp->Prop
 rt:VK
 bk:St->Hp->Prop:=λ_ _=>False
 ct:St->Hp->Prop:=λ_ _=>False
abbrev TS:=Ends->St->Hp->Prop
inductive EP(X:Cx)(pins:List (Addr×Obj))(Z:St)(Q:VK)(u:aG)(s':aI):Prop
 |mk (v H') (_:Inv X pins Z H' s') (_:RelV v u) (_:Q v H'):EP X pins Z Q u s'
def TP(X:Cx)(a:List (Addr×Obj))(Z:St)(Q:Bool->Hp->Prop)(b:Bool)(d:aI):Prop:=∃c,Inv X a Z c d/\Q b c
inductive AP(X:Cx)(pins:List (Addr×Obj))(Z:St)(Q:List V->Hp->Prop)(us:List aG)(s':aI):Prop
 |mk (vs H') (_:Inv X pins Z H' s') (_:Vals vs us) (_:Q vs H'):AP X pins Z Q us s'
def SP(X:Cx)(b:List (Addr×Obj))(D:Ends)(f:Flow)(d:aI):Prop:=
 match f with
 |.next=>∃a c,Inv X b a c d/\D.nx a c
 |.brk=>∃a c,Inv X b a c d/\D.bk a c
 |.cont=>∃a c,Inv X b a c d/\D.ct a c
 |.ret u=>∃v a c,Inv X b a c d/\RelV v u/\D.rt v c
def PE(X:Cx)(e:Expr)(t:TE):Prop:=
 ∀(a:List (Addr×Obj))(s:aI)(Z:St)(H:Hp)(Q:VK),Inv X a Z H s->t Z H Q->bF (bB X.prog X.w) X.A (eval e X.env) (EP X a Z Q) X.xe s
def PT(X:Cx)(e:Expr)(t:TT):Prop:=
 ∀(a:List (Addr×Obj))(s:aI)(Z:St)(H:Hp)(Q:Bool->Hp->Prop),Inv X a Z H s->t Z H Q->bF (bB X.prog X.w) X.A (isTrue e X.env (eval e X.env)) (TP X a Z Q) X.xe s
def PW(X:Cx)(e:Expr)(t:TT):Prop:=
 ∀(b:Sem aG)(a:List (Addr×Obj))(s:aI)(Z:St)(H:Hp)(Q:Bool->Hp->Prop),Inv X a Z H s->t Z H Q->bF (bB X.prog X.w) X.A (isTrue e X.env b) (TP X a Z Q) X.xe s
def PW.pt(h:PW X e t):PT X e t:=h _
def PA(X:Cx)(es:List Expr)(t:TA):Prop:=
 ∀(b:Pos)(a:List (Addr×Obj))(s:aI)(Z:St)(H:Hp)(Q:List V->Hp->Prop),Inv X a Z H s->t Z H Q->bF (bB X.prog X.w) X.A (spliced (fF b (bM es X.env))) (AP X a Z Q) X.xe s
def PS(X:Cx)(st:Stmt)(t:TS):Prop:=
 ∀(a:List (Addr×Obj))(s:aI)(Z:St)(H:Hp)(D:Ends),Inv X a Z H s->t D Z H->bF (bB X.prog X.w) X.A (exec st X.env) (SP X a D) X.xe s
def qN(X:Cx)(st:List Stmt)(t:TS):Prop:=
 ∀(a:List (Addr×Obj))(s:aI)(Z:St)(H:Hp)(D:Ends),Inv X a Z H s->t D Z H->bF (bB X.prog X.w) X.A (execs st X.env) (SP X a D) X.xe s
def iq(h:bF M A t Q E s)(b:∀a s,Q a s->c a s):bF M A t c E s:=cJ h b λ_ _ x=>x
section
variable{X:Cx}
def uj(i:Nat):TE:=λZ H Q=>∃v,Z[i]?=some (some v)/\Q v H
def tC(v:V):TE:=λ_ H Q=>Q v H
def Fi(z:X.N[i]?=some x)(p:KW X.env.scope x)(g:(x==("__debug__":Str))=false:=by decide)(j:(x==("__classdict__":Str))=false:=by decide):PE X (.Name x o) (uj i):=by
 intro f s Z H Q I h;obtain⟨v,e,h⟩:=h;obtain⟨m,q,y⟩:=I.loc;obtain⟨u,r,l⟩:=y i x v z e p;have d:EP X f Z Q u s:=⟨v,H,I,r,h⟩;obtain ⟨b,w⟩|⟨b,c,n,a⟩:=l
 ·exact wpAny_Name (wpAny_loadName_local I.ok.kind b q w d) g
 ·obtain b|b:=b
  ·exact wpAny_Name (wpAny_loadName_cell I.ok.kind b n a d) g
  ·exact wpAny_Name (wpAny_loadName_free I.ok.kind b n a d j) g
def GD{i j a}:PE X (.Constant (.int i) j a) (tC (.int i)):=λ_ _ _ H _ I h=>wpAny_Constant_int ⟨.int i,H,I.tok _,⟨_,rfl⟩,h⟩
def MY{b j a}:PE X (.Constant (.bool b) j a) (tC (.bl b)):=λ_ _ _ H _ I h=>Constant_bool ⟨.bl b,H,I,rfl,h⟩
def GC{j a}:PE X (.Constant .none j a) (tC .hZ):=λ_ _ _ H _ I h=>Constant_none ⟨.hZ,H,I,rfl,h⟩
def HZ{x j a}:PE X (.Constant (.str x) j a) (tC (.str x)):=λ_ _ _ H _ I h=>Calls.Constant_str ⟨.str x,H,I.tok _,⟨_,rfl⟩,h⟩
def Gl(X:Cx)(x:Str):Prop:=X.env.kindOf x=some .globalImplicit
def z0(I:Inv X a Z H s)(d:Gl X x)(c:X.mg x=some u)(h:Q u s)
  (e:(x==("__debug__":Str))=false:=by decide):bF (bB X.prog X.w) X.A (eval (.Name x b) X.env) Q E s:=
 Calls.Name_function_global I.ok.kind d (Calls.loadGlobal_global (by rw[I.ok.glob];exact I.mod.glob.keeps I.bk) c h) e
def E6(I:Inv X a Z H s)(f:Gl X x)(e:X.mg x=none)(c:lG x=some u)(h:Q u s)
  (d:x≠"__name__":=by decide)(g:(x==("__debug__":Str))=false:=by decide):bF (bB X.prog X.w) X.A (eval (.Name x b) X.env) Q E s:=by
 obtain⟨l,j,i⟩:=I.mod.blt;exact Calls.Name_function_global I.ok.kind f (Calls.loadGlobal_builtin (by rw[I.ok.glob];exact I.mod.glob.keeps I.bk) e (by rw[I.ok.blt];exact j.keeps I.bk) ((i x d).trans c) h) g
def Of(c:Gl X x)(b:X.mg x=some u)(r:RelV v u)(d:(x==("__debug__":Str))=false:=by decide):PE X (.Name x a) (tC v):=
 λ_ _ _ H _ I h=>z0 I c b ⟨v,H,I,r,h⟩ d
variable{a b:Expr}{ta tb:TE}{pos:Pos}
variable{tA wL:TT}{rest:List Expr}
def QZ(t u:TT):TT:=λZ H Q=>t Z H λc d=>if c=true then u Z d Q else Q false d
def QT(t:TT):TT:=λZ H Q=>t Z H λc d=>Q (!c) d
def BJ(f:PT X a tA):PW X (.BoolOp .And [a] pos) tA:=by
 intro g d s Z H Q I h;refine isTrue_and (iq (f d s Z H Q I h) λc i e=>?_);cases c with
 |true=>exact isTrue_and_nil e
 |false=>exact e
def IR(m:PT X a tA)(l:PW X (.BoolOp .And (b::rest) pos) wL):PW X (.BoolOp .And (a::b::rest) pos) (QZ tA wL):=by
 intro i d s Z H Q I h;refine isTrue_and (iq (m d s Z H _ I h) λc j ⟨g,f,e⟩=>?_);cases c with
 |true=>exact l i d j Z g Q f e
 |false=>exact⟨g,f,e⟩
def HP(d:PT X a tA):PT X (.UnaryOp .Not a pos) (QT tA):=by
 intro c s Z H Q I h;exact isTrue_not (d c s Z H _ I h)
def MB(ta tb:TE):TE:=λZ H Q=>ta Z H λx d=>∃c,x=.bl c/\if c=true then tb Z d Q else Q (.bl false) d
def NV(ta:TE):TE:=λZ H Q=>ta Z H λx d=>∃c,x=.bl c/\Q (.bl (!c)) d
def GA{d}(h:PE X a t):PE X (.BoolOp d [a] pos) t:=λc s Z H Q I e=>BoolOp_one (h c s Z H Q I e)
def GF(m:PE X a ta)(l:PE X (.BoolOp .And (b::rest) pos) tb):PE X (.BoolOp .And (a::b::rest) pos) (MB ta tb):=by
 intro d s Z H Q I h;refine BoolOp_and (iq (m d s Z H _ I h) λv i ⟨x,g,f,j,e⟩=>?_);obtain⟨c,rfl,e⟩:=e;cases j;refine dS ?_;cases c with
 |true=>exact l d i Z g Q f e
 |false=>exact⟨.bl false,g,f,rfl,e⟩
def GB(g:PE X a ta):PE X (.UnaryOp .Not a pos) (NV ta):=by
 intro d s Z H Q I h;refine UnaryOp_ (iq (g d s Z H _ I h) λv l ⟨x,j,i,f,e⟩=>?_);obtain⟨c,rfl,e⟩:=e;cases f;exact not_of (dS ⟨.bl (!c),j,i,rfl,e⟩)
end
inductive v9(P:Array aG->Prop)(xs:List V):Prop
 |mk (its:List aG) (_:Vals xs its) (_:P its.toArray) (_:xs.length<=aQ):v9 P xs
inductive wR(K:aP)(a:Addr)(xs:List V):Prop
 |mk (o its n) (_:K.lookup a=some o) (_:o.cls=.type "list") (_:o.dict=none) (_:o.data=.seq its n) (_:its.size<=aQ) (_:Vals xs its.toList):wR K a xs
inductive wQ(K:aP)(a:Addr)(xs:List V):Prop
 |mk (o its n) (_:K.lookup a=some o) (_:o.cls=.type "tuple") (_:o.data=.seq its n) (_:its.size<=aQ) (_:Vals xs its.toList):wQ K a xs
def fD(K:aP)(H:Hp)(a:Addr)(xs:List V):Prop:=
 Rd H a (.lst xs)\/wR K a xs
def m3(K:aP)(H:Hp)(a:Addr)(xs:List V):Prop:=
 Rd H a (.tup xs)\/wQ K a xs
noncomputable def OD:aG->Option V
 |.none=>some .hZ
 |.bool b=>some (.bl b)
 |.int i _=>some (.int i)
 |.str x _=>some (.str x)
 |.bytes b _=>some (.sZ b)
 |.float b _=>some (.vH b)
 |.ref a=>some (.ref a)
 |.type n=>some (.ty n)
 |_=>none
def RelV.abs(r:RelV x u):OD u=some x:=by
 cases x with
 |hZ=>cases r;rfl
 |bl _=>cases r;rfl
 |int _=>obtain⟨t,rfl⟩:=r;rfl
 |str _=>obtain⟨t,rfl⟩:=r;rfl
 |sZ _=>obtain⟨t,rfl⟩:=r;rfl
 |vH _=>obtain⟨t,rfl⟩:=r;rfl
 |ref _=>cases r;rfl
 |ty _=>cases r;rfl
def RelV.inj(r:RelV x u)(q:RelV y u):x=y:=bN (r.abs.symm.trans q.abs)
theorem Vals.inj:∀{xs a:List V}{b:List aG},Vals xs b->Vals a b->xs=a
 |_,_,_,.nil,.nil=>rfl
 |_,_,_,.cons r t,.cons d c=>by rw[r.inj d,Vals.inj t c]
section
variable{X:Cx}{pins:List (Addr×Obj)}{Z:St}{H:Hp}{s:aI}{a:Addr}{xs ys:List V}
def fD.of{K:aP}(h:H a=some (.lst xs)):fD K H a xs:=.inl (.inl h)
def m3.of{K:aP}(h:H a=some (.tup xs)):m3 K H a xs:=.inl (.inl h)
def Inv.list(I:Inv X pins Z H s)(h:fD X.K H a xs):v9 (PlainL s.1 a) xs:=by
 obtain h|⟨o,b,n,d,g,f,c,i,r⟩:=h
 ·obtain⟨z,b,n,r,e⟩:=h.ok I.ez;exact⟨b,r,⟨_,n,e,rfl,rfl,rfl⟩,z⟩
 ·refine⟨b.toList,r,⟨o,n,I.rP a o d,g,f,by simpa using c⟩,?_⟩;have e:=r.length;simp only[aO]at e
  lia
def Inv.tuple(I:Inv X pins Z H s)(h:m3 X.K H a xs):v9 (IsTup s.1 a) xs:=by
 obtain h|⟨o,b,n,d,f,c,g,r⟩:=h
 ·obtain⟨z,b,r,p⟩:=h.ok I.ez;exact⟨b,r,p,z⟩
 ·refine⟨b.toList,r,⟨o,I.rP a o d,f,n,by simpa using c⟩,?_⟩;have e:=r.length;simp only[aO]at e
  lia
def Inv.qP(I:Inv X pins Z H s)(h:fD X.K H a xs)(j:fD X.K H a ys):xs=ys:=by
 obtain⟨c,r,⟨o,n,e,_,_,d⟩,_⟩:=I.list h;obtain⟨b,i,⟨m,p,f,_,_,g⟩,_⟩:=I.list j;rw[e]at f;cases f;rw[d]at g;injection g with l _
 have:c=b:=by simpa using congrArg Array.toList l
 subst this;exact r.inj i
def Inv.rF(I:Inv X pins Z H s)(h:m3 X.K H a xs)(j:m3 X.K H a ys):xs=ys:=by
 obtain⟨c,r,⟨o,e,_,n,d⟩,_⟩:=I.tuple h;obtain⟨b,i,⟨m,f,_,p,g⟩,_⟩:=I.tuple j;rw[e]at f;cases f;rw[d]at g;injection g with l _
 have:c=b:=by simpa using congrArg Array.toList l
 subst this;exact r.inj i
end
section
variable{X:Cx}{st:Stmt}{rest:List Stmt}{t u:TS}{e:Expr}{te:TE}{pos:Pos}
def NX:TS:=λD Z H=>D.nx Z H
def NS(t u:TS):TS:=λD Z H=>t {D with nx:=u D} Z H
def BX:qN X [] NX:=λ_ _ Z H _ I h=>mZ ⟨Z,H,I,h⟩
def Jd(g:PS X st t)(d:qN X rest u):qN X (st::rest) (NS t u):=by
 intro a s Z H D I h;refine wpAny_execs_cons (iq (g a s Z H {D with nx:=u D} I h) λf c q=>?_);cases f with
 |next=>
  obtain⟨b,j,i,q⟩:=q;exact d a c b j D i q
 |ret v=>exact q
 |brk=>exact q
 |cont=>exact q
def Af(b:PS X st t):qN X [st] t:=by
 intro a s Z H D I h;refine wpAny_execs_cons (iq (b a s Z H D I h) λf c q=>?_);cases f with
 |next=>exact mZ q
 |ret v=>exact q
 |brk=>exact q
 |cont=>exact q
def Inv.quiet(I:Inv X a Z H s):interactive X.env=false:=by simp[interactive,I.ok.kind]
def NZ(te:TE):TS:=λD Z H=>te Z H λ_ a=>D.nx Z a
def uf(d:PE X e te)(c:kC e none pos.line X.env=pure false:=by rfl):PS X (.Expr e pos) (NZ te):=by
 intro a s Z H D I h;exact wpAny_Expr_any (iq (d a s Z H _ I h) (by rintro v i ⟨x,g,f,j,b⟩;exact⟨Z,g,f,b⟩)) I.quiet c
def QS(te:TE):TS:=λD Z H=>te Z H D.rt
def HR(d:PE X e te):PS X (.Return (some e) pos) (QS te):=by
 intro a s Z H D I h;exact wpAny_Return_some (iq (d a s Z H _ I h) (by rintro v i ⟨x,g,f,b,c⟩;exact⟨x,Z,g,f,b,c⟩))
def QV(c:TT)(t u:TS):TS:=λD Z H=>c Z H λb a=>if b=true then t D Z a else u D Z a
def MU(n:PT X c m)(p:qN X a t)(o:qN X b u):PS X (.If c a b pos) (QV m t u):=by
 intro f s Z H D I h;refine wpAny_If (iq (n f s Z H _ I h) λd g ⟨l,j,i⟩=>?_);cases d with
 |true=>exact p f g Z l D j i
 |false=>exact o f g Z l D j i
end
abbrev TG:=V->St->Hp->(St->Hp->Prop)->Prop
abbrev KY:=List V->St->Hp->(St->Hp->Prop)->Prop
def PG(X:Cx)(a:Expr)(t:TG):Prop:=
 ∀(b:List (Addr×Obj))(s:aI)(Z:St)(H:Hp)(v:V)(u:aG)(Q:St->Hp->Prop),Inv X b Z H s->RelV v u->t v Z H Q->
  bF (bB X.prog X.w) X.A (assign a X.env u) (λ_ e=>∃c d,Inv X b c d e/\Q c d) X.xe s
def KZ(X:Cx)(f:List Expr)(t:KY):Prop:=
 ∀(a:List (Addr×Obj))(s:aI)(Z:St)(H:Hp)(c:List V)(d:List aG)(Q:St->Hp->Prop),Inv X a Z H s->Vals c d->t c Z H Q->
  bF (bB X.prog X.w) X.A (assignInOrder ((jT f X.env).map (·.2)) d) (λ_ g=>∃b e,Inv X a b e g/\Q b e) X.xe s
section
variable{X:Cx}{pos:Pos}
def sk(i:Nat):TG:=λv Z H Q=>Q (Z.set i (some v)) H
def Og(e:X.N.Nodup)(c:X.N[i]?=some x)(b:Sb X.env.scope x)(d:X.fn x=true\/X.env.scope.names.lookup x=some .local:=by first|exact .inl rfl|exact .inr rfl|assumption):PG X (.Name x pos) (sk i):=by
 intro a s Z H v u Q I r h;exact wpAny_assign_Name (Jt I e c b r (λg f=>⟨_,H,f,h⟩) d)
noncomputable def af:KY:=λa Z H Q=>a=[]/\Q Z H
inductive au(t:TG)(u:KY)(vs:List V)(Z:St)(H:Hp)(Q:St->Hp->Prop):Prop
 |mk (v r) (_:vs=v::r) (_:t v Z H λσ' H'=>u r σ' H' Q):au t u vs Z H Q
def AK:KZ X [] af:=by
 intro a s Z H b c Q I r h;obtain⟨e,h⟩:=h;subst e;cases r;exact assignInOrder_nil ⟨Z,H,I,h⟩
def V5(j:PG X e t)(i:KZ X es u)
  (g:(jT (e::es) X.env).map (·.2)=assign e X.env::(jT es X.env).map (·.2):=by rfl):KZ X (e::es) (au t u):=by
 intro a s Z H o q Q I r h;obtain⟨v,p,l,h⟩:=h;subst l;cases r with
 |cons r d=>
  rw[g];refine assignInOrder_cons (iq (j a s Z H _ _ _ I r h) λ_ c ⟨b,n,m,f⟩=>?_);exact i a c b n _ _ Q m d f
inductive h8(K:aP)(n:Nat)(t:KY)(v:V)(Z:St)(H:Hp)(Q:St->Hp->Prop):Prop
 |mk (a xs) (_:v=.ref a) (_:m3 K H a xs) (_:xs.length=n) (_:t xs Z H Q):h8 K n t v Z H Q
def HX(w:X.calm=true)(h:KZ X es t)
  (p:(jT es X.env).length=n:=by rfl)(f:(jT es X.env).findIdx? (·.1)=none:=by rfl):PG X (.Tuple es k pos) (h8 X.K n t):=by
 intro c s Z H v u Q I r d;obtain⟨a,xs,x,m,q,d⟩:=d;subst x;cases r;obtain⟨i,g,l,y⟩:=I.tuple m;refine assign_Tuple_tuple (I.ok.hd w) l (by simp[p,<-q,g.length]) f λz j=>?_;exact h c _ Z H xs _ Q (I.kept λb o e=>j b o (bL (aV e)) e) (by simpa using g) d
def Xq(a:TE)(g:TG):TS:=λD Z H=>a Z H λx b=>g x Z b D.nx
def HQ(o:X.N.Nodup)(l:X.N[i]?=some x)(g:Sb X.env.scope x)(n:PE X e c)(j:kC e (some (.Name x a)) pos.line X.env=pure false:=by rfl)(m:X.fn x=true\/X.env.scope.names.lookup x=some .local:=by first|exact .inl rfl|exact .inr rfl|assumption):
  PS X (.Assign [.Name x a] e pos) (Xq c (sk i)):=by
 intro b s Z H D I h;refine wpAny_Assign_Name (iq (n b s Z H _ I h) λv w ⟨y,r,q,d,f⟩=>?_) j;exact Jt q o l g d (λu p=>⟨_,r,p,f⟩) m
end
section
variable{X:Cx}{pos:Pos}
inductive rX(c:TT)(tb:TS)(D:Ends)(Z:St)(H:Hp):Prop
 |mk (W:Nat->St->Hp->Prop) (_:(∃m,W m Z H)) (_:∀m Z H,W m Z H->c Z H λb H1=>if b=true then∃N:St->Hp->Prop,(∀σ' H',N σ' H'->∃m',m'<m/\W m' σ' H')/\tb {D with nx:=N,ct:=N,bk:=D.nx} Z H1 else D.nx Z H1):rX c tb D Z H
def Wg(y:nO (bB X.prog X.w) X.A X.env X.xe)(Y:PT X c M)(hb:qN X j tb):PS X (.While c j [] pos) (rX M tb):=by
 intro d s Z H D I h;obtain⟨W,⟨U,L⟩,i⟩:=h;refine wpAny_While (codeAny_whileLoop (λn T=>∃g G,Inv X d g G T/\W n g G) ?_ U ⟨Z,H,I,L⟩)
 rintro n Q ⟨e,E,I1,J⟩
 refine hU y (iq (Y d Q e E _ I1 (i n e E J)) λb O ⟨C,B,o⟩=>?_);cases b with
 |true=>
  obtain⟨N,z,o⟩:=o;refine hU y (iq (hb d O e C _ B o) λf s3 m=>?_);cases f with
  |next=>
   obtain⟨a,l,x,q⟩:=m;obtain⟨r,u,p⟩:=z a l q;exact⟨r,u,a,l,x,p⟩
  |cont=>
   obtain⟨a,l,x,q⟩:=m;obtain⟨r,u,p⟩:=z a l q;exact⟨r,u,a,l,x,p⟩
  |brk=>exact m
  |ret v=>exact m
 |false=>
  exact mZ ⟨e,C,B,o⟩
end
structure It where
 go:Nat->Hp->Prop
 vK:Nat->Hp->V->Hp->Prop
 stop:Nat->Hp->Prop
inductive o1(X:Cx)(pins:List (Addr×Obj))(H:Hp)(b:Addr):Prop
 |mk (_:H b=none) (_:b≠X.env.locals) (_:b∉X.fs) (_:(b∈X.ex\/X.h7.1.1.size<=b)) (_:(∀x c,X.env.cells.lookup x=some c->c≠b)) (_:∀p∈X.pn++pins,p.1≠b):o1 X pins H b
def Inv.qh{s:aI}(I:Inv X a Z H s)(d:s.1.1.size<=b)(g:h b=none):o1 X a h b:=by
 refine⟨g,fL (bS I.lt d),I.vV d,.inr (cG I.sz d),λx c e z=>?_,λp f z=>?_⟩
 ·obtain⟨v,q⟩:=I.cell x c e;exact absurd (bS q.lt (by rwa [z])) (cP _)
 ·exact absurd (bS (aV (I.pin p f).1) (by rwa [z])) (cP _)
structure Turn(P:bH)(w:bV)(K:aP)(tg:Expr)(J:It)(fp:List Addr)(it:Addr)(tn:Nat->Heap->Prop):Prop where
 mem:it∈fp
 obj:∀i h,tn i h->∀b∈fp,∃o,h.get? b=some o/\∀v,o.data≠.cell v
 keep:∀i h h',tn i h->(∀b∈fp,∀o,h.get? b=some o->h'.get? b=some o)->tn i h'
 item:∀(X:Cx),X.prog=P->X.w=w->X.K=K->X.calm=true->∀(i:Nat)(pins:List (Addr×Obj))(s:aI)(Z:St)(H:Hp)(E:aG->aI->Prop),Inv X pins Z H s->(∀b∈fp,o1 X pins H b)->tn i s.1->J.go i H->
  bF (bB P w) X.A (nA (.ref it)) (λr s1=>∃u,r=some u/\
   bF (bB P w) X.A (pH tg (.ref it) u) (λ_ s2=>∃x H',Inv X pins Z H' s2/\RelV x u/\J.vK i H x H'/\tn (i+1) s2.1/\∀b∈fp,H' b=none) E s1) E s
 done:∀(X:Cx),X.prog=P->X.w=w->X.K=K->X.calm=true->∀(i:Nat)(pins:List (Addr×Obj))(s:aI)(Z:St)(H:Hp)(E:aG->aI->Prop),Inv X pins Z H s->(∀b∈fp,o1 X pins H b)->tn i s.1->J.stop i H->
  bF (bB P w) X.A (nA (.ref it)) (λr s1=>r=none/\Inv X pins Z H s1) E s
 self:∀(A:cB)(i:Nat)(s:aI)(Q:aG->aI->Prop)(E:aG->aI->Prop),tn i s.1->Q (.ref it) s->bF (bB P w) A (pQ (.ref it)) Q E s
abbrev TI:=St->Hp->(It->Hp->Prop)->Prop
inductive wA(X:Cx)(pins:List (Addr×Obj))(Z:St)(tg:Expr)(R:It->Hp->Prop)(itv:aG)(s2:aI):Prop
 |mk (it:Addr) (fp:List Addr) (tn:Nat->Heap->Prop) (J:It) (H':Hp) (_:itv=.ref it) (_:Inv X pins Z H' s2) (_:Turn X.prog X.w X.K tg J fp it tn) (_:tn 0 s2.1) (_:(∀b∈fp,o1 X pins H' b)) (_:R J H'):wA X pins Z tg R itv s2
def PI(X:Cx)(tg iter:Expr)(b:TI):Prop:=
 ∀(a:List (Addr×Obj))(s:aI)(Z:St)(H:Hp)(R:It->Hp->Prop),Inv X a Z H s->b Z H R->
  bF (bB X.prog X.w) X.A (eval iter X.env) (λv c=>bF (bB X.prog X.w) X.A (pQ v) (wA X a Z tg R) X.xe c) X.xe s
def Dn{s:aI}{o:Obj}(b:s.1.get? it=some o)(e:o.cls=.type n)(d:o.data=.fields f)
  (c:["enumerate","zip","dict_itemiterator","dict_reverseitemiterator","odict_iterator","itertools.zip_longest","itertools.pairwise"].contains n=false)(a:Q () s):bF M A (pH tg (.ref it) u) Q E s:=by
 cases tg<;>first
  |exact aD a
  | (cases u <;> first
    |exact aD a
    | (refine aC (wpAny_load b ?_)
       rw[e,d];show bF M A (if _=true then _ else _) Q E s;rw[aK (by intro h;rw[c,Bool.false_and]at h;cases h)];exact aD a))
def NG(K:aP)(a:Addr):It:=
 ⟨λi H=>∃xs x,fD K H a xs/\xs[i]?=some x,λi H x b=>b=H/\∀xs,fD K H a xs->xs[i]?=some x,λi H=>∃xs,fD K H a xs/\xs.length<=i⟩
def NC(K:aP)(a:Addr):It:=
 ⟨λi H=>∃xs x,m3 K H a xs/\xs[i]?=some x,λi H x b=>b=H/\∀xs,m3 K H a xs->xs[i]?=some x,λi H=>∃xs,m3 K H a xs/\xs.length<=i⟩
def NF(lo:Int)(n:Nat):It:=⟨λi _=>i<n,λi H x a=>a=H/\x=.int (lo+i),λi _=>n<=i⟩
def D6{P:bH}{w:bV}{K:aP}{tg:Expr}(a it:Addr):Turn P w K tg (NG K a) [it] it (λi h=>h.IsListIter it a i) where
 mem:=by simp
 obj:=λi h st b f=>by
  have e:b=it:=by simpa using f
  subst e;obtain⟨o,e,c,d⟩:=st;exact⟨o,e,λv z=>by rw[d]at z;cases z⟩
 keep:=λi h Q st k=>st.at λo e=>k it (by simp) o e
 item:=by
  intro X A r B O i j s Z H E I m st y;subst A r B;obtain⟨xs,x,l,N⟩:=y;obtain⟨q,n,p,Y⟩:=I.list l;obtain⟨u,hu,U⟩:=n.get N;obtain⟨M,L,f2,J,G,C⟩:=m it (by simp);refine wpAny_pyNext_list_item st p.isList (by simpa using hu) λQ g T=>?_;obtain⟨o,e,c,d⟩:=id g;exact⟨u,rfl,Dn e c d (by decide) ⟨x,H,(I.turned (λb o f e=>(T.2 b f).trans e) M L J G C),U,⟨rfl,λys hy=>by rwa [I.qP hy l]⟩,g,λb f=>(m b f).1⟩⟩
 done:=by
  intro X A r B O i j s Z H E I m st y;subst A r B;obtain⟨xs,l,N⟩:=y;obtain⟨q,n,p,Y⟩:=I.list l;obtain⟨M,L,f2,J,G,C⟩:=m it (by simp);have hl:=n.length;exact wpAny_pyNext_list_end (I.ok.hd O) st p.isList (by simp;lia) λQ eb=>⟨rfl,I.turned (λb o f e=>eb b o f e) M L J G C⟩
 self:=λ_ _ _ _ _ st h=>wpAny_pyIter_listiter st h
def Co{P:bH}{w:bV}{K:aP}{tg:Expr}(a it:Addr):Turn P w K tg (NC K a) [it] it (λi h=>h.IsTupleIter it a i) where
 mem:=by simp
 obj:=λi h st b f=>by
  have e:b=it:=by simpa using f
  subst e;obtain⟨o,e,c,d⟩:=st;exact⟨o,e,λv z=>by rw[d]at z;cases z⟩
 keep:=λi h Q st k=>st.at λo e=>k it (by simp) o e
 item:=by
  intro X A r B O i j s Z H E I m st y;subst A r B;obtain⟨xs,x,l,N⟩:=y;obtain⟨q,n,p,Y⟩:=I.tuple l;obtain⟨u,hu,U⟩:=n.get N;obtain⟨M,L,f2,J,G,C⟩:=m it (by simp);refine wpAny_pyNext_tuple_item st (p) (x:=u) (by simpa using hu) λQ g T=>?_;obtain⟨o,e,c,d⟩:=id g;exact⟨u,rfl,Dn e c d (by decide) ⟨x,H,(I.turned (λb o f e=>(T.2 b f).trans e) M L J G C),U,⟨rfl,λys hy=>by rwa [I.rF hy l]⟩,g,λb f=>(m b f).1⟩⟩
 done:=by
  intro X A r B O i j s Z H E I m st y;subst A r B;obtain⟨xs,l,N⟩:=y;obtain⟨q,n,p,Y⟩:=I.tuple l;obtain⟨M,L,f2,J,G,C⟩:=m it (by simp);have hl:=n.length;exact wpAny_pyNext_tuple_end (I.ok.hd O) st (p) (by simp;lia) λQ eb=>⟨rfl,I.turned (λb o f e=>eb b o f e) M L J G C⟩
 self:=λ_ _ _ _ _ st h=>wpAny_pyIter_tupleiter st h
def M5{P:bH}{w:bV}{K:aP}{tg:Expr}(it:Addr)(lo:Int)(n:Nat):Turn P w K tg (NF lo n) [it] it (λi h=>IsRangeIter h it (lo+(i:Nat) * 1) ((n:Int) - (i:Nat)) 1) where
 mem:=by simp
 obj:=λi h st b a=>by
  have e:b=it:=by simpa using a
  subst e;exact⟨_,st,λv z=>by
   cases z⟩
 keep:=λi h A st k=>k it (by simp) _ st
 item:=by
  intro X x u y j i d s Z H E I f st g;subst x u y;obtain⟨r,q,G,p,m,l⟩:=f it (by simp);refine(Walks.range (w:=X.w) (I.ok.hd j) it lo 1 n).item i s _ _ g st λv A L C c B=>?_;obtain⟨t,rfl⟩:=C;refine⟨_,rfl,Dn c rfl rfl (by decide) ⟨.int _,H,(I.turned (λb o a e=>B b o (by simpa using a) e) r q p m l),⟨t,?_⟩,⟨rfl,rfl⟩,c,λb a=>(f b a).1⟩⟩;rw[Int.mul_one]
 done:=by
  intro X x u y j i d s Z H E I f st g;obtain⟨r,q,G,p,m,l⟩:=f it (by simp);exact wpAny_pyNext_range_end (I.ok.hd j) st (by have:n<=i:=g;lia) λA J=>⟨rfl,I.turned (λb o a e=>J b o a e) r q p m l⟩
 self:=λ_ _ _ _ _ st h=>wpAny_pyIter_rangeiter st h
section
variable{X:Cx}{tg:Expr}
def Wy{a:List (Addr×Obj)}{Z:St}{H:Hp}{s:aI}{R:It->Hp->Prop}{E:aG->aI->Prop}{lo c:Int}{t u v:Tok}{f:Nat}(I:Inv X a Z H s)(l:-(2 ^ 62)<=lo)(j:lo<2 ^ 62)(i:-(2 ^ 62)<=c)(h:c<2 ^ 62)
  (q:R (NF lo (c - lo).toNat) H):bF (bB X.prog X.w) X.A (pQ (.ref s.1.1.size)) (wA X a Z tg R) E {s with heap:=s.1.push {cls:=.type "range",data:=.fields #[.int lo t,.int c u,.int 1 v]},toks:=f}:=by
 refine wpAny_pyIter_range (IsRange.new ..) (small_one l j i h) ?_;have d:Inv X a Z H {s with heap:=s.1.push {cls:=.type "range",data:=.fields #[.int lo t,.int c u,.int 1 v]},toks:=f}:=I.kept λb o e=>aH _ e;refine⟨(s.1.push {cls:=.type "range",data:=.fields #[.int lo t,.int c u,.int 1 v]}).objs.size,[(s.1.push {cls:=.type "range",data:=.fields #[.int lo t,.int c u,.int 1 v]}).objs.size],_,_,H,rfl,
  d.kept λb o e=>aH _ e,M5 _ lo (c - lo).toNat,?_,λb g=>?_,q⟩
 ·have n:lo+((0:Nat):Int) * 1=lo:=by simp
  have m:(((c - lo).toNat:Nat):Int) - ((0:Nat):Int)=Builtin.Range.rangeSize lo c 1:=by rw[rangeSize_one];split<;>lia
  rw[n,m];exact aT _ rfl
 ·have e:b=(s.1.push {cls:=.type "range",data:=.fields #[.int lo t,.int c u,.int 1 v]}).objs.size:=by simpa using g
  subst e;exact d.qh (aJ _) (d.ez.fresh (aJ _))
def KC(ta:TA):TI:=λZ H R=>ta Z H λa b=>∃j:Int,a=[.int j]/\-(2 ^ 62)<=j/\j<2 ^ 62/\R (NF 0 j.toNat) b
def Qz{a:Expr}{ta:TA}{p b:Pos}(n:Gl X "range")(m:X.mg "range"=none)(o:PA X [a] ta)(l:bM [a] X.env=[(false,eval a X.env)]:=by rfl):PI X tg (.Call (.Name "range" p) [a] [] b) (KC ta):=by
 intro c s Z H R I h;refine Call_ (E6 I n m boot_range (jN (iq (o b c s Z H _ I h) λw x ⟨v,y,u,g,d⟩=>?_) l rfl));obtain⟨j,e,d,i,q⟩:=d;subst e;cases g with
 |cons r f=>
  cases f;obtain⟨t,rfl⟩:=r;exact call_range_1 (Wy u (by lia) (by lia) d i (by simpa using q))
def QW(e:TI)(g:TG)(tb:TS):TS:=λD Z H=>e Z H λJ h=>∃W:Nat->Nat->St->Hp->Prop,(∃m,W 0 m Z h)/\∀i m Z H,W i m Z H->
 (J.stop i H/\D.nx Z H)\/(J.go i H/\∃N:St->Hp->Prop,(∀a b,N a b->∃d,d<m/\W (i+1) d a b)/\∀x b,J.vK i H x b->g x Z b λc f=>tb {D with nx:=N,ct:=N,bk:=D.nx} c f)
def B3(a:List Addr)(h:Heap):List (Addr×Obj):=a.filterMap λb=>(h.get? b).map λo=>(b,o)
def u9{h:Heap}(a:b∈c)(e:h.get? b=some o):(b,o)∈B3 c h:=List.mem_filterMap.mpr ⟨b,a,by rw[e];rfl⟩
def Qr{h:Heap}(a:p∈B3 d h):p.1∈d/\h.get? p.1=some p.2:=by
 obtain⟨b,c,e⟩:=List.mem_filterMap.mp a;cases q:h.get? b with
 |none=>rw[q]at e;cases e
 |some o=>
  rw[q]at e;have f:=bN e;subst f;exact⟨c,q⟩
def Inv.pinned{s:aI}(I:Inv X a Z H s)(j:∀b∈f,o1 X a H b)(i:∀b∈f,∃o,s.1.get? b=some o/\∀v,o.data≠.cell v):Inv X (a++B3 f s.1) Z H s:=
 I.rD λp h=>(List.mem_append.mp h).elim (λz=>I.pin p (cH _ z)) λz=>by
  obtain⟨c,e⟩:=Qr z;obtain⟨n,m,l,_⟩:=j p.1 c;obtain⟨o,g,d⟩:=i p.1 c;rw[e]at g;cases g;exact⟨e,n,m,l,d⟩
def Inv.ng(I:Inv X (a++c) Z H s):Inv X a Z H s:=I.rD λp b=>I.pin p (cH _ (dG _ b))
def L8(U:nO (bB X.prog X.w) X.A X.env X.xe)(hc:X.calm=true)(hi:PI X tg iter wi)(hg:PG X tg g)(q:qN X α tb)
  (hs:∀x,fV iter X.env x=pure x:=by intro _;rfl):PS X (.For tg iter α [] pos) (QW wi g tb):=by
 intro c s Z H D I h;refine wpAny_For (iq (hi c s Z H _ I h) λv s1 h1=>iq h1 λitv s2 h2=>?_) hs;obtain⟨it,fp,tn,J,H2,e,I2,T,ε,f2,W,⟨m0,w0⟩,L⟩:=h2;subst e;have p:∀{C:Hp},(∀b∈fp,C b=none)->∀b∈fp,o1 X c C b:=λhn b q=>have z:=f2 b q;⟨hn b q,z.2,z.3,z.4,z.5,z.6⟩;refine codeAny_forLoop_any (λn s'=>∃i l C,Inv X c l C s'/\tn i s'.1/\(∀b∈fp,C b=none)/\W i n l C) ?_ m0 ⟨0,Z,H2,I2,ε,λb q=>(f2 b q).1,w0⟩
 rintro n s3 ⟨i,j,H3,I3,O,Y,w3⟩
 rcases L i n j H3 w3 with ⟨M,qn⟩|⟨go,N,hN,step⟩
 ·refine hU U (iq (T.done X rfl rfl rfl hc i c s3 j H3 X.xe I3 (p Y) O M) λr s4 ⟨hr,I4⟩=>?_);subst hr;exact mZ ⟨j,H3,I4,qn⟩
 ·refine hU U (iq (T.item X rfl rfl rfl hc i c s3 j H3 X.xe I3 (p Y) O go) λr s4 ⟨u,hr,h4⟩=>?_);subst hr;refine hU U (iq h4 λ_ s5 ⟨x,H5,I5,r5,y5,G,θ⟩=>?_);refine hU U (iq (hg _ s5 j H5 x u _ (I5.pinned (p θ) (T.obj _ _ G)) r5 (step x H5 y5)) λ_ s6 ⟨δ,H6,I6,q6⟩=>?_);refine hU U (iq (q _ s6 δ H6 _ I6 q6) λf s7 E=>?_);have again:∀{a:St}{B:Hp},Inv X _ a B s7->N a B->∃m,m<n/\∃i l C,Inv X c l C s7/\tn i s7.1/\(∀b∈fp,C b=none)/\W i m l C:=λ{a B} y Q=>by
   obtain⟨m',hm,w7⟩:=hN a B Q;refine⟨m',hm,i+1,a,B,y.ng,T.keep _ _ _ G λb q o e=>(y.pin _ (cH _ (cH _ (u9 q e)))).1,λb q=>?_,w7⟩;obtain⟨o,e,d⟩:=T.obj _ _ G b q;exact(y.pin _ (cH _ (cH _ (u9 q e)))).2.1
  cases f with
  |next=>obtain⟨a,B,y,Q⟩:=E;exact again y Q
  |cont=>obtain⟨a,B,y,Q⟩:=E;exact again y Q
  |brk=>obtain⟨a,B,y,E⟩:=E;exact⟨a,B,y.ng,E⟩
  |ret v=>obtain⟨x7,a,B,y,r7,E⟩:=E;exact⟨x7,a,B,y.ng,r7,E⟩
end
abbrev R2:=V->V->Hp->VK->Prop
def kO(X:Cx)(f:aG->aG->Sem aG)(r:R2):Prop:=
 ∀(a:List (Addr×Obj))(s:aI)(Z:St)(H:Hp)(x y:V)(v u:aG)(Q:VK),Inv X a Z H s->RelV x v->RelV y u->r x y H Q->
  bF (bB X.prog X.w) X.A (f v u) (EP X a Z Q) X.xe s
def hW(X:Cx)(f:aG)(r:List V->Hp->VK->Prop):Prop:=
 ∀(a:List (Addr×Obj))(s:aI)(Z:St)(H:Hp)(xs:List V)(b:List aG)(Q:VK),Inv X a Z H s->Vals xs b->r xs H Q->
  bF (bB X.prog X.w) X.A (call f b) (EP X a Z Q) X.xe s
def OF(X:Cx)(r:V->Hp->(Bool->Hp->Prop)->Prop):Prop:=
 ∀(a:List (Addr×Obj))(s:aI)(Z:St)(H:Hp)(x:V)(v:aG)(Q:Bool->Hp->Prop),Inv X a Z H s->RelV x v->r x H Q->
  bF (bB X.prog X.w) X.A (truthy v) (TP X a Z Q) X.xe s
def NU(r:R2)(ta tb:TE):TE:=λZ H Q=>ta Z H λx b=>tb Z b λy a=>r x y a Q
inductive rI(C:Int->Int->Prop)(g:Int->Int->V)(x:V)(y:V)(H:Hp)(Q:VK):Prop
 |mk (i j) (_:x=.int i) (_:y=.int j) (_:C i j) (_:Q (g i j) H):rI C g x y H Q
inductive sL(g:Int->Int->V)(x:V)(y:V)(H:Hp)(Q:VK):Prop
 |mk (i j) (_:x=.int i) (_:y=.int j) (_:Q (g i j) H):sL g x y H Q
section
variable{X:Cx}{a b c:Expr}{ta tb tc:TE}{pos:Pos}
def EG(B:PE X a ta)(z:PE X b tb){d:List (Addr×Obj)}{s:aI}{Z:St}{H:Hp}{R:V->V->Hp->Prop}(I:Inv X d Z H s)
  (h:ta Z H λx l=>tb Z l λy e=>R x y e){Q:aG->aI->Prop}{f:aG->aG->Sem aG}
  (r:∀v u j x y e,Inv X d Z e j->RelV x v->RelV y u->R x y e->bF (bB X.prog X.w) X.A (f v u) Q X.xe j):
  bF (bB X.prog X.w) X.A (eval a X.env) (λv i=>bF (bB X.prog X.w) X.A (eval b X.env) (λu g=>bF (bB X.prog X.w) X.A (f v u) Q X.xe g) X.xe i) X.xe s:=by
 refine iq (B d s Z H _ I h) λv m ⟨x,l,E,o,q⟩=>?_;refine iq (z d m Z l _ E q) λu j ⟨y,e,C,n,p⟩=>?_;exact r v u j x y e C o n p
def MW{e:Operator}(j:kO X (jI e) r)(m:PE X a ta)(l:PE X b tb):PE X (.BinOp a e b pos) (NU r ta tb):=by
 intro d s Z H Q I h;exact wpAny_BinOp (EG m l I h λv u f x y o n i g q=>j d f Z o x y v u Q n i g q)
def QB{g:Int->Int->Int}
  (rule:∀(i j:Int)(t u:Tok)(s:aI)(Q:aG->aI->Prop)(E:aG->aI->Prop),C i j->Q (.int (g i j) s.toks) {s with toks:=s.toks+1}->bF (bB X.prog X.w) X.A (f (.int i t) (.int j u)) Q E s):
  kO X f (rI C λi j=>.int (g i j)):=by
 intro d s Z H x y v u Q I m l h;obtain⟨i,j,rfl,rfl,n,q⟩:=h;obtain⟨t,rfl⟩:=m;obtain⟨e,rfl⟩:=l;exact rule i j t e s _ _ n ⟨.int _,H,I.tok _,⟨_,rfl⟩,q⟩
def LD{g:Int->Int->Int}
  (rule:∀(i j:Int)(t u:Tok)(s:aI)(Q:aG->aI->Prop)(E:aG->aI->Prop),Q (.int (g i j) s.toks) {s with toks:=s.toks+1}->bF (bB X.prog X.w) X.A (f (.int i t) (.int j u)) Q E s):
  kO X f (sL λi j=>.int (g i j)):=by
 intro d s Z H x y v u Q I m l h;obtain⟨i,j,rfl,rfl,q⟩:=h;obtain⟨t,rfl⟩:=m;obtain⟨e,rfl⟩:=l;exact rule i j t e s _ _ ⟨.int _,H,I.tok _,⟨_,rfl⟩,q⟩
def PL{g:Int->Int->Bool}
  (rule:∀(i j:Int)(t u:Tok)(s:aI)(Q:aG->aI->Prop)(E:aG->aI->Prop),Q (.bool (g i j)) s->bF (bB X.prog X.w) X.A (f (.int i t) (.int j u)) Q E s):
  kO X f (sL λi j=>.bl (g i j)):=by
 intro d s Z H x y v u Q I m l h;obtain⟨i,j,rfl,rfl,q⟩:=h;obtain⟨t,rfl⟩:=m;obtain⟨e,rfl⟩:=l;exact rule i j t e s _ _ ⟨.bl _,H,I,rfl,q⟩
def uF(i j:Int):Prop:=(-(2 ^ 64)<i/\i<2 ^ 64)\/(-(2 ^ 64)<j/\j<2 ^ 64)
def uF.ok(h:uF i j):IntMulOk i j:=by
 obtain ⟨e,d⟩|⟨e,d⟩:=h
 ·exact .of_left (intBits_le_64 e d)
 ·exact .of_right (intBits_le_64 e d)
def GO:kO X (jI .Add) (sL λi j=>.int (i+j)):=LD λ_ _ _ _ _ _ _ q=>add_int q
def GH:kO X (jI .Sub) (sL λi j=>.int (i - j)):=LD λ_ _ _ _ _ _ _ q=>sub_int q
def GJ:kO X (jI .Mult) (rI uF λi j=>.int (i * j)):=QB λ_ _ _ _ _ _ _ d q=>mul_int q d.ok
def GK:kO X (jI .Mod) (rI (λ_ j=>0<j) λi j=>.int (i % j)):=QB λi j _ _ _ _ _ d q=>by
 exact mod_int' (by lia) (by rwa [Int.fmod_eq_emod_of_nonneg i (by lia)])
end
section
variable{X:Cx}{a b c:Expr}{ta tb tc:TE}{pos:Pos}
def Ts(I:Inv X d Z H s)(q:Q (.bl k) H)(e:k=f):EP X d Z Q (.bool f) s:=by
 subst e;exact⟨.bl k,H,I,rfl,q⟩
def LC:kO X (dX .Lt) (sL λi j=>.bl (decide (i<j))):=PL λ_ _ _ _ _ _ _ q=>lt_int q
def Qt:kO X (dX .In) (λx y H Q=>∃i j,x=.str i/\y=.str j/\Q (.bl (!(kY j i 0 j.length 1).isEmpty)) H):=by
 intro d s Z H x y v u Q I f e h;obtain⟨i,j,rfl,rfl,q⟩:=h;obtain⟨t,rfl⟩:=f;obtain⟨g,rfl⟩:=e;exact in_str (Ts I q rfl)
def Fg:kO X (dX .NotIn) (λx y H Q=>∃i j,x=.str i/\y=.str j/\Q (.bl (!(!(kY j i 0 j.length 1).isEmpty))) H):=by
 intro d s Z H x y v u Q I f e h;obtain⟨i,j,rfl,rfl,q⟩:=h;obtain⟨t,rfl⟩:=f;obtain⟨g,rfl⟩:=e;exact notIn_str (Ts I q rfl)
def kO.or(h:kO X f r)(j:kO X f i):kO X f (λx y H Q=>r x y H Q\/i x y H Q):=by
 intro d s Z H x y v u Q I g e q;obtain q|q:=q
 ·exact h d s Z H x y v u Q I g e q
 ·exact j d s Z H x y v u Q I g e q
def AM{e:CmpOp}(j:kO X (dX e) r)(n:PE X a ta)(m:PE X b tb)(l:mN e b=false):PE X (.Compare a [e] [b] pos) (NU r ta tb):=by
 intro d s Z H Q I h;exact wpAny_Compare1 (EG n m I h λv u f x y p o i g q=>j d f Z p x y v u Q o i g q) l
def EY(t:TE):TT:=λZ H Q=>t Z H λx d=>∃k,x=.bl k/\Q k d
def BV(q:kO X (dX f) r)(B:PE X a ta)(A:PE X b tb)(w:mN f b=false):PT X (.Compare a [f] [b] pos) (EY (NU r ta tb)):=by
 intro d s Z H Q I h;refine wpAny_isTrue_Compare1 (iq (B d s Z H _ I h) λv i ⟨x,M,G,m,p⟩=>iq (A d i Z M _ G p) λu g ⟨y,L,E,l,o⟩=>
  iq (q d g Z L x y v u _ E m l o) λc N ⟨z,J,C,j,k,e,n⟩=>?_) w
 subst e;cases j;exact dS ⟨J,C,n⟩
def Mu(r f:R2)(ta tb tc:TE):TE:=λZ H Q=>ta Z H λx i=>tb Z i λy h=>r x y h λz d=>∃k,z=.bl k/\
 (if k=true then tc Z d λe g=>f y e g Q else Q (.bl false) d)
def Vy(T:kO X (dX m) r)(i:kO X (dX g) L)(ha:PE X a ta)(hb:PE X b tb)(Y:PE X c tc)
  (U:pY [m,g] [b,c]=false:=by with_unfolding_all rfl):PE X (.Compare a [m,g] [b,c] pos) (Mu r L ta tb tc):=by
 intro f s Z H Q I h;refine Compare_chain (iq (ha f s Z H _ I h) λv C ⟨x,H1,I1,J,O⟩=>chain_link (iq (hb f C Z H1 _ I1 O) λu B ⟨y,H2,I2,j,N⟩=>
  iq (T f B Z H2 x y v u _ I2 J j N) λd A ⟨z,o,n,G,k,e,l⟩=>?_)) U
 subst e;cases G;refine dS ?_;cases k with
 |false=>exact ite_ff ⟨.bl false,o,n,rfl,l⟩
 |true=>exact ite_tt (chain_last (iq (Y f A Z o _ n l) (by rintro q w ⟨p,H4,I4,E,M⟩;exact i f w Z H4 y p u q Q I4 j E M)))
def Wh(ho:kO X (dX m) r)(i:kO X (dX g) M)(ha:PE X a ta)(hb:PE X b tb)(hc:PE X c tc)
  (hm:pY [m,g] [b,c]=false:=by with_unfolding_all rfl):PT X (.Compare a [m,g] [b,c] pos) (EY (Mu r M ta tb tc)):=by
 intro f s Z H Q I h;refine isTrue_chain (iq (ha f s Z H _ I h) λv C ⟨x,H1,I1,L,U⟩=>test_link (iq (hb f C Z H1 _ I1 U) λu B ⟨y,H2,I2,j,T⟩=>
  iq (ho f B Z H2 x y v u _ I2 L j T) λd A ⟨z,o,n,J,k,e,l⟩=>?_)) hm
 subst e;cases J;refine dS ?_;cases k with
 |false=>
  obtain⟨k',e',Y⟩:=l;cases e';exact ite_ff ⟨o,n,Y⟩
 |true=>
  refine ite_tt (test_last (iq (hc f A Z o _ n l) λq w ⟨p,H4,I4,G,O⟩=>iq (i f w Z H4 y p u q _ I4 j G O) λd' s5 ⟨z2,H5,I5,E,k2,e2,N⟩=>?_));subst e2;cases E;exact dS ⟨H5,I5,N⟩
def EO(K:aP)(x:V)(H:Hp)(k:Bool):Prop:=
 match x with
 |.hZ=>k=false
 |.bl b=>k=b
 |.int i=>k=(i !=0)
 |.str y=>y.length<=aQ/\k=((y.length:Int) !=0)
 |.sZ y=>y.size<=aQ/\k=((y.size:Int) !=0)
 |.ref p=>(∃xs,fD K H p xs/\k= !xs.isEmpty)\/(∃xs,m3 K H p xs/\k= !xs.isEmpty)\/∃d,H p=some (.dK d)/\k= !d.isEmpty
 |_=>False
def K0{d:List (κ×V)}{e:List (κ×aG)}(r:KV d e):(!e.isEmpty)= !d.isEmpty:=by
 cases r<;>rfl
def Bc{xs:List V}{d:List aG}(r:Vals xs d):(!d.toArray.isEmpty)= !xs.isEmpty:=by
 cases r<;>simp
def Lh:(aQ:Nat)<2 ^ 63:=by decide
def JT:OF X (λx H Q=>∃k,EO X.K x H k/\Q k H):=by
 intro w s Z H x v Q I g h;obtain⟨k,e,q⟩:=h;have C:=cR;cases x with
 |hZ=>
  cases g;have d:=e;subst d;exact truthy_none ⟨H,I,q⟩
 |bl b=>
  cases g;have d:=e;subst d;exact dS ⟨H,I,q⟩
 |int i=>
  obtain⟨t,rfl⟩:=g;have d:=e;subst d;exact PySem.P.truthy_int ⟨H,I,q⟩
 |str y=>
  obtain⟨t,rfl⟩:=g;obtain⟨A,d⟩:y.length<=aQ/\k=_:=e;subst d;exact PySem.P.truthy_str (by lia) ⟨H,I.tok _,q⟩
 |sZ y=>
  obtain⟨t,rfl⟩:=g;obtain⟨A,d⟩:y.size<=aQ/\k=_:=e;subst d;exact PySem.W.truthy_bytes (by lia) ⟨H,I.tok _,q⟩
 |ref p=>
  cases g;have d:=e;obtain ⟨xs,l,d⟩|⟨xs,l,d⟩|⟨j,l,d⟩:=d
  ·subst d;obtain⟨u,r,o,z⟩:=I.list l;have f:=r.length;exact wpAny_truthy_list o.isList (by simp only[bO];lia) ⟨H,I.tok _,by rwa [Bc r]⟩
  ·subst d;obtain⟨u,r,o,z⟩:=I.tuple l;have f:=r.length;exact truthy_tuple o (by simp only[bO];lia) ⟨H,I.tok _,by rwa [Bc r]⟩
  ·subst d;obtain⟨z,B,n,r,m⟩:j.length<=aQ/\_=false/\∃n,KV j n/\s.1.DictOf _ p n:=I.ez p _ l;have f:=kK r;exact wpAny_truthy_dict B m (by lia) ⟨H,I.tok _,by rwa [K0 r]⟩
 |_=>exact(e).elim
def Wj(m:PE X a ta)(l:∀d,isTrue a X.env d=(do let v <-d;standAt a.pos;holding [v] (truthy v))):
  PT X a (λZ H Q=>ta Z H λx f=>∃k,EO X.K x f k/\Q k f):=by
 intro e s Z H Q I h;exact isTrue_plain (iq (m e s Z H _ I h) (by rintro v g ⟨x,o,n,i,j⟩;exact JT e g Z o x v Q n i j)) (l _)
def Ly:kO X (jI .Add) (λx y H Q=>∃i j,x=.str i/\y=.str j/\i.length+j.length<=aQ/\Q (.str (i++j)) H):=by
 intro d s Z H x y v u Q I g f h;obtain⟨i,j,rfl,rfl,l,q⟩:=h;obtain⟨t,rfl⟩:=g;obtain⟨e,rfl⟩:=f;exact add_str (λe m=>⟨.str _,H,I.tok _,⟨_,rfl⟩,q⟩) l
def mq(r:Vals [x] d):∃u,d=[u]/\RelV x u:=by
 cases r with
 |cons f e=>cases e;exact⟨_,rfl,f⟩
def O9:hW X (.type "int") (λxs H Q=>(∃i,xs=[.int i]/\Q (.int i) H)\/∃k,xs=[.bl k]/\Q (.int (if k then 1 else 0)) H):=by
 intro d s Z H xs f Q I r h;obtain ⟨i,rfl,q⟩|⟨k,rfl,q⟩:=h
 ·obtain⟨u,rfl,t,rfl⟩:=mq r;exact call_int_int ⟨.int i,H,I,⟨_,rfl⟩,q⟩
 ·obtain⟨u,rfl,e⟩:=mq r;cases e;exact call_int_bool ⟨.int _,H,I.tok _,⟨_,rfl⟩,q⟩
def OI(K:aP)(x:V)(H:Hp)(n:Nat):Prop:=
 match x with
 |.str y=>y.length<=aQ/\n=y.length
 |.sZ y=>y.size<=aQ/\n=y.size
 |.ref p=>(∃xs,fD K H p xs/\n=xs.length)\/∃xs,m3 K H p xs/\n=xs.length
 |_=>False
def Sv:hW X (.builtin "len") (λxs H Q=>∃x n,xs=[x]/\OI X.K x H n/\Q (.int n) H):=by
 intro o s Z H xs z Q I r h;obtain⟨x,n,rfl,e,q⟩:=h;obtain⟨u,rfl,g⟩:=mq r;have A:=cR;cases x with
 |str y=>
  obtain⟨t,rfl⟩:=g;obtain⟨w,f⟩:y.length<=aQ/\n=y.length:=e;subst f;exact len_str (by lia) ⟨.int _,H,I.tok _,⟨_,rfl⟩,q⟩
 |sZ y=>
  obtain⟨t,rfl⟩:=g;obtain⟨w,f⟩:y.size<=aQ/\n=y.size:=e;subst f;exact PySem.W.len_bytes (by lia) ⟨.int _,H,I.tok _,⟨_,rfl⟩,q⟩
 |ref p=>
  cases g;have f:=e;obtain ⟨xs,m,f⟩|⟨xs,m,f⟩:=f
  ·subst f;obtain⟨l,i,j,v⟩:=I.list m;have d:=i.length;exact Calls.call_len_list j.isList (by simp only[bO];lia) ⟨.int xs.length,H,I.tok _,⟨_,by simp only[bO];rw[d]⟩,q⟩
  ·subst f;obtain⟨l,i,j,v⟩:=I.tuple m;have d:=i.length;exact len_tuple j (by simp only[bO];lia) ⟨.int xs.length,H,I.tok _,⟨_,by simp only[bO];rw[d]⟩,q⟩
 |_=>exact(e).elim
end
structure rM(h:Heap)(x dx C:Addr)(mA:Str->Option aG):Prop where
 obj:h.get? x=some (gF C dx)
 ns:h.Ns1 dx mA
 ne:dx≠x
def Qh{h:Heap}(n:h.Ns1 p f):∃od,h.get? p=some od/\∀b,PySem.W.lookIn b od=some (f b):=by
 obtain⟨o,d,s,i,m,l,_,j⟩:=n;refine⟨o,i,λb=>?_⟩;have e:=j b;unfold nsFind findBy at e;rw[<-Array.find?_toList]at e;unfold PySem.W.lookIn;rw[m];dsimp only;split
 ·rename_i y q;rw[q]at e;exact congrArg some e
 ·rename_i q;rw[q]at e;have a:d.toList.any (·.refKey)=false:=by
   rw[List.any_eq_false];intro y g;obtain⟨z,t,c⟩:=l y (Array.mem_toList_iff.mp g);simp[DictEntry.refKey,c]
  have r:¬d.toList.any (·.refKey)=true:=by rw[a];exact Bool.false_ne_true
  rw[aK r];exact congrArg some e
def rM.look(I:rM h x e C b):∃od,PySem.W.InstAt h x (gF C e) C (some od)/\∀a,PySem.W.lookIn a od=some (b a):=
 let ⟨od,c,d⟩:=Qh I.ns
 ⟨od,⟨I.obj,rfl,rfl,c⟩,d⟩
section
variable{prog:bH}{w:bV}{A:cB}{E:aG->aI->Prop}{s:aI}{K:aP}{x dx C f:Addr}{mA:Str->Option aG}{name:Str}{v:aG}
def E1(X:K.In s.1)(I:rM s.1 x dx C mA)(g:mE K C name=true)(e:lH K C=true)
  (i:fA K (.ref C) name=some none)(c:mA name=some v)(a:PySem.W.handedIn v=true)(h:Q v {s with toks:=s.toks+1}):
  bF (bB prog w) A (getAttr (.ref x) name b) Q E s:=by
 obtain⟨od,J,d⟩:=I.look;exact PySem.W.get_value X J (PySem.W.plainGet_of g).1 (PySem.W.findObj_own e i rfl (by rw[d,c])) a h
def CZ(X:K.In s.1)(I:rM s.1 x dx C mA)
  (p:fA K (.ref C) "__setattr__"=some (some (.builtin "object.__setattr__")))(q:oC K C=true)(n:pI K C name=some none)(r:lH K C=true)
  (m:PySem.Within mA l) (o:l.length<=aQ)
  (h:∀d,rM d x dx C (λy=>if y=name then some v else mA y)->cQ dx s.1 d->Q () {s with heap:=d,toks:=s.toks+2}):
  bF (bB prog w) A (setAttr (.ref x) name v) Q E s:=by
 obtain⟨od,J,H⟩:=I.look;refine PySem.W.set_plain X J p (PySem.W.osa_open X J q n λb=>?_);obtain⟨L,u,i⟩:=PySem.W.any_some r;refine aC (aD (aC (aC (wpAny_loadPart I.obj (aC (PySem.W.Looks.here (PySem.W.looks_clsIn X u) ?_))))));rw[i];refine aD (aC (aD (aC ?_)));refine wpAny_nsSet1 I.ns λd c a=>?_;obtain⟨G,z,B,e,g,j⟩:=c.count (PySem.Within.cons name v m);refine aC (wpAny_lookBehind e (by rw[g];exact pastItsLine_dict (cG j (by rw[aE];lia))) ?_);exact aD (h _ ⟨(a.2 _ (iY I.ne)).trans I.obj,c,I.ne⟩ a)
def U2(X:K.In s.1)(c:pJ K C=true)
  (d:fA K (.ref C) "__init__"=some (some (.ref f)))(e:PySem.W.typeIn K (.ref f)=some (.type "function"))
  (h:iE (bB prog w) (A.under (.builtin "type.__call__" ⟨.ref C::a,b⟩)) (.call (.ref f) ⟨.ref (s.1.1.size+1)::a,b⟩) (PySem.W.InitBack (s.1.1.size+1) R)
   {s with heap:=(s.1.push fB).push (gF C s.1.1.size)}):
  iE (bB prog w) A (.call (.ref C) ⟨a,b⟩) R s:=PySem.W.make_core (PySem.W.makes_of X c) (PySem.W.looks_findIn X d) (λself=>PySem.W.bind_fn X self e) (.inl rfl) h
end
def tj(f:Str)(v:V):List (Str×V)->List (Str×V)
 |[]=>[(f,v)]
 |(g,x)::r=>if g=f then(g,v)::r else(g,x)::tj f v r
def Hx(f g:Str)(v:V):∀fs:List (Str×V),(tj f v fs).lookup g=if g=f then some v else fs.lookup g:=by
 intro a;induction a with
 |nil=>
  show jU g [_]=_
  by_cases h:g=f
  ·have b:=beq_iff_eq.mpr h;simp only[jU,b,aN h]
  ·have b:=beq_eq_false_iff_ne.mpr h;simp only[jU,b,aK h]
 |cons a r d=>
  obtain⟨k,x⟩:=a;rw[show tj f v _=(if k=f then _::r else _::tj f v r)from rfl]
  by_cases c:k=f
  ·rw[aN c]
   by_cases h:g=k
   ·have b:=beq_iff_eq.mpr h;simp only[jU,b,aN (h.trans c)]
   ·have b:=beq_eq_false_iff_ne.mpr h;simp only[jU,b,aK (λe:g=f=>h (e.trans c.symm))]
  ·rw[aK c]
   by_cases h:g=k
   ·simp only[jU,(beq_iff_eq.mpr h),aK (λe:g=f=>c (h.symm.trans e))]
   ·simp only[jU,(beq_eq_false_iff_ne.mpr h)];exact(d)
def Dr(f:Str)(v:V):∀fs:List (Str×V),f∈(tj f v fs).map (·.1)/\∀g,g∈fs.map (·.1)->g∈(tj f v fs).map (·.1):=by
 intro a;induction a with
 |nil=>exact⟨by simp[tj],λg h=>by simp at h⟩
 |cons a r b=>
  obtain⟨k,x⟩:=a;obtain⟨i,d⟩:=b;rw[show tj f v _=(if k=f then _::r else _::tj f v r)from rfl]
  by_cases c:k=f
  ·subst c;exact⟨by simp,λg h=>by simpa using h⟩
  ·rw[aK c];refine⟨?_,λg h=>?_⟩
   ·exact aY _ i
   ·rcases List.mem_cons.mp h with e|e
    ·exact List.mem_cons.mpr (.inl e)
    ·exact aY _ (d g e)
def Hu(f:Str)(v:V):∀fs:List (Str×V),(tj f v fs).length<=fs.length+1:=by
 intro a;induction a with
 |nil=>simp[tj]
 |cons a r b=>
  obtain⟨k,x⟩:=a;have d:=b;rw[show tj f v _=(if k=f then _::r else _::tj f v r)from rfl]
  by_cases c:k=f
  ·rw[aN c,aE,aE];lia
  ·rw[aK c,aE,aE];lia
def n7.some_of(r:n7 (some v) o):∃u,o=some u/\RelV v u:=by
 cases o with
 |none=>exact(r).elim
 |some u=>exact⟨u,rfl,r⟩
def Pw(r:RelV v u):PySem.W.handedIn u=true:=by
 cases v with
 |hZ=>cases (r);rfl
 |bl b=>cases (r);rfl
 |int i=>obtain⟨t,e⟩:=(r);cases e;rfl
 |str x=>obtain⟨t,e⟩:=(r);cases e;rfl
 |sZ b=>obtain⟨t,e⟩:=(r);cases e;rfl
 |vH b=>obtain⟨t,e⟩:=(r);cases e;rfl
 |ref a=>cases (r);rfl
 |ty n=>cases (r);rfl
section
variable{P:bH}{w:bV}{H H':Hp}{h h':Heap}{a C dx:Addr}{fs w5:List (Str×V)}
def Ny(c:lz P w H h)(e:H a=some (.ins C dx fs)):∃b,rM h a dx C b/\(∀f,n7 (fs.lookup f) (b f))/\PySem.Within b (fs.map (·.1))/\fs.length<=1000/\H dx=some (.own a):=by
 obtain⟨d,z,ne,g,b,n,r,q⟩:=(c a _ e);exact⟨b,⟨g,n,ne⟩,r,q,z,d⟩
end
structure tE(K:aP)(C:Addr):Prop where
 pg:mE K C Str.empty=true
 hd:lH K C=true
 po:oC K C=true
 sa:fA K (.ref C) "__setattr__"=some (some (.builtin "object.__setattr__"))
def tE.get{K:aP}{C:Addr}(c:tE K C)(f:Str):mE K C f=true:=c.pg
def js(K:aP)(C:Addr)(f:Str):Prop:=fA K (.ref C) f=some none
def js.uL{K:aP}{C:Addr}{f:Str}(n:js K C f):pI K C f=some none:=by
 unfold pI;rw[n];rfl
section
variable{X:Cx}{pins:List (Addr×Obj)}{Z:St}{H:Hp}{s:aI}{a C dx:Addr}{fs:List (Str×V)}{f:Str}{v:V}{A:cB}{E:aG->aI->Prop}
def Kv(I:Inv X pins Z H s)(e:H a=some (.ins C dx fs))(c:tE X.K C)(n:js X.K C f)(l:fs.lookup f=some v)
  (h:∀u d,Inv X pins Z H d->RelV v u->Q u d):bF (bB X.prog X.w) A (getAttr (.ref a) f b) Q E s:=by
 obtain⟨j,O,r,_,_,_⟩:=Ny I.ez e;obtain⟨u,i,g⟩:=n7.some_of (by rw[<-l];exact r f);exact E1 I.rP O (c.get f) c.hd n i (Pw g) (h u _ (I.tok _) g)
def Mf(I:Inv X pins Z H s)(e:H a=some (.ins C dx fs))(c:tE X.K C)(n:js X.K C f)(T:fs.length<1000)(N:RelV y u)
  (h:∀j,Inv X pins Z (upd H a (.ins C dx (tj f y fs))) j->Q () j):bF (bB X.prog X.w) A (setAttr (.ref a) f u) Q E s:=by
 obtain⟨m,O,r,i,_,x⟩:=Ny I.ez e;have p:(fs.map (·.1)).length<=aQ:=by rw[aF,cR];lia
 refine CZ I.rP O c.sa c.po n.uL c.hd i p λL d l=>h _ ?_;have G:∃o,L.get? dx=some o:=let ⟨o,_,_,M,_⟩:=d.ns;⟨o,M⟩;refine I.write (by rw[e];exact mF) (.inr x) (λb q J z=>(l.2 b J).trans z) G ?_;refine⟨by rwa [ag O.ne],?_,O.ne,d.obj,_,d.ns,λg=>?_,λg B=>?_⟩
 ·have:=Hu f y fs;lia
 ·rw[Hx]
  by_cases q:g=f
  ·rwa [aN q,aN q]
  ·rw[aK q,aK q];exact r g
 ·by_cases q:g=f
  ·rw[q];exact(Dr f y fs).1
  ·refine(Dr f y fs).2 g (i g λz=>B ?_);show(if g=f then some u else m g)=none;rwa [aK q]
def Inv.made(I:Inv X pins Z H s):Inv X pins Z (upd (upd H s.1.1.size (.own (s.1.1.size+1))) (s.1.1.size+1) (.ins C s.1.1.size []))
  {s with heap:=(s.1.push fB).push (gF C s.1.1.size)}:=by
 have c:(s.1.push fB).get? s.1.1.size=some fB:=aT s.1 rfl;have h:((s.1.push fB).push (gF C s.1.1.size)).get? (s.1.1.size+1)=some (gF C s.1.1.size):=by
  have:=aT (s.1.push fB) (o:=gF C s.1.1.size) rfl;rwa [eN]at this
 refine(I.laid (o:=.own (s.1.1.size+1)) (h':=s.1.push fB) (t':=s.toks) (λb u q=>aH _ q) (aJ _) ⟨_,c⟩).laid (t':=s.toks) (λb u q=>aH _ q) (fM (eN _ _)) ?_;have ne:s.1.1.size≠s.1.1.size+1:=bL (fI _);refine⟨by rw[ag ne,ai],bX _,ne,h,λ_=>none,(Heap.Ns1.of_empty (⟨fB,#[],_,c,rfl,(λe g=>absurd g (by simp)),λ_=>rfl⟩)).at λo q=>aH _ q,λ_=>mF,λy d=>absurd rfl d⟩
def Yk(i:iM e f b (eval e b)=eval e b)
  (h:bF (bB c w) A (eval e b) (λo d=>bF (bB c w) A (getAttr o f true) Q E d) E s):bF (bB c w) A (eval (.Attribute e f g) b) Q E s:=
 Attribute_any_ h (by rw[arm_eval_Attribute,i])
end
inductive vB(K:aP)(f:Str)(Q:VK)(x:V)(H1:Hp):Prop
 |mk (a C dx fs v) (_:x=.ref a) (_:H1 a=some (.ins C dx fs)) (_:tE K C) (_:js K C f) (_:fs.lookup f=some v) (_:Q v H1):vB K f Q x H1
def QX(K:aP)(ta:TE)(f:Str):TE:=λZ H Q=>ta Z H (vB K f Q)
inductive vA(K:aP)(f:Str)(D:Ends)(Z:St)(y x:V)(H2:Hp):Prop
 |mk (a C dx fs) (_:x=.ref a) (_:H2 a=some (.ins C dx fs)) (_:tE K C) (_:js K C f) (_:fs.length<1000) (_:D.nx Z (upd H2 a (.ins C dx (tj f y fs)))):vA K f D Z y x H2
def PH(K:aP)(ta a:TE)(f:Str):TS:=λD Z H=>a Z H λy b=>ta Z b (vA K f D Z y)
section
variable{X:Cx}{o e value:Expr}{f:Str}{pos pos' wX:Pos}{ta tv:TE}
def GE(i:PE X e ta)(j:iM e f X.env (eval e X.env)=eval e X.env):PE X (.Attribute e f pos) (QX X.K ta f):=by
 intro b s Z H Q I h;refine Yk j (iq (i b s Z H _ I h) λu B ⟨x,y,w,d,a,C,E,fs,v,m,p,c,n,l,q⟩=>?_);subst m;obtain rfl:u=fU a:=d;exact Kv w p c n l λz A r g=>⟨v,y,r,g,q⟩
def Wf(v:PE X o ta)(p:PE X value tv)(r:kC value (some (.Attribute o f pos')) pos.line X.env=pure false):PS X (.Assign [.Attribute o f pos'] value pos) (PH X.K ta tv f):=by
 intro b s Z H D I h;refine plainObj_wpAny_Assign_Attribute (iq (p b s Z H _ I h) λu d ⟨y,G,E,g,q⟩=>iq (v b d Z G _ E q) λm L ⟨x,N,B,i,a,C,M,fs,w,z,c,n,l,j⟩=>?_) r;subst w;obtain rfl:m=fU a:=i;exact Mf B z c n l g λJ A=>⟨Z,_,A,j⟩
end
structure gy(k:Nat)(A:cB):Prop where
 hd:A.handled=none
 dp:A.depth+3 * k+5<recursionLimit
 un:A.units+16 * k+200<cZ
def gy.mono(r:gy k A)(h:j<=k):gy j A:=⟨r.hd,by have:=r.dp;lia,by have:=r.un;lia⟩
def gy.deeper{A:cB}(r:gy (k+1) A)(a:Env):gy k (A.deeper a):=
 ⟨r.hd,by have:=r.dp;show A.depth+1+3 * k+5<_;lia,by have:=r.un;show A.units+3+16 * k+200<_;lia⟩
def Ll{A:cB}:(A.under (.builtin "type.__call__" ⟨.ref C::a,b⟩)).depth=A.depth+1:=by
 first|rfl|simp[Around.under,Code.weight,Code.isCreation,Code.isGuard,Code.isCaller,Code.frames,Code.isFrame,guardIds]
def Lm{A:cB}:(A.under (.builtin "type.__call__" ⟨.ref C::a,b⟩)).units=A.units+1:=by
 first|rfl|simp[Around.under,Code.cUnits,Code.frames,Code.isFrame]
def gy.make{A:cB}(r:gy (k+1) A)(C:Addr)(a:List aG)(b:List (Str×aG)):gy k (A.under (.builtin "type.__call__" ⟨.ref C::a,b⟩)):=
 ⟨r.hd,by have:=r.dp;rw[Ll];lia,by have:=r.un;rw[Lm];lia⟩
def gy.depth{A:cB}(r:gy k A):A.depth<recursionLimit:=by have:=r.dp;lia
def NW:TA:=λ_ H Q=>Q [] H
def MA(ta:TE)(tr:TA):TA:=λZ H Q=>ta Z H λx b=>tr Z b λxs a=>Q (x::xs) a
section
variable{X:Cx}{e:Expr}{es:List Expr}{te:TE}{t:TA}{pos:Pos}
def qi:PA X [] NW:=λ_ _ _ _ H Q I h=>oE ⟨[],H,I,.nil,h⟩
def ky(l:PE X e te)(j:PA X es t)(i:bM (e::es) X.env=(false,eval e X.env)::bM es X.env:=by rfl):PA X (e::es) (MA te t):=by
 intro pos a s Z H Q I h;rw[i];refine iZ (iq (l a s Z H _ I h) λu b ⟨x,p,n,d,g⟩=>?_);exact iq (j pos a b Z p _ n g) (by rintro q r ⟨xs,o,m,c,f⟩;exact⟨x::xs,o,m,.cons d c,f⟩)
def QR(t:TA):TE:=λZ H Q=>t Z H λxs a=>xs.length<=aQ/\∀p,a p=none->Q (.ref p) (upd a p (.tup xs))
def QU(t:TA):TE:=λZ H Q=>t Z H λxs a=>xs.length<=aQ/\∀p,a p=none->Q (.ref p) (upd a p (.lst xs))
def HY{f}(h:PA X es t):PE X (.Tuple es f pos) (QR t):=by
 intro a s Z H Q I i;refine wpAny_Tuple_spliced (iq (h pos a s Z H _ I i) λg c ⟨xs,j,d,r,z,q⟩=>⟨by rwa [<-r.length],?_⟩);refine⟨.ref c.1.1.size,upd j c.1.1.size _,d.laid (λb u e=>aH _ e) (aJ _) ?_,rfl,q _ (d.ez.fresh (aJ _))⟩;exact⟨z,g,r,⟨_,aT _ rfl,rfl,_,rfl⟩⟩
def V3(h:PA X es t):PE X (.List es pos) (QU t):=by
 intro a s Z H Q I g;refine wpAny_List_spliced (iq (h pos a s Z H _ I g) λf c ⟨xs,i,d,r,z,q⟩=>⟨by rwa [<-r.length],?_⟩);refine⟨.ref c.1.1.size,upd i c.1.1.size _,d.laid (λb u e=>aH _ e) (aJ _) ?_,rfl,q _ (d.ez.fresh (aJ _))⟩;exact⟨z,f,0,r,aT _ rfl⟩
end
abbrev Sp:=List V->Hp->VK->XK->Prop
abbrev R8:=List Env->Hp->aI->XK->aG->aI->Prop
structure rN(P:bH)(w:bV)(K:aP)(mg:Str->Option aG)(base:Heap)(A:cB)(outer:List Env)(s:aI)(H:Hp):Prop where
 frames:A.frames=some outer
 mod:Mod K mg base
 bs:∀b o,base.get? b=some o->s.1.get? b=some o/\H b=none
 tY:base.objs.size<=s.1.1.size
 qy:s.1.FunFrames base outer
 uX:∀b∈Tv outer,H b=none
 ez:lz P w H s.1
 bare:oB s.gens
inductive CE(outer:List Env)(P:bH)(w:bV)(H:Hp)(s:aI)(Q:VK)(u:aG)(s':aI):Prop
 |mk (v H') (_:s'.os=s.os) (_:oB s'.gens) (_:Un (Tv outer) [] H H' s.1 s'.1) (_:lz P w H' s'.1) (_:RelV v u) (_:Q v H'):CE outer P w H s Q u s'
def CR(c:R8)(a:List Env)(P:bH)(w:bV)(H:Hp)(s:aI)(Q:VK)(E:XK)(r:Result)(b:aI):Prop:=
 match r with
 |.ok (.ret u)=>CE a P w H s Q u b
 |.ok _=>False
 |.error e=>c a H s E e b
structure i0(P:bH)(w:bV)(K:aP)(mg:Str->Option aG)(base:Heap)(CX:R8)(k:Nat)(f:Addr)(fd:jV)(ps:List Str)(sp:Sp):Prop where
 len:∀vs H Q E,sp vs H Q E->vs.length=ps.length
 run:∀(A:cB)(outer:List Env)(s:aI)(H:Hp)(args:Args)(us:List aG)(vs:List V)(Q:VK)(E:XK),gy k A->rN P w K mg base A outer s H->BindsTo s fd args (ps.zip us)->Vals vs us->sp vs H Q E->
  iE (bB P w) A (.call (.ref f) args) (CR CX outer P w H s Q E) s
def i0.imp{P:bH}{w:bV}{K:aP}{mg:Str->Option aG}{base:Heap}{j:R8}{k:Nat}{f:Addr}{i:jV}{g:List Str}{e c:Sp}(F:i0 P w K mg base j k f i g e)
  (h:∀b H Q E,c b H Q E->e b H Q E):i0 P w K mg base j k f i g c:=
 ⟨λb H Q E q=>F.len b H Q E (h _ _ _ _ q),λA a s H d l b Q E o p r m n=>F.run A a s H d l b Q E o p r m (h _ _ _ _ n)⟩
def rN.make{P:bH}{w:bV}{K:aP}{mg:Str->Option aG}{base:Heap}{A:cB}{a:List Env}{s:aI}{H:Hp}(e:rN P w K mg base A a s H)(C:Addr)(b:List aG)(c:List (Str×aG)):
  rN P w K mg base (A.under (.builtin "type.__call__" ⟨.ref C::b,c⟩)) a s H:=⟨by first|exact e.frames|(simpa[Around.under,Code.envs,Code.isFrame,pushEnvs]using e.frames),e.mod,e.bs,e.tY,e.qy,e.uX,e.ez,e.bare⟩
section
variable{X:Cx}{pins:List (Addr×Obj)}{Z:St}{H:Hp}{s s':aI}
def Inv.uZ(I:Inv X pins Z H s):rN X.prog X.w X.K X.mg X.base X.A X.stack s H:=
 ⟨I.ok.frames,I.ok.mod,I.bs,cG I.ok.tY I.sz,I.stack,I.rA,I.ez,I.bare⟩
def Inv.after(I:Inv X pins Z H s)(h:CE X.stack X.prog X.w H s Q u s'):EP X pins Z Q u s':=by
 obtain⟨v,f,os,a,un,e,r,q⟩:=h;obtain⟨i,g,d,t,c⟩:=s';obtain rfl:c=s.os:=os;exact⟨v,f,I.call (d':=d) (t':=t) (ch:=[]) un e a (λb z=>absurd z (by simp)),r,q⟩
end
def EZ(c:Sp)(a:List V)(E:XK)(t:TA):TE:=λZ H Q=>t Z H λb d=>c (b++a) d Q E
def NY(C:Addr)(e:Sp)(b:List V)(E:XK)(t:TA):TE:=λZ H Q=>t Z H λd c=>∀x a,c x=none->c a=none->a≠x->
 e (.ref x::(d++b)) (upd (upd c a (.own x)) x (.ins C a [])) (λv f=>v=.hZ/\Q (.ref x) f) E
def Binds(K:aP)(d:jV)(b:List Str)(c:List aG):Prop:=
 ∀(s:aI)(a:List aG),K.In s.1->(a++c).length=b.length->BindsTo s d ⟨a,[]⟩ (b.zip (a++c))
def Binds.all{K:aP}{d:jV}{b:List Str}(h:∀a:List aG,a.length=b.length->bindArgs d ⟨a,[]⟩=pure (b.zip a)):Binds K d b []:=λs a _ c=>by
 rw[bT]at c⊢;exact .of_eq (h a c)
def lx(c:R8)(X:Cx)(E:XK):Prop:=∀(a:List (Addr×Obj))(Z:St)(H:Hp)(s:aI)(e:aG)(b:aI),Inv X a Z H s->c X.stack H s E e b->X.xe e b
section
variable{X:Cx}{CX:R8}{k:Nat}{f C:Addr}{fd:jV}{ps:List Str}{sp:Sp}{sH:List V}{ds:List aG}{E:XK}{x m:Str}{p pos apos:Pos}{e o:Expr}{es:List Expr}{ta:TE}{t:TA}
def W3(F:i0 X.prog X.w X.K X.mg X.base CX k f fd ps sp)(l:gy k X.A)(v:Binds X.K fd ps ds)(q:Vals sH ds)(j:lx CX X E)
  (I:Inv X a Z H s)(r:Vals g c)(h:sp (g++sH) H Q E):bF (bB X.prog X.w) X.A (call (.ref f) c) (EP X a Z Q) X.xe s:=by
 have d:=r.append q;have n:(c++ds).length=ps.length:=by rw[<-d.length];exact F.len _ _ _ _ h
 refine wpAny_call (jA (F.run X.A X.stack s H ⟨c,[]⟩ _ _ Q E l I.uZ (v s c I.rP n) d h) λr i b=>?_);cases r with
 |error e=>exact j a Z H s e i I b
 |ok y=>
  cases y with
  |ret u=>exact I.after b
  |next=>exact dY b
  |brk=>exact dY b
  |cont=>exact dY b
def AN(F:i0 X.prog X.w X.K X.mg X.base CX k f fd ps sp)(i:gy k X.A)(n:Gl X x)(j:X.mg x=some (.ref f))(l:dP X.K (.ref f)=true)(y:Binds X.K fd ps ds)(v:Vals sH ds)(g:lx CX X E)
  (z:PA X (e::es) t)(c:(x==("__debug__":Str))=false:=by decide)(u:bM (e::es) X.env=(false,eval e X.env)::bM es X.env:=by rfl)(b:(fF pos (bM es X.env)).any (·.1)=false:=by rfl):
  PE X (.Call (.Name x p) (e::es) [] pos) (EZ sp sH E t):=by
 intro a s Z H Q I h;refine jB (z0 I n j ?_ c);refine PySem.W.callWith_K I.ok.mod.uV l (iq (z pos a s Z H _ I h) λG J ⟨B,L,d,r,q⟩=>⟨d.rP,?_⟩) u b;exact W3 F i y v g d r q
def Vx(F:i0 X.prog X.w X.K X.mg X.base CX k f fd ps sp)(d:gy k X.A)(j:Gl X x)(g:X.mg x=some (.ref f))(i:dP X.K (.ref f)=true)(n:Binds X.K fd ps ds)(l:Vals sH ds)(c:lx CX X E)
  (a:(x==("__debug__":Str))=false:=by decide):PE X (.Call (.Name x p) [] [] pos) (EZ sp sH E NW):=by
 intro b s Z H Q I h;refine jB (z0 I j g ?_ a);exact PySem.W.callWith_K0 I.rP i (W3 F d n l c I .nil h)
structure Mk(K:aP)(C f:Addr):Prop where
 makes:pJ K C=true
 init:fA K (.ref C) "__init__"=some (some (.ref f))
 fn:PySem.W.isFn K (.ref f)=true
 kp:dP K (.ref C)=true
def W4(M:Mk X.K C f)(F:i0 X.prog X.w X.K X.mg X.base CX k f fd ps sp)(B:gy (k+1) X.A)(L:Binds X.K fd ps ds)(J:Vals sH ds)
  (z:lx CX X E)(I:Inv X b Z H s)(r:Vals l c)
  (h:∀x d,H x=none->H d=none->d≠x->sp (.ref x::(l++sH)) (upd (upd H d (.own x)) x (.ins C d [])) (λv U=>v=.hZ/\Q (.ref x) U) E):
  bF (bB X.prog X.w) X.A (call (.ref C) c) (EP X b Z Q) X.xe s:=by
 have j:=h _ s.1.1.size (I.ez.fresh (jW _)) (I.ez.fresh (aJ _)) (bL (fI _));have g:=Inv.made (C:=C) I;have i:Vals (V.ref _::_) (fU (s.1.1.size+1)::_):=.cons rfl (r.append J);have G:(fU (s.1.1.size+1)::c++ds).length=ps.length:=by
  have e:=i.length;rw[F.len _ _ _ _ j]at e;exact e.symm
 refine wpAny_call (U2 I.rP M.makes M.init (beq_iff_eq.mp M.fn) (jA (F.run _ X.stack _ _ ⟨fU _::c,[]⟩ _ _ _ E (B.make C c [])
  (g.uZ.make C c []) (L _ _ g.rP G) i j) λr n a=>?_))
 cases r with
 |error e=>exact z b Z _ _ e n g a
 |ok N=>
  cases N with
  |ret u=>
   obtain⟨v,Y,T,q,O,y⟩:=g.after a;subst O;exact⟨q,⟨V.ref _,Y,T,rfl,y⟩⟩
  |next=>exact dY a
  |brk=>exact dY a
  |cont=>exact dY a
def AL(M:Mk X.K C f)(F:i0 X.prog X.w X.K X.mg X.base CX k f fd ps sp)(i:gy (k+1) X.A)(l:Gl X x)(j:X.mg x=some (.ref C))(v:Binds X.K fd ps ds)(u:Vals sH ds)(g:lx CX X E)
  (y:PA X (e::es) t)(c:(x==("__debug__":Str))=false:=by decide)(n:bM (e::es) X.env=(false,eval e X.env)::bM es X.env:=by rfl)(b:(fF pos (bM es X.env)).any (·.1)=false:=by rfl):
  PE X (.Call (.Name x p) (e::es) [] pos) (NY C sp sH E t):=by
 intro a s Z H Q I h;refine jB (z0 I l j ?_ c);refine PySem.W.callWith_K I.ok.mod.uV M.kp (iq (y pos a s Z H _ I h) λB G ⟨z,J,d,r,q⟩=>⟨d.rP,?_⟩) n b;exact W4 M F i v u g d r q
end
structure kv(N P:List Str)(sc:fK):Prop where
 kind:sc.kind=.function
 co:sc.isCoroutine=false
 gen:sc.isGenerator=false
 nd:N.Nodup
 pre:N.take P.length=P
 par:∀x∈P,sc.names.lookup x=some .local\/sc.names.lookup x=some .cell
 tQ:∀y∈sc.names,y.2≠.free
def O6{kindOf:Str->Option gR}{x:Str}:∀{binds:List (Str×aG)}{m:Str->Option aG},(∀v,(x,v)∉binds)->bindL kindOf binds m x=m x:=by
 intro a;induction a with
 |nil=>rintro _ _;exact rfl
 |cons a r b=>
  obtain⟨n,v⟩:=a
  rintro m h
  unfold bindL;rw[b λw c=>h w (aY _ c)];split
  ·have:x≠n:=by rintro rfl;exact h v aZ
   simp[this]
  ·rfl
def O5{kindOf:Str->Option gR}{x:Str}:∀{binds:List (Str×aG)}{m:Str->Option aG},(∀v,(x,v)∉binds)->bindC kindOf binds m x=m x:=by
 intro a;induction a with
 |nil=>rintro _ _;exact rfl
 |cons a r b=>
  obtain⟨n,v⟩:=a
  rintro m h
  unfold bindC;rw[b λw c=>h w (aY _ c)];split
  ·rfl
  ·have:x≠n:=by rintro rfl;exact h v aZ
   simp[this]
theorem Df{kindOf:Str->Option gR}{x:Str}{v:aG}:∀{P:List Str}{a:List aG}{i:Nat}{m:Str->Option aG},P.Nodup->P[i]?=some x->a[i]?=some v->kindOf x=some .local->
  bindL kindOf (P.zip a) m x=some v
 |[],_,_,_,_,h,_,_=>by simp at h
 |_::_,[],_,_,_,_,h,_=>by simp at h
 |p::P,w::a,0,m,d,c,b,e=>by
  simp at c b;subst c;subst b;show bindL kindOf (_::P.zip a) m p=_;unfold bindL;rw[O6 λv f=>(List.nodup_cons.mp d).1 (nB f).1,aN e];simp
 |p::P,w::a,i+1,m,d,c,b,e=>by
  unfold bindL;exact Df (List.nodup_cons.mp d).2 (by simpa using c) (by simpa using b) e
theorem De{kindOf:Str->Option gR}{x:Str}{v:aG}:∀{P:List Str}{a:List aG}{i:Nat}{m:Str->Option aG},P.Nodup->P[i]?=some x->a[i]?=some v->kindOf x≠some .local->
  bindC kindOf (P.zip a) m x=some v
 |[],_,_,_,_,h,_,_=>by simp at h
 |_::_,[],_,_,_,_,h,_=>by simp at h
 |p::P,w::a,0,m,d,c,b,e=>by
  simp at c b;subst c;subst b;show bindC kindOf (_::P.zip a) m p=_;unfold bindC;rw[O5 λv f=>(List.nodup_cons.mp d).1 (nB f).1,aK e];simp
 |p::P,w::a,i+1,m,d,c,b,e=>by
  unfold bindC;exact De (List.nodup_cons.mp d).2 (by simpa using c) (by simpa using b) e
def ro(N:List Str)(a:List V):St:=a.map some++bY (N.length - a.length) none
noncomputable def zh(g:R8)(P:bH)(w:bV)(K:aP)(mg:Str->Option aG)(base:Heap)(N:List Str)(b:Str)(a:fK)(f:Addr)(d:aG)(A:cB)(outer:List Env)(s:aI)(H:Hp)(E:XK):Cx where
 prog:=P
 w:=w
 K:=K
 mg:=mg
 base:=base
 A:=A.deeper (pA b a s.1.1.size f d)
 N:=N
 h7:=s
 oD:=H
 env:=pA b a s.1.1.size f d
 outer:=outer
 stack:=pA b a s.1.1.size f d::outer
 ex:=[]
 calm:=true
 fn:=λx=>decide (x∉wo)
 pn:=[]
 xe:=λe h=>bF (bB P w) (A.deeper (pA b a s.1.1.size f d)) (leaving (pA b a s.1.1.size f d) e) (λ_ c=>g outer H s E e c) (λi c=>g outer H s E i c) h
def F8{a:fK}(h:a.names.lookup x=some .cell):∃c,(mG n a.names []).lookup x=some c:=Option.isSome_iff_exists.mp (lI a.names n [] (.inl h))
def Dp{Y:R8}{P:bH}{w:bV}{K:aP}{mg:Str->Option aG}{base:Heap}{N o:List Str}{j:Str}{d:fK}{f:Addr}{L:aG}{A:cB}{g:List Env}{s Q:aI}{H:Hp}{E:XK}{M:List aG}{n:List V}
  (S:kv N o d)(hd:A.handled=none)(m:rN P w K mg base A g s H)(hl:n.length=o.length)(r:Vals n M)
  (x:InCallC s s.1.1.size (bindL (pA j d s.1.1.size f L).kindOf (o.zip M) λ_=>none) (mG (s.1.1.size+1) d.names []) (bindC (pA j d s.1.1.size f L).kindOf (o.zip M) λ_=>none) Q):
  Inv (zh Y P w K mg base N j d f L A g s H E) [] (ro N n) H Q:=by
 have β:o.length<=N.length:=by have:=congrArg dH S.pre;rw[dQ]at this;lia
 obtain⟨O,tk,rfl,U⟩:=x.done;have B:∀b:Addr,b∉(zh Y P w K mg base N j d f L A g s H E).ex:=λb z=>absurd (show b∈([]:List Addr)from z) (by simp);refine⟨⟨m.mod,S.kind,rfl,rfl,aJ _,λy z c O l=>?_,λy G=>?_,λy c _ h=>?_,λ_=>hd,Around.frames_deeper m.frames,.inr ⟨rfl,rfl⟩,λb z=>absurd z (B b),m.bs,m.tY,λb _ _=>B b,λb z=>absurd z (B b),m.qy,m.uX⟩,
  rfl,m.bare,Un.kept U,⟨_,x.toInCall.ns,λi y v O l h3=>?_⟩,λy c h=>⟨_,x.cell y c h⟩,m.ez.fresh (aJ _),λy c h=>?_,λp I=>absurd (show p∈([]:List _)from I) (by simp),m.ez.kept U,?_⟩
 ·exact name_of_addr x.apart (iP O) (iP l)
 ·obtain G|G:=G
  ·exact F8 G
  ·exact absurd rfl (S.tQ _ (iP G))
 ·exact Nat.le_of_lt (x.above y c (iP h))
 ·have J:i<n.length:=by
   unfold ro at l
   by_cases J:i<n.length
   ·exact J
   ·rw[cK (by simpa using J)]at l;rw[List.getElem?_replicate]at l;split at l<;>cases l
  have ha:n[i]?=some v:=by
   unfold ro at l;rw[cA (by simpa using J),bJ]at l;cases e:n[i]? with
   |none=>rw[e]at l;cases l
   |some a=>rw[e]at l;cases l;rfl
  obtain⟨u,T,rv⟩:=r.get ha;have I:o[i]?=some y:=by
   rwa [<-S.pre,List.getElem?_take_of_lt (by lia)]
  have C:o.Nodup:=by rw[<-S.pre];exact S.nd.sublist (List.take_sublist _ _)
  refine⟨u,rv,?_⟩;rcases S.par y (bR I)with k|k
  ·exact .inl ⟨k,Df C I T k⟩
  ·obtain⟨c,e⟩:=F8 k;refine .inr ⟨.inl k,c,e,?_⟩;have q:=x.cell y c e;rw[De C I T (by show d.names.lookup y≠_;rw[k];decide)]at q;exact q
 ·exact .inl (m.ez.fresh (Nat.le_of_lt (x.above y c (iP h))))
 ·unfold ro;show _=N.length;rw[aM,aF,dN]
  lia
def KH{CX:R8}{P:bH}{w:bV}{K:aP}{mg:Str->Option aG}{base:Heap}{k:Nat}{f:Addr}{l d:Str}{g:Arguments}{i:List Stmt}{a:fK}{dV kV M pm h ct oc:aG}{an od:Option Addr}
  {α:Array (Option aG)} {N O:List Str} {T:Sp} (lk:K.lookup f=some ⟨oc,od,.func (dC l d g i a dV kV M pm an h ct),α⟩) (γ:fC K h d=true) (S:kv N O a)
  (len:∀p H Q E,T p H Q E->p.length=O.length)
  (B:∀(A:cB)(c:List Env)(s:aI)(H:Hp)(p:List V)(Q:VK)(E:XK),gy k (A.deeper (pA d a s.1.1.size f h))->T p H Q E->
   ∃t,qN (zh CX P w K mg base N d a f h A c s H E) i t/\t {nx:=λ_ m=>Q .hZ m,rt:=Q} (ro N p) H):
  i0 P w K mg base CX (k+1) f (dC l d g i a dV kV M pm an h ct) O T:=by
 refine⟨len,λA c s H η us p Q E hr L hb r G=>?_⟩;have KX:=L.mod.uV.keeps λb o e=>(L.bs b o e).1;have z:∀y∈O.zip us,a.names.lookup y.1=some .local\/(a.names.lookup y.1=some .cell/\((mG (s.1.1.size+1) a.names []).lookup y.1).isSome=true):=by
  rintro ⟨n,v⟩ hy
  rcases S.par n (nB hy).1 with q|q
  ·exact .inl q
  ·exact .inr ⟨q,lI _ _ _ (.inl q)⟩
 refine codeAny_call_function hr.depth (KX _ _ lk) rfl S.co S.gen rfl (PySem.W.codeRec_of KX γ) (hb _ _ _ _ ?_);refine wpAny_newFunctionEnv_cells S.kind z λψ he s1 x=>?_;subst he;refine⟨(L.mod.nolimit.keeps λb o e=>(L.bs b o e).1).keeps x.toInCall.keep,codeAny_func ?_⟩;obtain⟨t,ht,hq⟩:=B A c s H p Q E (hr.deeper _) G;refine cJ (ht [] s1 _ H _ (Dp S hr.hd L (len _ _ _ _ G) r x) hq) (λfl U C=>?_) λe U C=>C;have I:∀{j:St}{m:Hp}{v:V}{u:aG},Inv (zh CX P w K mg base N d a f h A c s H E) [] j m U->RelV v u->Q v m->CE c P w H s Q u U:=
  λ{j m v u} J Y q=>⟨v,m,J.os,J.bare,J.base,J.ez,Y,q⟩
 cases fl with
 |ret u=>
  obtain⟨v,j,m,J,Y,q⟩:=C;exact I J Y q
 |next=>
  obtain⟨j,m,J,q⟩:=C;exact I (v:=V.hZ) (u:=eK) J rfl q
 |brk=>
  obtain⟨_,_,_,q⟩:=C;exact dY q
 |cont=>
  obtain⟨_,_,_,q⟩:=C;exact dY q
section
variable{X:Cx}{x:Str}{p pos:Pos}{e:Expr}{es:List Expr}{t:TA}{id T:String}{r:List V->Hp->VK->Prop}
def QY(r:List V->Hp->VK->Prop)(t:TA):TE:=λZ H Q=>t Z H λa b=>r a b Q
def og(u:hW X (.builtin id) r)(o:Gl X x)(n:X.mg x=none)(l:lG x=some (.builtin id))(v:PA X (e::es) t)(m:x≠"__name__":=by decide)(c:(x==("__debug__":Str))=false:=by decide)
  (q:bM (e::es) X.env=(false,eval e X.env)::bM es X.env:=by rfl)(b:(fF pos (bM es X.env)).any (·.1)=false:=by rfl):PE X (.Call (.Name x p) (e::es) [] pos) (QY r t):=by
 intro a s Z H Q I h;refine jB (E6 I o n l ?_ m c);exact PyProof.Rows.callWith_builtin1 (iq (v pos a s Z H _ I h) (by rintro f g ⟨d,y,w,i,j⟩;exact u a g Z y d f Q w i j)) q b
def oh(u:hW X (.type T) r)(o:Gl X x)(n:X.mg x=none)(l:lG x=some (.type T))(v:PA X (e::es) t)(m:x≠"__name__":=by decide)(c:(x==("__debug__":Str))=false:=by decide)
  (q:bM (e::es) X.env=(false,eval e X.env)::bM es X.env:=by rfl)(b:(fF pos (bM es X.env)).any (·.1)=false:=by rfl):PE X (.Call (.Name x p) (e::es) [] pos) (QY r t):=by
 intro a s Z H Q I h;refine jB (E6 I o n l ?_ m c);exact jN (iq (v pos a s Z H _ I h) (by rintro f g ⟨d,y,w,i,j⟩;exact u a g Z y d f Q w i j)) q b
end
end L2
namespace HT
open PySem PyProof.Rows
section
variable{prog:bH}{w:bV}{A:cB}{E:aG->aI->Prop}{s:aI}
def Yo{d a:List aG}(v:IsTup s.1 t d.toArray)(z:IsTup s.1 b a.toArray)(q:d≠[])
  (C:a=[]->Q (.ref t) s)(B:a≠[]->Q (.ref s.1.1.size) {s with heap:=s.1.push {cls:=.type "tuple",data:=.seq (d++a).toArray}})
  (j:d.length+a.length<=aQ):bF (bB prog w) A (jI .Add (.ref t) (.ref b)) Q E s:=by
 obtain⟨⟨cls,r,data,o⟩,i,y,n,x⟩:=id v;obtain⟨⟨u,g,data2,f⟩,c,m,p,l⟩:=id z;subst y x m l;have e:d.toArray++a.toArray=(d++a).toArray:=by simp
 by_cases h:a=[]
 ·exact pB ⟨_,i,rfl⟩ ⟨_,c,rfl⟩ oR seq_tuple_add lJ kZ (kL _ _)
   (tuple_addW1 t b d.toArray a.toArray n p r g o f (by simpa using q) (by simp[h])) ⟨i,c,C h⟩
 ·refine pB ⟨_,i,rfl⟩ ⟨_,c,rfl⟩ oR seq_tuple_add lJ kZ (kL _ _)
   (tuple_addW2 t b d.toArray a.toArray n p r g o f (by simpa using q) (by simpa using h) j) ⟨i,c,?_⟩
  rw[e];exact B h
def Jk(n d:Nat):Option Int->Nat
 |none=>d
 |some v=>if v<0 then(v+(n:Int)).toNat else min v.toNat n
def W5(n d:Nat):Jk n d none=d:=rfl
def BF(n d k:Nat):Jk n d (some (k:Int))=min k n:=by
 show(if k<0 then(k+(n:Int)).toNat else min (k:Int).toNat n)=min k n;rw[aK (by lia),dU]
end
end HT
namespace L2
open PySem PySem.Spec PyProof.Rows
abbrev TO:=St->Hp->(Option Int->Hp->Prop)->Prop
def PO(X:Cx)(e:Option Expr)(t:TO):Prop:=
 ∀(a:List (Addr×Obj))(s:aI)(Z:St)(H:Hp)(Q:Option Int->Hp->Prop),Inv X a Z H s->t Z H Q->
  bF (bB X.prog X.w) X.A (evalPart e X.env) (λu c=>∃o b,Inv X a Z b c/\IsPart u o/\Q o b) X.xe s
def CT:TO:=λ_ H Q=>Q none H
def NT(t:TE):TO:=λZ H Q=>t Z H λx a=>∃i,x=.int i/\Q (some i) a
section
variable{X:Cx}{e:Expr}{te:TE}{lo hi:Option Expr}{tl th:TO}{pos p2:Pos}
def AF:PO X none CT:=by
 intro a s Z H Q I h;exact aD ⟨none,H,I,.none,h⟩
def AE(h:PE X e te):PO X (some e) (NT te):=by
 intro a s Z H Q I d;refine iq (h a s Z H _ I d) λu j ⟨x,g,f,b,c⟩=>?_;obtain⟨i,rfl,q⟩:=c;obtain⟨t,rfl⟩:=b;exact⟨some i,g,f,.int i t,q⟩
def QI(X:Cx)(r:V->Option Int->Option Int->Hp->VK->Prop):Prop:=
 ∀(a:List (Addr×Obj))(s:aI)(Z:St)(H:Hp)(x:V)(v c b:aG)(lo hi:Option Int)(d:Addr)(Q:VK),Inv X a Z H s->RelV x v->s.1.IsSliceOf d c b .none->IsPart c lo->IsPart b hi->r x lo hi H Q->
  ∃T id,typeLookup (.type T) "__getitem__"=pure (some (.builtin id))/\s.TypeIs v T/\bF (bB X.prog X.w) X.A (getItem v (.ref d)) (EP X a Z Q) X.xe s
def RC(r:V->Option Int->Option Int->Hp->VK->Prop)(te:TE)(tl th:TO):TE:=λZ H Q=>te Z H λx c=>tl Z c λl b=>th Z b λu a=>r x l u a Q
def V4(z:QI X r)(C:PE X e te)(A:PO X lo tl)(w:PO X hi th):PE X (.Subscript e (.Slice lo hi none p2) pos) (RC r te tl th):=by
 intro a s Z H Q I h;refine Subscript_ (iq (C a s Z H _ I h) λv i ⟨x,O,L,j,o⟩=>?_);refine wpAny_Slice (iq (A a i Z O _ L o) λf g ⟨l,N,J,p,n⟩=>iq (w a g Z N _ J n) λd c ⟨u,M,G,pu,m⟩=>?_);refine aD ?_;obtain⟨T,id,E,y,B⟩:=z a {c with heap:=c.1.push {cls:=.type "slice",data:=.fields #[f,d,.none]}} Z M x v f d l u c.1.1.size Q (G.kept λb U q=>aH _ q) j (Heap.IsSliceOf.new ..) p pu m;exact tail_any y E B (by with_unfolding_all rfl)
def S7(xs:List V)(lo hi:Option Int):List V:=(xs.drop (HT.Jk xs.length 0 lo)).take (HT.Jk xs.length xs.length hi - HT.Jk xs.length 0 lo)
def Ge(xs:List V)(lo hi:Option Int):(S7 xs lo hi).length<=xs.length:=by
 unfold S7;rw[dQ,dE]
 lia
inductive sV(K:aP)(x:V)(y:V)(H:Hp)(Q:VK):Prop
 |mk (a b xs ys) (_:x=.ref a) (_:y=.ref b) (_:m3 K H a xs) (_:m3 K H b ys) (_:xs≠[]) (_:xs.length+ys.length<=aQ) (_:(ys=[]->Q (.ref a) H)) (_:(ys≠[]->∀p,H p=none->Q (.ref p) (upd H p (.tup (xs++ys))))):sV K x y H Q
def Vals.p5(r:Vals xs a):a=[]↔xs=[]:=by
 cases r with
 |nil=>simp
 |cons _ _=>simp
def AW:kO X (jI .Add) (sV X.K):=by
 intro f s Z H x y v u Q I j i h;obtain⟨a,b,xs,B,rfl,rfl,A,r,p,E,m,l⟩:=h;cases j;cases i;obtain⟨o,d,n,_⟩:=I.tuple A;obtain⟨g,c,p2,_⟩:=I.tuple r;refine HT.Yo n p2 (λz=>p (d.p5.mp z)) (λz=>⟨.ref a,H,I,rfl,m (c.p5.mp z)⟩) (λz=>?_) (by rwa [<-d.length,<-c.length]);refine⟨.ref s.1.1.size,_,I.laid (λb C q=>aH _ q) (aJ _) ?_,rfl,l (λw=>z (c.p5.mpr w)) _ (I.ez.fresh (aJ _))⟩;exact⟨by rwa [aM],_,d.append c,IsTup.new _ _⟩
end
def DO(n:Nat)(i:Int):Option Nat:=if 0<=i then(if i<n then some i.toNat else none)else if -(n:Int)<=i then some (i+n).toNat else none
def qM(xs:List α)(i:Int):Option α:=(DO xs.length i).bind λj=>xs[j]?
def Zl(h:DO n i=some j):oS i n=some j/\j<n/\-(n:Int)<=i/\i<n:=by
 unfold DO at h
 by_cases b:0<=i
 ·rw[aN b]at h
  by_cases a:i<n
  ·rw[aN a]at h;have e:=bN h;exact⟨by rw[seqIndex_of b a,e],by lia,by lia,a⟩
  ·rw[aK a]at h;cases h
 ·rw[aK b]at h
  by_cases a:-n<=i
  ·rw[aN a]at h;have e:=bN h;exact⟨by rw[seqIndex_neg (by lia) a,e],by lia,a,by lia⟩
  ·rw[aK a]at h;cases h
def Ef{xs:List α}(h:qM xs i=some v):∃j,oS i xs.length=some j/\xs[j]?=some v/\j<xs.length/\-(xs.length:Int)<=i/\i<xs.length:=by
 unfold qM at h;cases e:DO xs.length i with
 |none=>rw[e]at h;cases h
 |some j=>
  rw[e]at h;obtain⟨d,c,b,a⟩:=Zl e;exact⟨j,d,h,c,b,a⟩
def Nf{α:Type}{xs:List α}{j:Nat}{v:α}(h:xs[j]?=some v):qM xs (j:Int)=some v:=by
 have a:=(List.getElem?_eq_some_iff.mp h).1;have e:DO xs.length (j:Int)=some j:=by
  unfold DO;rw[aN (by lia),aN (by lia)];simp
 unfold qM;rwa [e]
def Ea(b:Expr):Prop:=∀o i,subscripted b false o i=operate [o,i] (getItem o i)
def sJ(X:Cx)(r:R2):Prop:=
 ∀(value a:Expr)(b:List (Addr×Obj))(s:aI)(Z:St)(H:Hp)(x y:V)(v u:aG)(Q:VK),Inv X b Z H s->RelV x v->RelV y u->r x y H Q->
  subscripted a false v u=operate [v,u] (getItem v u)->bF (bB X.prog X.w) X.A (subscriptTail value a v u) (EP X b Z Q) X.xe s
def NB(X:Cx)(id:String)(r:V->List V->Hp->VK->Prop):Prop:=
 ∀(a:List (Addr×Obj))(s:aI)(Z:St)(H:Hp)(x:V)(xs:List V)(v:aG)(b:List aG)(Q:VK),Inv X a Z H s->RelV x v->Vals xs b->r x xs H Q->
  bF (bB X.prog X.w) X.A (call (.builtin id) (v::b)) (EP X a Z Q) X.xe s
section
variable{X:Cx}{a b:Expr}{ta tb:TE}{pos:Pos}
def sJ.or(h:sJ X r)(j:sJ X i):sJ X (λx y H Q=>r x y H Q\/i x y H Q):=by
 intro value c d s Z H x y v u Q I f e q g;obtain q|q:=q
 ·exact h value c d s Z H x y v u Q I f e q g
 ·exact j value c d s Z H x y v u Q I f e q g
def MX{r:R2}(i:sJ X r)(l:PE X a ta)(j:PE X b tb)(g:Ea b):PE X (.Subscript a b pos) (NU r ta tb):=by
 intro c s Z H Q I h;exact Subscript_ (EG l j I h λv u d x y n m f e q=>i a b c d Z n x y v u Q m f e q (g _ _))
inductive tO(K:aP)(x:V)(y:V)(H:Hp)(Q:VK):Prop
 |mk (p xs i v) (_:x=.ref p) (_:y=.int i) (_:fD K H p xs) (_:qM xs i=some v) (_:Q v H):tO K x y H Q
inductive tL(K:aP)(x:V)(y:V)(H:Hp)(Q:VK):Prop
 |mk (p xs i v) (_:x=.ref p) (_:y=.int i) (_:m3 K H p xs) (_:qM xs i=some v) (_:Q v H):tL K x y H Q
inductive tM(x:V)(y:V)(H:Hp)(Q:VK):Prop
 |mk (z i c) (_:x=.str z) (_:y=.int i) (_:z.length<=aQ) (_:qM z.cps.toList i=some c) (_:Q (.str ⟨#[c]⟩) H):tM x y H Q
def Zn:sJ X (tO X.K):=by
 intro value f c s Z H x y v u Q I E C h o;obtain⟨p,xs,i,z,rfl,rfl,G,L,q⟩:=h;cases E;obtain⟨t,rfl⟩:=C;obtain⟨m,r,l,T⟩:=I.list G;obtain⟨j,e,O,Y,N,M⟩:=Ef L;obtain⟨w,B,g⟩:=r.get O;have J:=r.length;have U:=Lh;have d:EP X c Z Q w s:=⟨z,H,I,g,q⟩
 by_cases A:0<=i
 ·have n:i.toNat=j:=by
   rw[seqIndex_of A M]at e;exact bN e
  exact item_listR l.isList A (by lia) (by rw[n];simpa using B) d o
 ·have n:(i+(m.toArray.size:Int)).toNat=j:=by
   rw[seqIndex_neg (by lia) N]at e;rw[bO,<-J];exact bN e
  exact subscriptTail_builtinR l.isList.typeIs slot_list_getitem.lookup
   (wpAny_getItem_list_neg l.isList (by lia) (by rw[bO]<;>lia) (by lia) (by rw[n];simpa using B) ⟨rfl,d⟩) o
def FF:sJ X (tL X.K):=by
 intro value c f s Z H x y v u Q I l g h n;obtain⟨p,xs,i,z,rfl,rfl,o,A,q⟩:=h;cases l;obtain⟨t,rfl⟩:=g;obtain⟨m,r,e,E⟩:=I.tuple o;obtain⟨j,N,B,M,L,J⟩:=Ef A;obtain⟨w,C,d⟩:=r.get B;have G:=Lh;exact subscriptTail_builtinR e.typeIs slot_tuple_getitem.lookup
  (getItem_tuple e (by lia) (by lia) (by rwa [bO,<-r.length]) (by simpa using C) ⟨rfl,(⟨z,H,I,d,q⟩)⟩) n
def FG:sJ X tM:=by
 intro value d e s Z H x y v u Q I l g h m;obtain⟨z,i,c,rfl,rfl,B,o,q⟩:=h;obtain⟨t,rfl⟩:=l;obtain⟨A,rfl⟩:=g;obtain⟨j,f,w,E,r,p⟩:=Ef o;have n:z.cps.toList.length=z.length:=by simp[Str.length]
 rw[n]at f r p;have C:=Lh;exact tail_any (typeIs_str s z t) slot_str_getitem.lookup (getItem_str (by
  rw[(decide_eq_false (by lia)),(decide_eq_false (by lia)),Bool.or_false]) (by rw[f];simpa using w) ⟨.str ⟨#[c]⟩,H,I.tok _,⟨_,rfl⟩,q⟩) m
def RY(K:aP):R2:=λx y H Q=>tO K x y H Q\/tL K x y H Q\/tM x y H Q
def FH:sJ X (RY X.K):=Zn.or (FF.or FG)
def Fn(lo c:Option Int)(n:Nat):(lA lo c none n).1=((HT.Jk n 0 lo:Nat):Int)/\(lA lo c none n).2.1=((HT.Jk n n c:Nat):Int)/\(lA lo c none n).2.2=1:=by
 refine⟨?_,?_,rfl⟩
 ·cases lo with
  |none=>simp[lA,HT.Jk]
  |some i=>
   simp only[lA,HT.Jk,Option.getD_none,show 1>0 by decide,if_true]
   by_cases h:i<0
   ·simp only[h,if_true]<;>lia
   ·simp only[h,if_false]<;>lia
 ·cases c with
  |none=>simp[lA,HT.Jk]
  |some i=>
   simp only[lA,HT.Jk,Option.getD_none,show 1>0 by decide,if_true]
   by_cases h:i<0
   ·simp only[h,if_true]<;>lia
   ·simp only[h,if_false]<;>lia
def C9(c:List aG)(lo d:Option Int):slicePick c.toArray lo d none=((c.drop (HT.Jk c.length 0 lo)).take (HT.Jk c.length c.length d - HT.Jk c.length 0 lo)).toArray:=by
 obtain⟨g,f,e⟩:=Fn lo d c.toArray.size;unfold slicePick;rw[g,f,e];simp only[sliceRange_one,pick_run,bO]<;>rfl
inductive uQ(K:aP)(x:V)(lo:Option Int)(hi:Option Int)(H:Hp)(Q:VK):Prop
 |mk (a xs) (_:x=.ref a) (_:fD K H a xs) (_:∀p,H p=none->Q (.ref p) (upd H p (.lst (S7 xs lo hi)))):uQ K x lo hi H Q
def CY:QI X (uQ X.K):=by
 intro d s Z H x v p o lo n u Q I f m g pu h;obtain⟨a,xs,rfl,l,q⟩:=h;cases f;obtain⟨i,r,e,j⟩:=I.list l;have c:=r.length;refine⟨"list",_,slot_list_getitem.lookup,e.isList.typeIs,?_⟩;refine wpAny_getItem_list_slice e.isList m g pu .none (by simp) ?_ (by rw[bO]<;>lia);rw[C9,<-c];refine⟨.ref s.1.1.size,_,I.laid (λb w q=>aH _ q) (aJ _) ?_,rfl,q _ (I.ez.fresh (aJ _))⟩;exact⟨cG (Ge xs lo n) j,_,0,(r.drop _).take _,aT _ rfl⟩
def hW.or(h:hW X f r)(i:hW X f g):hW X f (λxs H Q=>r xs H Q\/g xs H Q):=by
 intro c s Z H xs d Q I e q;obtain q|q:=q
 ·exact h c s Z H xs d Q I e q
 ·exact i c s Z H xs d Q I e q
def Eh:hW X (.type "list") (λxs H Q=>∃p f,xs=[.ref p]/\(fD X.K H p f\/m3 X.K H p f)/\∀l,H l=none->Q (.ref l) (upd H l (.lst f))):=by
 intro j s Z H xs J Q I r h;obtain⟨p,f,rfl,x,q⟩:=h;obtain⟨u,rfl,G⟩:=mq r;cases G;have z:∀(c:List aG),Vals f c->f.length<=aQ->∀(d:Heap)(i:Nat),_->
   d.get? s.1.1.size=some {cls:=.type "list",dict:=none,data:=.seq c.toArray i,slots:=#[]}->EP X j Z Q _ {s with heap:=d}:=λc g v d i m e=>
  ⟨.ref s.1.1.size,_,I.laid m (aJ _) (show hV X.prog X.w _ d _ (.lst f)from⟨v,c,i,g,e⟩),rfl,q _ (I.ez.fresh (aJ _))⟩
 obtain x|x:=x
 ·obtain⟨c,g,A,v⟩:=I.list x;have y:=g.length;obtain⟨o,B,E,n,C⟩:=A.isList;exact call_list_seq p (.inl rfl) B E C (λd i m e=>z c g v d i m e) (by simp only[bO]<;>lia)
 ·obtain⟨c,g,A,v⟩:=I.tuple x;have y:=g.length;obtain⟨o,B,E,n,C⟩:=A;exact call_list_seq p (.inr rfl) B E C (λd i m e=>z c g v d i m e) (by simp only[bO]<;>lia)
def Cv:hW X (.type "tuple") (λxs H Q=>∃p c,xs=[.ref p]/\((fD X.K H p c/\∀l,H l=none->Q (.ref l) (upd H l (.tup c)))\/(m3 X.K H p c/\Q (.ref p) H))):=by
 intro j s Z H xs A Q I r h;obtain⟨p,c,rfl,h⟩:=h;obtain⟨u,rfl,x⟩:=mq r;cases x;obtain ⟨i,q⟩|⟨i,q⟩:=h
 ·obtain⟨d,f,g,m⟩:=I.list i;have n:=f.length;refine call_tuple_list g.isList (λz y=>?_) (by simp only[bO]<;>lia);have v:=I.kept (t':=s.toks) y;exact⟨.ref z.objs.size,_,(v.laid (λb o e=>aH _ e) (aJ _) (show hV X.prog X.w _ _ _ (.tup c)from⟨m,d,f,IsTup.new _ _⟩)),rfl,q _ (v.ez.fresh (aJ _))⟩
 ·obtain⟨d,f,g,m⟩:=I.tuple i;exact call_tuple_same g ⟨.ref p,H,I,rfl,q⟩
def QP(K:aP)(T:String)(x:V)(H:Hp):Prop:=match x with
 |.str _=>T="str"
 |.int _=>T="int"
 |.ref p=>(T="list"/\∃xs,fD K H p xs)\/(T="tuple"/\∃o,K.lookup p=some o/\o.cls=.type "tuple"/\o.dict=none)\/
   (T="dict"/\((∃c,H p=some (.dK c))\/∃c,H p=some (.dT c)))\/(T="set"/\∃S n,H p=some (.set S n))
 |_=>False
def JR(I:Inv X m Z H s)(r:RelV x v)(ty:QP X.K T x H):
  s.TypeIs v T/\∀a,v=.ref a->∃q,s.1.get? a=some q/\q.dict=none:=by
 cases x with
 |str z=>
  obtain⟨t,rfl⟩:=r;cases (ty);exact⟨typeIs_str s z t,λ_ e=>nomatch e⟩
 |int i=>
  obtain⟨t,rfl⟩:=r;cases (ty);exact⟨typeIs_int s i t,λ_ e=>nomatch e⟩
 |ref p=>
  cases r;obtain ⟨rfl,xs,w⟩|⟨rfl,o,d,y,h⟩|⟨rfl,d⟩|⟨rfl,S,n,d⟩:=ty
  ·obtain⟨u,_,l,_⟩:=I.list w;refine⟨l.isList.typeIs,λa e=>?_⟩;cases e;obtain⟨o,n,e,c,h,_⟩:=l;exact⟨o,e,h⟩
  ·refine⟨⟨o,I.rP p o d,y⟩,λa e=>?_⟩;cases e;exact⟨o,I.rP _ o d,h⟩
  ·have z:∃o,s.1.get? p=some o/\o.ExactDict:=by
    obtain ⟨g,d⟩|⟨g,d⟩:=d
    ·obtain⟨_,_,_,_,o,_,_,e,f,_⟩:=I.ez p _ d;exact⟨o,e,f⟩
    ·obtain⟨_,_,_,_,o,_,_,e,f,_⟩:=I.ez p _ d;exact⟨o,e,f⟩
   obtain⟨o,e,f⟩:=z;refine⟨⟨o,e,f.1⟩,λa j=>?_⟩;cases j;exact⟨o,e,f.2.1⟩
  ·obtain⟨o,_,_,_,e,f,_⟩:=I.ez p _ d;refine⟨⟨o,e,f.1⟩,λa j=>?_⟩;cases j;exact⟨o,e,f.2.1⟩
 |_=>exact dY ty
def RD(K:aP)(T:String)(r:V->List V->Hp->VK->Prop)(d:TE)(t:TA):TE:=λZ H Q=>d Z H λx c=>QP K T x c/\t Z c λxs e=>r x xs e Q
variable{o e:Expr}{es:List Expr}{to:TE}{t:TA}{name:Str}{apos mu:Pos}{T id:String}{r:V->List V->Hp->VK->Prop}
def y6(B:PlainAttrs T)(slot:Slot T name id)(j:typeOf (.builtin id)=pure (.type "method_descriptor"))(G:NB X id r)(E:PE X o to)(J:PA X (e::es) t)
  (g:iM o name X.env (eval o X.env)=eval o X.env:=by rfl)
  (i:((fF mu (bM (e::es) X.env)).all (λx=> !x.1) && (mS mu (iW [] X.env)).all (λx=>x.1.isSome)
   && decide ((e::es).length+([]:List iF).length+(if([]:List iF).isEmpty then 0 else 1)<30))=true:=by rfl)
  (f:(apos.endLine==mu.line)=true:=by rfl) (C:bM (e::es) X.env=(false,eval e X.env)::bM es X.env:=by rfl) (d:(fF mu (bM es X.env)).any (·.1)=false:=by rfl):
  PE X (.Call (.Attribute o name apos) (e::es) [] mu) (RD X.K T r to t):=by
 intro c s Z H Q I h;refine wpAny_Call_method_late g i f rfl (iq (E c s Z H _ I h) λv w ⟨x,U,n,l,ty,A⟩=>?_);obtain⟨M,L⟩:=JR n l ty;refine⟨T,id,B,slot,j,M,L,?_⟩;have m:=J mu c w Z U _ n A;rw[C]at m⊢;refine jC (by show(false||(fF mu _).any _)=false;rw[d]<;>rfl) (mT ?_);exact iq m (by rintro q u ⟨p,O,N,y,z⟩;exact G c u Z O x p v q Q N l y z)
end
def OG(X:Cx)(id:String)(r:V->List V->Hp->VK->Prop):Prop:=
 ∀(a:List (Addr×Obj))(s:aI)(Z:St)(H:Hp)(x:V)(xs:List V)(v:aG)(b:List aG)(Q:VK),Inv X a Z H s->RelV x v->Vals xs b->r x xs H Q->
  bF (bB X.prog X.w) X.A (call (.builtin id) (v::b)) (EP X a Z Q) X.xe s
def Vals.one:∀{x:V}{a:List aG},Vals [x] a->∃u,a=[u]/\RelV x u
 |_,_,.cons r .nil=>⟨_,rfl,r⟩
def Vals.zero:∀{a:List aG},Vals [] a->a=[]
 |_,.nil=>rfl
theorem Vals.eraseIdx:∀{xs:List V}{a:List aG}(i:Nat),Vals xs a->Vals (xs.eraseIdx i) (a.eraseIdx i)
 |_,_,_,.nil=>.nil
 |_,_,0,.cons _ t=>t
 |_,_,i+1,.cons r t=>.cons r (Vals.eraseIdx i t)
theorem Ds:∀(l:List α)(i:Nat),(l.eraseIdx i).length<=l.length
 |[],_=>aJ _
 |_::_,0=>jW _
 |_::r,i+1=>Nat.succ_le_succ (Ds r i)
section
variable{X:Cx}{pins:List (Addr×Obj)}{Z:St}{H:Hp}{s:aI}{l b:Addr}{xs ys zs:List V}
def Inv.tU{c a:List aG}{n:Nat}{f:Array aG->Array aG}{d:Nat}(I:Inv X pins Z H s)(o:H l=some (.lst xs))
  (e:s.1.get? l=some {cls:=.type "list",data:=.seq c.toArray n})(j:f c.toArray=a.toArray)(h:Vals ys a)(g:ys.length<=aQ):
  Inv X pins Z (upd H l (.lst ys)) {s with heap:=s.1.update l (nT f),toks:=d}:=by
 have q:=PySem.IsL.update e f;rw[j]at q;refine I.write (by rw[o];exact trivial) (.inl rfl) (λp u m i=>(dZ s.1 _ (iY m)).trans i) ⟨_,q⟩ ?_;exact⟨g,a,_,h,q⟩
def Inv.vY(I:Inv X pins Z H s)(d:Vals ys a)(c:ys.length<=aQ):
  Inv X pins Z (upd H s.1.1.size (.lst ys)) {s with heap:=s.1.push {cls:=.type "list",data:=.seq a.toArray},toks:=e}:=
 I.laid (λ_ _ q=>aH _ q) (aJ _) ⟨c,a,0,d,aT _ rfl⟩
def Inv.fresh(I:Inv X pins Z H s):H s.1.1.size=none:=I.ez.fresh (aJ _)
def Inv.tT(I:Inv X pins Z H s)(c:H l=some (.lst xs)):xs.length<=aQ/\∃(a:List aG) (n:Nat),Vals xs a/\xs.length=a.length/\s.1.get? l=some {cls:=.type "list",data:=.seq a.toArray n}:=by
 obtain⟨z,a,n,r,e⟩:=I.ez l _ c;exact⟨z,a,n,r,r.length,e⟩
def Vj(h:n<=aQ):kM n=false:=decide_eq_false (by lia)
end
section
variable{X:Cx}
inductive rC(x:V)(vs:List V)(H:Hp)(Q:VK):Prop
 |mk (l xs y) (_:x=.ref l) (_:vs=[y]) (_:H l=some (.lst xs)) (_:xs.length<aQ) (_:Q .hZ (upd H l (.lst (xs++[y])))):rC x vs H Q
def ud:OG X "list.append" rC:=by
 intro b s Z H x i v j Q I d f h;obtain⟨l,xs,y,rfl,rfl,c,m,q⟩:=h;cases d;obtain⟨u,rfl,g⟩:=f.one;obtain⟨z,a,n,r,o,e⟩:=I.tT c;refine nU F.slot_list_append ⟨_,e,rfl⟩ F.entry_list_append (F.args_list_append_2 _ _) (PySem.list_append l a.toArray n u (by rw[bO];lia)) ⟨e,?_⟩;refine⟨.hZ,_,I.tU c e (by simp) (r.append (.cons g .nil)) ?_,rfl,q⟩;rw[aM,eD]
 lia
inductive rZ(x:V)(vs:List V)(H:Hp)(Q:VK):Prop
 |mk (l xs i k y) (_:x=.ref l) (_:vs=[.int i]) (_:H l=some (.lst xs)) (_:-(2 ^ 63)<=i) (_:i<2 ^ 63) (_:oS i xs.length=some k) (_:xs[k]?=some y) (_:Q y (upd H l (.lst (xs.eraseIdx k)))):rZ x vs H Q
def U9:OG X "list.pop" rZ:=by
 intro c s Z H x B v C Q I f g h;obtain⟨l,xs,i,k,y,rfl,rfl,d,A,p,G,m,q⟩:=h;cases f;obtain⟨u,rfl,j⟩:=g.one;obtain⟨t,rfl⟩:=j;obtain⟨z,b,n,r,o,e⟩:=I.tT d;obtain⟨w,E,a⟩:=r.get m;refine nU F.slot_list_pop ⟨_,e,rfl⟩ F.entry_list_pop (F.args_list_pop_2 _ _)
  (MeetsSeq.list_pop_at l b.toArray n i t k w (fitsIndex_both A p) (by rwa [bO,<-o]) (by rwa [<-bI]) (by rw[bO];lia)) ⟨e,?_⟩
 refine⟨y,_,I.tU d e ?_ (r.eraseIdx k) ?_,a,q⟩
 ·rw[lX]
 ·have:=Ds xs k
  lia
end
section
variable{κ:Type}[DecidableEq κ]
def kr(a:List (κ×V))(k:κ):Option V:=(a.find? λb=>decide (b.1=k)).map (·.2)
noncomputable def jh(a:List (κ×V))(k:κ)(v:V):List (κ×V):=
 if(a.any λb=>decide (b.1=k))=true then a.map (λb=>if b.1=k then(b.1,v)else b)else a++[(k,v)]
def J0:kr ([]:List (κ×V)) k=none:=rfl
def mn{k:κ}(e:p.1=k):kr (p::r) k=some p.2:=by simp[kr,iA,e]
def j6{k:κ}(e:¬p.1=k):kr (p::r) k=kr r k:=by simp[kr,iA,e]
def Jz(k:κ):∀a:List (κ×V),(a.any λc=>decide (c.1=k))=(kr a k).isSome:=by
 intro b;induction b with
 |nil=>exact rfl
 |cons p r d=>
  rw[gN]
  by_cases e:p.1=k
  ·simp only[mn e,decide_eq_true e,Bool.true_or,Option.isSome_some]
  ·rwa [j6 e,decide_eq_false e,Bool.false_or]
def Hv(a:List (κ×V))(k:κ)(v:V):(jh a k v).length<=a.length+1:=by
 unfold jh;split
 ·rw[aF];lia
 ·rw[aM,aE,dA];lia
def n7.rH{o:Option V}{u:Option aG}(r:n7 o u):o.isSome=u.isSome:=by
 cases o with
 |none=>cases u with
  |none=>rfl
  |some _=>exact(r).elim
 |some _=>cases u with
  |none=>exact(r).elim
  |some _=>rfl
def n7.getD{o:Option V}{u:Option aG}(r:n7 o u)(a:RelV d b):RelV (o.getD d) (u.getD b):=by
 cases o with
 |none=>cases u with
  |none=>exact a
  |some _=>exact(r).elim
 |some _=>cases u with
  |none=>exact(r).elim
  |some _=>exact r
def KV.val(r:KV c g)(k:κ):n7 (kr c k) (valueAt g k):=by
 induction r with
 |nil=>exact mF
 |@cons p q i a h t j=>
  obtain⟨f,l⟩:=h
  by_cases e:p.1=k
  ·have d:=f.symm.trans e;have b:valueAt (q::a) k=some q.2:=by simp[valueAt,iA,d]
   rwa [mn e,b]
  ·have d:¬q.1=k:=λz=>e (f.trans z);have b:valueAt (q::a) k=valueAt a k:=by simp[valueAt,iA,d]
   rwa [j6 e,b]
def KV.any{a:List (κ×V)}{c:List (κ×aG)}(r:KV a c)(k:κ):(a.any λb=>decide (b.1=k))=c.any λb=>decide (b.1=k):=by
 induction r with
 |nil=>rfl
 |cons h t d=>rw[gN,gN,d,h.1]
def KV.qZ(r:KV c d)(k:κ)(f:RelV y u):
  KV (c.map λa=>if a.1=k then(a.1,y)else a) (d.map λa=>if a.1=k then(a.1,u)else a):=by
 induction r with
 |nil=>exact .nil
 |@cons p q l j h t g=>
  rw[aR,aR];refine .cons ?_ g;obtain⟨b,i⟩:=h
  by_cases e:p.1=k
  ·rw[aN e,aN (b.symm.trans e)];exact⟨b,f⟩
  ·rw[aK e,aK (λz=>e (b.trans z))];exact⟨b,i⟩
def KV.put(r:KV a b)(k:κ)(c:RelV y u):KV (jh a k y) (stored b k u):=by
 unfold jh stored;rw[r.any k]
 by_cases e:(b.any λd=>decide (d.1=k))=true
 ·rw[aN e,aN e];exact r.qZ k c
 ·rw[aK e,aK e];exact Paired.snoc r ⟨rfl,c⟩
def KV.length{a:List (κ×V)}{b:List (κ×aG)}(r:KV a b):a.length=b.length:=kK r
end
def N2(r:RelV (kV k) u):(ao P w).is k u=true:=by
 cases k with
 |inl i=>obtain⟨t,e⟩:=(r);subst e;exact Ik P w i t
 |inr x=>obtain⟨t,e⟩:=(r);subst e;exact Il P w x t
def P6:∀{b:List iu}{d:List aG},Vals (b.map kV) d->ItemsAre (ao P w) b d:=by
 intro a;induction a with
 |nil=>rintro _ r;cases r;exact .nil
 |cons k b c=>
  rintro _ r
  cases r with
  |cons h t=>exact .cons (N2 h) (c t)
abbrev KT(H:Hp):List (a7×V)->List (a7×Addr×aG)->Prop:=Paired λp q=>p.1=q.1/\ll H p.1 q.2.1/\RelV p.2 q.2.2
def KT.val(r:KT H c xs)(k:a7):n7 (kr c k) ((pK xs k).map (·.2)):=by
 induction r with
 |nil=>exact mF
 |@cons p q g a h t i=>
  obtain⟨f,_,j⟩:=h
  by_cases e:p.1=k
  ·have d:=f.symm.trans e;have b:pK (q::a) k=some q.2:=by simp[pK,iA,d]
   rwa [mn e,b]
  ·have d:¬q.1=k:=λz=>e (f.trans z);have b:pK (q::a) k=pK a k:=by simp[pK,iA,d]
   rwa [j6 e,b]
def KT.qZ(r:KT H b xs)(k:a7)(f:RelV y u):
  KT H (b.map λc=>if c.1=k then(c.1,y)else c) (xs.map (putAt k u)):=by
 induction r with
 |nil=>exact .nil
 |@cons p q l j h t g=>
  rw[aR,aR];refine .cons ?_ g;obtain⟨a,d,i⟩:=h;unfold putAt
  by_cases e:p.1=k
  ·rw[aN e,aN (a.symm.trans e)];exact⟨a,d,f⟩
  ·rw[aK e,aK (λz=>e (a.trans z))];exact⟨a,d,i⟩
def KT.put(r:KT H a xs)(k:a7)(f:ll H k b)(c:RelV y u):
  KT H (jh a k y) (nL xs k b u):=by
 have e:(a.any λd=>decide (d.1=k))=(pK xs k).isSome:=by
  rw[Jz,(r.val k).rH,Option.isSome_map]
 unfold jh nL;rw[e]
 by_cases q:(pK xs k).isSome=true
 ·rw[aN q,aN q];exact r.qZ k c
 ·rw[aK q,aK q];exact Paired.snoc r ⟨rfl,f,c⟩
def KT.keeps(r:KT H a xs)(d:∀b c,H b=some (.tup c)->e b=some (.tup c)):KT e a xs:=
 Paired.tS r λ_ _ z=>⟨z.1,z.2.1.mono d,z.2.2⟩
section
variable{P:bH}{w:bV}{H:Hp}{h:Heap}{a:Addr}
def DD(ok:lz P w H h)(e:Rd H a u):hV P w H h a u:=e.ok ok
def Gn{b:List (iu×V)}(ok:lz P w H h)(e:Rd H a (.dK b)):b.length<=aQ/\(a==gE)=false/\∃c,KV b c/\h.DictOf (ao P w) a c:=
 DD ok e
def KM{b:List (iu×V)}(ok:lz P w H h)(e:H a=some (.dK b)):b.length<=aQ/\(a==gE)=false/\∃c,KV b c/\h.DictOf (ao P w) a c:=Gn ok (.inl e)
def Zs{c:List iu}(ok:lz P w H h)(e:H a=some (.tup (c.map kV))):eW (ao P w) h c a:=by
 obtain⟨_,b,r,o,g,f,n,d⟩:=(ok a _ e);exact⟨o,b.toArray,n,g,f,d,by simpa using P6 r⟩
theorem qc(ok:lz P w H h):∀{f:a7}{c:List V}{d:List aG},sQ H f c->Vals c d->e8 P w h f d
 |[],c,d,e,r=>by rw[e]at r;cases r;exact rfl
 |.inl k::f,c,d,i,r=>by
  obtain⟨v,t,e,q,l⟩:=i;subst e;cases r with
  |cons m j=>exact⟨_,_,rfl,N2 (by rwa [<-q]),qc ok l j⟩
 |.inr o::f,c,d,g,r=>by
  obtain⟨v,t,e,⟨b,n,q⟩,l⟩:=g;subst e n;cases r with
  |cons m j=>exact⟨_,_,rfl,⟨b,m,Zs ok q⟩,qc ok l j⟩
def x4(ok:lz P w H h)(e:ll H c a):(fj P w).is h c a:=by
 obtain⟨i,e,nk⟩:=e;obtain⟨_,b,r,o,g,f,n,d⟩:=(ok a _ e);exact⟨o,b.toArray,n,g,f,d,by simpa using qc ok nk r⟩
def Gq{b:List (a7×V)}(ok:lz P w H h)(e:Rd H a (.dT b)):b.length<=aQ/\(a==gE)=false/\
  ∃xs,KT H b xs/\h.DictOfH (fj P w) a xs:=by
 obtain⟨z,y,xs,r,o,u,v,s,n,j,i,g⟩:=(DD ok e);refine⟨z,y,xs,r,o,u,v,s,n,j,i,λx c=>?_,g⟩;have all:∀{l:List _}{m:List _},KT H l m->∀x∈m,(fj P w).is h x.1 x.2.1:=by
  intro l m q;induction q with
  |nil=>intro x c;exact nomatch c
  |@cons p q B A d t f=>
   intro x c;rcases List.mem_cons.mp c with e|c
   ·subst e;exact x4 ok (by rw[<-d.1];exact d.2.1)
   ·exact f x c
 exact all r x c
def Td{b:List (a7×V)}(ok:lz P w H h)(e:H a=some (.dT b)):b.length<=aQ/\(a==gE)=false/\
  ∃xs,KT H b xs/\h.DictOfH (fj P w) a xs:=Gq ok (.inl e)
end
def qL(H:Hp)(a:Addr)(y:V)(r:Option V):Prop:=
 (∃c k,Rd H a (.dK c)/\y=kV k/\r=kr c k)\/∃c k b,Rd H a (.dT c)/\y=.ref b/\ll H k b/\r=kr c k
def sR(H:Hp)(a:Addr)(y v:V)(d:Hp):Prop:=
 (∃c k,H a=some (.dK c)/\y=kV k/\c.length<aQ/\d=upd H a (.dK (jh c k v)))\/
 ∃c k b,H a=some (.dT c)/\y=.ref b/\ll H k b/\c.length<aQ/\d=upd H a (.dT (jh c k v))
def qL.k{k:iu}(e:H a=some (.dK b)):qL H a (kV k) (kr b k):=.inl ⟨b,k,.inl e,rfl,rfl⟩
def sR.k{H:Hp}{a:Addr}{b:List (iu×V)}{k:iu}{v:V}(e:H a=some (.dK b))(c:b.length<aQ):sR H a (kV k) v (upd H a (.dK (jh b k v))):=.inl ⟨b,k,e,rfl,c,rfl⟩
def sR.t{H:Hp}{a b:Addr}{c:List (a7×V)}{k:a7}{v:V}(e:H a=some (.dT c))(f:ll H k b)(d:c.length<aQ):
  sR H a (.ref b) v (upd H a (.dT (jh c k v))):=.inr ⟨c,k,b,e,rfl,f,d,rfl⟩
section
variable{X:Cx}{pins:List (Addr×Obj)}{Z:St}{H:Hp}{s:aI}{a:Addr}{y v:V}{u r:aG}{o:Option V}{A:cB}{E:aG->aI->Prop}
def Inv.big(I:Inv X pins Z H s):gE<s.1.1.size:=kE (by decide) ((I.mod.glob.keeps I.bk).lt)
def Pk(B:A.units+5<cZ)(I:Inv X pins Z H s)(g:qL H a y (some v))(x:RelV y u)(h:∀d q,Inv X pins Z H q->RelV v d->Q d q):
  bF (bB X.prog X.w) A (getItem (.ref a) u) Q E s:=by
 obtain ⟨f,k,e,m,l⟩|⟨f,k,b,e,m,J,l⟩:=g
 ·subst m;obtain⟨z,G,L,rel,n⟩:=Gn I.ez e;obtain⟨d,i,c⟩:=n7.some_of (by rw[l];exact rel.val k);exact wpAny_getItem_of (N2 x) n.mapOf i (h d _ (I.tok _) c)
 ·subst m;cases (x);obtain⟨z,G,xs,rel,n⟩:=Gq I.ez e;obtain⟨d,i,c⟩:=n7.some_of (by rw[l];exact rel.val k);obtain⟨p,C,j⟩:=Option.map_eq_some_iff.mp i;refine wpAny_getItem_heap (j0 B) (x4 I.ez J) n C ?_;rw[j];exact h d _ (I.tok _) c
def Nk{c:Heap}(I:Inv X pins Z H s)(e:JA (H a))(f:cQ a s.1 c)(g:∃q,c.get? a=some q)(new:hV X.prog X.w (upd H a d) c a d):
  Inv X pins Z (upd H a d) {s with heap:=c,toks:=i}:=
 I.write e (.inl rfl) (λb q h z=>(f.2 b h).trans z) g new
end
def Gm{s:aI}(I:Inv X f Z H s)(g:qL H a y o):s.TypeIs (.ref a) "dict":=by
 obtain ⟨c,k,e,_,_⟩|⟨c,k,b,e,_,_,_⟩:=g
 ·obtain⟨_,_,h,_,d⟩:=Gn I.ez e;exact d.typeIs
 ·obtain⟨_,_,xs,_,d⟩:=Gq I.ez e;exact d.typeIs
def Gp(h:Heap)(a:gE<h.objs.size):hV P w H (h.push {cls:=.type "dict",data:=.dict #[]}) h.objs.size (.dT []):=
 ⟨bX _,beq_eq_false_iff_ne.mpr (iY (bL a)),[],.nil,_,#[],0,aT _ rfl,⟨rfl,rfl,rfl⟩,rfl,rfl,fE⟩
def Xr:TE:=λ_ H Q=>∀p,H p=none->Q (.ref p) (upd H p (.dT []))
section
variable{X:Cx}{pos:Pos}
def V0:PE X (.Dict [] [] pos) Xr:=λa s Z H Q I h=>
 wpAny_Dict_empty ⟨.ref s.1.1.size,_,I.laid (t':=s.toks) (λ_ _ q=>aH _ q) (aJ _) (Gp s.1 I.big),rfl,h _ (I.ez.fresh (aJ _))⟩
end
def U3(b a:List (iu×V)):List (iu×V):=a.foldl (λc d=>jh c d.1 d.2) b
def KV.merge:∀{a:List (iu×V)}{c:List (iu×aG)}{kvs:List (iu×V)}{b:List (iu×aG)},KV a c->KV kvs b->KV (U3 kvs a) (merged b c):=by
 intro a c kvs b r;induction r generalizing kvs b with
 |nil=>intro q;exact q
 |@cons p q i g h t f=>
  intro d;have e:KV (jh kvs p.1 p.2) (stored b q.1 q.2):=by
   have:=d.put p.1 h.2;rwa [<-h.1]
  exact f e
structure M2(X:Cx)(o:Expr)(m:Str)(apos:Pos)(e f:Expr)(mu:Pos):Prop where
 base:iM o m X.env (eval o X.env)=eval o X.env
 w6:((fF mu (bM [e,f] X.env)).all (λx=> !x.1) && (mS mu (iW [] X.env)).all (λx=>x.1.isSome)
  && decide (([e,f]:List Expr).length+([]:List iF).length+(if([]:List iF).isEmpty then 0 else 1)<30))=true
 line:(apos.endLine==mu.line)=true
 trees:fF mu (bM [e,f] X.env)=[(false,eval e X.env),(false,eval f X.env)]
def QJ(H:Hp)(a:Addr):Prop:=(∃b,Rd H a (.dK b))\/∃b,Rd H a (.dT b)
def Uc(I:Inv X l Z H s)(d:QJ H a):
  s.TypeIs (.ref a) "dict"/\(∀b,fU a=.ref b->∃c,s.1.get? b=some c/\c.dict=none)/\(a==gE)=false:=by
 obtain ⟨g,e⟩|⟨g,e⟩:=d
 ·obtain⟨_,h,m,_,f⟩:=Gn I.ez e;refine⟨f.typeIs,λb q=>?_,h⟩;cases q;obtain⟨c,_,_,j,i,_⟩:=f;exact⟨c,j,i.2.1⟩
 ·obtain⟨_,h,xs,_,f⟩:=Gq I.ez e;refine⟨f.typeIs,λb q=>?_,h⟩;cases q;obtain⟨c,_,_,j,i,_⟩:=f;exact⟨c,j,i.2.1⟩
section
variable{X:Cx}{pins:List (Addr×Obj)}{Z:St}{H:Hp}{s:aI}{a:Addr}{y d:V}{u r:aG}{o:Option V}{A:cB}{E:aG->aI->Prop}
def EB(v:A.units+5<cZ)(I:Inv X pins Z H s)(g:qL H a y o)(p:RelV y u)(q:RelV d r)(h:∀m n,Inv X pins Z H n->RelV (o.getD d) m->Q m n):
  bF (bB X.prog X.w) A (call (.builtin "dict.get") [.ref a,u,r]) Q E s:=by
 obtain ⟨f,k,e,j,l⟩|⟨f,k,b,e,j,x,l⟩:=g
 ·subst j;obtain⟨z,i,B,rel,c⟩:=Gn I.ez e;refine pC mB c.typeIs PySem.F.entry_dict_get (PySem.F.args_dict_get_3 _ _ _) (meets_dict_get_default _ a (N2 p) i r) ⟨_,c.mapOf,h _ _ (I.tok _) ?_⟩;rw[l];exact(rel.val k).getD q
 ·subst j;cases (p);obtain⟨z,i,xs,rel,c⟩:=Gq I.ez e;refine pC mB c.typeIs PySem.F.entry_dict_get (PySem.F.args_dict_get_3 _ _ _) (meetsH_dict_get_default _ a b i r) ⟨j0 v,k,xs,x4 I.ez x,c,h _ _ (I.tok _) ?_⟩;rw[l];exact(rel.val k).getD q
end
def JZ(e ty d:TE):TE:=λZ H Q=>e Z H λx c=>∃a,x=.ref a/\QJ c a/\ty Z c λy f=>d Z f λz b=>∃o,qL b a y o/\Q (o.getD z) b
section
variable{X:Cx}{o e f:Expr}{apos mu:Pos}{td ty tx:TE}
def Vz(E:X.A.units+5<cZ)(G:PE X o td)(L:PE X e ty)(J:PE X f tx)(m:M2 X o "get" apos e f mu):PE X (.Call (.Attribute o "get" apos) [e,f] [] mu) (JZ td ty tx):=by
 intro b s Z H Q I h;refine wpAny_Call_method m.base m.w6 m.line iQ mB PySem.F.type_dict_get (iq (G b s Z H _ I h) λu p ⟨x,H1,i,v,a,M,d,C⟩=>?_);subst M;obtain rfl:u=fU a:=v;obtain⟨l,j,_⟩:=Uc i d;refine⟨l,j,?_⟩;rw[m.trees];refine jC rfl (mT (iZ (iq (L b p Z H1 _ i C) λiv n ⟨y,Y,T,r,B⟩=>
  iZ (iq (J b n Z Y _ T B) λfv s3 ⟨z,U,O,q,ov,g,w⟩=>oE ?_))))
 exact EB E O g r q λw' s4 N c=>⟨_,U,N,c,w⟩
end
end L2
namespace Att
open PySem PySem.W PySem.Calls PyProof.Rows
def zp:∀(c:List Int)(d:List aG),WellAll P h d (c.map WData.int)->IntsAre d c:=by
 intro c;induction c with
 |nil=>
  intro d w;cases w;exact .nil
 |cons n c e=>
  intro d w;cases w with
  |cons a b=>
   cases a;exact .cons _ _ (e _ b)
def Re{l:OpenLaw}(v:l.most=some n)
  (c:l.row.toRowW.claim.pre e=true)(j:WellAll P h vals e):
  ∃a o b,vals=[fU a]/\e=[WData.list (b.map WData.int)]/\h.get? a=some {cls:=.type "list",data:=.seq o.toArray}/\IntsAre o b/\b.length<=n:=by
 obtain⟨d,r,rfl,y,x⟩:=hasAllW_cons ((pre_splitW c).1);obtain rfl:=hasAllW_nil x;obtain⟨xs,rfl,w⟩:=hasW_list y;obtain⟨b,rfl⟩:=items_int w;have f:b.length<=n:=by
  have i:(WTm.not (.lt (.lit (.int (n:Int))) (.len (.arg 0)))).holds [] {args:=[.list (b.map .int)]}=true:=by
   have i:=(holds_andW ((pre_splitW c).2)).1;rw[v]at i;exact i
  have m:=condW_of i (w_not (w_lt w_lit (w_len_list (w_arg rfl))));refine oT λq=>?_
  first
   |(rw[decide_eq_true z]at m;exact absurd m (by decide))
   |(simp at m;lia)
 cases j with
 |cons s p=>
  cases p;cases s with
  |list u g=>exact⟨_,_,b,rfl,rfl,u,zp b _ g,f⟩
def Q4(l:OpenLaw)(a:List WData):l.row.toRowW.claim.post a (.bool true) a=true:=
 postW_of
  (show WShape.has [] _ .bool=true by first|rfl|decide|simp[WShape.has,WShape.arms,WShape.armsAll])
  (w_eq_bool (w_res rfl) w_lit) rfl
def F4{l:OpenLaw}{n:Nat}{q:bH}{e:List Str}{L:(Str->Option aG)->Heap->Prop}{J:bV->Heap->Prop}{d:DefRec}
  (Q:l.most=some n)(C:d.params.defaults=[])
  (call:∀(w:bV)(c b:aI)(mg z:Str->Option aG)(s:Addr)(o:Obj)(y x h:aG)(a:Addr)(i:List aG)(v:List Int),
   Ground q e [] L w c mg z b.1->J w b.1->
   b.1.get? s=some o->o.data=.func (docDef d.name d.params d.body d.scope y x h)->b.1.CodeRec x d.name->mg d.name=some (.ref s)->
   b.1.get? a=some {cls:=.type "list",data:=.seq i.toArray}->IntsAre i v->v.length<=n->b.gens=#[]->
   iE (bB l.prog w) callerA (.call (.ref s) ⟨[.ref a],[]⟩) (λr u=>r=.ok (.ret (.bool true))/\OldK b.1 u.1/\u.os=b.os/\oB u.gens) b):
  WalkO q e L J l.row.toRowW d [] (λf i=>PySem.call f i):=by
 intro w c b mg z G Y s o y x h dV kV O hd E hD B hg I vals as j H M A U;obtain rfl:dV=.none:=Dflts.none hD C;obtain rfl:kV=.none:=Dflts.noKw hD;obtain⟨a,i,v,rfl,rfl,m,g,p⟩:=Re Q j A;refine enter_call (jA (call w c b mg z s o y x h a i v G Y O (fd_plain hd) E B m g p hg) λr u N=>?_);obtain⟨rfl,h2,h3,h4⟩:=N;exact⟨.inl ⟨.bool true,.bool true,[],rfl,λ_=>rfl,.bool true,Q4 l _,λ_=>⟨iG,λ_ T=>(nomatch T)⟩⟩,h2,h3,h4⟩
end Att
namespace L2
open PySem PySem.Spec PyProof.Rows
theorem D7:∀{a:List aG}{b:List Int},IntsAre a b->Vals (b.map V.int) a
 |_,_,.nil=>.nil
 |_,_,.cons n t h=>.cons ⟨t,rfl⟩ (D7 h)
set_option bootstrap.genMatcherCode true in
def gd(s:Stmt):Arguments:=match s with
 |.FunctionDef _ a _ _ _ _ _ _ _ _=>a
 |_=>{posonlyargs:=[],args:=[],vararg:=none,kwonlyargs:=[],kw_defaults:=[],kwarg:=none,defaults:=[]}
set_option bootstrap.genMatcherCode true in
def a6(s:Stmt):List Stmt:=match s with
 |.FunctionDef _ _ b _ _ _ _ _ _ _=>b
 |_=>[]
set_option bootstrap.genMatcherCode true in
def a8(s:Stmt):fK:=match s with
 |.FunctionDef _ _ _ _ _ _ a _ _ _=>a
 |_=>{kind:=.function,names:=[],isGenerator:=false,isCoroutine:=false}
abbrev R7:R8:=λ_ _ _ _ _ _=>False
abbrev E0:XK:=λ_ _ _=>False
def MZ:lx R7 X E0:=λ_ _ _ _ _ _ _ h=>h.elim
structure uD(K:aP)(x qual:Str)(st:Stmt)(f:Addr)(fd:jV):Prop where
 ex:∃(oc:aG) (od:Option Addr) (kV doc pm:aG) (an:Option Addr) (cdv ct:aG) (osl:Array (Option aG)),
  fd=dC x qual (gd st) (a6 st) (a8 st) .none kV doc pm an cdv ct/\K.lookup f=some ⟨oc,od,.func fd,osl⟩/\fC K cdv qual=true
 kp:dP K (.ref f)=true
section
variable{P:bH}{w:bV}{K:aP}{mg:Str->Option aG}{base:Heap}
def uD.binds{x a:Str}{st:Stmt}{f:Addr}{j:jV}{e:List Str}(F:uD K x a st f j)
  (h:∀(kV b g:aG)(i:Option Addr)(c ct:aG)(d:List aG),d.length=e.length->bindArgs (dC x a (gd st) (a6 st) (a8 st) .none kV b g i c ct) ⟨d,[]⟩=pure (e.zip d)):Binds K j e []:=by
 obtain⟨n,od,kV,b,g,i,c,ct,l,rfl,o,m⟩:=F.ex;exact .all (h kV b g i c ct)
def Tw{x a:Str}{st:Stmt}{f:Addr}{i:aG}{od h:Option Addr}{e:Array (Option aG)}{kV d g b ct:aG}(l:K.lookup f=some ⟨i,od,.func (dC x a (gd st) (a6 st) (a8 st) .none kV d g h b ct),e⟩)
  (c:fC K b a=true)(k:dP K (.ref f)=true):uD K x a st f (dC x a (gd st) (a6 st) (a8 st) .none kV d g h b ct):=⟨⟨i,od,kV,d,g,h,b,ct,e,rfl,l,c⟩,k⟩
end
def bc(H a:Hp):Prop:=∀b o,H b=some o->a b=some o
def bc.refl(H:Hp):bc H H:=λ_ _ h=>h
def bc.trans(a:bc H e)(b:bc e d):bc H d:=λc o h=>b c o (a c o h)
def bc.seq{K:aP}{H b:Hp}{a:Addr}{xs:List V}(e:bc H b)(h:fD K H a xs):fD K b a xs:=by
 rcases h with (h|⟨o,h⟩)|h
 ·exact .inl (.inl (e _ _ h))
 ·exact .inl (.inr ⟨o,e _ _ h⟩)
 ·exact .inr h
end L2
namespace Pu
open PySem
def Xs:List (Addr×Addr×Str):=[]
end Pu
namespace Pu
open PySem PySem.Spec PyProof.Rows L2
abbrev St:=L2.St
structure KA where
 K:aP
 A:Str->Addr
instance:CoeOut KA aP:=⟨KA.K⟩
def Sn(mg:Str->Option aG)(x:Str):Addr:=match mg x with
 |some (.ref a)=>a
 |_=>0
abbrev kx(X:Cx):KA:=⟨X.K,Sn X.mg⟩
abbrev EK:=Str->Hp->Prop
abbrev ek(K:KA)(E:XK):EK:=λc H=>E (.ref (K.A c)) none H
set_option genInjectivity true in
inductive D where
 |hZ
 |bl (b:Bool)
 |int (i:Int)
 |str (x:Str)
 |tup (ds:List D)
 |lst (ds:List D)
 |ja (t:Bool) (kvs:List (D×D))
 |obj (e:Expr) (fs:List (Str×D))
 |fn (f:Str)
def kD:iu->D
 |.inl i=>.int i
 |.inr x=>.str x
def ij:List (Str×gR)->List Str
 |[]=>[]
 |(n,k)::r=>if k=.free then n::ij r else ij r
def qT(K:KA)(H:Hp)(e:Expr)(a:Addr)(b:List (Str×V)):Prop:=match e with
 |.Name c _=>∃d,H a=some (.ins (K.A c) d b)
 |_=>False
def qT.mono{K:KA}(q:bc H d)(h:qT K H e a b):qT K d e a b:=by
 unfold qT at h⊢;split at h
 ·obtain⟨c,e⟩:=h;exact⟨c,q _ _ e⟩
 ·exact h.elim
def Lv:NK->D
 |.inl k=>kD k
 |.inr a=>.tup (a.map kD)
def kT(k:a7):D:=.tup (k.map Lv)
inductive CK{κ:Type}(c:κ->D)(k:D)(P:V->Prop)(Q:List (κ×V)->Prop)(vs:List (κ×V)):Prop
 |mk (k' v r) (_:vs=(k',v)::r) (_:k=c k') (_:P v) (_:Q r):CK c k P Q vs
inductive RA{γ:Type}(H:Hp)(c:γ->HO)(Q:γ->Prop)(v:V):Prop
 |mk (a es) (_:v=.ref a) (_:H a=some (c es)) (_:Q es):RA H c Q v
inductive RO{γ:Type}(H:Hp)(c:γ->HO)(Q:γ->Prop)(o:Option V):Prop
 |mk (a es) (_:o=some (.ref a)) (_:H a=some (c es)) (_:Q es):RO H c Q o
inductive OA{γ:Type}(B G H:Hp)(c:γ->HO)(Q:γ->Prop)(o:Option (Option V)):Prop
 |mk (a es) (_:o=some (some (.ref a))) (_:H a=some (c es)) (_:Q es) (_:G a=none) (_:B a=none):OA B G H c Q o
inductive wV(K:aP)(H:Hp)(Q:List V->Prop)(v:V):Prop
 |mk (a vs) (_:v=.ref a) (_:m3 K H a vs) (_:Q vs):wV K H Q v
inductive wC(K:aP)(H:Hp)(Q:List V->Prop)(v:V):Prop
 |mk (a vs) (_:v=.ref a) (_:fD K H a vs) (_:Q vs):wC K H Q v
mutual
def Den(K:KA)(H:Hp):D->V->Prop
 |.hZ,v=>v=.hZ
 |.bl b,v=>v=.bl b
 |.int i,v=>v=.int i
 |.str x,v=>v=.str x
 |.tup ds,v=>RA H .tup (br K H ds) v
 |.lst ds,v=>wC K H (br K H ds) v
 |.ja t kvs,v=>∃a,v=.ref a/\((t=false/\∃es,H a=some (.dK es)/\hG K H kvs es)\/(t=true/\∃o es,H a=some (.jo o (.dT es))/\fc K H kvs es))
 |.obj e fs,v=>∃a vs,v=.ref a/\qT K H e a vs/\qK K H fs vs
 |.fn f,v=>v=.ref (K.A f)
def br(K:KA)(H:Hp):List D->List V->Prop
 |[],vs=>vs=[]
 |d::ds,vs=>Cn (Den K H d) (br K H ds) vs
def qK(K:KA)(H:Hp):List (Str×D)->List (Str×V)->Prop
 |[],vs=>vs=[]
 |(n,d)::ds,vs=>∃v r,vs=(n,v)::r/\Den K H d v/\qK K H ds r
def hG(K:KA)(H:Hp):List (D×D)->List (iu×V)->Prop
 |[],vs=>vs=[]
 |(k,d)::ds,vs=>CK kD k (Den K H d) (hG K H ds) vs
def fc(K:KA)(H:Hp):List (D×D)->List (a7×V)->Prop
 |[],vs=>vs=[]
 |(k,d)::ds,vs=>CK kT k (Den K H d) (fc K H ds) vs
end
def fD.mono{K:KA}{H b:Hp}{a:Addr}{xs:List V}(e:bc H b)(h:fD K H a xs):fD K b a xs:=e.seq h
def m3.mono{K:KA}{H b:Hp}{a:Addr}{xs:List V}(e:bc H b)(h:m3 K H a xs):m3 K b a xs:=by
 rcases h with (h|⟨o,h⟩)|h
 ·exact .inl (.inl (e _ _ h))
 ·exact .inl (.inr ⟨o,e _ _ h⟩)
 ·exact .inr h
mutual
theorem Den.mono{K:KA}{H H':Hp}(e:bc H H'):∀{d:D}{v:V},Den K H d v->Den K H' d v
 |.hZ,_,h=>h
 |.bl _,_,h=>h
 |.int _,_,h=>h
 |.str _,_,h=>h
 |.tup _,_,z1_=>by obtain⟨a,vs,h1,h2,h3⟩:=z1_;exact⟨a,vs,h1,e _ _ h2,br.mono e h3⟩
 |.lst _,_,z2_=>by obtain⟨a,vs,h1,h2,h3⟩:=z2_;exact⟨a,vs,h1,fD.mono e h2,br.mono e h3⟩
 |.ja _ _,_,z3_=>by obtain⟨a,h1,h2⟩:=z3_;exact⟨a,h1,h2.elim (by rintro ⟨z,es,q1,q2⟩;exact .inl ⟨z,es,e _ _ q1,hG.mono e q2⟩) (by rintro ⟨z,o,es,q1,q2⟩;exact .inr ⟨z,o,es,e _ _ q1,fc.mono e q2⟩)⟩
 |.obj _ _,_,z4_=>by obtain⟨a,vs,h1,h2,h3⟩:=z4_;exact⟨a,vs,h1,h2.mono e,qK.mono e h3⟩
 |.fn _,_,h=>h
theorem br.mono{K:KA}{H H':Hp}(e:bc H H'):∀{ds:List D}{vs:List V},br K H ds vs->br K H' ds vs
 |[],_,h=>h
 |_::_,_,z1_=>by obtain⟨v,r,h1,h2,h3⟩:=z1_;exact⟨v,r,h1,Den.mono e h2,br.mono e h3⟩
theorem qK.mono{K:KA}{H H':Hp}(e:bc H H'):∀{ds:List (Str×D)}{vs:List (Str×V)},qK K H ds vs->qK K H' ds vs
 |[],_,h=>h
 |(_,_)::_,_,z1_=>by obtain⟨v,r,h1,h2,h3⟩:=z1_;exact⟨v,r,h1,Den.mono e h2,qK.mono e h3⟩
theorem hG.mono{K:KA}{H H':Hp}(e:bc H H'):∀{ds:List (D×D)}{vs:List (iu×V)},hG K H ds vs->hG K H' ds vs
 |[],_,h=>h
 |(_,_)::_,_,z1_=>by obtain⟨k,v,r,h1,h0,h2,h3⟩:=z1_;exact⟨k,v,r,h1,h0,Den.mono e h2,hG.mono e h3⟩
theorem fc.mono{K:KA}{H H':Hp}(e:bc H H'):∀{ds:List (D×D)}{vs:List (a7×V)},fc K H ds vs->fc K H' ds vs
 |[],_,h=>h
 |(_,_)::_,_,z1_=>by obtain⟨k,v,r,h1,h0,h2,h3⟩:=z1_;exact⟨k,v,r,h1,h0,Den.mono e h2,fc.mono e h3⟩
end
section
variable{K:KA}{G H:Hp}
def br.length:∀{d:List D}{c:List V},br K H d c->d.length=c.length:=by
 intro a;induction a with
 |nil=>rintro _ h;rw[h];rfl
 |cons _ _ b=>rintro _ ⟨v,r,f,_,e⟩;rw[f,aE,aE,b e]
theorem br.get:∀{g:List D}{f:List V}{i:Nat}{d:D},br K H g f->g[i]?=some d->∃v,f[i]?=some v/\Den K H d v
 |[],_,_,_,_,e=>by simp at e
 |_::_,_,0,_,b,e=>by
  obtain⟨v,r,c,m,_⟩:=b;simp at e;subst e;subst c;exact⟨v,rfl,m⟩
 |_::_,_,i+1,_,a,e=>by
  obtain⟨v,r,c,_,l⟩:=a;obtain⟨w,j,h⟩:=br.get l (by simpa using e);subst c;exact⟨w,by simpa using j,h⟩
def br.append:∀{e es:List D}{d c:List V},br K H e d->br K H es c->br K H (e++es) (d++c):=by
 intro a;induction a with
 |nil=>rintro _ _ _ h q;rw[h];exact q
 |cons _ _ b=>rintro _ _ _ ⟨v,r,i,g,f⟩ q;exact⟨v,r++_,by rw[i];rfl,g,b f q⟩
def br.one(h:Den K H d v):br K H [d] [v]:=⟨v,[],rfl,h,rfl⟩
theorem br.drop:∀(n:Nat){c:List D}{b:List V},br K H c b->br K H (c.drop n) (b.drop n)
 |0,_,_,h=>h
 |_+1,[],_,h=>by rw[h];exact rfl
 |n+1,_::_,_,a=>by obtain⟨v,r,e,_,d⟩:=a;subst e;exact br.drop n d
theorem br.take:∀(n:Nat){c:List D}{b:List V},br K H c b->br K H (c.take n) (b.take n)
 |0,_,_,_=>rfl
 |_+1,[],_,h=>by rw[h];exact rfl
 |n+1,_::_,_,a=>by obtain⟨v,r,f,e,d⟩:=a;subst f;exact⟨v,r.take n,rfl,e,br.take n d⟩
theorem br.eraseIdx:∀(n:Nat){f:List D}{e:List V},br K H f e->br K H (f.eraseIdx n) (e.eraseIdx n)
 |_,[],_,h=>by rw[h];exact rfl
 |0,_::_,_,b=>by obtain⟨v,r,d,_,c⟩:=b;subst d;exact c
 |n+1,_::_,_,a=>by obtain⟨v,r,d,g,c⟩:=a;subst d;exact⟨v,r.eraseIdx n,rfl,g,br.eraseIdx n c⟩
end
def PM:HO->Bool
 |.jo _ _=>false
 |.tup _=>false
 |_=>true
structure Ext(G H G' H':Hp):Prop where
 gg:bc G G'
 hh:bc H H'
 gh:bc G' H'
 fr:∀a o,H a=some o->G a=none->PM o=true->G' a=none
def Ext.refl(h:bc G H):Ext G H G H:=⟨bc.refl G,bc.refl H,h,λ_ _ _ q _=>q⟩
def Ext.trans(a:Ext G H f d)(b:Ext f d e c):Ext G H e c:=
 ⟨a.gg.trans b.gg,a.hh.trans b.hh,b.gh,λx o h g z=>b.fr x o (a.hh x o h) (a.fr x o h g z) z⟩
def bx(h:H p=none)(o:HO):bc H (upd H p o):=λb u q=>by rwa [ag (bf q h)]
def Ext.new(h:bc G H)(o:HO)(n:H p=none):Ext G H (upd G p o) (upd H p o):=by
 have c:G p=none:=by
  cases e:G p with
  |none=>rfl
  |some u=>rw[h p u e]at n;cases n
 refine⟨bx c o,bx n o,λb u q=>?_,λa u q g _=>?_⟩
 ·by_cases e:b=p
  ·subst e;rw[ai]at q⊢;exact q
  ·rw[ag e]at q⊢;exact h b u q
 ·rwa [ag (bf q n)]
def Ext.own(h:bc G H)(o:HO)(n:H p=none):Ext G H G (upd H p o):=by
 refine⟨bc.refl G,bx n o,λb u q=>?_,λa u q g _=>g⟩;exact bx n o b u (h b u q)
def Arg(K:KA)(G H:Hp)(d:D)(v:V):Prop:=
 Den K G d v\/(∃f a e,d=.lst f/\v=.ref a/\fD K H a e/\br K G f e)\/
  ∃t b a,d=.ja t b/\v=.ref a/\((t=false/\∃c,H a=some (.dK c)/\hG K G b c)\/(t=true/\∃c,H a=some (.dT c)/\fc K G b c))
def Arg.ext{K:KA}{G H n m:Hp}{d:D}{v:V}(e:Ext G H n m)(h:Arg K G H d v):Arg K n m d v:=by
 obtain h|⟨q,a,o,j,i,g,p⟩|⟨t,f,a,j,i,g⟩:=h
 ·exact .inl (h.mono e.gg)
 ·exact .inr (.inl ⟨q,a,o,j,i,fD.mono e.hh g,p.mono e.gg⟩)
 ·exact .inr (.inr ⟨t,f,a,j,i,g.elim (by rintro ⟨z,l,c,b⟩;exact .inl ⟨z,l,e.hh _ _ c,b.mono e.gg⟩) (by rintro ⟨z,l,c,b⟩;exact .inr ⟨z,l,e.hh _ _ c,b.mono e.gg⟩)⟩)
def Arg.lst{K:KA}{G H:Hp}{f:List D}{v:V}(s:bc G H)(h:Arg K G H (.lst f) v):wC K H (br K G f) v:=by
 obtain ⟨a,c,b,e,d⟩|⟨j,a,c,b,e,d,i⟩|⟨t,g,a,b,_⟩:=h
 ·exact⟨a,c,b,fD.mono s e,d⟩
 ·cases b;exact⟨a,c,e,d,i⟩
 ·cases b
def Arg.uK{K:KA}{G H:Hp}{d:List D}{v:V}(s:bc G H)(h:Arg K G H (.tup d) v):RA H .tup (br K G d) v:=by
 obtain ⟨a,c,b,g,f⟩|⟨i,a,c,b,_⟩|⟨t,e,a,b,_⟩:=h
 ·exact⟨a,c,b,s _ _ g,f⟩
 ·cases b
 ·cases b
def Arg.tup{K:KA}{G H:Hp}{b:List D}{v:V}(s:bc G H)(h:Arg K G H (.tup b) v):wV K H (br K G b) v:=by
 obtain⟨a,c,f,e,d⟩:=h.uK s;exact⟨a,c,f,.inl (.inl e),d⟩
def Arg.int{K:KA}{G H:Hp}{i:Int}{v:V}(h:Arg K G H (.int i) v):v=.int i:=by
 obtain h|⟨d,a,e,b,_⟩|⟨t,c,a,b,_⟩:=h
 ·exact h
 ·cases b
 ·cases b
def Arg.bl{K:KA}{G H:Hp}{i:Bool}{v:V}(h:Arg K G H (.bl i) v):v=.bl i:=by
 obtain h|⟨d,a,e,b,_⟩|⟨t,c,a,b,_⟩:=h
 ·exact h
 ·cases b
 ·cases b
def Arg.str{K:KA}{G H:Hp}{i:Str}{v:V}(h:Arg K G H (.str i) v):v=.str i:=by
 obtain h|⟨d,a,e,b,_⟩|⟨t,c,a,b,_⟩:=h
 ·exact h
 ·cases b
 ·cases b
def Arg.hZ{K:KA}{G H:Hp}{v:V}(h:Arg K G H .hZ v):v=.hZ:=by
 obtain h|⟨d,a,e,b,_⟩|⟨t,c,a,b,_⟩:=h
 ·exact h
 ·cases b
 ·cases b
def Arg.fn{K:KA}(h:Arg K G H (.fn f) v):v=.ref (K.A f):=by
 obtain h|⟨d,a,e,b,_⟩|⟨t,c,a,b,_⟩:=h
 ·exact h
 ·cases b
 ·cases b
set_option genInjectivity true in
inductive Res where
 |ok (d:D)
 |er (c:Str)
 |st
def Res.bind(r:Res)(f:D->Res):Res:=match r with
 |.ok d=>f d
 |.er c=>.er c
 |.st=>.st
def Res.of(o:Option D):Res:=match o with
 |some d=>.ok d
 |none=>.st
set_option genInjectivity true in
inductive dg where
 |ok (ds:List D)
 |er (c:Str)
 |st
set_option genInjectivity true in
inductive Sl where
 |no
 |pu (d:D)
 |bo (d:D)
 |ow (ds:List D)
 |od (t:Bool) (kvs:List (D×D))
abbrev En:=List Sl
def pa(K:KA)(B G H:Hp):Sl->Option V->Prop
 |.no,_=>True
 |.pu d,o=>∃v,o=some v/\Den K G d v
 |.bo d,o=>∃v,o=some v/\Arg K G B d v
 |.ow b,o=>RO H .lst (br K G b) o
 |.od false a,o=>RO H .dK (hG K G a) o
 |.od true a,o=>RO H .dT (fc K G a) o
def Sl.own:Sl->Bool
 |.ow _=>true
 |.od _ _=>true
 |_=>false
def tD(H:Hp):Prop:=∀p∈Xs,H p.2.1=some (.rO (p.2.2))
def tD.same(e:bc H b)(h:tD H):tD b:=λp a=>e _ _ (h p a)
structure c5(K:KA)(B G H:Hp)(Z:St)(δ:En):Prop where
 bh:bc B H
 gh:bc G H
 len:Z.length=δ.length
 sl:∀(i:Nat) s,δ[i]?=some s->∃o,Z[i]?=some o/\pa K B G H s o
 own:∀(i:Nat) s a,δ[i]?=some s->s.own=true->Z[i]?=some (some (V.ref a))->G a=none/\B a=none
 qQ:∀(i j:Nat) s t a,δ[i]?=some s->δ[j]?=some t->s.own=true->t.own=true->Z[i]?=some (some (V.ref a))->Z[j]?=some (some (V.ref a))->i=j
 gb:tD B
def EJ{K:KA}{G m H:Hp}{d:D}{v:V}(e:bc G m)(h:Arg K G H d v):Arg K m H d v:=by
 obtain h|⟨p,a,n,j,i,g,o⟩|⟨t,f,a,j,i,g⟩:=h
 ·exact .inl (h.mono e)
 ·exact .inr (.inl ⟨p,a,n,j,i,g,o.mono e⟩)
 ·exact .inr (.inr ⟨t,f,a,j,i,g.elim (by rintro ⟨z,l,c,b⟩;exact .inl ⟨z,l,c,b.mono e⟩) (by rintro ⟨z,l,c,b⟩;exact .inr ⟨z,l,c,b.mono e⟩)⟩)
def OC{K:KA}{G H m:Hp}{d:D}{v:V}(e:bc H m)(h:Arg K G H d v):Arg K G m d v:=by
 obtain h|⟨p,a,n,j,i,g,o⟩|⟨t,f,a,j,i,g⟩:=h
 ·exact .inl h
 ·exact .inr (.inl ⟨p,a,n,j,i,fD.mono e g,o⟩)
 ·exact .inr (.inr ⟨t,f,a,j,i,g.elim (by rintro ⟨z,l,c,b⟩;exact .inl ⟨z,l,e _ _ c,b⟩) (by rintro ⟨z,l,c,b⟩;exact .inr ⟨z,l,e _ _ c,b⟩)⟩)
def pa.ext{K:KA}{B G H j i:Hp}(e:Ext G H j i){s:Sl}{o:Option V}(h:pa K B G H s o):pa K B j i s o:=by
 cases s with
 |no=>trivial
 |pu d=>obtain⟨v,c,b⟩:=h;exact⟨v,c,b.mono e.gg⟩
 |bo d=>obtain⟨v,c,b⟩:=h;exact⟨v,c,EJ e.gg b⟩
 |ow m=>obtain⟨a,f,c,b,g⟩:=h;exact⟨a,f,c,e.hh _ _ b,g.mono e.gg⟩
 |od t l=>
  cases t with
  |false=>obtain⟨a,f,c,b,g⟩:=h;exact⟨a,f,c,e.hh _ _ b,g.mono e.gg⟩
  |true=>obtain⟨a,f,c,b,g⟩:=h;exact⟨a,f,c,e.hh _ _ b,g.mono e.gg⟩
def pa.ref{K:KA}{B G H:Hp}{s:Sl}{o:Option V}(h:pa K B G H s o)(q:s.own=true):∃a,o=some (V.ref a)/\∃u,H a=some u/\PM u=true:=by
 cases s with
 |no=>cases q
 |pu d=>cases q
 |bo d=>cases q
 |ow g=>obtain⟨a,e,c,b,_⟩:=h;exact⟨a,c,_,b,rfl⟩
 |od t f=>
  cases t with
  |false=>obtain⟨a,e,c,b,_⟩:=h;exact⟨a,c,_,b,rfl⟩
  |true=>obtain⟨a,e,c,b,_⟩:=h;exact⟨a,c,_,b,rfl⟩
def c5.ext{K:KA}{B G H n m:Hp}{Z:St}{δ:En}(e:Ext G H n m)(r:c5 K B G H Z δ):c5 K B n m Z δ where
 bh:=r.bh.trans e.hh
 gb:=r.gb
 gh:=e.gh
 len:=r.len
 sl:=λi s h=>by
  obtain⟨o,c,d⟩:=r.sl i s h;exact⟨o,c,d.ext e⟩
 own:=λi s a l j f=>by
  obtain⟨g,b⟩:=r.own i s a l j f;obtain⟨o,c,d⟩:=r.sl i s l;rw[f]at c;cases c;obtain⟨v,z,u,q,p⟩:=d.ref j;cases z;exact⟨e.fr a u q g p,b⟩
 qQ:=r.qQ
def c7(E:EK)(G H:Hp)(r:Res)(P:D->Prop):Prop:=match r with
 |.ok d=>P d
 |.er c=>∀b a,Ext G H b a->E c a
 |.st=>False
def eT(E:EK)(G H:Hp)(r:dg)(P:List D->Prop):Prop:=match r with
 |.ok b=>P b
 |.er c=>∀d a,Ext G H d a->E c a
 |.st=>False
section
variable{E:EK}{G H G' H':Hp}
def c7.mono(h:c7 E G H r P)(f:∀d,r=.ok d->P d->a d):c7 E G H r a:=by
 cases r with
 |ok d=>exact f d rfl h
 |er c=>exact h
 |st=>exact h
def c7.ext(e:Ext G H G' H')(h:c7 E G H r P):c7 E G' H' r P:=by
 cases r with
 |ok d=>exact h
 |er c=>exact λf b a=>h f b (e.trans a)
 |st=>exact h
def c7.bind{r:Res}(h:c7 E G H (r.bind f) P):c7 E G H r λd=>c7 E G H (f d) P:=by
 cases r with
 |ok d=>exact h
 |er c=>exact h
 |st=>exact h
def c7.of(h:c7 E G H (Res.of o) P):∃d,o=some d/\P d:=by
 cases o with
 |some d=>exact⟨d,rfl,h⟩
 |none=>exact h.elim
def eT.mono(h:eT E G H r P)(f:∀d,r=.ok d->P d->a d):eT E G H r a:=by
 cases r with
 |ok d=>exact f d rfl h
 |er c=>exact h
 |st=>exact h
def eT.ext(e:Ext G H G' H')(h:eT E G H r P):eT E G' H' r P:=by
 cases r with
 |ok d=>exact h
 |er c=>exact λf b a=>h f b (e.trans a)
 |st=>exact h
end
def OO(K:KA)(G H:Hp)(m:Bool)(d:D)(v:V):Prop:=match m with
 |true=>Arg K G H d v
 |false=>Den K G d v
inductive CA(P:D->V->Prop)(Q:List D->List V->Prop)(ds:List D)(vs:List V):Prop
 |mk (d dr v vr) (_:ds=d::dr) (_:vs=v::vr) (_:P d v) (_:Q dr vr):CA P Q ds vs
def gr(K:KA)(G H:Hp):List Bool->List D->List V->Prop
 |[],b,a=>b=[]/\a=[]
 |m::c,b,a=>CA (OO K G H m) (gr K G H c) b a
theorem gr.length{K:KA}{G H:Hp}:∀{a:List Bool}{f:List D}{e:List V},gr K G H a f e->f.length=a.length/\e.length=a.length
 |[],_,_,⟨c,b⟩=>by rw[c,b];exact⟨rfl,rfl⟩
 |_::_,_,_,⟨d,m,v,j,c,b,l,i⟩=>by
  obtain⟨h,g⟩:=i.length;rw[c,b,aE,aE,aE,h,g];exact⟨rfl,rfl⟩
section
variable(K:KA)(B:Hp)(E:EK)
inductive uH(g:En->Res)(Z:St)(H:Hp)(Q:VK):Prop
 |mk (G δ) (_:c5 K B G H Z δ) (_:c7 E G H (g δ) λd=>∀v G' H',Ext G H G' H'->Den K G' d v->Q v H'):uH g Z H Q
inductive tH(g:En->Res)(Z:St)(H:Hp)(Q:VK):Prop
 |mk (G δ) (_:c5 K B G H Z δ) (_:c7 E G H (g δ) λd=>∀v G' H',Ext G H G' H'->Arg K G' H' d v->Q v H'):tH g Z H Q
inductive vN(g:En->Res)(Z:St)(H:Hp)(Q:VK):Prop
 |mk (G δ) (_:c5 K B G H Z δ) (_:c7 E G H (g δ) λd=>∃ds,d=.lst ds/\∀a vs G' H',Ext G H G' H'->H a=none->G' a=none->H' a=some (.lst vs)->br K G' ds vs->Q (.ref a) H'):vN g Z H Q
inductive vM(g:En->Res)(Z:St)(H:Hp)(Q:Bool->Hp->Prop):Prop
 |mk (G δ) (_:c5 K B G H Z δ) (_:c7 E G H (g δ) λd=>∃b,d=.bl b/\∀G' H',Ext G H G' H'->Q b H'):vM g Z H Q
inductive vO(ms:List Bool)(g:En->dg)(Z:St)(H:Hp)(Q:List V->Hp->Prop):Prop
 |mk (G δ) (_:c5 K B G H Z δ) (_:eT E G H (g δ) λds=>∀vs G' H',Ext G H G' H'->gr K G' H' ms ds vs->Q vs H'):vO ms g Z H Q
end
abbrev gj(X:Cx)(B:Hp)(E:EK)(e:Expr)(g:En->Res):Prop:=PE X e (uH (kx X) B E g)
abbrev k9(X:Cx)(B:Hp)(E:EK)(e:Expr)(g:En->Res):Prop:=PE X e (tH (kx X) B E g)
abbrev Yd(X:Cx)(B:Hp)(E:EK)(e:Expr)(g:En->Res):Prop:=PE X e (vN (kx X) B E g)
abbrev Fz(X:Cx)(B:Hp)(E:EK)(e:Expr)(g:En->Res):Prop:=PT X e (vM (kx X) B E g)
abbrev JK(X:Cx)(B:Hp)(E:EK)(e:Expr)(g:En->Res):Prop:=PW X e (vM (kx X) B E g)
abbrev M9(X:Cx)(B:Hp)(E:EK)(a:List Bool)(es:List Expr)(g:En->dg):Prop:=PA X es (vO (kx X) B E a g)
def PE.imp(h:PE X e t)(i:∀Z H Q,b Z H Q->t Z H Q):PE X e b:=λa s Z H Q I q=>h a s Z H Q I (i Z H Q q)
def PT.imp(h:PT X e t)(i:∀Z H Q,b Z H Q->t Z H Q):PT X e b:=λa s Z H Q I q=>h a s Z H Q I (i Z H Q q)
def PW.imp(h:PW X e t)(i:∀Z H Q,c Z H Q->t Z H Q):PW X e c:=λb a s Z H Q I q=>h b a s Z H Q I (i Z H Q q)
def PA.imp(h:PA X e t)(i:∀Z H Q,c Z H Q->t Z H Q):PA X e c:=λb a s Z H Q I q=>h b a s Z H Q I (i Z H Q q)
section
variable{X:Cx}{B:Hp}{E:EK}{e a b c:Expr}{es:List Expr}{g h k:En->Res}{pos:Pos}
noncomputable def b8(i:Nat):En->Res:=λδ=>match δ[i]? with
 |some (.pu d)=>.ok d
 |_=>.st
noncomputable def aa(i:Nat):En->Res:=λδ=>match δ[i]? with
 |some (.pu d)=>.ok d
 |some (.bo d)=>.ok d
 |some (.ow j)=>.ok (.lst j)
 |some (.od t f)=>.ok (.ja t f)
 |_=>.st
noncomputable def gC(d:D):En->Res:=λ_=>.ok d
def c5.var{K:KA}{G H:Hp}{Z:St}{δ:En}{i:Nat}{d:D}(R:c5 K B G H Z δ)(h:δ[i]?=some (.pu d)):∃v,Z[i]?=some (some v)/\Den K G d v:=by
 obtain⟨o,l,v,j,f⟩:=R.sl i _ h;exact⟨v,by rw[l,j],f⟩
def c5.arg{K:KA}{G H:Hp}{Z:St}{δ:En}{i:Nat}{d:D}(R:c5 K B G H Z δ)(h:aa i δ=.ok d):∃v,Z[i]?=some (some v)/\Arg K G H d v:=by
 unfold aa at h;cases e:δ[i]? with
 |none=>rw[e]at h;cases h
 |some s=>
  rw[e]at h;obtain⟨o,n,f⟩:=R.sl i _ e;cases s with
  |no=>cases h
  |pu r=>
   cases h;obtain⟨v,f,j⟩:=f;exact⟨v,by rw[n,f],.inl j⟩
  |bo r=>
   cases h;obtain⟨v,f,j⟩:=f;exact⟨v,by rw[n,f],OC R.bh j⟩
  |ow q=>
   cases h;obtain⟨a,l,f,j,m⟩:=f;exact⟨.ref a,by rw[n,f],.inr (.inl ⟨q,a,l,rfl,rfl,fD.of j,m⟩)⟩
  |od t p=>
   cases h;cases t with
   |false=>
    obtain⟨a,l,f,j,m⟩:=f;exact⟨.ref a,by rw[n,f],.inr (.inr ⟨false,p,a,rfl,rfl,.inl ⟨rfl,l,j,m⟩⟩)⟩
   |true=>
    obtain⟨a,l,f,j,m⟩:=f;exact⟨.ref a,by rw[n,f],.inr (.inr ⟨true,p,a,rfl,rfl,.inr ⟨rfl,l,j,m⟩⟩)⟩
def IT(i:Nat){x:Str}(h:PE X (.Name x pos) (uj i)):gj X B E (.Name x pos) (b8 i):=PE.imp h<|by
 rintro Z H Q ⟨G,δ,R,q⟩
 unfold b8 at q;cases e:δ[i]? with
 |none=>rw[e]at q;exact q.elim
 |some s=>
  rw[e]at q;cases s with
  |pu d=>
   obtain⟨v,j,f⟩:=R.var e;exact⟨v,j,q v G H (Ext.refl R.gh) f⟩
  |no=>exact q.elim
  |bo d=>exact q.elim
  |ow d=>exact q.elim
  |od t d=>exact q.elim
def EL(i:Nat)(h:PE X (.Name x pos) (uj i)):k9 X B E (.Name x pos) (aa i):=PE.imp h<|by
 rintro Z H Q ⟨G,δ,R,q⟩
 cases e:aa i δ with
 |ok d=>
  rw[e]at q;obtain⟨v,j,f⟩:=R.arg e;exact⟨v,j,q v G H (Ext.refl R.gh) f⟩
 |er c=>
  unfold aa at e;split at e<;>cases e
 |st=>rw[e]at q;exact q.elim
def MT(h:gj X B E e g):k9 X B E e g:=PE.imp h (by rintro Z H Q ⟨G,δ,R,q⟩;exact⟨G,δ,R,q.mono λd _ q v i f x y=>q v i f x (.inl y)⟩)
def oj(h:PE X e (tC v))(r:∀H,Den (kx X) H d v):gj X B E e (gC d):=PE.imp h (by rintro Z H Q ⟨G,δ,R,q⟩;exact q v G H (Ext.refl R.gh) (r G))
def HE{i j}:gj X B E (.Constant (.int i) j pos) (gC (.int i)):=oj GD λ_=>rfl
def MS{b j}:gj X B E (.Constant (.bool b) j pos) (gC (.bl b)):=oj MY λ_=>rfl
def IZ{j}:gj X B E (.Constant .none j pos) (gC .hZ):=oj GC λ_=>rfl
def IW{x j}:gj X B E (.Constant (.str x) j pos) (gC (.str x)):=oj HZ λ_=>rfl
def BQ(f:Gl X x)(d:X.mg x=some (.str y t))(i:(x==("__debug__":Str))=false:=by decide):gj X B E (.Name x pos) (gC (.str y)):=oj (v:=.str y) (Of f d ⟨t,rfl⟩ i) λ_=>rfl
def EN(h:mg x=some (.ref f)):Sn mg x=f:=by unfold Sn;rw[h]
def HG(i:Gl X x)(d:X.mg x=some (.ref f))(j:(x==("__debug__":Str))=false:=by decide):gj X B E (.Name x pos) (gC (.fn x)):=oj (Of (v:=.ref f) i d rfl j) λ_=>by show V.ref f=V.ref (Sn X.mg x);rw[EN d]
noncomputable def g1(f:D->Option D)(g:En->Res):En->Res:=λδ=>(g δ).bind λx=>Res.of (f x)
noncomputable def g2(f:D->D->Option D)(g h:En->Res):En->Res:=λδ=>(g δ).bind λx=>(h δ).bind λy=>Res.of (f x y)
def ic(K:KA)(f:D->D->Option D)(r:R2):Prop:=∀G H x y j i d,bc G H->Arg K G H j x->Arg K G H i y->f j i=some d->
 ∀Q:VK,(∀v m l,Ext G H m l->Den K m d v->Q v l)->r x y H Q
def OV{K:KA}{f:D->D->Option D}{r:R2}(o:ic K f r){Z:St}{H:Hp}{Q:VK}(q:uH K B E (g2 f g h) Z H Q):NU r (tH K B E g) (tH K B E h) Z H Q:=by
 obtain⟨G,δ,R,q⟩:=q;refine⟨G,δ,R,(c7.bind q).mono λw _ m x M O j C=>⟨M,δ,R.ext j,((c7.bind m).ext j).mono λu _ l y L I i A=>?_⟩⟩;obtain⟨d,p,n⟩:=c7.of l;exact o L I x y w u d i.gh (C.ext i) A p Q λv N J s z=>n v N J ((j.trans i).trans s) z
def On(j:kO X (jI d) r)(i:ic (kx X) f r)(m:k9 X B E a g)(l:k9 X B E b h):gj X B E (.BinOp a d b pos) (g2 f g h):=
 PE.imp (MW j m l) λZ H Q q=>OV i q
def HI(j:kO X (dX d) r)(i:ic (kx X) f r)(n:k9 X B E a g)(m:k9 X B E b h)(l:mN d b=false):gj X B E (.Compare a [d] [b] pos) (g2 f g h):=
 PE.imp (AM j n m l) λZ H Q q=>OV i q
def BW{i:CmpOp}{f:D->D->Option D}{r:R2}(m:kO X (dX i) r)(l:ic (kx X) f r)(o:∀x y d,f x y=some d->∃b,d=.bl b)(s:k9 X B E a g)(p:k9 X B E b h)(n:mN i b=false):Fz X B E (.Compare a [i] [b] pos) (g2 f g h):=
 PT.imp (BV m s p n) λZ H Q ⟨G,δ,R,q⟩=>OV l ⟨G,δ,R,q.mono<|by
  rintro d I ⟨b,u,j⟩ v C A w z
  subst u;exact⟨b,z,j C A w⟩⟩
noncomputable def Jx:D->Option Bool
 |.hZ=>some false
 |.bl b=>some b
 |.int i=>some (i !=0)
 |.str x=>if x.length<=aQ then some ((x.length:Int) !=0)else none
 |.tup d=>some !d.isEmpty
 |.lst d=>some !d.isEmpty
 |_=>none
def bD(o:Option Bool):Option D:=o.map .bl
def yu{K:KA}{G:Hp}{f:List D}{d:List V}(h:br K G f d):(!f.isEmpty)= !d.isEmpty:=by
 have q:=h.length;cases f<;>cases d<;>first|rfl|(simp at q)
def CO{K:KA}{G H:Hp}{d:D}{v:V}{b:Bool}(s:bc G H)(h:Arg K G H d v)(e:Jx d=some b):EO K v H b:=by
 cases d with
 |hZ=>rw[h.hZ];cases e;rfl
 |bl i=>rw[h.bl];cases e;rfl
 |int i=>rw[h.int];cases e;rfl
 |str x=>
  rw[h.str];have f:(if x.length<=aQ then some _ else none)=some b:=e
  by_cases n:x.length<=aQ
  ·rw[aN n]at f;cases f;exact⟨n,rfl⟩
  ·rw[aK n]at f;cases f
 |tup o=>
  obtain⟨a,j,rfl,m,l⟩:=h.tup s;cases e;exact .inr (.inl ⟨j,m,yu l⟩)
 |lst o=>
  obtain⟨a,j,rfl,m,l⟩:=h.lst s;cases e;exact .inl ⟨j,m,yu l⟩
 |ja _ _=>cases e
 |obj _ _=>cases e
 |fn _=>cases e
def Wi(p:k9 X B E a g)(o:∀f,isTrue a X.env f=(do let v <-f;standAt a.pos;holding [v] (truthy v)):=by intro _;rfl):Fz X B E a (g1 (λd=>bD (Jx d)) g):=
 PT.imp (Wj p o) λZ H Q ⟨G,δ,R,q⟩=>⟨G,δ,R,(c7.bind q).mono λs _ m x y w l u=>by
  obtain⟨d,i,b,r,n⟩:=c7.of m;dsimp only at i;cases j:Jx s with
  |none=>rw[j]at i;cases i
  |some z=>
   rw[j]at i;cases i;cases r;exact⟨b,CO l.gh u j,n y w l⟩⟩
def QE(c a b:En->Res):En->Res:=λδ=>(c δ).bind λd=>match d with
 |.bl true=>a δ
 |.bl false=>b δ
 |_=>.st
noncomputable def Hc(c:En->Res):En->Res:=λδ=>(c δ).bind λd=>match d with
 |.bl b=>.ok (.bl !b)
 |_=>.st
noncomputable def A5(a b:En->Res):En->Res:=QE a b (gC (.bl false))
def QD{K:KA}{P:D->Prop}{c:En->Res}{δ:En}{a b:En->Res}{G H:Hp}(q:c7 E G H (QE c a b δ) P):
  c7 E G H (c δ) λd=>∃t,d=.bl t/\(t=true->c7 E G H (a δ) P)/\(t=false->c7 E G H (b δ) P):=
 (c7.bind q).mono λd _ q=>by
  cases d with
  |bl t=>cases t with
   |true=>exact⟨true,rfl,λ_=>q,λz=>by cases z⟩
   |false=>exact⟨false,rfl,λz=>(by cases z),λ_=>q⟩
  |hZ=>exact q.elim
  |int _=>exact q.elim
  |str _=>exact q.elim
  |tup _=>exact q.elim
  |lst _=>exact q.elim
  |ja _ _=>exact q.elim
  |obj _ _=>exact q.elim
  |fn _=>exact q.elim
def BU(i:Fz X B E a g):Fz X B E (.UnaryOp .Not a pos) (Hc g):=PT.imp (HP i) λZ H Q ⟨G,δ,R,q⟩=>⟨G,δ,R,(c7.bind q).mono λd _ q=>by
 cases d with
 |bl t=>
  obtain⟨b,j,f⟩:=q;cases j;exact⟨t,rfl,f⟩
 |hZ=>exact q.elim
 |int _=>exact q.elim
 |str _=>exact q.elim
 |tup _=>exact q.elim
 |lst _=>exact q.elim
 |ja _ _=>exact q.elim
 |obj _ _=>exact q.elim
 |fn _=>exact q.elim⟩
def Wt(d:Fz X B E a g):JK X B E (.BoolOp .And [a] pos) g:=BJ d
def BK{rest:List Expr}(o:Fz X B E a g)(n:JK X B E (.BoolOp .And (b::rest) pos) h):JK X B E (.BoolOp .And (a::b::rest) pos) (A5 g h):=
 PW.imp (IR o n) λZ H Q ⟨G,δ,R,q⟩=>⟨G,δ,R,(QD (K:=(kx X)) q).mono λd _ ⟨t,p,l⟩=>⟨t,p,λm u f=>by
  cases t with
  |true=>exact⟨m,δ,R.ext f,((l.1 rfl).ext f).mono (by rintro d _ ⟨b,j,i⟩;exact⟨b,j,λv s r=>i v s (f.trans r)⟩)⟩
  |false=>
   obtain⟨b,j,i⟩:=(l.2 rfl);cases j;exact i m u f⟩⟩
def PJ(h:JK X B E e g):Fz X B E e g:=PW.pt h
def IX{d}(h:gj X B E a g):gj X B E (.BoolOp d [a] pos) g:=GA h
def HL{rest:List Expr}(o:gj X B E a g)(n:gj X B E (.BoolOp .And (b::rest) pos) h):gj X B E (.BoolOp .And (a::b::rest) pos) (A5 g h):=
 PE.imp (GF o n) λZ H Q ⟨G,δ,R,q⟩=>⟨G,δ,R,(QD (K:=(kx X)) q).mono<|by
  rintro d _ ⟨t,p,j⟩ v l u f i
  subst p;refine⟨t,i,?_⟩;cases t with
  |true=>exact⟨l,δ,R.ext f,((j.1 rfl).ext f).mono λd _ m v w s r i=>m v w s (f.trans r) i⟩
  |false=>exact(j.2 rfl) _ l u f rfl⟩
def IY(f:gj X B E a g):gj X B E (.UnaryOp .Not a pos) (Hc g):=PE.imp (GB f) λZ H Q ⟨G,δ,R,q⟩=>⟨G,δ,R,(c7.bind q).mono λd _ q v m l i j=>by
 cases d with
 |bl t=>exact⟨t,j,q _ m l i rfl⟩
 |hZ=>exact q.elim
 |int _=>exact q.elim
 |str _=>exact q.elim
 |tup _=>exact q.elim
 |lst _=>exact q.elim
 |ja _ _=>exact q.elim
 |obj _ _=>exact q.elim
 |fn _=>exact q.elim⟩
noncomputable def af:En->dg:=λ_=>.ok []
noncomputable def au(g:En->Res)(r:En->dg):En->dg:=λδ=>match g δ with
 | .ok d => (match r δ with
  |.ok f=>.ok (d::f)
  |.er c=>.er c
  |.st=>.st)
 |.er c=>.er c
 |.st=>.st
def DW(q:eT E G H (au g r δ) P):c7 E G H (g δ) λd=>eT E G H (r δ) λi=>P (d::i):=by
 unfold au at q;cases e:g δ with
 |ok d=>
  rw[e]at q;cases f:r δ with
  |ok i=>rw[f]at q;exact q
  |er c=>rw[f]at q;exact q
  |st=>rw[f]at q;exact q
 |er c=>rw[e]at q;exact q
 |st=>rw[e]at q;exact q
def je:M9 X B E [] [] af:=PA.imp qi (by rintro Z H Q ⟨G,δ,R,q⟩;exact q [] G H (Ext.refl R.gh) ⟨rfl,rfl⟩)
def ip(o:k9 X B E e g)(n:M9 X B E l es r)(m:bM (e::es) X.env=(false,eval e X.env)::bM es X.env:=by rfl):M9 X B E (true::l) (e::es) (au g r):=
 PA.imp (ky o n m) λZ H Q ⟨G,δ,R,q⟩=>⟨G,δ,R,(DW q).mono λd _ q x y z f s=>⟨y,δ,R.ext f,(q.ext f).mono λp _ q j w v i u=>
  q _ w v (f.trans i) ⟨d,p,x,j,rfl,rfl,s.ext i,u⟩⟩⟩
def Ap(o:gj X B E e g)(n:M9 X B E l es r)(m:bM (e::es) X.env=(false,eval e X.env)::bM es X.env:=by rfl):M9 X B E (false::l) (e::es) (au g r):=
 PA.imp (ky o n m) λZ H Q ⟨G,δ,R,q⟩=>⟨G,δ,R,(DW q).mono λd _ q x y z f s=>⟨y,δ,R.ext f,(q.ext f).mono λp _ q j w v i u=>
  q _ w v (f.trans i) ⟨d,p,x,j,rfl,rfl,s.mono i.gg,u⟩⟩⟩
def Ed:List Bool->Bool
 |[]=>true
 |b::r=> !b && Ed r
theorem gr.den{K:KA}{G H:Hp}:∀{j:List Bool}{o:List D}{n:List V},Ed j=true->gr K G H j o n->br K G o n
 |[],_,_,_,i=>by obtain⟨m,l⟩:=i;subst m;subst l;exact rfl
 |true::_,_,_,h,_=>by simp[Ed]at h
 |false::j,_,_,h,f=>by
  obtain⟨d,s,v,p,m,l,r,q⟩:=f;subst m;subst l;exact⟨v,p,rfl,r,gr.den (by simpa[Ed]using h) q⟩
noncomputable def h8(r:En->dg):En->Res:=λδ=>match r δ with
 |.ok d=>if d.length<=aQ then .ok (.tup d)else .st
 |.er c=>.er c
 |.st=>.st
noncomputable def cx(r:En->dg):En->Res:=λδ=>match r δ with
 |.ok d=>if d.length<=aQ then .ok (.lst d)else .st
 |.er c=>.er c
 |.st=>.st
def QQ(q:c7 E G H (h8 r δ) P):eT E G H (r δ) λd=>d.length<=aQ/\P (.tup d):=by
 unfold h8 at q;cases e:r δ with
 |ok d=>
  rw[e]at q
  by_cases f:d.length<=aQ
  ·simp only[aN f]at q;exact⟨f,q⟩
  ·simp only[aK f]at q;exact q.elim
 |er c=>rw[e]at q;exact q
 |st=>rw[e]at q;exact q
def PP(q:c7 E G H (cx r δ) P):eT E G H (r δ) λd=>d.length<=aQ/\P (.lst d):=by
 unfold cx at q;cases e:r δ with
 |ok d=>
  rw[e]at q
  by_cases f:d.length<=aQ
  ·simp only[aN f]at q;exact⟨f,q⟩
  ·simp only[aK f]at q;exact q.elim
 |er c=>rw[e]at q;exact q
 |st=>rw[e]at q;exact q
def br.upd{K:KA}{G:Hp}{p:Addr}{f:List D}{d:List V}(h:br K G f d)(n:G p=none)(o:HO):br K (upd G p o) f d:=h.mono (bx n o)
def dh(s:bc G H)(n:H p=none):G p=none:=by
 cases e:G p with
 |none=>rfl
 |some u=>rw[s p u e]at n;cases n
def sj{K:KA}{G H:Hp}{p:Addr}{f:List D}{d:List V}(s:bc G H)(n:H p=none)(h:br K G f d):Den K (upd G p (.tup d)) (.tup f) (.ref p):=
 ⟨p,d,rfl,ai,h.upd (dh s n) _⟩
def vy{K:KA}{G H:Hp}{p:Addr}{f:List D}{d:List V}(s:bc G H)(n:H p=none)(h:br K G f d):Den K (upd G p (.lst d)) (.lst f) (.ref p):=
 ⟨p,d,rfl,fD.of ai,h.upd (dh s n) _⟩
def IU{j}{f:List Bool}{r:En->dg}(l:Ed f=true)(h:M9 X B E f es r):gj X B E (.Tuple es j pos) (h8 r):=
 PE.imp (HY h) λZ H Q ⟨G,δ,R,q⟩=>⟨G,δ,R,(QQ q).mono<|by
  rintro s _ ⟨o,q⟩ n v u d m
  have dl:=m.den l;refine⟨by rwa [<-dl.length],λp i=>q _ _ _ (d.trans (Ext.new d.gh _ i)) (sj d.gh i dl)⟩⟩
def Vt{i:List Bool}{r:En->dg}(l:Ed i=true)(h:M9 X B E i es r):Yd X B E (.List es pos) (cx r):=
 PE.imp (V3 h) λZ H Q ⟨G,δ,R,q⟩=>⟨G,δ,R,(PP q).mono<|by
  rintro v _ ⟨u,n,m,q⟩ j s w d o
  cases m;have dl:=o.den l;refine⟨by rwa [<-dl.length],λp f=>q p j s _ (d.trans (Ext.own d.gh _ f)) (dh d.hh f) (dh d.gh f) ai dl⟩⟩
def Ext.freeze{G H f d:Hp}{a:Addr}{i:List V}(e:Ext G H f d)(j:H a=none)(l:f a=none)(h:d a=some (.lst i)):Ext G H (upd f a (.lst i)) d:=by
 refine⟨e.gg.trans (bx l _),e.hh,λb u q=>?_,λb u q g z=>?_⟩
 ·by_cases z:b=a
  ·subst z;rw[ai]at q;rwa [h]
  ·rw[ag z]at q;exact e.gh b u q
 ·rw[ag (bf q j)];exact e.fr b u q g z
def IsL(g:En->Res):Prop:=∀δ d,g δ=.ok d->∃f,d=.lst f
def Zj:IsL (cx r):=λδ d h=>by
 unfold cx at h;cases e:r δ with
 |ok i=>
  rw[e]at h
  by_cases f:i.length<=aQ
  ·simp only[aN f]at h;cases h;exact⟨i,rfl⟩
  ·simp only[aK f]at h;cases h
 |er c=>rw[e]at h;cases h
 |st=>rw[e]at h;cases h
def Vu(h:Yd X B E e g)(l:IsL g):gj X B E e g:=PE.imp h λZ H Q ⟨G,δ,R,q⟩=>⟨G,δ,R,q.mono λd n q=>by
 obtain⟨p,rfl⟩:=l δ d n;exact⟨p,rfl,λa i s r o j f m dl=>q _ _ r (o.freeze j f m) ⟨a,i,rfl,fD.of ai,dl.mono (bx f _)⟩⟩⟩
def HC(f:Ed d=true)(h:M9 X B E d es r):gj X B E (.List es pos) (cx r):=Vu (Vt f h) Zj
end
set_option genInjectivity true in
inductive Out where
 |nx (δ:En)
 |bk (δ:En)
 |ct (δ:En)
 |rt (d:D)
 |er (c:Str)
 |st
def il(K:KA)(f B:Hp)(E:EK)(G:Hp)(o:Out)(D:Ends):Prop:=match o with
 |.nx δ=>∀a e b,bc G e->c5 K B e b a δ->Ext f B e b->D.nx a b
 |.bk δ=>∀a e b,bc G e->c5 K B e b a δ->Ext f B e b->D.bk a b
 |.ct δ=>∀a e b,bc G e->c5 K B e b a δ->Ext f B e b->D.ct a b
 |.rt d=>∀v e b,Ext f B e b->Den K e d v->D.rt v b
 |.er c=>∀e b,Ext f B e b->E c b
 |.st=>False
inductive uG(K:KA)(G0 B:Hp)(E:EK)(F:En->Out)(D:Ends)(Z:St)(H:Hp):Prop
 |mk (G δ) (_:c5 K B G H Z δ) (_:Ext G0 B G H) (_:il K G0 B E G (F δ) D):uG K G0 B E F D Z H
abbrev vm(X:Cx)(a B:Hp)(E:EK)(st:Stmt)(F:En->Out):Prop:=PS X st (uG (kx X) a B E F)
abbrev zg(X:Cx)(a B:Hp)(E:EK)(st:List Stmt)(F:En->Out):Prop:=qN X st (uG (kx X) a B E F)
def PS.imp{X:Cx}{st:Stmt}{t b:TS}(h:PS X st t)(i:∀D Z H,b D Z H->t D Z H):PS X st b:=λa s Z H D I q=>h a s Z H D I (i D Z H q)
def qN.imp{X:Cx}{st:List Stmt}{t b:TS}(h:qN X st t)(i:∀D Z H,b D Z H->t D Z H):qN X st b:=λa s Z H D I q=>h a s Z H D I (i D Z H q)
def il.same{K:KA}{g B:Hp}{E:EK}{G f:Hp}{o:Out}{D:Ends}(s:bc G f)(h:il K g B E G o D):il K g B E f o D:=by
 cases o with
 |nx δ=>exact λa e b q=>h a e b (s.trans q)
 |bk δ=>exact λa e b q=>h a e b (s.trans q)
 |ct δ=>exact λa e b q=>h a e b (s.trans q)
 |rt d=>exact h
 |er c=>exact h
 |st=>exact h
def Res.then(r:Res)(f:D->Out):Out:=match r with
 |.ok d=>f d
 |.er c=>.er c
 |.st=>.st
def zd{K:KA}{a B:Hp}{E:EK}{G H:Hp}{r:Res}{f:D->Out}{D:Ends}(e:Ext a B G H)(h:il K a B E G (r.then f) D):c7 E G H r λd=>il K a B E G (f d) D:=by
 cases r with
 |ok d=>exact h
 |er c=>exact λg b q=>h g b (e.trans q)
 |st=>exact h
section
variable{X:Cx}{G0 B:Hp}{E:EK}{e c:Expr}{st:Stmt}{rest ss tt:List Stmt}{F F1 F2:En->Out}{g:En->Res}{pos:Pos}
noncomputable def my:En->Out:=λδ=>.nx δ
noncomputable def bg(F1 F2:En->Out):En->Out:=λδ=>match F1 δ with
 |.nx a=>F2 a
 |o=>o
def ID:zg X G0 B E [] my:=qN.imp BX (by rintro D Z H ⟨G,δ,R,e,q⟩;exact q Z G H (bc.refl G) R e)
def PB{K:KA}{D:Ends}{Z:St}{H:Hp}(q:uG K G0 B E (bg F1 F2) D Z H):NS (uG K G0 B E F1) (uG K G0 B E F2) D Z H:=by
 obtain⟨G,δ,R,e,q⟩:=q;refine⟨G,δ,R,e,?_⟩;unfold bg at q;cases ef:F1 δ with
 |nx a=>
  rw[ef]at q;exact λb i j s h f=>⟨i,a,h,f,il.same s q⟩
 |bk a=>rw[ef]at q;exact q
 |ct a=>rw[ef]at q;exact q
 |rt d=>rw[ef]at q;exact q
 |er c=>rw[ef]at q;exact q
 |st=>rw[ef]at q;exact q
def CU(b:vm X G0 B E st F1)(a:zg X G0 B E rest F2):zg X G0 B E (st::rest) (bg F1 F2):=qN.imp (Jd b a) λD Z H q=>PB q
def IC(a:vm X G0 B E st F1):zg X G0 B E [st] F1:=Af a
noncomputable def f9(g:En->Res):En->Out:=λδ=>(g δ).then .rt
def MF(h:gj X B E e g):vm X G0 B E (.Return (some e) pos) (f9 g):=PS.imp (HR h) (by rintro D Z H ⟨G,δ,R,e,q⟩;exact⟨G,δ,R,(zd e q).mono λd _ q v i f a b=>q v i f (e.trans a) b⟩)
noncomputable def B8(c:En->Res)(a b:En->Out):En->Out:=λδ=>(c δ).then λd=>match d with
 |.bl true=>a δ
 |.bl false=>b δ
 |_=>.st
def PF(f:Fz X B E c g)(i:zg X G0 B E ss F1)(h:zg X G0 B E tt F2):vm X G0 B E (.If c ss tt pos) (B8 g F1 F2):=
 PS.imp (MU f i h) λD Z H ⟨G,δ,R,e,q⟩=>⟨G,δ,R,(zd e q).mono λd _ q=>by
  cases d with
  |bl t=>cases t with
   |true=>exact⟨true,rfl,λb j a=>⟨b,δ,R.ext a,e.trans a,il.same a.gg q⟩⟩
   |false=>exact⟨false,rfl,λb j a=>⟨b,δ,R.ext a,e.trans a,il.same a.gg q⟩⟩
  |hZ=>exact q.elim
  |int _=>exact q.elim
  |str _=>exact q.elim
  |tup _=>exact q.elim
  |lst _=>exact q.elim
  |ja _ _=>exact q.elim
  |obj _ _=>exact q.elim
  |fn _=>exact q.elim⟩
def c5.set{K:KA}{G H:Hp}{Z:St}{δ:En}{i:Nat}{d:D}{v:V}(R:c5 K B G H Z δ)(h:Den K G d v):c5 K B G H (Z.set i (some v)) (δ.set i (.pu d)) where
 bh:=R.bh
 gb:=R.gb
 gh:=R.gh
 len:=by rw[dB,dB];exact R.len
 sl:=λj s q=>by
  by_cases z:i=j
  ·subst z;have l:i<δ.length:=by
    have:=(List.getElem?_eq_some_iff.mp q).1;rwa [dB]at this
   rw[bK l]at q;cases q;exact⟨some v,bK (by rwa [R.len]),v,rfl,h⟩
  ·rw[bE z]at q⊢;exact R.sl j s q
 own:=λj s a b f m=>by
  by_cases z:i=j
  ·subst z;have l:i<δ.length:=by
    have:=(List.getElem?_eq_some_iff.mp b).1;rwa [dB]at this
   rw[bK l]at b;cases b;cases f
  ·rw[bE z]at b m;exact R.own j s a b f m
 qQ:=λj k s t a b f m p o n=>by
  have u:i≠j:=by
   rintro rfl
   have l:i<δ.length:=by
    have:=(List.getElem?_eq_some_iff.mp b).1;rwa [dB]at this
   rw[bK l]at b;cases b;cases m
  have r:i≠k:=by
   rintro rfl
   have l:i<δ.length:=by
    have:=(List.getElem?_eq_some_iff.mp f).1;rwa [dB]at this
   rw[bK l]at f;cases f;cases p
  rw[bE u]at b o;rw[bE r]at f n;exact R.qQ j k s t a b f m p o n
noncomputable def e9(i:Nat)(g:En->Res):En->Out:=λδ=>(g δ).then λd=>.nx (δ.set i (.pu d))
def ME{i:Nat}{x:Str}{a:Pos}(h:gj X B E e g)(f:PS X (.Assign [.Name x a] e pos) (Xq (uH (kx X) B E g) (sk i))):vm X G0 B E (.Assign [.Name x a] e pos) (e9 i g):=
 PS.imp f (by rintro D Z H ⟨G,δ,R,e,q⟩;exact⟨G,δ,R,(zd e q).mono λd _ q v m l b j=>q _ m l b.gg ((R.ext b).set j) (e.trans b)⟩)
def c5.uS{K:KA}{G H y A:Hp}{Z:St}{δ:En}{i:Nat}{a:Addr}{x:Sl}(R:c5 K B G H Z δ)(e:Ext G H y A)(M:H a=none)(Q:y a=none)(O:pa K B y A x (some (.ref a))):c5 K B y A (Z.set i (some (.ref a))) (δ.set i x):=by
 have w:=R.ext e;have v:∀(j:Nat) s,δ[j]?=some s->s.own=true->Z[j]?=some (some (.ref a))->False:=λj s f l h=>by
  obtain⟨o,J,N⟩:=R.sl j s f;rw[h]at J;cases J;obtain⟨T,z,u,I,_⟩:=N.ref l;cases z;rw[M]at I;cases I
 have d:∀{s:Sl},(δ.set i x)[i]?=some s->s=x/\i<δ.length:=λq=>by
  have m:i<δ.length:=by
   have:=(List.getElem?_eq_some_iff.mp q).1;rwa [dB]at this
  rw[bK m]at q;cases q;exact⟨rfl,m⟩
 refine⟨w.bh,w.gh,by rw[dB,dB];exact R.len,λj s q=>?_,λj s b f l h=>?_,λj k s t b f l h L r n=>?_,R.gb⟩
 ·by_cases z:i=j
  ·subst z;obtain⟨rfl,m⟩:=d q;exact⟨some _,bK (by rwa [R.len]),O⟩
  ·rw[bE z]at q⊢;exact w.sl j s q
 ·by_cases z:i=j
  ·subst z;obtain⟨rfl,m⟩:=d f;rw[bK (by rw[R.len];exact m)]at h;cases h;exact⟨Q,(dh R.bh M)⟩
  ·rw[bE z]at f h;exact w.own j s b f l h
 ·by_cases C:i=j
  ·subst C;obtain⟨rfl,m⟩:=d f;rw[bK (by rw[R.len];exact m)]at r;cases r
   by_cases p:i=k
   ·exact p
   ·rw[bE p]at l n;exact(v k t l L n).elim
  ·rw[bE C]at f r
   by_cases p:i=k
   ·subst p;obtain⟨rfl,m⟩:=d l;rw[bK (by rw[R.len];exact m)]at n;cases n;exact(v j s f h r).elim
   ·rw[bE p]at l n;exact w.qQ j k s t b f l h L r n
def c5.uM{K:KA}{G H b f:Hp}{Z:St}{δ:En}{i:Nat}{h:List D}{a:Addr}{d:List V}(R:c5 K B G H Z δ)(e:Ext G H b f)(j:H a=none)(m:b a=none)(l:f a=some (.lst d))(dl:br K b h d):
  c5 K B b f (Z.set i (some (.ref a))) (δ.set i (.ow h)):=R.uS e j m ⟨a,d,rfl,l,dl⟩
def cq(i:Nat)(g:En->Res):En->Out:=λδ=>(g δ).then λd=>match d with
 |.lst a=>.nx (δ.set i (.ow a))
 |_=>.st
def W9{i:Nat}{x:Str}{b:Pos}(h:Yd X B E e g)(j:PS X (.Assign [.Name x b] e pos) (Xq (vN (kx X) B E g) (sk i))):vm X G0 B E (.Assign [.Name x b] e pos) (cq i g):=
 PS.imp j λD Z H ⟨G,δ,R,e,q⟩=>⟨G,δ,R,(zd e q).mono λd _ q=>by
  cases d with
  |lst o=>exact⟨o,rfl,λa s r p f l n m dl=>q _ r p f.gg (R.uM f l n m dl) (e.trans f)⟩
  |hZ=>exact q.elim
  |bl _=>exact q.elim
  |int _=>exact q.elim
  |str _=>exact q.elim
  |tup _=>exact q.elim
  |ja _ _=>exact q.elim
  |obj _ _=>exact q.elim
  |fn _=>exact q.elim⟩
def c5.wG{K:KA}{G H:Hp}{Z:St}{δ:En}{i:Nat}{Q A:Sl}{a:Addr}{o:HO}(R:c5 K B G H Z δ)(x:δ[i]?=some Q)(N:Q.own=true)(M:Z[i]?=some (some (V.ref a)))(h:pa K B G (upd H a o) A (some (.ref a))):c5 K B G (upd H a o) Z (δ.set i A):=by
 obtain⟨gn,bn⟩:=R.own i _ a x N M;have O:∀{F:Hp},F a=none->bc F H->bc F (upd H a o):=λfn s b u q=>by
  rw[ag (bf q fn)];exact s b u q
 have f:∀{j:Nat}{s:Sl},(δ.set i A)[j]?=some s->s.own=true->∃p,δ[j]?=some p/\p.own=true:=λ{j s} q o=>by
  by_cases z:i=j
  ·subst z;exact⟨_,x,N⟩
  ·rw[bE z]at q;exact⟨s,q,o⟩
 refine⟨O bn R.bh,O gn R.gh,by rw[dB];exact R.len,λj s q=>?_,λj s b J I C=>?_,λj k s t b J I C q4 q5 Y=>?_,R.gb⟩
 ·by_cases z:i=j
  ·subst z;rw[bK ((List.getElem?_eq_some_iff.mp x).1)]at q;cases q;exact⟨_,M,h⟩
  ·rw[bE z]at q;obtain⟨T,n,m⟩:=R.sl j s q;refine⟨T,n,?_⟩;have L:∀b,s.own=true->T=some _->b≠a:=λb ht eo y=>by
    subst y;exact z (R.qQ i j _ _ b x q N ht M (by rw[n,eo]))
   match s,m with
   |.no,_=>trivial
   |.pu d,m=>exact m
   |.bo d,m=>exact m
   |.ow fs,⟨b,v,l,w,r⟩=>exact⟨b,v,l,by rwa [ag (L b rfl l)],r⟩
   |.od false fs,⟨b,v,l,w,r⟩=>exact⟨b,v,l,by rwa [ag (L b rfl l)],r⟩
   |.od true fs,⟨b,v,l,w,r⟩=>exact⟨b,v,l,by rwa [ag (L b rfl l)],r⟩
 ·obtain⟨p,n,m⟩:=f J I;exact R.own j p b n m C
 ·obtain⟨p,n,m⟩:=f J C;obtain⟨U,l,w⟩:=f I q4;exact R.qQ j k p U b n l m w q5 Y
def c5.wr{K:KA}{G H:Hp}{Z:St}{δ:En}{i:Nat}{j es:List D}{a:Addr}{d b:List V}(R:c5 K B G H Z δ)(h:δ[i]?=some (.ow j))(f:Z[i]?=some (some (.ref a)))(l:H a=some (.lst d))(dl:br K G es b):
  c5 K B G (upd H a (.lst b)) Z (δ.set i (.ow es)):=R.wG h rfl f ⟨a,b,rfl,ai,dl⟩
def Ext.wr(e:Ext G0 B G H)(d:G a=none)(f:B a=none):Ext G0 B G (upd H a o):=
 ⟨e.gg,λb u q=>by rw[ag (bf q f)];exact e.hh b u q,λb u q=>by rw[ag (bf q d)];exact e.gh b u q,e.fr⟩
def sr:D->Option (List D)
 |.lst a=>some a
 |.tup a=>some a
 |_=>none
def turns(tg:D->En->Option En)(F:En->Out):List D->En->Out
 |[],δ=>.nx δ
 |d::r,δ=>match tg d δ with
  |none=>.st
  |some b=>match F b with
   |.nx a=>turns tg F r a
   |.ct a=>turns tg F r a
   |.bk a=>.nx a
   |.rt d=>.rt d
   |.er c=>.er c
   |.st=>.st
end
section
variable{X:Cx}{G0 B:Hp}{E:EK}{e c tg iter:Expr}{st:Stmt}{rest ss tt:List Stmt}{F F1 F2:En->Out}{g:En->Res}{pos:Pos}
def wc(i:Nat):En->Res:=λδ=>match δ[i]? with
 |some (.pu d)=>.ok d
 |some (.bo d)=>.ok d
 |_=>.st
inductive wK(K:KA)(B:Hp)(E:EK)(g:En->Res)(Z:St)(H:Hp)(Q:VK):Prop
 |mk (G δ) (_:c5 K B G H Z δ) (_:c7 E G H (g δ) λd=>∀v G' H',Ext G H G' H'->Arg K G' B d v->Q v H'):wK K B E g Z H Q
abbrev JL(X:Cx)(B:Hp)(E:EK)(e:Expr)(g:En->Res):Prop:=PE X e (wK (kx X) B E g)
def ED(i:Nat)(h:PE X (.Name x pos) (uj i)):JL X B E (.Name x pos) (wc i):=PE.imp h<|by
 rintro Z H Q ⟨G,δ,R,q⟩
 unfold wc at q;cases e:δ[i]? with
 |none=>rw[e]at q;exact q.elim
 |some s=>
  rw[e]at q;obtain⟨o,j,f⟩:=R.sl i _ e;cases s with
  |pu d=>
   obtain⟨v,b,a⟩:=f;exact⟨v,by rw[j,b],q v G H (Ext.refl R.gh) (.inl a)⟩
  |bo d=>
   obtain⟨v,b,a⟩:=f;exact⟨v,by rw[j,b],q v G H (Ext.refl R.gh) a⟩
  |no=>exact q.elim
  |ow d=>exact q.elim
  |od t d=>exact q.elim
def Su(h:gj X B E e g):JL X B E e g:=PE.imp h (by rintro Z H Q ⟨G,δ,R,q⟩;exact⟨G,δ,R,q.mono λd _ q v b a x y=>q v b a x (.inl y)⟩)
def xm(K:KA)(J:It)(a:List D)(S:Hp->Hp->Prop):Prop:=∀(i:Nat) G H,S G H->bc G H->
 (∀d,a[i]?=some d->J.go i H/\∀x b,J.vK i H x b->∃f,Ext G H f b/\Den K f d x)/\(a.length<=i->J.stop i H)
inductive wH(K:KA)(B:Hp)(E:EK)(g:En->dg)(Z:St)(H:Hp)(R:It->Hp->Prop):Prop
 |mk (G δ) (_:c5 K B G H Z δ) (_:eT E G H (g δ) λds=>∀J G' H',Ext G H G' H'->xm K J ds (λG2 H2=>bc G' G2/\bc B H2)->R J H'):wH K B E g Z H R
inductive wI(K:KA)(B:Hp)(E:EK)(g:En->dg)(Z:St)(H:Hp)(R:It->Hp->Prop):Prop
 |mk (G δ) (_:c5 K B G H Z δ) (_:eT E G H (g δ) λds=>∀J G' H',Ext G H G' H'->xm K J ds (λG2 H2=>Ext G' H' G2 H2)->R J H'):wI K B E g Z H R
abbrev Sd(X:Cx)(B:Hp)(E:EK)(tg iter:Expr)(g:En->dg):Prop:=PI X tg iter (wH (kx X) B E g)
abbrev O4(X:Cx)(B:Hp)(E:EK)(tg iter:Expr)(g:En->dg):Prop:=PI X tg iter (wI (kx X) B E g)
def PI.imp(h:PI X tg iter d)(i:∀Z H R,b Z H R->d Z H R):PI X tg iter b:=λa s Z H R I q=>h a s Z H R I (i Z H R q)
def PX(K:KA)(d:TE):TI:=λZ H R=>d Z H λx b=>∃a,x=.ref a/\(((∃xs,fD K b a xs)/\R (NG K a) b)\/((∃xs,m3 K b a xs)/\R (NC K a) b))
def HW(C:PE X l w):PI X tg l (PX (kx X) w):=by
 intro i s Z H R I h;refine iq (C i s Z H _ I h) λv f ⟨x,u,d,r,z⟩=>?_;obtain⟨a,e,⟨⟨xs,m⟩,q⟩|⟨⟨xs,m⟩,q⟩⟩:=z
 ·subst e;cases r;obtain⟨j,y,p,A⟩:=d.list m;refine fW p.isList ?_;refine⟨f.1.1.size,[f.1.1.size],_,_,u,rfl,d.kept λb o e=>aH _ e,D6 a _,⟨_,aT _ rfl,rfl,rfl⟩,λb n=>?_,q⟩;have e:b=f.1.1.size:=by simpa using n
  subst e;exact d.qh (aJ _) (d.ez.fresh (aJ _))
 ·subst e;cases r;obtain⟨j,y,p,A⟩:=d.tuple m;refine wpAny_pyIter_tuple (p) ?_;refine⟨f.1.1.size,[f.1.1.size],_,_,u,rfl,d.kept λb o e=>aH _ e,Co a _,⟨_,aT _ rfl,rfl,rfl⟩,λb n=>?_,q⟩;have e:b=f.1.1.size:=by simpa using n
  subst e;exact d.qh (aJ _) (d.ez.fresh (aJ _))
def K2{K:KA}{a:Addr}{m:Hp}{l:List D}{b:List V}{S:Hp->Hp->Prop}(h:∀G H,S G H->bc G H->fD K H a b/\bc m G)(dl:br K m l b):xm K (NG K a) l S:=λi G H n f=>by
 obtain⟨q,g⟩:=h G H n f;refine⟨λd o=>?_,λr=>⟨b,q,by rwa [<-dl.length]⟩⟩;obtain⟨v,j,p⟩:=dl.get o;refine⟨⟨b,v,q,j⟩,λx s ⟨e,y⟩=>?_⟩;subst e;have z:=y b q;rw[j]at z;cases z;exact⟨G,Ext.refl f,p.mono g⟩
def Uh{K:KA}{a:Addr}{m:Hp}{l:List D}{b:List V}{S:Hp->Hp->Prop}(h:∀G H,S G H->bc G H->m3 K H a b/\bc m G)(dl:br K m l b):xm K (NC K a) l S:=λi G H n f=>by
 obtain⟨q,g⟩:=h G H n f;refine⟨λd o=>?_,λr=>⟨b,q,by rwa [<-dl.length]⟩⟩;obtain⟨v,j,p⟩:=dl.get o;refine⟨⟨b,v,q,j⟩,λx s ⟨e,y⟩=>?_⟩;subst e;have z:=y b q;rw[j]at z;cases z;exact⟨G,Ext.refl f,p.mono g⟩
def ji(lo:Int)(n:Nat):List D:=(aS n).map λ(i:Nat)=>.int (lo+i)
noncomputable def cy(r:En->dg):En->dg:=λδ=>match r δ with
 |.ok [.int j]=>if -(2 ^ 62)<=j/\j<2 ^ 62 then .ok (ji 0 j.toNat)else .st
 |.ok [.int i,.int j]=>if(-(2 ^ 62)<=i/\i<2 ^ 62)/\(-(2 ^ 62)<=j/\j<2 ^ 62)then .ok (ji i (j - i).toNat)else .st
 |.ok _=>.st
 |.er c=>.er c
 |.st=>.st
def FI{K:KA}{lo:Int}{n:Nat}{S:Hp->Hp->Prop}:xm K (NF lo n) (ji lo n) S:=λi G H l h=>by
 refine⟨λd a=>?_,λb=>?_⟩
 ·unfold ji at a;rw[bJ]at a;cases e:(aS n)[i]? with
  |none=>rw[e]at a;cases a
  |some j=>
   rw[e]at a;have f:i<n:=by
    have:=(List.getElem?_eq_some_iff.mp e).1;rwa [bZ]at this
   rw[kH f]at e;cases e;cases a;exact⟨f,by rintro x m ⟨z,y⟩;subst z;exact⟨G,Ext.refl h,y⟩⟩
 ·unfold ji at b;rw[aF,bZ]at b;exact b
def gr.one{K:KA}{G H:Hp}{m:Bool}{d:D}{a:List V}(h:gr K G H [m] [d] a):∃v,a=[v]/\Arg K G H d v:=by
 obtain⟨p,o,v,l,j,i,b,n,f⟩:=h;cases j;subst f;refine⟨v,i,?_⟩;cases m
 ·exact .inl b
 ·exact b
def gr.two{K:KA}{G H:Hp}{m i:Bool}{d f:D}{a:List V}(h:gr K G H [m,i] [d,f] a):∃v u,a=[v,u]/\Arg K G H d v/\Arg K G H f u:=by
 obtain⟨r,q,v,p,n,l,b,j⟩:=h;cases n;obtain⟨u,z,o⟩:=gr.one j;subst z;refine⟨v,u,l,?_,o⟩;cases m
 ·exact .inl b
 ·exact b
def IM(q:eT E G H (cy r δ) P):eT E G H (r δ) λb=>
  (∃j,b=[.int j]/\-(2 ^ 62)<=j/\j<2 ^ 62/\P (ji 0 j.toNat))\/∃i j,b=[.int i,.int j]/\(-(2 ^ 62)<=i/\i<2 ^ 62/\-(2 ^ 62)<=j/\j<2 ^ 62)/\P (ji i (j - i).toNat):=by
 unfold cy at q;cases e:r δ with
 |ok b=>
  rw[e]at q;split at q
  ·rename_i z;cases z;split at q
   ·rename_i a;exact .inl ⟨_,rfl,a.1,a.2,q⟩
   ·exact q.elim
  ·rename_i z;cases z;split at q
   ·rename_i a;exact .inr ⟨_,_,rfl,⟨a.1.1,a.1.2,a.2.1,a.2.2⟩,q⟩
   ·exact q.elim
  ·exact q.elim
  ·rename_i z;cases z
  ·rename_i z;cases z
 |er c=>rw[e]at q;exact q
 |st=>rw[e]at q;exact q
def Oi{a:Expr}{m:Bool}{r:En->dg}{p:Pos}(h:Gl X "range")(f:X.mg "range"=none)(l:M9 X B E [m] [a] r)(d:bM [a] X.env=[(false,eval a X.env)]:=by rfl):Sd X B E tg (.Call (.Name "range" p) [a] [] pos) (cy r):=
 PI.imp (Qz h f l d) λZ H R ⟨G,δ,w,q⟩=>⟨G,δ,w,(IM q).mono λA _ q z y x s b=>by
  obtain ⟨j,rfl,o,n,q⟩|⟨i,j,rfl,_⟩:=q
  ·obtain⟨v,rfl,u⟩:=gr.one b;exact⟨j,by rw[u.int],o,n,q _ y x s FI⟩
  ·have:=b.length.1;simp at this⟩
def V7(h:Sd X B E tg iter r):O4 X B E tg iter r:=PI.imp h (by rintro Z H R ⟨G,δ,a,q⟩;exact⟨G,δ,a,q.mono λm _ q J l f e ok=>q J l f e λi j d x b=>ok i j d ⟨x.gg,(a.bh.trans e.hh).trans x.hh⟩ b⟩)
structure sP(X:Cx)(B:Hp)(tge:Expr)(gl:TG)(tgD:D->En->Option En):Prop where
 pg:PG X tge gl
 ok:∀{G H:Hp}{Z:St}{δ δ':En}{d:D}{v:V}{Q:St->Hp->Prop},c5 (kx X) B G H Z δ->Den (kx X) G d v->tgD d δ=some δ'->(∀σ',c5 (kx X) B G H σ' δ'->Q σ' H)->gl v Z H Q
def a0(i:Nat):D->En->Option En:=λd δ=>some (δ.set i (.pu d))
def CP(h:PG X (.Name x p) (sk i)):sP X B (.Name x p) (sk i) (a0 i):=⟨h,λR a e q=>by
 cases e;exact q _ (R.set a)⟩
noncomputable def ft(a:D->En->Option En)(r:En->dg)(F:En->Out):En->Out:=λδ=>match r δ with
 |.ok b=>turns a F b δ
 |.er c=>.er c
 |.st=>.st
def PZ{K:KA}{a:D->En->Option En}{r:En->dg}{G H:Hp}{δ:En}{D:Ends}(e:Ext G0 B G H)(q:il K G0 B E G (ft a r F δ) D):eT E G H (r δ) λb=>il K G0 B E G (turns a F b δ) D:=by
 unfold ft at q;cases er:r δ with
 |ok b=>rw[er]at q;exact q
 |er c=>rw[er]at q;exact λf d x=>q f d (e.trans x)
 |st=>rw[er]at q;exact q
def MJ{gl:TG}{n:D->En->Option En}{r:En->dg}(hp:nO (bB X.prog X.w) X.A X.env X.xe)(hc:X.calm=true)(hi:Sd X B E tg iter r)(hg:sP X B tg gl n)(hb:zg X G0 B E ss F)
  (hs:∀x,fV iter X.env x=pure x:=by intro _;rfl):vm X G0 B E (.For tg iter ss [] pos) (ft n r F):=
 PS.imp (L8 hp hc hi hg.pg hb hs) λD Z H ⟨G,δ,R,e,q⟩=>⟨G,δ,R,(PZ e q).mono λf _ q J N H1 Y ok=>by
  refine⟨λi m Z H=>m=f.length - i/\i<=f.length/\∃o l,bc N o/\c5 _ B o H Z l/\Ext G0 B o H/\il _ G0 B E o (turns n F (f.drop i) l) D,
   ⟨f.length,by simp,bX _,N,δ,bc.refl N,R.ext Y,e.trans Y,il.same Y.gg q⟩,?_⟩
  rintro i m O H2 ⟨rfl,ξ,o,l,s2,R2,x2,a⟩
  obtain⟨T,Q⟩:=ok i o H2 ⟨s2,R2.bh⟩ R2.gh
  by_cases M:i<f.length
  ·obtain⟨go,yl⟩:=T f[i] (by simp[M]);rw[cU M]at a;refine .inr ⟨go,λb p=>i+1<=f.length/\∃v j,bc N v/\c5 _ B v p b j/\Ext G0 B v p/\il _ G0 B E v _ D,
    by rintro b p ⟨n1,n2⟩;exact⟨f.length - _,by lia,rfl,n1,n2⟩,λx H3 y=>?_⟩
   obtain⟨v,u,dn⟩:=yl x H3 y;unfold turns at a;cases U:n f[i] l with
   |none=>rw[U]at a;exact a.elim
   |some j=>
    rw[U]at a;dsimp only at a;refine hg.ok (R2.ext u) dn U λη R3=>⟨v,j,R3,x2.trans u,?_⟩;have s3:=s2.trans u.gg;cases ef:F j with
    |nx h=>
     rw[ef]at a;exact λb L p s I C=>⟨M,L,h,s3.trans s,I,C,il.same (u.gg.trans s) a⟩
    |ct h=>
     rw[ef]at a;exact λb L p s I C=>⟨M,L,h,s3.trans s,I,C,il.same (u.gg.trans s) a⟩
    |bk h=>
     rw[ef]at a;exact λb L p s I C=>a b L p (u.gg.trans s) I C
    |rt d=>rw[ef]at a;exact a
    |er c=>rw[ef]at a;exact a
    |st=>rw[ef]at a;exact a
  ·have z:i=f.length:=by lia
   subst z;rw[mH]at a;exact .inl ⟨Q (aJ _),a O o H2 (bc.refl o) R2 x2⟩⟩
def cz:List Bool->List D->En
 |_,[]=>[]
 |true::a,d::b=>.bo d::cz a b
 |false::a,d::b=>.pu d::cz a b
 |[],_::_=>[]
def g7:Out->Res
 |.rt d=>.ok d
 |.nx _=>.ok .hZ
 |.er c=>.er c
 |_=>.st
def OB(b:List Bool)(n:Nat)(F:En->Out)(a:List D):Res:=g7 (F (cz b a++bY (n - a.length) .no))
inductive qY(K:KA)(ms:List Bool)(f:List D->Res)(vs:List V)(H:Hp)(Q:VK)(E:XK):Prop
 |mk (_:vs.length=ms.length) (_:tD H) (G ds) (_:bc G H) (_:gr K G H ms ds vs) (_:c7 (ek K E) G H (f ds) λd=>∀v G' H',Ext G H G' H'->Den K G' d v->Q v H'):qY K ms f vs H Q E
def Pp{K:KA}{G H:Hp}:∀{b:List Bool}{l:List D}{j:List V},gr K G H b l j->(cz b l).length=j.length:=by
 intro a;induction a with
 |nil=>rintro _ _ ⟨i,h⟩;subst i;subst h;rfl
 |cons m b f=>
  rintro _ _ ⟨d,q,v,o,i,h,p,n⟩
  subst i;subst h;cases m<;>simp only[cz,aE,(f n)]
def xr{K:KA}{G H:Hp}:∀{l:List Bool}{x:List D}{o:List V},gr K G H l x o->∀(i:Nat) s,(cz l x)[i]?=some s->s.own=false/\∃v,o[i]?=some v/\pa K H G H s (some v):=by
 intro b;induction b with
 |nil=>rintro _ _ ⟨n,w⟩ i s q;subst n;simp[cz]at q
 |cons m l a=>
  rintro _ _ ⟨d,z,v,y,n,w,r,p⟩ i s q
  subst n;subst w;cases i with
  |zero=>
   cases m with
   |true=>
    simp only[cz,fX,Option.some.injEq]at q;subst q;exact⟨rfl,v,rfl,v,rfl,r⟩
   |false=>
    simp only[cz,fX,Option.some.injEq]at q;subst q;exact⟨rfl,v,rfl,v,rfl,r⟩
  |succ i=>
   cases m with
   |true=>
    obtain⟨j,u,h,f⟩:=a p i s q;exact⟨j,u,by simpa using h,f⟩
   |false=>
    obtain⟨j,u,h,f⟩:=a p i s q;exact⟨j,u,by simpa using h,f⟩
def Kp{K:KA}{G H:Hp}{o:List Bool}{d:List D}{l:List V}{N:List Str}(C:tD H)(s:bc G H)(h:gr K G H o d l):c5 K H G H (L2.ro N l) (cz o d++bY (N.length - d.length) .no):=by
 have r:=Pp h;obtain⟨y,x⟩:=h.length;have b:∀(i:Nat) t,(cz o d++bY (N.length - d.length) Sl.no)[i]?=some t->t=.no\/(i<l.length/\_[i]?=some t):=λi t q=>by
  by_cases z:i<(cz o d).length
  ·rw[cA z]at q;exact .inr ⟨by rwa [<-r],q⟩
  ·rw[cK (by lia)]at q;have:=bR q;exact .inl (List.eq_of_mem_replicate this)
 refine⟨bc.refl H,s,?_,λi t q=>?_,λi t a p n m=>?_,λi j t u a p n m M L J=>?_,C⟩
 ·unfold L2.ro;rw[aM,aM,aF,dN,dN,r,y,x]
 ·rcases b i t q with rfl|⟨w,f⟩
  ·have A:i<(L2.ro N l).length:=by
    have:=(List.getElem?_eq_some_iff.mp q).1;rw[aM,dN,r]at this;unfold L2.ro;rw[aM,aF,dN]
    lia
   exact⟨_,aW A,trivial⟩
  ·obtain⟨_,v,I,ok⟩:=xr h i t f;refine⟨some v,?_,ok⟩;unfold L2.ro;rw[cA (by rw[aF];exact w),bJ,I];rfl
 ·rcases b i t p with rfl|⟨w,f⟩
  ·cases n
  ·obtain⟨z,_⟩:=xr h i t f;rw[z]at n;cases n
 ·rcases b i t p with rfl|⟨w,f⟩
  ·cases m
  ·obtain⟨z,_⟩:=xr h i t f;rw[z]at m;cases m
def AQ{K:KA}{G H:Hp}{E:EK}{Q:VK}{o:Out}(s:bc G H)(h:c7 E G H (g7 o) λd=>∀v b a,Ext G H b a->Den K b d v->Q v a):
  il K G H E G o {nx:=λ_ a=>Q .hZ a,rt:=Q}:=by
 cases o with
 |nx δ=>exact λf b a _ _ e=>h .hZ b a e rfl
 |bk δ=>exact h.elim
 |ct δ=>exact h.elim
 |rt d=>exact λv b a e i=>h v b a e i
 |er c=>exact h
 |st=>exact h
end
section
variable{X:Cx}{B:Hp}{E:EK}{e:Expr}{es:List Expr}{pos p:Pos}{x:Str}
noncomputable def ah(f:List D->Res)(r:En->dg):En->Res:=λδ=>match r δ with
 |.ok a=>f a
 |.er c=>.er c
 |.st=>.st
def DZ(q:c7 E G H (ah f r δ) P):eT E G H (r δ) λa=>c7 E G H (f a) P:=by
 unfold ah at q;cases e:r δ with
 |ok a=>rw[e]at q;exact q
 |er c=>rw[e]at q;exact q
 |st=>rw[e]at q;exact q
def BS{E:XK}(F:i0 X.prog X.w X.K X.mg X.base T k f y g (qY (kx X) h z))(j:gy k X.A)(n:Gl X x)(l:X.mg x=some (.ref f))(m:dP X.K (.ref f)=true)
  (s:Binds X.K y g [])(i:lx T X E)(u:M9 X B (ek (kx X) E) h (e::es) r)(c:(x==("__debug__":Str))=false:=by decide)(o:bM (e::es) X.env=(false,eval e X.env)::bM es X.env:=by rfl)(b:(fF pos (bM es X.env)).any (·.1)=false:=by rfl):
  gj X B (ek (kx X) E) (.Call (.Name x p) (e::es) [] pos) (ah z r):=
 PE.imp (AN F j n l m s .nil i u c o b) λZ H Q ⟨G,δ,R,q⟩=>⟨G,δ,R,(DZ q).mono λI _ q U N Y a L=>
  ⟨by rw[bT];exact L.length.2,R.gb.same (R.bh.trans a.hh),N,I,a.gh,by rwa [bT],(q.ext a).mono λd _ q v O M C J=>q v O M (a.trans C) J⟩⟩
def Wk{E:XK}(F:i0 X.prog X.w X.K X.mg X.base n k f l b (qY (kx X) [] m))(d:gy k X.A)(i:Gl X x)(g:X.mg x=some (.ref f))(h:dP X.K (.ref f)=true)
  (j:Binds X.K l b [])(c:lx n X E)(a:(x==("__debug__":Str))=false:=by decide):gj X B (ek (kx X) E) (.Call (.Name x p) [] [] pos) (λ_=>m []):=
 PE.imp (Vx F d i g h j .nil c a) (by rintro Z H Q ⟨G,δ,R,q⟩;exact⟨rfl,R.gb.same R.bh,G,[],R.gh,⟨rfl,rfl⟩,q⟩)
end
mutual
def cf:D->Option jD
 |.hZ=>some .none
 |.bl b=>some (.bool b)
 |.int i=>some (.int i)
 |.str x=>some (.str x)
 |.tup ds=>match c9 ds with
  |some ps=>some (.tuple ps)
  |none=>none
 |.lst ds=>match c9 ds with
  |some ps=>some (.list ps)
  |none=>none
 |.ja _ _=>none
 |.obj _ _=>none
 |.fn _=>none
def c9:List D->Option (List jD)
 |[]=>some []
 |d::ds=>match cf d with
  | some p => (match c9 ds with
   |some ps=>some (p::ps)
   |none=>none)
  |none=>none
end
section
variable{X:Cx}{pins:List (Addr×Obj)}{Z:St}{G H:Hp}{s:aI}
mutual
theorem B6(I:Inv X pins Z H s)(sg:bc G H):∀{d:D}{v:V}{u:aG}{p:jD},Den (kx X) G d v->RelV v u->cf d=some p->∃as,oF s.1 u p as
 |.hZ,v,u,p,h,r,e=>by
  cases (show v=.hZ from h);cases (show u=eK from r);cases e;exact⟨_,Reads.none⟩
 |.bl b,v,u,p,h,r,e=>by
  cases (show v=.bl b from h);cases (show u=nR b from r);cases e;exact⟨_,Reads.bool b⟩
 |.int i,v,u,p,h,r,e=>by
  cases (show v=.int i from h);obtain⟨t,q⟩:=(show∃t,u=pW i t from r);cases q;cases e;exact⟨_,Reads.int i t⟩
 |.str x,v,u,p,h,r,e=>by
  cases (show v=.str x from h);obtain⟨t,q⟩:=(show∃t,u=Value.str x t from r);cases q;cases e;exact⟨_,Reads.str x t⟩
 |.tup ds,v,u,p,h,r,e=>by
  obtain⟨a,vs,rfl,sq,dl⟩:=h;cases (show u=fU a from r);unfold cf at e;cases e2:c9 ds with
  |none=>rw[e2]at e;cases e
  |some ps=>
   rw[e2]at e;cases e;obtain⟨its,rv,⟨o,ho,hc,n,hd⟩,_⟩:=I.tuple (m3.of (sg _ _ sq));obtain⟨as,ra⟩:=ui I sg dl rv e2;exact⟨as,Reads.tuple ho hc hd (by simpa using ra)⟩
 |.lst ds,v,u,p,h,r,e=>by
  obtain⟨a,vs,rfl,sq,dl⟩:=h;cases (show u=fU a from r);unfold cf at e;cases e2:c9 ds with
  |none=>rw[e2]at e;cases e
  |some ps=>
   rw[e2]at e;cases e;obtain⟨its,rv,pl,_⟩:=I.list (fD.mono sg sq);obtain⟨o,ho,hc,n,hd⟩:=pl.isList;obtain⟨as,ra⟩:=ui I sg dl rv e2;exact⟨_,Reads.list ho hc hd (by simpa using ra)⟩
 |.ja _ _,_,_,_,_,_,e=>by cases e
 |.obj _ _,_,_,_,_,_,e=>by cases e
 |.fn _,_,_,_,_,_,e=>by cases e
theorem ui(I:Inv X pins Z H s)(sg:bc G H):∀{ds:List D}{vs:List V}{us:List aG}{ps:List jD},br (kx X) G ds vs->Vals vs us->c9 ds=some ps->∃as,ReadsAll s.1 us ps as
 |[],vs,us,ps,h,r,e=>by
  cases (show vs=[]from h);cases r;cases e;exact⟨_,ReadsAll.nil⟩
 |d::ds,vs,us,ps,h,r,e=>by
  obtain⟨v,vr,rfl,dv,dl⟩:=h;cases r with
  |cons rv rr=>
   unfold c9 at e;cases e1:cf d with
   |none=>rw[e1]at e;cases e
   |some p=>
    rw[e1]at e;dsimp only at e;cases e2:c9 ds with
    |none=>rw[e2]at e;cases e
    |some ps'=>
     rw[e2]at e;cases e;obtain⟨as,ra⟩:=B6 I sg dv rv e1;obtain⟨bs,rb⟩:=ui I sg dl rr e2;exact⟨_,ReadsAll.cons ra rb⟩
end
def cv(I:Inv X pins Z H s)(c:bc G H)(h:Arg (kx X) G H d v)(r:RelV v u)(e:cf d=some p):∃f,oF s.1 u p f:=by
 obtain h|⟨z,a,A,rfl,rfl,g,dl⟩|⟨t,m,a,rfl,_⟩:=h
 ·exact B6 I c h r e
 ·cases (r);unfold cf at e;cases b:c9 z with
  |none=>rw[b]at e;cases e
  |some B=>
   rw[b]at e;cases e;obtain⟨q,i,l,_⟩:=I.list g;obtain⟨o,w,y,n,x⟩:=l.isList;obtain⟨f,j⟩:=ui I c dl i b;exact⟨_,Reads.list w y x (by simpa using j)⟩
 ·cases e
end
def Rz(d e:D):Option Bool:=match cf d,cf e with
 |some p,some q=>if bU p && bU q then some (cV p q)else none
 |_,_=>none
def gu(d e:D):Option D:=(Rz d e).map .bl
def jm(d e:D):Option D:=(Rz d e).map λb=>.bl !b
def Gv(h:Rz d e=some b):∃p q,cf d=some p/\cf e=some q/\bU p=true/\bU q=true/\b=cV p q:=by
 unfold Rz at h;cases c:cf d with
 |none=>rw[c]at h;cases h
 |some p=>
  cases f:cf e with
  |none=>rw[c,f]at h;cases h
  |some q=>
   rw[c,f]at h;dsimp only at h
   by_cases a:(bU p && bU q)=true
   ·rw[aN a]at h;cases h;rw[bA]at a;exact⟨p,q,rfl,rfl,a.1,a.2,rfl⟩
   ·rw[aK a]at h;cases h
section
variable{X:Cx}{B:Hp}{E:EK}{e a b:Expr}{es:List Expr}{g h:En->Res}{pos:Pos}
inductive r8(K:KA)(neg:Bool)(x:V)(y:V)(H:Hp)(Q:VK):Prop
 |mk (G dx dy b) (_:bc G H) (_:Arg K G H dx x) (_:Arg K G H dy y) (_:Rz dx dy=some b) (_:Q (.bl (if neg then !b else b)) H):r8 K neg x y H Q
def GN(o:X.A.units+64<cZ):kO X (dX .Eq) (r8 (kx X) false):=by
 intro d s Z H x y v u Q I l j q;obtain⟨G,N,M,b,c,J,C,r,q⟩:=q;obtain⟨p,L,z,w,i,f,rfl⟩:=Gv r;obtain⟨O,n⟩:=cv I c J l z;obtain⟨bs,m⟩:=cv I c C j w;exact eq_dataH n m i f o ⟨.bl _,H,I,rfl,q⟩
def GI(o:X.A.units+64<cZ):kO X (dX .NotEq) (r8 (kx X) true):=by
 intro d s Z H x y v u Q I l j q;obtain⟨G,N,M,b,c,J,C,r,q⟩:=q;obtain⟨p,L,z,w,i,f,rfl⟩:=Gv r;obtain⟨O,n⟩:=cv I c J l z;obtain⟨bs,m⟩:=cv I c C j w;exact ne_dataH n m i f o ⟨.bl _,H,I,rfl,q⟩
def AC{K:KA}:ic K gu (r8 K false):=λG H x y j i d f m l c Q q=>by
 unfold gu at c;cases e:Rz j i with
 |none=>rw[e]at c;cases c
 |some b=>rw[e]at c;cases c;exact⟨G,j,i,b,f,m,l,e,q _ G H (Ext.refl f) rfl⟩
def BZ{K:KA}:ic K jm (r8 K true):=λG H x y j i d f m l c Q q=>by
 unfold jm at c;cases e:Rz j i with
 |none=>rw[e]at c;cases c
 |some b=>rw[e]at c;cases c;exact⟨G,j,i,b,f,m,l,e,q _ G H (Ext.refl f) rfl⟩
def Bt{o:Option Bool}{f:Bool->Bool}(h:(o.map λb=>D.bl (f b))=some d):∃b,d=.bl b:=by
 cases o with
 |none=>cases h
 |some b=>cases h;exact⟨_,rfl⟩
def JG(f:Int->Int->Option D):D->D->Option D
 |.int i,.int j=>f i j
 |_,_=>none
def D0:D->D->Option D:=JG λi j=>some (.int (i - j))
def B5:D->D->Option D:=JG λi j=>if 0<j then some (.int (i % j))else none
def HS{K:KA}{f:Int->Int->Option D}{C:Int->Int->Prop}{r:Int->Int->V}(n:∀i j d,f i j=some d->C i j/\∀G,Den K G d (r i j)):ic K (JG f) (rI C r):=λG H x y p o d m v u l Q q=>by
 cases p with
 |int i=>
  cases o with
  |int j=>
   obtain⟨c,s⟩:=n i j d l;exact⟨i,j,v.int,u.int,c,q _ G H (Ext.refl m) (s G)⟩
  |_=>cases l
 |_=>cases l
def Om{K:KA}{f:Int->Int->Option D}{r:Int->Int->V}(m:∀i j d,f i j=some d->∀G,Den K G d (r i j)):ic K (JG f) (sL r):=λG H x y o n d l s p c Q q=>by
 cases o with
 |int i=>
  cases n with
  |int j=>exact⟨i,j,s.int,p.int,q _ G H (Ext.refl l) (m i j d c G)⟩
  |_=>cases c
 |_=>cases c
def IV(f:k9 X B E a g)(c:k9 X B E b h):gj X B E (.BinOp a .Sub b pos) (g2 D0 g h):=On GH (Om λi j d e G=>by cases e;rfl) f c
def HB(l:k9 X B E a g)(f:k9 X B E b h):gj X B E (.BinOp a .Mod b pos) (g2 B5 g h):=On GK (HS λi j d e=>by
 by_cases c:0<j
 ·rw[aN c]at e;cases e;exact⟨c,λ_=>rfl⟩
 ·rw[aK c]at e;cases e) l f
def y7(f:Int->Int->Bool):D->D->Option D:=JG λi j=>some (.bl (f i j))
def MO:D->D->Option D:=y7 λi j=>decide (i<j)
def Wb{K:KA}{f:Int->Int->Bool}:ic K (y7 f) (sL λi j=>.bl (f i j)):=Om λi j d e G=>by cases e;rfl
def EC:∀x y d,y7 f x y=some d->∃b,d=.bl b:=λx y d h=>by
 unfold y7 JG at h;split at h
 ·exact⟨_,(bN h).symm⟩
 ·cases h
noncomputable def Ex(f c:D->D->Option D)(g h k:En->Res):En->Res:=λδ=>(g δ).bind λx=>(h δ).bind λy=>(Res.of (f x y)).bind λz=>match z with
 |.bl true=>(k δ).bind λw=>Res.of (c y w)
 |.bl false=>.ok (.bl false)
 |_=>.st
def Sy{K:KA}{k:En->Res}{f A:D->D->Option D}{r z:R2}(O:ic K f r)(m:ic K A z){Z:St}{H:Hp}{Q:VK}(q:uH K B E (Ex f A g h k) Z H Q):Mu r z (tH K B E g) (tH K B E h) (tH K B E k) Z H Q:=by
 obtain⟨G,δ,R,q⟩:=q;refine⟨G,δ,R,(c7.bind q).mono λY _ M x G1 H1 s ax=>⟨G1,δ,R.ext s,((c7.bind M).ext s).mono λC _ L y G2 H2 p I=>?_⟩⟩;have i:=s.trans p;obtain⟨d,T,c⟩:=c7.of (c7.bind L);refine O G2 H2 x y Y C d p.gh (ax.ext p) I T _ λv J H3 j u=>?_;cases d with
 |bl t=>
  refine⟨t,u,?_⟩;cases t with
  |true=>
   refine⟨J,δ,R.ext (i.trans j),((c7.bind c).ext (i.trans j)).mono λdw _ N w G4 H4 o aw=>?_⟩;obtain⟨d',n,l⟩:=c7.of N;exact m G4 H4 y w C dw d' o.gh ((I.ext j).ext o) aw n Q λv G5 H5 U u=>l v G5 H5 (((i.trans j).trans o).trans U) u
  |false=>exact c _ J H3 (i.trans j) rfl
 |hZ=>exact c.elim
 |int _=>exact c.elim
 |str _=>exact c.elim
 |tup _=>exact c.elim
 |lst _=>exact c.elim
 |ja _ _=>exact c.elim
 |obj _ _=>exact c.elim
 |fn _=>exact c.elim
def Wl(o:kO X (dX l) r)(n:ic (kx X) f r)(j:kO X (dX d) m)(i:ic (kx X) w m)(v:k9 X B E a g)(u:k9 X B E b h)(s:k9 X B E c k)
  (p:pY [l,d] [b,c]=false:=by with_unfolding_all rfl):gj X B E (.Compare a [l,d] [b,c] pos) (Ex f w g h k):=PE.imp (Vy o j v u s p) λZ H Q q=>Sy n i q
def Q5{c:Expr}{k:En->Res}{j i:CmpOp}{f n:D->D->Option D}{r o:R2}(u:kO X (dX j) r)(s:ic (kx X) f r)(m:kO X (dX i) o)(l:ic (kx X) n o)(A:∀x y d,n x y=some d->∃b,d=.bl b)(I:k9 X B E a g)(C:k9 X B E b h)(z:k9 X B E c k)
  (w:pY [j,i] [b,c]=false:=by with_unfolding_all rfl):Fz X B E (.Compare a [j,i] [b,c] pos) (Ex f n g h k):=
 PT.imp (Wh u m I C z w) λZ H Q ⟨G,δ,R,q⟩=>Sy s l ⟨G,δ,R,q.mono<|by
  rintro d T ⟨b,J,p⟩ v O N L M
  subst J;exact⟨b,M,p O N L⟩⟩
noncomputable def bu:D->D->Option D
 |.int i,.int j=>some (.int (i+j))
 |.str x,.str y=>if x.length+y.length<=aQ then some (.str (x++y))else none
 |.lst xs,.lst c=>if xs.length+c.length<=aQ then some (.lst (xs++c))else none
 |.tup xs,.tup c=>if xs.length+c.length<=aQ then some (.tup (xs++c))else none
 |_,_=>none
inductive sh(K:KA)(x:V)(y:V)(H:Hp)(Q:VK):Prop
 |mk (G dx dy d) (_:bc G H) (_:Arg K G H dx x) (_:Arg K G H dy y) (_:bu dx dy=some d) (_:∀v G' H',Ext G H G' H'->Den K G' d v->Q v H'):sh K x y H Q
def Sk{j:bH}{w:bV}{A:cB}{E:aG->aI->Prop}{s:aI}{l b:Addr}{i f:List aG}{Q:aG->aI->Prop}(z:PlainL s.1 l i.toArray)(C:PlainL s.1 b f.toArray)(y:i.length+f.length<=aQ)
  (h:Q (.ref s.1.1.size) {s with heap:=s.1.push {cls:=.type "list",data:=.seq (i++f).toArray}}):bF (bB j w) A (jI .Add (.ref l) (.ref b)) Q E s:=by
 obtain⟨⟨cls,L,data,u⟩,n,p,c,d,q⟩:=z;obtain⟨⟨r,H,data2,o⟩,x,m,J,I,v⟩:=C;subst c d q J I v;have G:i.toArray++f.toArray=(i++f).toArray:=by simp
 refine pB ⟨_,p,rfl⟩ ⟨_,m,rfl⟩ noFill_list_add seq_list_add PySem.F.slot_list_add PySem.F.entry_list_add (PySem.F.args_list_add_2 _ _) (list_addW l b i.toArray f.toArray n x _ _ u o (by simpa using y)) ⟨p,m,?_⟩;rwa [G]
def Sw{c:bH}{w:bV}{A:cB}{E:aG->aI->Prop}{s:aI}{t b:Addr}{f o:List aG}{Q:aG->aI->Prop}(x:IsTup s.1 t f.toArray)(C:IsTup s.1 b o.toArray)(v:f=[])(G:Q (.ref b) s):
  bF (bB c w) A (jI .Add (.ref t) (.ref b)) Q E s:=by
 obtain⟨⟨cls,H,data,r⟩,p,z,n,y⟩:=id x;obtain⟨⟨q,m,data2,i⟩,d,l,u,j⟩:=id C;subst z y l j;exact pB ⟨_,p,rfl⟩ ⟨_,d,rfl⟩ oR seq_tuple_add lJ kZ (kL _ _)
  (tuple_addW0 t b f.toArray o.toArray n u H m r i (by simp[v])) ⟨p,d,G⟩
def AX:kO X (jI .Add) (sh (kx X)):=by
 intro i s Z H x y v u Q I o n q;obtain⟨G,dx,dy,d,f,C,A,c,q⟩:=q;unfold bu at c;split at c
 ·cases c;rw[C.int]at o;rw[A.int]at n;exact GO i s Z H _ _ _ _ Q I o n ⟨_,_,rfl,rfl,q _ G H (Ext.refl f) rfl⟩
 ·split at c
  ·rename_i hz;cases c;rw[C.str]at o;rw[A.str]at n;exact Ly i s Z H _ _ _ _ Q I o n ⟨_,_,rfl,rfl,hz,q _ G H (Ext.refl f) rfl⟩
  ·cases c
 ·split at c
  ·cases c;obtain⟨l,M,rfl,J,dl⟩:=C.lst f;obtain⟨b,Y,rfl,m,j⟩:=A.lst f;cases o;cases n;obtain⟨O,L,pl,_⟩:=I.list J;obtain⟨w,r,N,_⟩:=I.list m;have l1:=dl.length;have l2:=j.length;have l3:=L.length;have l4:=r.length;refine Sk pl N (by lia) ⟨.ref _,_,I.vY (L.append r) (by rw[aM];lia),rfl,?_⟩;exact q _ _ _ (Ext.new f _ I.fresh) (vy f I.fresh (dl.append j))
  ·cases c
 ·split at c
  ·rename_i xs U hz;cases c;obtain⟨l,M,rfl,J,dl⟩:=C.tup f;obtain⟨b,Y,rfl,m,j⟩:=A.tup f;have l1:=dl.length;have l2:=j.length
   by_cases T:M=[]
   ·cases o;cases n;obtain⟨O,L,p1,_⟩:=I.tuple J;obtain⟨w,r,p2,_⟩:=I.tuple m;refine Sw p1 p2 (L.p5.mpr T) ⟨.ref b,H,I,rfl,?_⟩;subst T;have:xs=[]:=by cases xs with
     |nil=>rfl
     |cons _ _=>simp at l1
    subst this;obtain ad|⟨_,_,_,z,_⟩|⟨_,_,_,z,_⟩:=A
    ·exact q _ G H (Ext.refl f) ad
    ·cases z
    ·cases z
   ·refine AW i s Z H _ _ _ _ Q I o n ⟨l,b,M,Y,rfl,rfl,J,m,T,by lia,λz=>?_,λz p hp=>?_⟩
    ·subst z;have:U=[]:=by cases U with
      |nil=>rfl
      |cons _ _=>simp at l2
     subst this;rw[bT]at q;obtain ad|⟨_,_,_,z,_⟩|⟨_,_,_,z,_⟩:=C
     ·exact q _ G H (Ext.refl f) ad
     ·cases z
     ·cases z
    ·exact q _ _ _ (Ext.new f _ hp) (sj f hp (dl.append j))
  ·cases c
 ·cases c
def Wa{K:KA}:ic K bu (sh K):=λG H x y j i d c m l f Q q=>⟨G,j,i,d,c,m,l,f,q⟩
def HN(d:k9 X B E a g)(c:k9 X B E b h):gj X B E (.BinOp a .Add b pos) (g2 bu g h):=On AX Wa d c
def br.qM{K:KA}{G:Hp}{f:List D}{c:List V}{i:Int}{d:D}(dl:br K G f c)(h:qM f i=some d):∃v,qM c i=some v/\Den K G d v:=by
 unfold L2.qM at h⊢;rw[dl.length]at h;cases e:DO c.length i with
 |none=>rw[e]at h;cases h
 |some j=>
  rw[e]at h;exact dl.get h
def Yp{K:KA}{f:D->Option D}{rr:List V->Hp->VK->Prop}(o:∀G H x i d,bc G H->Arg K G H i x->f i=some d->∀Q:VK,(∀v l j,Ext G H l j->Den K l d v->Q v j)->rr [x] H Q){Z:St}{H:Hp}{Q:VK}(q:uH K B E (g1 f g) Z H Q):
  QY rr (vO K B E [true] (au g af)) Z H Q:=by
 obtain⟨G,δ,R,q⟩:=q;refine⟨G,δ,R,?_⟩;unfold au;unfold g1 at q;cases e:g δ with
 |ok i=>
  rw[e]at q;obtain⟨d,p,n⟩:=c7.of (q);intro A z y m w;obtain⟨v,rfl,u⟩:=gr.one w;exact o z y v i d m.gh u p Q λv l j r s=>n v l j (m.trans r) s
 |er c=>rw[e]at q;exact q
 |st=>rw[e]at q;exact q
noncomputable def nj:D->Option D
 |.str x=>if x.length<=aQ then some (.int x.length)else none
 |.tup c=>some (.int c.length)
 |.lst c=>some (.int c.length)
 |_=>none
def HD{p:Pos}(u:Gl X "len")(s:X.mg "len"=none)(v:k9 X B E e g)(o:bM [e] X.env=(false,eval e X.env)::bM [] X.env:=by rfl)(m:(fF pos (bM [] X.env)).any (·.1)=false:=by rfl):gj X B E (.Call (.Name "len" p) [e] [] pos) (g1 nj g):=
 PE.imp (og Sv u s PySem.boot_len (ip v je o) (by decide) (by decide) o m) λZ H Q q=>Yp (λG H x w d f n c Q q=>by
  unfold nj at c;split at c
  ·split at c
   ·rename_i r;cases c;rw[n.str];exact⟨_,_,rfl,⟨r,rfl⟩,q _ G H (Ext.refl f) rfl⟩
   ·cases c
  ·cases c;obtain⟨l,i,rfl,j,dl⟩:=n.tup f;exact⟨_,_,rfl,.inr ⟨i,j,dl.length⟩,q _ G H (Ext.refl f) rfl⟩
  ·cases c;obtain⟨l,i,rfl,j,dl⟩:=n.lst f;exact⟨_,_,rfl,.inl ⟨i,j,dl.length⟩,q _ G H (Ext.refl f) rfl⟩
  ·cases c) q
end
end Pu
namespace L2
open PySem PySem.Spec PyProof.Rows
def R9(_:bH)(_:bV):R8:=λ_ _ _ _ _ _=>False
def Qy{E:XK}:lx (R9 P w) X E:=λ_ _ _ _ _ _ _ h=>h.elim
def Acc(_:Cx)(_:XK):Prop:=True
def Acc.sN{X:Cx}{E:XK}(_:Acc X E):lx (R9 X.prog X.w) X E:=Qy
def Al{X:Cx}:Acc X E0:=trivial
def F0{P:bH}{w:bV}{K:aP}{mg:Str->Option aG}{base:Heap}{N:List Str}{d:Str}{a:fK}{f:Addr}{g:aG}{A:cB}{b:List Env}{c:aI}{e:Hp}{E:XK}:
  Acc (zh (R9 P w) P w K mg base N d a f g A b c e E) E:=trivial
end L2
namespace Pu
open PySem PySem.Spec PyProof.Rows L2
def ue(h:a<b):a≠b+1:=by lia
def NA{a b n:Nat}(h:b<n)(e:a=n+2)(z:a=b):False:=by lia
def QH{a n:Nat}(e:a=n+2):a≠n/\n<=a:=by lia
def Vf:b+1≠b:=by lia
instance:Inhabited D:=⟨.hZ⟩
def Ek(I:Nat->aI->Prop)
   (y:∀n s,I n s->bF (bB a w) A (nA it) (λr d=>match r with
   |none=>R (.ok .next) d
   |some v=>bF (bB a w) A (pH f it v) (λ_ d=>bF (bB a w) A (assign f b v) (λ_ q=>
     bF (bB a w) A (forIn H true λc r=>if r=true then do let ok <-isTrue c b (eval c b);pure (nC ok)else pure (nC r)) (λok i=>
      if ok=true then bF (bB a w) A (eval J b) (λx p=>
       bF (bB a w) A (call (.builtin "list.append") [L,x]) (λ_ o=>∃m,m<n/\I m o) (pE (bB a w) A b λe j=>R (.error e) j) p) (pE (bB a w) A b λe j=>R (.error e) j) i
      else∃m,m<n/\I m i) (pE (bB a w) A b λe j=>R (.error e) j) q) (pE (bB a w) A b λe j=>R (.error e) j) d) (pE (bB a w) A b λe j=>R (.error e) j) d) (pE (bB a w) A b λe j=>R (.error e) j) s)
  (n:Nat) (h:I n s):
  iE (bB a w) A (.compLoop (.ListComp J [⟨f,iter,H,0⟩] G M) 0 it L b) R s:=by
 refine codeAny_loop rfl I (λn s N=>?_) n h;refine wpAny_noted ?_;refine aC (wpAny_standAt (aC (cJ (y n s N) (λr d g=>?_) λ_ _ l=>l)));cases r with
 |none=>exact aD g
 |some v=>
  refine aC (cJ g (λ_ E g=>?_) λ_ _ l=>l);refine aC (cJ g (λ_ q C=>aC (cJ C (λok i u=>?_) λ_ _ l=>l)) λ_ _ l=>l);cases ok with
  |false=>exact aD ⟨rfl,u⟩
  |true=>
   exact aC (aC (cJ u (λx p B=>aC (cJ B (λ_ o z=>aD (aD ⟨rfl,z⟩)) λ_ _ l=>l)) λ_ _ l=>l))
noncomputable def ju(a:Env):List (Str×gR)->List (Str×Addr)->Option (List (Str×Addr))
 |[],b=>some b
 | (n, k) :: r, b => if k = .free then (match a.cells.lookup n with
  |some c=>ju a r ((n,c)::b)
  |none=>none)else ju a r b
def Pf(d:Env):∀(b:List (Str×gR))(i f:List (Str×Addr)),ju d b i=some f->
  (forIn b i λx (c:List (Str×Addr))=>(if(x.2==gO)=true then do let a <-cellOf d x.1;pure (nC ((x.1,a)::c))else pure (nC c):Sem _))=pure f:=by
 intro e;induction e with
 |nil=>rintro i f h;cases h;rfl
 |cons e r g=>
  obtain⟨n,k⟩:=e
  rintro i f h
  unfold ju at h;rw[List.forIn_cons]
  by_cases j:k=.free
  ·subst j;cases l:d.cells.lookup n with
   |none=>rw[l]at h;cases h
   |some c=>
    rw[l]at h;have:cellOf d n=pure c:=by unfold cellOf;rw[l]
    simp only[beq_self_eq_true,if_true,this,pure_bind];exact g _ f h
  ·rw[aK j]at h;have m:(k==gO)=false:=by simpa using j
   simp only[m,Bool.false_eq_true,if_false,pure_bind];exact g _ f h
def uq{a:fK}(h:ju b a.names []=some c):closureFor a b=pure c:=(congrArg (λt=>t>>=λd=>pure d) (Pf b a.names [] c h)).trans (pure_bind _ _)
theorem uw(a:Env):∀(b:List (Str×gR))(e d:List (Str×Addr)),ju a b e=some d->(∀p∈e,a.cells.lookup p.1=some p.2)->∀p∈d,a.cells.lookup p.1=some p.2
 |[],e,d,h,q=>by cases h;exact q
 |(n,k)::r,e,d,h,q=>by
  unfold ju at h
  by_cases i:k=.free
  ·subst i;cases g:a.cells.lookup n with
   |none=>rw[g]at h;cases h
   |some c=>
    rw[g]at h;refine uw a r _ d h λp f=>?_;rcases List.mem_cons.mp f with rfl|f
    ·exact g
    ·exact q p f
  ·rw[aK i]at h;exact uw a r _ d h q
def uz:∀{l:List (Str×β)}{x:Str}{c:β},l.lookup x=some c->(x,c)∈l:=by
 intro a;induction a with
 |nil=>rintro _ _ h;simp at h
 |cons a r d=>
  obtain⟨n,b⟩:=a
  rintro x c h
  rw[dF]at h
  by_cases e:x=n
  ·subst e;simp only[beq_self_eq_true]at h;cases h;exact aZ
  ·have f:(x==n)=false:=by simpa using e
   rw[f]at h;exact aY _ (d h)
def Fx(own:List Str)(c:Addr)(a:List (Str×Addr)):List (Str×Addr):=match own with
 |[]=>a
 |x::_=>(x,c)::a
def l7{own:List Str}{c d:Addr}{a:List (Str×Addr)}{y:Str}(h:(Fx own c a).lookup y=some d):a.lookup y=some d\/(y∈own/\@Eq Nat d c):=by
 cases own with
 |nil=>exact .inl h
 |cons x r=>
  have h:(_::a).lookup y=some d:=h;rw[dF]at h
  by_cases e:y=x
  ·subst e;simp only[beq_self_eq_true]at h;cases h;exact .inr ⟨aZ,rfl⟩
  ·have b:(y==x)=false:=by simpa using e
   rw[b]at h;exact .inl h
def S4{own:List Str}{c:Addr}{a:List (Str×Addr)}{y:Str}(h:y∉own):(Fx own c a).lookup y=a.lookup y:=by
 cases own with
 |nil=>rfl
 |cons x r=>
  have b:(y==x)=false:=beq_eq_false_iff_ne.mpr λz=>h (z▸aZ);show(_::a).lookup y=_;rw[dF,b]
def Nj{own:List Str}{c:Addr}{a:List (Str×Addr)}{y:Str}(b:own.length<=1)(h:y∈own):(Fx own c a).lookup y=some c:=by
 match own,b,h with
 |[x],_,h=>
  rw[List.mem_singleton.mp h];show(_::a).lookup x=_;simp
def Ei:∀(b:List (Str×gR))(a:Addr)(d:List (Str×Addr)),mG a b d=mG a (b.filter λy=>y.2==.cell) d:=by
 intro c;induction c with
 |nil=>rintro _ _;exact rfl
 |cons c r e=>
  obtain⟨n,k⟩:=c
  rintro a d
  rw[iR]
  by_cases f:(k==fN)=true
  ·rw[aN f];unfold mG;rw[aN f,aN f];exact e _ _
  ·rw[aK f]
   conv=>lhs;unfold mG
   rw[aK f];exact e _ _
def Je:∀(a:List (Str×gR))(h:Heap),pZ h a=pZ h (a.filter λy=>y.2==.cell):=by
 intro b;induction b with
 |nil=>rintro _;exact rfl
 |cons b r c=>
  obtain⟨n,k⟩:=b
  rintro h
  rw[iR]
  by_cases d:(k==fN)=true
  ·rw[aN d];unfold pZ;rw[aN d,aN d];exact c _
  ·rw[aK d]
   conv=>lhs;unfold pZ
   rw[aK d];exact c _
def Ya{M:Model}{A:cB}{E:aG->aI->Prop}{s:aI}{a:fK}{g:Addr}{m:List (Str×Addr)}{q:Str}{f:Env}{own:List Str}{Q:Env->aI->Prop}(r:(a.names.filter λy=>y.2==.cell)=own.map λx=>(x,fN))(p:own.length<=1)
  (h:∀i,i.Ns s.1.1.size (λ_=>none)->(∀b o,s.1.get? b=some o->i.get? b=some o)->(∀x∈own,i.IsCell (s.1.1.size+1) none)->Q (newEnv a s.1.1.size g (Fx own (s.1.1.size+1) m) q none .none (some f) nS) {s with heap:=i}):
  bF M A (newFunctionEnv a g m [] q none .none (some f)) Q E s:=by
 simp only[newFunctionEnv,Option.isSome_some,if_true];refine aC (wpAny_alloc ?_);refine aC (wpAny_layCells _ (λl c cells=>by cases j:c==fN<;>simp[j]) _ _ _ _ ?_);rw[eN ..,Ei,Je,r];refine aC (aD (aD ?_));have d:=h (pZ _ (own.map λx=>(x,fN))) ((Heap.Ns.new s.1 (.type "dict")).keeps (pushCells_keeps _ _)) (λb o e=>pushCells_keeps _ _ b o (aH _ e))
 match own,p with
 |[],_=>exact d λx n=>by cases n
 |[x],_=>exact d λ_ _=>⟨_,by
   rw[(eN ..).symm];exact aT _ rfl,rfl⟩
def QM(X:Cx)(b:fK)(f:List (Str×Addr))(C:Addr):aG->aI->Prop:=pE (bB X.prog X.w) X.A (compEnvC b f C X.env) λe c=>∃m,c.1.Ns C m/\∀d,cQ C c.1 d->∀a:Env,a.locals=C->bF (bB X.prog X.w) X.A (PySem.passOn "comprehension.variables-let-go" e a:Sem aG) (λ_ _=>False) X.xe {c with heap:=d}
noncomputable def jf(X:Cx)(a:fK)(b:List (Str×Addr))(N:List Str)(xs:List Str)(C:Addr)(h7:aI)(oD:Hp)(ex:List Addr)(pn:List (Addr×Obj)):Cx where
 prog:=X.prog
 w:=X.w
 K:=(kx X)
 mg:=X.mg
 base:=X.base
 A:=X.A
 N:=N
 h7:=h7
 oD:=oD
 env:=compEnvC a b C X.env
 outer:=X.stack
 stack:=X.stack
 ex:=ex
 fn:=λy=>decide (y∈xs)
 calm:=X.calm
 pn:=pn
 xe:=QM X a b C
structure tF(X:Cx)(scope:fK)(cl:List (Str×Addr))(y:Str)(i:Nat):Prop where
 at_:X.N[i]?=some y
 tG:KW X.env.scope y
 vX:X.env.kindOf y≠some .local
 cell:∃c,cl.lookup y=some c
 kind:(oG scope X.env).names.lookup y=some .cell\/(oG scope X.env).names.lookup y=some .free
def qV(X:Cx)(a:fK)(c:List (Str×Addr)):List Str->List Nat->Prop
 |[],b=>b=[]
 |y::M,b=>Cn (tF X a c y) (qV X a c M) b
theorem qV.get:∀{M:List Str}{e:List Nat},qV X a n M e->∀(j:Nat) y,M[j]?=some y->∃i,e[j]?=some i/\tF X a n y i
 |[],_,_,j,y,h=>by simp at h
 |_::_,_,c,0,y,h=>by
  obtain⟨i,r,d,g,f⟩:=c;simp at h;subst h;subst d;exact⟨i,rfl,g⟩
 |_::_,_,b,j+1,y,h=>by
  obtain⟨i,r,d,g,f⟩:=b;subst d;obtain⟨k,m,l⟩:=qV.get f j y (by simpa using h);exact⟨k,by simpa using m,l⟩
def qV.length:∀{M:List Str}{d:List Nat},qV X b j M d->M.length=d.length:=by
 intro a;induction a with
 |nil=>rintro _ h;rw[h];rfl
 |cons _ _ c=>rintro _ ⟨i,r,f,g,e⟩;rw[f,aE,aE,c e]
structure gL(X:Cx)(scope:fK)(cl:List (Str×Addr))(own xs:List Str)(M:List Str)(ix:List Nat):Prop where
 sO:ju X.env scope.names []=some cl
 kind:scope.kind=.function
 sW:(scope.names.filter λy=>y.2==.cell)=own.map λx=>(x,fN)
 sM:own.length<=1
 vT:∀x∈own,x∈xs
 names:∀y∈scope.names,y.2=.local->scope.names.lookup y.1=some .local
 loc:∀x∈xs,Sb scope x
 wF:∀x∈xs,cl.lookup x=none
 nd:(xs++M).Nodup
 vZ:ix.Nodup
 wM:qV X scope cl M ix
section
variable{X:Cx}{scope:fK}{cl:List (Str×Addr)}{own xs:List Str}{M:List Str}{ix:List Nat}{pins:List (Addr×Obj)}{Z:St}{H:Hp}{s:aI}{fp:List Addr}
def yp(f:Env):∀(a:List (Str×gR))(g cl:List (Str×Addr)),ju f a g=some cl->∀y,((∃c,g.lookup y=some c)\/(y,gO)∈a)->∃c,cl.lookup y=some c:=by
 intro b;induction b with
 |nil=>
  rintro g cl h y q
  cases h;obtain q|q:=q
  ·exact q
  ·simp at q
 |cons b r d=>
  obtain⟨n,k⟩:=b
  rintro g cl h y q
  unfold ju at h
  by_cases i:k=.free
  ·subst i;cases j:f.cells.lookup n with
   |none=>rw[j]at h;cases h
   |some c=>
    rw[j]at h;refine d _ cl h y ?_
    by_cases e:y=n
    ·subst e;exact .inl ⟨c,by simp⟩
    ·obtain ⟨m,q⟩|q:=q
     ·refine .inl ⟨m,?_⟩;have l:(y==n)=false:=by simpa using e
      rwa [dF,l]
     ·rcases List.mem_cons.mp q with z|z
      ·cases z;exact absurd rfl e
      ·exact .inr z
  ·rw[aK i]at h;refine d _ cl h y ?_;obtain q|q:=q
   ·exact .inl q
   ·rcases List.mem_cons.mp q with z|z
    ·cases z;exact absurd rfl i
    ·exact .inr z
def gL.free(O:gL X scope cl own xs M ix):∀y,(y,gO)∈scope.names->∃c,cl.lookup y=some c:=λy h=>yp X.env _ _ cl O.sO y (.inr h)
def gL.cells(O:gL X scope cl own xs M ix)(h:cl.lookup y=some c):X.env.cells.lookup y=some c:=
 uw X.env _ _ cl O.sO (λp a=>by simp at a) _ (uz h)
def E5{scope:fK}(h:(oG scope a).names.lookup y=some .cell\/(oG scope a).names.lookup y=some .free):(y,gO)∈scope.names\/(y,fN)∈scope.names:=by
 have f:∃k,(y,k)∈(oG scope a).names/\(k=.cell\/k=.free):=by
  obtain h|h:=h
  ·exact⟨_,uz h,.inl rfl⟩
  ·exact⟨_,uz h,.inr rfl⟩
 obtain⟨k,i,c⟩:=f;obtain⟨⟨n,g⟩,b,e⟩:=List.mem_map.mp i
 by_cases d:(g==gO && a.scope.kind==.function && a.kindOf n==some .cell)=true
 ·simp only[d,if_true]at e;cases e;have:g=.free:=by
   simp only[bA]at d;simpa using d.1.1
  subst this;exact .inl b
 ·simp only[d,if_false]at e;cases e;obtain c|c:=c
  ·subst c;exact .inr b
  ·subst c;exact .inl b
def gL.cellIn(O:gL X scope cl own xs M ix){y:Str}(h:(y,fN)∈scope.names):y∈own:=by
 have:_∈scope.names.filter λy=>y.2==.cell:=List.mem_filter.mpr ⟨h,rfl⟩;rw[O.sW]at this;obtain⟨z,a,e⟩:=List.mem_map.mp this;cases e;exact a
theorem xb{b:Env}:∀{a:List (Str×gR)}{x:Str},a.lookup x=some .cell->
  (a.map λ(n,k)=>if(k==gO && b.scope.kind==.function && b.kindOf n==some .cell)then(n,fN)else(n,k)).lookup x=some .cell
 |[],_,h=>by simp at h
 |(n,k)::r,x,h=>by
  have d:=@xb b r x;show jU x ((if _=true then _ else _)::_)=_;cases c:x==n with
  |true=>
   simp only[dF,c]at h;cases h;simp[dF,c]
  |false=>
   simp only[dF,c]at h
   by_cases e:(k==gO && b.scope.kind==.function && b.kindOf n==some .cell)=true
   ·rw[aN e];simp only[dF,c];exact d h
   ·rw[aK e];simp only[dF,c];exact d h
def Hw{a:Env}{x:Str}(h:Sb scope x):Sb (oG scope a) x:=h.imp (λh=>lookup_relabel_local h) λh=>xb h
def Ys(O:gL X scope cl own xs M ix)(I:Inv X pins Z H s)(l:∀b∈fp,o1 X pins H b)(n:∀b∈fp,b<s.1.1.size){d:Heap}(u:∀b o,s.1.get? b=some o->d.get? b=some o)(G:d.objs.size=s.1.1.size+1):
  (jf X scope (Fx own (s.1.1.size+2) cl) (xs++M) xs (s.1.1.size+1) {s with heap:=d,toks:=C} (upd H s.1.1.size (.lst [])) fp (X.pn++pins)).Ok:=by
 have old:∀{b:Addr}{o:Obj},s.1.get? b=some o->b≠s.1.1.size:=λe z=>by
  have:=aV e;rw[z]at this;exact cP _ this
 have sI:∀y c,cl.lookup y=some c->c<s.1.1.size:=λy c e=>by
  obtain⟨v,q⟩:=I.cell y c (O.cells e);exact q.lt
 have g:=I.ok;refine⟨g.mod,O.kind,g.glob,g.blt,?_,?_,?_,?_,g.hd,g.frames,.inl rfl,?_,?_,?_,?_,?_,?_,?_⟩
 ·show d.objs.size<=s.1.1.size+1
  lia
 ·intro a b c d i;rcases l7 d with d|⟨d,B⟩<;>rcases l7 i with i|⟨i,A⟩
  ·exact g.inj a b c (O.cells d) (O.cells i)
  ·exact(NA (sI _ _ d) A rfl).elim
  ·exact(NA (sI _ _ i) B rfl).elim
  ·match own,O.sM,d,i with
   |[x],_,d,i=>rw[List.mem_singleton.mp d,List.mem_singleton.mp i]
 ·intro y m;rcases E5 (y:=y) m with h|h
  ·by_cases j:y∈own
   ·exact⟨_,Nj O.sM j⟩
   ·obtain⟨c,e⟩:=O.free _ h;exact⟨c,(S4 j).trans e⟩
  ·exact⟨_,Nj O.sM (O.cellIn h)⟩
 ·intro y c m w;rcases l7 w with h|⟨_,e⟩
  ·rw[O.wF y (of_decide_eq_true m)]at h;cases h
  ·show d.objs.size<=c
   lia
 ·intro b f;have:=n b f;refine⟨?_,λy c e=>?_⟩
  ·exact ue this
  ·rcases l7 e with e|⟨_,e⟩
   ·exact(l b f).5 y c (O.cells e)
   ·exact λz=>NA this e z
 ·intro b o e;obtain⟨r,E⟩:=I.bs b o e;refine⟨u b o r,?_⟩;show upd H s.1.1.size _ b=none;rwa [ag (old r)]
 ·show X.base.objs.size<=d.objs.size;have:=g.tY;have:=I.sz
  lia
 ·intro b o e f;rcases(l b f).4 with q|q
  ·exact g.tR b o e q
  ·exact absurd (bS (aV e) (cG g.tY q)) (cP _)
 ·intro b f p;rcases List.mem_cons.mp (I.qb b p)with e|e
  ·exact(l b f).2 e
  ·exact(l b f).3 e
 ·exact I.stack.of_keeps λb o e _=>⟨o,u b o e,rfl⟩
 ·intro b f;show upd H s.1.1.size _ b=none;obtain⟨_,o,j,_⟩:=I.stack.mem f;rw[ag (old j)];exact(I.rA b f)
def kh(Z:St)(ix:List Nat)(os:List (Option V)):St:=os++ix.map λi=>(Z[i]?).join
def Kk{os:List (Option V)}(a:os.length=xs.length)(O:gL X scope cl own xs M ix):(kh Z ix os).length=(xs++M).length:=by
 unfold kh;rw[aM,aM,aF,a,O.wM.length]
def S3(O:gL X scope cl own xs M ix)(I:Inv X pins Z H s)(hf:∀b∈fp,o1 X pins H b)(Q:∀b∈fp,b<s.1.1.size){A B:Heap}(w:∀b o,s.1.get? b=some o->A.get? b=some o)(hz:A.objs.size=s.1.1.size+1)
  (ha:A.get? s.1.1.size=some {cls:=.type "list",data:=.seq #[] 0})(a:∀b o,A.get? b=some o->B.get? b=some o)(hn:B.Ns (s.1.1.size+1) m)(J:∀x∈own,B.IsCell (s.1.1.size+2) none):
  Inv (jf X scope (Fx own (s.1.1.size+2) cl) (xs++M) xs (s.1.1.size+1) {s with heap:=A,toks:=tk} (upd H s.1.1.size (.lst [])) fp (X.pn++pins)) [] (kh Z ix (bY xs.length none)) (upd H s.1.1.size (.lst [])) {s with heap:=B,toks:=tk2}:=by
 have old:∀{b:Addr}{o:Obj},s.1.get? b=some o->b≠s.1.1.size:=λe z=>by
  have:=aV e;rw[z]at this;exact cP _ this
 refine⟨Ys O I hf Q w hz,rfl,I.bare,Un.kept a,⟨m,hn,?_⟩,?_,?_,?_,?_,?_,Kk dN O⟩
 ·intro i y v hi h _
  by_cases Y:i<xs.length
  ·unfold kh at h;rw[cA (by rw[dN];exact Y),List.getElem?_replicate_of_lt Y]at h;cases h
  ·obtain⟨j,rfl⟩:∃j,i=xs.length+j:=⟨i - xs.length,by lia⟩;have U:M[j]?=some y:=by
    have q:(xs++M)[xs.length+j]?=some y:=hi;rw[cK (iS _ _)]at q;simpa using q
   obtain⟨k,N,C⟩:=O.wM.get j y U;have l:((ix.map λi=>(Z[i]?).join)[j]?)=some (some v):=by
    unfold kh at h;rw[cK (by rw[dN];exact iS _ _)]at h;simpa using h
   rw[bJ,N]at l;have n:(Z[k]?).join=some v:=by simpa using l
   have G:Z[k]?=some (some v):=by
    cases e:Z[k]? with
    |none=>rw[e]at n;simp at n
    |some o=>rw[e]at n;simp at n;rw[n]
   obtain⟨mX,_,hl⟩:=I.loc;obtain⟨u,r,lk⟩:=hl k y v C.at_ G C.tG;refine⟨u,r,.inr ⟨C.kind,?_⟩⟩;obtain ⟨q,_⟩|⟨_,c,f,g⟩:=lk
   ·exact absurd q C.vX
   ·obtain⟨c',d⟩:=C.cell;have:=O.cells d;rw[f]at this;cases this;exact⟨c,(S4 (λz=>(List.nodup_append.mp O.nd).2.2 y (O.vT y z) y (bR U) rfl)).trans d,g.keeps λb o e=>a b o (w b o e)⟩
 ·intro y c f;rcases l7 f with f|⟨ho,e⟩
  ·obtain⟨v,q⟩:=I.cell y c (O.cells f);exact⟨v,q.keeps λb o e=>a b o (w b o e)⟩
  ·rw[e];exact⟨_,J y ho⟩
 ·show upd H s.1.1.size _ (s.1.1.size+1)=none;rw[ag Vf];exact(I.ez.fresh (jW _))
 ·intro y c f;rcases l7 f with f|⟨ho,e⟩
  rotate_left
  ·refine .inl ?_;rw[ag (QH e).1];exact I.ez.fresh (QH e).2
  obtain⟨v,q⟩:=I.cell y c (O.cells f);have L:=decide_eq_false λz=>by
   have d:=f;rw[O.wF y z]at d;cases d
  rcases I.pk y c (O.cells f)with fr|⟨_,o,fr⟩
  ·refine .inl ?_;rwa [ag (bL q.lt)]
  ·refine .inr ⟨L,o,?_⟩;rwa [ag (bL q.lt)]
 ·intro p hp;obtain⟨E,q2,q3,q4,q5⟩:=I.pin p (by simpa[jf]using hp);refine⟨a _ _ (w _ _ E),?_,?_,?_,q5⟩
  ·rwa [ag (old E)]
  ·exact ue (aV E)
  ·intro T;rcases List.mem_cons.mp (I.qb p.1 T)with e|e
   ·exact q3 e
   ·exact q4 e
 ·refine I.ez.laid (λb o e=>a b o (w b o e)) (aJ _) ⟨bX _,[],0,.nil,a _ _ ha⟩
end
noncomputable def rg(f:D->Option (Option D)):List D->Option (List D)
 |[]=>some []
 |d::r=>match f d with
  |none=>none
  |some o=>match rg f r with
   |none=>none
   |some a=>some (o.toList++a)
inductive TR where
 |ok (o:Option D)
 |er (c:Str)
 |st
def rh(F:D->TR):List D->dg
 |[]=>.ok []
 |d::r=>match F d with
  | .ok o => (match rh F r with
   |.ok a=>.ok (o.toList++a)
   |.er c=>.er c
   |.st=>.st)
  |.er c=>.er c
  |.st=>.st
def OU:Option (Option D)->TR
 |some o=>.ok o
 |none=>.st
def Nh{f:D->Option (Option D)}:∀c:List D,rh (λd=>OU (f d)) c=match rg f c with
  |some e=>.ok e
  |none=>.st:=by
 intro a;induction a with
 |nil=>exact rfl
 |cons d r b=>
  unfold rh rg;cases f d with
  |none=>rfl
  |some o=>
   rw[b];cases rg f r<;>rfl
def Nr(a:List D):dg->dg
 |.ok r=>.ok (a++r)
 |.er c=>.er c
 |.st=>.st
def T5(R:dg):R=Nr [] R:=by cases R<;>rfl
def Pv(a:List D)(o:Option D)(R:dg):Nr a (match R with
  |.ok b=>.ok (o.toList++b)
  |.er c=>.er c
  |.st=>.st)=Nr (a++o.toList) R:=by
 cases R with
 |ok r=>exact congrArg dg.ok (cD ..).symm
 |er c=>rfl
 |st=>rfl
def fe(a:List Nat)(δ:En)(s:Sl):En:=s::a.map λi=>(δ[i]?).getD .no
noncomputable def ze(a:List Nat)(t:En->Res)(g:En->Res)(δ:En)(d:D):Option (Option D):=match t (fe a δ (.pu d))with
 |.ok (.bl true)=>(match g (fe a δ (.pu d))with
  |.ok y=>some (some y)
  |_=>none)
 |.ok (.bl false)=>some none
 |_=>none
noncomputable def az(r:En->dg)(d:List Nat)(t:En->Res)(g:En->Res):En->Res:=λδ=>match r δ with
 | .ok a => if a.length <= aQ then (match rg (ze d t g δ) a with
  |some b=>.ok (.lst b)
  |none=>.st)else .st
 |.er c=>.er c
 |.st=>.st
noncomputable def Tx(r:En->dg)(f:En->D->Option (Option D)):En->Res:=λδ=>match r δ with
 | .ok a => if a.length <= aQ then (match rg (f δ) a with
  |some b=>.ok (.lst b)
  |none=>.st)else .st
 |.er c=>.er c
 |.st=>.st
def pf(r:En->dg)(F:En->D->TR):En->Res:=λδ=>match r δ with
 | .ok a => if a.length <= aQ then (match rh (F δ) a with
  |.ok b=>.ok (.lst b)
  |.er c=>.er c
  |.st=>.st)else .st
 |.er c=>.er c
 |.st=>.st
def G8{r:En->dg}{f:En->D->Option (Option D)}:Tx r f=pf r λδ d=>OU (f δ d):=by
 funext δ
 unfold Tx pf;cases r δ with
 |ok a=>
  dsimp only;rw[Nh];cases rg _ a<;>rfl
 |er c=>rfl
 |st=>rfl
def P4{r:En->dg}{F:En->D->TR}:IsL (pf r F):=λδ d h=>by
 unfold pf at h;cases e:r δ with
 |ok f=>
  rw[e]at h;dsimp only at h
  by_cases b:f.length<=aQ
  ·rw[aN b]at h;cases a:rh _ f with
   |ok g=>rw[a]at h;cases h;exact⟨_,rfl⟩
   |er c=>rw[a]at h;cases h
   |st=>rw[a]at h;cases h
  ·rw[aK b]at h;cases h
 |er c=>rw[e]at h;cases h
 |st=>rw[e]at h;cases h
def DY{F:En->D->TR}(q:c7 E G H (pf r F δ) P):
  eT E G H (r δ) λa=>a.length<=aQ/\eT E G H (rh (F δ) a) λf=>P (.lst f):=by
 unfold pf at q;cases e:r δ with
 |ok a=>
  rw[e]at q;dsimp only at q
  by_cases b:a.length<=aQ
  ·rw[aN b]at q;refine⟨b,?_⟩;cases d:rh _ a with
   |ok f=>rw[d]at q;exact q
   |er c=>rw[d]at q;exact q
   |st=>rw[d]at q;exact q
  ·rw[aK b]at q;exact q.elim
 |er c=>rw[e]at q;exact q
 |st=>rw[e]at q;exact q
def rf(a:List Nat)(δ:En):En:=a.map λi=>(δ[i]?).getD .no
def Yy{K:KA}{G:Hp}:∀{a:List D}{b:List V},br K G a b->∀{j:Nat}{t:Sl},(a.map Sl.pu)[j]?=some t->∃d v,t=.pu d/\(b.map some)[j]?=some (some v)/\Den K G d v:=λ{a b} dl j t h=>by
 rw[bJ]at h;cases e:a[j]? with
 |none=>rw[e]at h;cases h
 |some d=>
  rw[e]at h;cases h;obtain⟨v,c,f⟩:=dl.get e;exact⟨d,v,rfl,by rw[bJ,c];rfl,f⟩
def Kj{K:KA}{B G H:Hp}{Z:St}{δ:En}{b:List Nat}{l:List D}{q:List V}(R:c5 K B G H Z δ)(U:b.Nodup)(dl:br K G l q):c5 K B G H (kh Z b (q.map some)) (l.map Sl.pu++rf b δ):=by
 have f:∀(j:Nat) t,(rf b δ)[j]?=some t->∃i,b[j]?=some i/\((t=.no)\/δ[i]?=some t)/\(b.map λi=>(Z[i]?).join)[j]?=some _:=λj t h=>by
  unfold rf at h;rw[bJ]at h;cases e:b[j]? with
  |none=>rw[e]at h;cases h
  |some i=>
   rw[e]at h;refine⟨i,rfl,?_,by rw[bJ,e];rfl⟩;cases M:δ[i]? with
   |none=>rw[pL,M]at h;cases h;exact .inl rfl
   |some u=>rw[pL,M]at h;cases h;exact .inr rfl
 have y:∀(i:Nat) a,(Z[i]?).join=some (V.ref a)->Z[i]?=some _:=λi a h=>by
  cases e:Z[i]? with
  |none=>rw[e]at h;simp at h
  |some o=>rw[e]at h;simp at h;rw[h]
 have s:(q.map some).length=(l.map Sl.pu).length:=by rw[aF,aF,dl.length]
 have g:∀{j:Nat}{t:Sl},(l.map Sl.pu++rf b δ)[j]?=some t->(∃d v,t=.pu d/\(kh Z b (q.map some))[j]?=some _/\Den K G d v)\/∃k,j=l.length+k/\_[k]?=some t/\(kh Z b _)[j]?=_[k]?:=λ{j t} h=>by
  unfold kh
  by_cases A:j<(l.map Sl.pu).length
  ·rw[cA A]at h;rw[cA (by rw[s];exact A)];exact .inl (Yy dl h)
  ·obtain⟨k,rfl⟩:∃k,j=l.length+k:=⟨j - l.length,by rw[aF]at A;lia⟩;rw[cK (by rw[aF];exact iS _ _),aF,lB]at h;exact .inr ⟨k,rfl,h,by rw[cK (by rw[s,aF];exact iS _ _),s,aF,lB]⟩
 refine⟨R.bh,R.gh,?_,λj t h=>?_,λj t a E p m=>?_,λj k t u a E p m C L J=>?_,R.gb⟩
 ·unfold kh rf;rw[aM,aM,s,aF (as:=b),aF (as:=b)]
 ·rcases g h with ⟨d,v,rfl,e,w⟩|⟨k,rfl,h,e⟩
  ·exact⟨some v,e,v,rfl,w⟩
  ·obtain⟨i,r,c,n⟩:=f k t h;refine⟨_,e.trans n,?_⟩;obtain rfl|c:=c
   ·trivial
   ·obtain⟨o',O,z2⟩:=R.sl i t c;rwa [O]
 ·rcases g E with ⟨d,v,rfl,e,w⟩|⟨k,rfl,h,e⟩
  ·cases p
  ·obtain⟨i,r,c,n⟩:=f k t h;rw[e,n]at m;obtain rfl|c:=c
   ·cases p
   ·exact R.own i t a c p (y i a (bN m))
 ·rcases g E with ⟨d,v,rfl,e,w⟩|⟨j',rfl,h,e⟩
  ·cases m
  ·rcases g p with ⟨d,v,rfl,N,w⟩|⟨Y,rfl,h',N⟩
   ·cases C
   ·obtain⟨i,r,c,n⟩:=f j' t h;obtain⟨I,T,x,Q⟩:=f Y u h';rw[e,n]at L;rw[N,Q]at J;obtain rfl|c:=c
    ·cases m
    ·obtain rfl|x:=x
     ·cases C
     ·have z:=R.qQ i I t u a c x m C (y i a (bN L)) (y I a (bN J));subst z;rw[(List.getElem?_inj ((List.getElem?_eq_some_iff.mp r).1) U).mp (r.trans T.symm)]
structure v8(X:Cx)(n:Nat)(tg:Expr)(td:D->Option (List D)):Prop where
 ex:∃gl,PG X tg gl/\∀{G H:Hp}{os:List (Option V)}{cs:St}{d:D}{v:V}{ds:List D}{Q:St->Hp->Prop},os.length=n->bc G H->Den (kx X) G d v->td d=some ds->(∀vs,br (kx X) G ds vs->vs.length=n->Q (vs.map some++cs) H)->gl v (os++cs) H Q
section
variable{X:Cx}{B:Hp}{E:EK}{E':XK}{scope:fK}{cl:List (Str×Addr)}{own xs:List Str}{M:List Str}{ix:List Nat}{elt iter:Expr}{ifs:List Expr}{pos:Pos}{r:En->dg}{t g:En->Res}{tg:Expr}{td:D->Option (List D)}
abbrev EF:EK:=λ_ _=>False
structure p7(X:Cx)(B:Hp)(E:XK)(scope:fK)(cl:List (Str×Addr))(own xs:List Str)(M:List Str)(tg:Expr)(td:D->Option (List D))(elt:Expr)(ifs:List Expr)(t g:En->Res):Prop where
 wY:∀C h7 oD ex pn,v8 (jf X scope (Fx own (C+1) cl) (xs++M) xs C h7 oD ex pn) xs.length tg td
 test:(ifs=[]/\t=gC (.bl true))\/∃c,ifs=[c]/\∀C h7 oD ex pn,Fz (jf X scope (Fx own (C+1) cl) (xs++M) xs C h7 oD ex pn) B EF c t
 elt:∀C h7 oD ex pn,Acc (jf X scope (Fx own (C+1) cl) (xs++M) xs C h7 oD ex pn) E->gj (jf X scope (Fx own (C+1) cl) (xs++M) xs C h7 oD ex pn) B (ek (kx X) E) elt g
def RX(d:D):Option (List D):=some [d]
def Oy(O:gL X scope cl own [x] M ix)(C a b h c):v8 (jf X scope (Fx own (C+1) cl) ([x]++M) [x] C a b h c) 1 (.Name x m) RX:=
 ⟨_,Og (i:=0) O.nd rfl (Hw (O.loc x aZ)) (.inl (decide_eq_true aZ)),λ{G H os p d v n Q} f l j e q=>by
  cases e
  match os,f with
  |[o],_=>exact q [v] (br.one j) rfl⟩
def sF(td:D->Option (List D))(a:En)(t g:En->Res)(f:D->Option (Option D)):Prop:=∀d o,f d=some o->∃b,td d=some b/\
 ((t (b.map Sl.pu++a)=.ok (.bl true)/\∃y,g (b.map Sl.pu++a)=.ok y/\o=some y)\/(t (b.map Sl.pu++a)=.ok (.bl false)/\o=none))
def Xz:sF RX (rf ix δ) t g (ze ix t g δ):=λd o h=>by
 refine⟨[d],rfl,?_⟩
 ·unfold ze at h;have e:[d].map Sl.pu++rf ix δ=fe ix δ _:=rfl;split at h
  ·rename_i a;split at h
   ·rename_i y b;cases h;exact .inl ⟨a,y,b,rfl⟩
   ·cases h
  ·rename_i a;cases h;exact .inr ⟨a,rfl⟩
  ·cases h
def Dc(td:D->Option (List D))(a:En)(t g:En->Res)(F:D->TR):Prop:=∀d,F d≠.st->∃b,td d=some b/\
 ((t (b.map Sl.pu++a)=.ok (.bl true)/\((∃y,g (b.map Sl.pu++a)=.ok y/\F d=.ok (some y))\/∃c,g (b.map Sl.pu++a)=.er c/\F d=.er c))\/(t (b.map Sl.pu++a)=.ok (.bl false)/\F d=.ok none))
def sF.tr{td:D->Option (List D)}{i:En}{t g:En->Res}{f:D->Option (Option D)}(h:sF td i t g f):Dc td i t g λd=>OU (f d):=λd j=>by
 dsimp only at j⊢;cases e:f d with
 |none=>rw[e]at j;exact absurd rfl j
 |some o=>
  obtain⟨l,q,z⟩:=h d o e;refine⟨l,q,z.imp (by rintro ⟨a,y,b,c⟩;exact⟨a,.inl ⟨y,b,by rw[c];rfl⟩⟩) (by rintro ⟨a,c⟩;exact⟨a,by rw[c];rfl⟩)⟩
def c7.vU{E:EK}{G H:Hp}{r:Res}{P:D->Prop}(d:D)(e:r=.ok d)(h:P d):c7 E G H r P:=by rwa [e]
inductive CJ(Y:Cx)(a:Addr)(k:Nat)(Z:St)(ix:List Nat)(fp:List Addr)(tn:Nat->Heap->Prop)(G H:Hp)(F:D->TR)(ds:List D)(r0:dg)(n:Nat)(s1:aI):Prop
 |mk (i:Nat) (os:List (Option V)) (H1 G1:Hp) (vs:List V) (zs:List D) (_:os.length=k) (_:n=ds.length - i) (_:i<=ds.length) (_:Inv Y [] (kh Z ix os) H1 s1) (_:tn i s1.1) (_:∀b∈fp,H1 b=none)
   (_:H1 a=some (.lst vs)) (_:G1 a=none) (_:Ext G H G1 H1) (_:br (kx Y) G1 zs vs) (_:zs.length<=i) (_:r0=Nr zs (rh F (ds.drop i))):CJ Y a k Z ix fp tn G H F ds r0 n s1
def Pj{Y:Cx}{a:Addr}{k:Nat}{Z:St}{δ:En}{G H:Hp}{s:aI}{it:Addr}{fp:List Addr}{tn:Nat->Heap->Prop}{J:It}{p:List D}{r0:dg}{F:D->TR}{RR:Result->aI->Prop}{n:Nat}
  (TB:v8 Y k tg td)(TE:gj Y B (ek (kx Y) E') elt g)(TT:(ifs=[]/\t=gC (.bl true))\/∃c,ifs=[c]/\Fz Y B EF c t)(hc:Y.calm=true)(Q:∀v s,Y.xe v s->pE (bB Y.prog Y.w) Y.A Y.env (λe s'=>RR (.error e) s') v s)(T:Turn Y.prog Y.w (kx Y) tg J fp it tn)(ε:∀{x:Hp},(∀b∈fp,x b=none)->∀b∈fp,o1 Y [] x b)
  (R:c5 (kx Y) B G H Z δ) (vZ:ix.Nodup) (fresh:H a=none) (ok:xm (kx Y) J p (λG2 H2=>Ext G H G2 H2)) (hl:p.length<=aQ) (hF:Dc td (rf ix δ) t g F) (hst:r0≠.st) (her:∀c,r0=.er c->∀G' H',Ext G H G' H'->ek (kx Y) E' c H')
  (fin:∀s1 x G1 vs zs os,Inv Y [] (kh Z ix os) x s1->x a=some (.lst vs)->G1 a=none->Ext G H G1 x->br (kx Y) G1 zs vs->r0=.ok zs->RR (.ok .next) s1)
  (j:CJ Y a k Z ix fp tn G H F p r0 n s):iE (bB Y.prog Y.w) Y.A (.compLoop (.ListComp elt [⟨tg,iter,ifs,0⟩] scope pos) 0 (.ref it) (.ref a) Y.env) RR s:=by
 refine Ek _ ?_ n j
 rintro n s1 ⟨i,os,x,G1,vs,zs,hos,rfl,hi,I1,ρ,Γ,ζ,ω,x1,N,zl,er⟩
 obtain⟨okg,oks⟩:=ok i G1 x x1 x1.gh
 by_cases o:i<p.length
 ·obtain⟨go,yl⟩:=okg p[i] (aW o);rw[cU o]at er;unfold rh at er;have i9:F p[i]≠.st:=λz=>by rw[z]at er;exact hst er
  refine cJ (T.item Y rfl rfl rfl hc i [] s1 _ x _ I1 (ε Γ) ρ go) (λrr s2 ⟨u,hr,h2⟩=>?_) Q;subst hr;refine cJ h2 (λ_ s3 ⟨xv,H3,I3,r3,y3,β,fr3⟩=>?_) Q;obtain⟨G3,e3,dn⟩:=yl xv H3 y3;have x3:=x1.trans e3;have I:=e3.hh _ _ ζ;have ψ:=e3.fr _ _ ζ ω rfl;obtain⟨dx,htd,φ⟩:=hF _ i9;obtain⟨gl,TO1,TO2⟩:=TB.ex;refine cJ (TO1 _ s3 _ H3 xv u (λσ' H'=>H'=H3/\∃vx,br _ G3 dx vx/\vx.length=k/\σ'=kh Z ix (vx.map some)) (I3.pinned (ε fr3) (T.obj _ _ β)) r3 (TO2 hos e3.gh dn htd λvx dl hv=>⟨rfl,vx,dl,hv,rfl⟩)) (λ_ s4 ⟨σ4,H4,I4,e4,vx,dlx,hvx,e5⟩=>?_) Q;subst e4 e5;have R4:=Kj (R.ext x3) vZ dlx;have next:∀{O:aI}{q:Hp}{C:Hp}{us:List V}{ws:List D}{oy:Option D},F p[i]=.ok oy->Inv Y ([]++B3 fp s3.1) _ q O->
    q a=some _->C a=none->Ext G H C q->br _ C ws us->ws=zs++oy.toList->∃m,m<p.length - i/\CJ Y a k Z ix fp tn G H F p r0 m O:=λ{O q C us ws oy} ef I5 ha5 ga5 x5 dl5 ew=>by
   have pn:=λb U ob e=>I5.pin (b,ob) (cH _ (cH _ (u9 U e)));refine⟨_,Nat.sub_succ_lt_self _ _ o,i+1,vx.map some,q,C,us,ws,(aF _).trans hvx,rfl,o,I5.ng,T.keep _ _ _ β λb U ob e=>(pn b U ob e).1,λb U=>?_,ha5,ga5,x5,dl5,?_,?_⟩
   ·obtain⟨ob,e,d⟩:=T.obj _ _ β b U;exact(pn b U ob e).2.1
   ·rw[ew,aM];exact Nat.add_le_add zl (by cases oy<;>simp)
   ·rw[er,ef,ew];exact Pv zs oy _
  have val:∀{O:aI}{q C:Hp},Inv Y ([]++B3 fp s3.1) _ q O->Ext G3 H4 C q->((∃y,g _=.ok y/\F p[i]=.ok _)\/∃c,g _=.er c/\F p[i]=.er c)->
    bF _ Y.A _ (λxx ξ=>bF _ Y.A _ _ _ ξ) _ O:=λ{O q C} I5 e5 hv=>by
    refine cJ (TE _ O _ q (λv l=>∃y f,F p[i]=.ok (some y)/\Ext C q f l/\Den (kx Y) f y v) I5 ⟨C,_,R4.ext e5,?_⟩) (λxx s6 ⟨v6,l,I6,r6,y,f,ef,h,d6⟩=>?_) Q
    ·obtain ⟨y,eg,ef⟩|⟨c,eg,ef⟩:=hv
     ·exact c7.vU y eg λv f l h d6=>⟨y,f,ef,h,d6⟩
     ·rw[eg];rw[ef]at er;exact λf l h=>her c er f l (x3.trans (e5.trans h))
    ·have L:=e5.trans h;have χ:=L.fr _ _ I ψ rfl;refine cJ (ud _ s6 _ l (.ref a) [v6] _ [xx] (λ_ H7=>H7=upd l a _) I6 rfl (.cons r6 .nil) ⟨_,vs,v6,rfl,rfl,L.hh _ _ I,?_,rfl⟩) (λ_ s7 ⟨_,H7,I7,_,e7⟩=>?_) Q
     ·rw[<-N.length];exact nV zl (bS o hl)
     ·subst e7;exact next ef I7 ai χ ((x3.trans L).wr χ fresh) ((N.mono (e3.gg.trans L.gg)).append (br.one d6)) rfl
  obtain ⟨rfl,rfl⟩|⟨c,rfl,ht⟩:=TT
  ·refine wpAny_tests_nil ?_;obtain ⟨_,hv⟩|⟨U,_⟩:=φ
   ·exact val I4 (Ext.refl R4.gh) hv
   ·cases U
  ·refine wpAny_tests_one ?_;obtain ⟨et,hv⟩|⟨et,ef⟩:=φ
   ·refine cJ (ht _ s4 _ H4 (λb l=>b=true/\∃f,Ext G3 H4 f l) I4 ⟨G3,_,R4,c7.vU _ et ⟨true,rfl,λf l h=>⟨rfl,f,h⟩⟩⟩) (λb s6 ⟨l,I6,eb,f,h⟩=>?_) Q;subst eb;exact val I6 h hv
   ·refine cJ (ht _ s4 _ H4 (λb l=>b=false/\∃f,Ext G3 H4 f l) I4 ⟨G3,_,R4,c7.vU _ et ⟨false,rfl,λf l h=>⟨rfl,f,h⟩⟩⟩) (λb s6 ⟨l,I6,eb,f,h⟩=>?_) Q;subst eb;exact next ef I6 (h.hh _ _ I) (h.fr _ _ I ψ rfl) (x3.trans h) (N.mono (e3.gg.trans h.gg)) (bT _).symm
 ·obtain rfl:i=p.length:=pM hi (oT o);rw[mH]at er;refine cJ (T.done Y rfl rfl rfl hc _ [] s1 _ x _ I1 (ε Γ) ρ (oks (aJ _))) (λrr s2 ⟨hr,I2⟩=>?_) Q;subst hr;exact fin s2 x G1 vs zs os I2 ζ ω x1 N (er.trans (congrArg dg.ok (bT _)))
def Sg(X:Cx)(E:XK):Prop:=E=E0
def Sh{N:List Str}{C:Addr}{a:aI}{c n:Hp}{j:List Addr}{i b:List (Addr×Obj)}{Z:St}{f:aI}(m:Sg X E')(I:Inv X b Z n f)(o:f.1.get? C=none)(back:∀{d e l h},Inv (jf X scope cl N xs C a c j i) d e l h->Inv X b Z l h):Acc (jf X scope cl N xs C a c j i) E':=by
 cases m;exact Al
def Gc(O:gL X scope cl own xs M ix)(hc:X.calm=true)(hA:Sg X E')(Bk:p7 X B E' scope cl own xs M tg td elt ifs t g){a:List (Addr×Obj)}{Z:St}{δ:En}{G H:Hp}{s:aI}{it:Addr}{fp:List Addr}{tn:Nat->Heap->Prop}{J:It}{ds:List D}{F:D->TR}
  (I:Inv X a Z H s)(T:Turn X.prog X.w (kx X) tg J fp it tn)(st:tn 0 s.1)(hf:∀b∈fp,o1 X a H b)(R:c5 (kx X) B G H Z δ)(ok:xm (kx X) J ds (λG2 H2=>Ext G H G2 H2))(hl:ds.length<=aQ)(hF:Dc td (rf ix δ) t g F)
  {RR:aG->Addr->Result->aI->Prop} (ι:∀e s',(∃m,s'.1.Ns (s.1.1.size+1) m/\∀h',cQ (s.1.1.size+1) s'.1 h'->∀i:Env,i.locals=s.1.1.size+1->bF (bB X.prog X.w) X.A (PySem.passOn "comprehension.variables-let-go" e i:Sem aG) (λ_ _=>False) X.xe {s' with heap:=h'})->RR (.ref s.1.1.size) (s.1.1.size+1) (.error e) s')
  (l:eT (ek (kx X) E') G H (rh F ds) λys=>∀Q j G1 vs m,Inv X a Z j Q->Q.1.Ns (s.1.1.size+1) m->j (s.1.1.size+1)=none->Ext G H G1 j->G1 s.1.1.size=none->j s.1.1.size=some (.lst vs)->br (kx X) G1 ys vs->RR (.ref s.1.1.size) (s.1.1.size+1) (.ok .next) Q):
  bF (bB X.prog X.w) X.A (newList []) (λκ ε=>bF (bB X.prog X.w) X.A (newFunctionEnv scope X.env.globals cl [] X.env.qual none .none (some X.env)) (λi γ=>
   iE (bB X.prog X.w) X.A (.compStart (.ListComp elt [⟨tg,iter,ifs,0⟩] scope pos) 0 (.ref it) κ {i with scope:=oG scope X.env}) (RR κ i.locals) γ) X.xe ε) X.xe s:=by
 have C:∀b∈fp,b<s.1.1.size:=λb n=>by
  obtain⟨o,e,_⟩:=T.obj 0 _ st b n;exact aV e
 refine dI (Ya O.sW O.sM λθ d x U=>?_);generalize Y:s.1.push {cls:=.type "list",dict:=none,data:=.seq ([]).toArray}=f at d x U⊢;have hz:f.objs.size=s.1.1.size+1:=by rw[<-Y,eN]
 rw[hz]at d U⊢;have hk:∀b o,s.1.get? b=some o->f.get? b=some o:=λb o e=>by rw[<-Y];exact aH _ e
 have ha:f.get? s.1.1.size=some {cls:=.type "list",data:=.seq #[] 0}:=by rw[<-Y];exact aT _ rfl
 have fresh:=I.ez.fresh (aJ _);have φ:∀{j:Hp},(∀b∈fp,j b=none)->∀b∈fp,o1 (jf X scope (Fx own _ cl) (xs++M) xs _ {s with heap:=f,toks:=s.toks} (upd H s.1.1.size (.lst [])) fp (X.pn++a)) [] j b:=λ{j} hn b n=>by
  obtain⟨f0,f1,f2,f3,f4,f5⟩:=hf b n;refine⟨hn b n,?_,?_,.inl n,λy c e=>(by
   rcases l7 e with e|⟨_,e⟩
   ·exact f4 y c (O.cells e)
   ·exact λz=>NA (C b n) e z),λp hp=>f5 p (by simpa[jf]using hp)⟩
  ·exact ue (C b n)
  ·intro υ;rcases List.mem_cons.mp (I.qb b υ)with e|e
   ·exact f1 e
   ·exact f2 e
 have back:∀{u β j Q},Inv (jf X scope (Fx own (s.1.1.size+2) cl) (xs++M) xs (s.1.1.size+1) {s with heap:=f,toks:=s.toks} (upd H s.1.1.size (.lst [])) fp (X.pn++a)) u β j Q->Inv X a Z j Q:=λ{u β j Q} N=>by
  exact I.vl N.os ((Un.laid hk (aJ _) fresh).trans N.base) N.ez N.bare λb n=>by
   obtain⟨f0,f1,f2,f3,f4,f5⟩:=hf b n;exact⟨f3,f1,f4,f5⟩
 have L:iE _ X.A (.compLoop (.ListComp elt [⟨tg,iter,ifs,0⟩] scope pos) 0 _ _ (compEnvC scope _ _ X.env)) _
   {s with heap:=θ}:=
  Pj (r0:=rh F ds) (Bk.wY _ _ _ _ _) (Bk.elt _ _ _ _ _ (Sh hA I (Heap.get?_none_of_le (jW _)) back)) (Bk.test.imp_right (by rintro ⟨c,e,h⟩;exact⟨c,e,h _ _ _ _ _⟩)) hc (λv s' q=>cJ q (λ_ s2 z=>ι v s2 z) λe s2 z=>ι e s2 z) T φ R O.vZ fresh ok hl hF (λz=>by rw[z]at l;exact l) (λc z=>by rw[z]at l;exact l)
   (λs2 j G1 vs zs os N χ ψ x1 Θ z=>by
    obtain⟨m2,τ,_⟩:=N.loc;rw[z]at l;exact l s2 j G1 vs m2 (back N) τ N.free x1 ψ χ Θ)
   ⟨0,bY xs.length none,_,G,[],[],dN,rfl,bX _,(S3 (tk2:=s.toks) O I hf C hk hz ha x d U),T.keep 0 _ _ st (λb _ o e=>x b o (hk b o e)),λb n=>by rw[ag (bL (C b n))];exact(hf b n).1,ai,(dh R.gh fresh),(Ext.own R.gh _ fresh),rfl,aJ _,T5 _⟩
 exact codeAny_compStart_list L (T.self _ 0 _ _ _ (T.keep 0 _ _ st (λb _ o e=>x b o (hk b o e))) L)
def Yc(E b:EK)(F:En->D->TR):Prop:=∀δ a c,rh (F δ) a=.er c->∀H,E c H->b c H
def To{E b:EK}{f:En->D->Option (Option D)}:Yc E b λδ d=>OU (f δ d):=λδ a c h=>by
 rw[Nh]at h;cases e:rg (f δ) a with
 |none=>rw[e]at h;cases h
 |some i=>rw[e]at h;cases h
def eT.er{E b:EK}{G H:Hp}{r:dg}{P:List D->Prop}(h:eT E G H r P)(f:∀c,r=.er c->∀H,E c H->b c H):eT b G H r P:=by
 cases r with
 |ok i=>exact h
 |er c=>exact λd a e=>f c rfl a (h d a e)
 |st=>exact h
def Vs{F:En->D->TR}(O:gL X scope cl own xs M ix)(hc:X.calm=true)(hA:Sg X E')(Bk:p7 X B E' scope cl own xs M tg td elt ifs t g)(hF:∀δ,Dc td (rf ix δ) t g (F δ))(hE:Yc E (ek (kx X) E') F)(hi:O4 X B E tg iter r)
  (hs:∀x,fV iter X.env x=pure x:=by intro _;rfl):Yd X B E (.ListComp elt [⟨tg,iter,ifs,0⟩] scope pos) (pf r F):=by
 intro j s Z H Q I q;obtain⟨G,δ,R,q⟩:=q;refine wpAny_comprehension_free rfl hs (uq O.sO) O.kind O.names ?_;refine cJ (hi j s Z H (λJ N=>∃n h,Ext G H n N/\xm _ J h _/\h.length<=aQ/\eT E G H _ λu=>
  ∀a w Y U,Ext G H Y U->H a=none->Y a=none->U a=some _->br _ Y u w->Q _ U) I
  ⟨G,δ,R,(DY q).mono (by rintro h _ ⟨C,q⟩ J n N f ok;exact⟨n,h,f,ok,C,q.mono λu _ ⟨Γ,ed,q⟩=>by cases ed;exact q⟩)⟩) (λv s1 h1=>cJ h1 (λγ l h2=>?_) λ_ _ e=>e) λ_ _ e=>e
 obtain⟨it,fp,tn,J,N,rfl,i,T,st,hf,n,h,f,ok,C,q⟩:=h2;refine Gc O hc hA Bk i T st hf (R.ext f) ok C (hF δ) (λ_ _ z=>z) (((q.ext f).er (hE δ h)).mono λu _ q=>?_);intro s3 H3 G3 w m I3 hm hC e3 g3 h3 dl;refine⟨m,hm,λh' A=>⟨.ref l.1.1.size,H3,?_,rfl,q _ w G3 H3 (f.trans e3) (dh f.hh (i.ez.fresh (aJ _))) g3 h3 dl⟩⟩;have d:l.1.1.size<=l.1.1.size+1:=jW _;refine I3.turned (it:=l.1.1.size+1) (λb o hb e=>A.extBut b o hb e) hC ?_ (.inr (cG i.sz d)) ?_ ?_
 ·exact λz=>absurd (bS i.lt (cG d (fM z))) (cP _)
 ·intro y c L z;obtain⟨v',q'⟩:=i.cell y c L;exact absurd (bS q'.lt (cG d (fM z.symm))) (cP _)
 ·intro p hp z;exact absurd (bS (aV (i.pin p hp).1) (cG d (fM z.symm))) (cP _)
end
section
variable{X:Cx}{B:Hp}{E:EK}{e a b:Expr}{es:List Expr}{g h:En->Res}{pos:Pos}
noncomputable def xa(d:D):D->Option Bool
 |.lst xs=>match c9 xs,cf d with
  |some c,some q=>if bP c && bU q then some (c.any λy=>cV y q)else none
  |_,_=>none
 |.tup xs=>match c9 xs,cf d with
  |some c,some q=>if bP c && bU q then some (c.any λy=>cV y q)else none
  |_,_=>none
 |.str z=>match d with
  |.str x=>some (!(kY z x 0 z.length 1).isEmpty)
  |_=>none
 |_=>none
def Rc(d e:D):Option D:=(xa d e).map .bl
def uh(d e:D):Option D:=(xa d e).map λb=>.bl !b
def zz{b:Bool}(h:(match c9 xs,cf d with
  |some c,some q=>if bP c && bU q then some (c.any λy=>cV y q)else none
  |_,_=>none)=some b):∃c q,c9 xs=some c/\cf d=some q/\bP c=true/\bU q=true/\b=c.any λy=>cV y q:=by
 cases i:c9 xs with
 |none=>rw[i]at h;cases h
 |some c=>
  cases j:cf d with
  |none=>rw[i,j]at h;cases h
  |some q=>
   rw[i,j]at h;dsimp only at h
   by_cases f:(bP c && bU q)=true
   ·rw[aN f]at h;cases h;rw[bA]at f;exact⟨c,q,rfl,rfl,f.1,f.2,rfl⟩
   ·rw[aK f]at h;cases h
inductive q7(K:KA)(neg:Bool)(x:V)(y:V)(H:Hp)(Q:VK):Prop
 |mk (G dx dy b) (_:bc G H) (_:Arg K G H dx x) (_:Arg K G H dy y) (_:xa dx dy=some b) (_:Q (.bl (if neg then !b else b)) H):q7 K neg x y H Q
def GM(M:X.A.units+65<cZ):kO X (dX .In) (q7 (kx X) false):=by
 intro d s Z H x y v u Q I l j q;obtain⟨G,T,O,b,i,L,J,f,q⟩:=q;cases O with
 |lst xs=>
  obtain⟨N,p,C,r,m,c,rfl⟩:=zz f;obtain⟨U,o⟩:=cv I i L l r;obtain⟨bs,n⟩:=cv I i J j (by unfold cf;rw[C]);exact SeqAt.in_list_reads n o m (gJ c) (lK c M) ⟨.bl _,H,I,rfl,q⟩
 |tup xs=>
  obtain⟨N,p,C,r,m,c,rfl⟩:=zz f;obtain⟨U,o⟩:=cv I i L l r;obtain⟨bs,n⟩:=cv I i J j (by unfold cf;rw[C]);exact SeqAt.in_tuple_reads n o m (gJ c) (lK c M) ⟨.bl _,H,I,rfl,q⟩
 |str z=>
  cases T with
  |str w=>
   cases f;rw[L.str]at l;rw[J.str]at j;exact Qt d s Z H _ _ _ _ Q I l j ⟨_,_,rfl,rfl,q⟩
  |_=>cases f
 |_=>cases f
def Qu(M:X.A.units+65<cZ):kO X (dX .NotIn) (q7 (kx X) true):=by
 intro d s Z H x y v u Q I l j q;obtain⟨G,T,O,b,i,L,J,f,q⟩:=q;cases O with
 |lst xs=>
  obtain⟨N,p,C,r,m,c,rfl⟩:=zz f;obtain⟨U,o⟩:=cv I i L l r;obtain⟨bs,n⟩:=cv I i J j (by unfold cf;rw[C]);exact SeqAt.notIn_list_reads n o m (gJ c) (lK c M) ⟨.bl _,H,I,rfl,q⟩
 |tup xs=>
  obtain⟨N,p,C,r,m,c,rfl⟩:=zz f;obtain⟨U,o⟩:=cv I i L l r;obtain⟨bs,n⟩:=cv I i J j (by unfold cf;rw[C]);exact SeqAt.notIn_tuple_reads n o m (gJ c) (lK c M) ⟨.bl _,H,I,rfl,q⟩
 |str z=>
  cases T with
  |str w=>
   cases f;rw[L.str]at l;rw[J.str]at j;exact Fg d s Z H _ _ _ _ Q I l j ⟨_,_,rfl,rfl,q⟩
  |_=>cases f
 |_=>cases f
def AB:ic (kx X) Rc (q7 (kx X) false):=λG H x y j i d f m l c Q q=>by
 unfold Rc at c;cases e:xa j i with
 |none=>rw[e]at c;cases c
 |some b=>rw[e]at c;cases c;exact⟨G,j,i,b,f,m,l,e,q _ G H (Ext.refl f) rfl⟩
def L7:ic (kx X) uh (q7 (kx X) true):=λG H x y j i d f m l c Q q=>by
 unfold uh at c;cases e:xa j i with
 |none=>rw[e]at c;cases c
 |some b=>rw[e]at c;cases c;exact⟨G,j,i,b,f,m,l,e,q _ G H (Ext.refl f) rfl⟩
def jd:D->Option D
 |.lst c=>some (.tup c)
 |.tup c=>some (.tup c)
 |_=>none
def Wu:D->Option D
 |.int i=>some (.int i)
 |.bl b=>some (.int (if b then 1 else 0))
 |_=>none
def Wp(u:Gl X "tuple")(s:X.mg "tuple"=none)(v:k9 X B E e g)(r:bM [e] X.env=(false,eval e X.env)::bM [] X.env:=by rfl)(m:(fF pos (bM [] X.env)).any (·.1)=false:=by rfl):gj X B E (.Call (.Name "tuple" p) [e] [] pos) (g1 jd g):=
 PE.imp (oh Cv u s PyProof.Rows.boot_tuple (ip v je r) (by decide) (by decide) r m) λZ H Q q=>Yp (λG H x w d c n f Q q=>by
  unfold jd at f;split at f
  ·cases f;obtain⟨l,i,rfl,j,dl⟩:=n.lst c;exact⟨l,i,rfl,.inl ⟨j,λp o=>q _ _ _ (Ext.new c _ o) (sj c o dl)⟩⟩
  ·cases f;obtain⟨l,i,rfl,j,dl⟩:=n.tup c;obtain ad|⟨_,_,_,z,_⟩|⟨_,_,_,z,_⟩:=n
   ·exact⟨l,i,rfl,.inr ⟨j,q _ G H (Ext.refl c) ad⟩⟩
   ·cases z
   ·cases z
  ·cases f) q
def BP(n:Gl X "int")(m:X.mg "int"=none)(o:k9 X B E e g)(j:bM [e] X.env=(false,eval e X.env)::bM [] X.env:=by rfl)(f:(fF pos (bM [] X.env)).any (·.1)=false:=by rfl):gj X B E (.Call (.Name "int" p) [e] [] pos) (g1 Wu g):=
 PE.imp (oh O9 n m PyProof.Rows.boot_int (ip o je j) (by decide) (by decide) j f) λZ H Q q=>Yp (λG H x r d i l c Q q=>by
  unfold Wu at c;split at c
  ·cases c;rw[l.int];exact .inl ⟨_,rfl,q _ G H (Ext.refl i) rfl⟩
  ·cases c;rw[l.bl];exact .inr ⟨_,rfl,q _ G H (Ext.refl i) rfl⟩
  ·cases c) q
end
section
variable{X:Cx}{G0 B:Hp}{E:EK}{e a b:Expr}{es:List Expr}{g h:En->Res}{pos:Pos}
noncomputable def qm(i:Nat)(g:En->Res):En->Out:=λδ=>match δ[i]? with
 |some (.ow c)=>(g δ).then λd=>if c.length<aQ then .nx (δ.set i (.ow (c++[d])))else .st
 |_=>.st
def c5.qO{K:KA}{G H:Hp}{Z:St}{δ:En}{i:Nat}{d:List D}(R:c5 K B G H Z δ)(h:δ[i]?=some (.ow d)):OA B G H .lst (br K G d) Z[i]?:=by
 obtain⟨o,c,a,f,m,l,j⟩:=R.sl i _ h;subst m;obtain⟨g,b⟩:=R.own i _ a h rfl c;exact⟨a,f,c,l,j,g,b⟩
def W7{i:Nat}{x:Str}{p m f:Pos}(hv:PE X (.Name x p) (uj i))(ha:gj X B E e g)
  (r:iM (.Name x p) "append" X.env (eval (.Name x p) X.env)=eval (.Name x p) X.env:=by rfl)
  (u:((fF f (bM [e] X.env)).all (λx=> !x.1) && (mS f (iW [] X.env)).all (λx=>x.1.isSome)
   && decide (([e]:List Expr).length+([]:List iF).length+(if([]:List iF).isEmpty then 0 else 1)<30))=true:=by rfl)
  (o:(m.endLine==f.line)=true:=by rfl) (L:bM [e] X.env=(false,eval e X.env)::bM [] X.env:=by rfl) (n:(fF f (bM [] X.env)).any (·.1)=false:=by rfl)
  (z:kC (.Call (.Attribute (.Name x p) "append" m) [e] [] f) none pos.line X.env=pure false:=by rfl):
  vm X G0 B E (.Expr (.Call (.Attribute (.Name x p) "append" m) [e] [] f) pos) (qm i g):=
 PS.imp (uf (y6 eJ kN kP ud hv (Ap ha je L) r u o L n) z)<|by
  rintro D Z H ⟨G,δ,R,O,q⟩
  unfold qm at q;cases w:δ[i]? with
  |none=>rw[w]at q;exact q.elim
  |some Y=>
   rw[w]at q;cases Y with
   |ow ds=>
    obtain⟨l,C,J,y,I,q4,q5⟩:=R.qO w;refine⟨.ref l,J,.inl ⟨rfl,C,fD.of y⟩,G,δ,R,?_⟩;have j:=zd O q;unfold au;cases A:g δ with
    |er c=>rw[A]at j;exact j
    |st=>rw[A]at j;exact j
    |ok d=>
     rw[A]at j;have j:il _ G0 B E G _ D:=j
     by_cases M:ds.length<aQ
     ·rw[aN M]at j;intro ws G1 H1 s al;obtain⟨d',dr,v,vr,U,T,dv,z3,Q⟩:=al;cases U;subst T Q;have N:=s.hh _ _ y;refine⟨l,C,v,rfl,rfl,N,by rwa [<-I.length],?_⟩;exact j Z G1 _ s.gg (c5.wr (R.ext s) w J N ((I.mono s.gg).append (br.one dv))) (Ext.wr (O.trans s) (s.fr _ _ y q4 rfl) q5)
     ·rw[aK M]at j;exact j.elim
   |no=>exact q.elim
   |pu _=>exact q.elim
   |bo _=>exact q.elim
   |od _ _=>exact q.elim
def Gy(T:String)(z:T="list"\/T="tuple")(l:Addr)(f:Array aG)(n:Nat)(b:Addr)(c:Array aG)(r:Nat)(o:Option Addr)(m:Array (Option aG))(y:¬(!f.isEmpty && kM (f.size+c.size))=true)(v:f.size<=aQ)(u:f.size+c.size<=aQ+1):
  Meets (Builtin.«list.extend» ⟨[.ref l,.ref b],[]⟩) (λ_ R s=>s.1.get? l=some {cls:=.type "list",dict:=none,data:=.seq f n,slots:=#[]}/\s.1.get? b=some {cls:=.type T,dict:=o,data:=.seq c r,slots:=m}/\R (.ok (.ret eK)) {s with heap:=s.1.update l (nT λx=>x++c),toks:=s.toks}):=
 .of_wp λp w A R s h=>by
  obtain⟨G,g,d,C,os⟩:=s;obtain⟨j,q,h⟩:=h;have H:=AutoSeq1.sub_list_tuple;have i:(f++c).size<=aQ+1:=by rwa [Array.size_append]
  obtain rfl|rfl:=z
  ·wp_walk using(iB j rfl (_hz':=i)),iN j,iN q;exact⟨_,rfl,h⟩
  ·wp_walk using(iB j rfl (_hz':=i)),iN j,iN q;exact⟨_,rfl,h⟩
inductive sU(K:KA)(x:V)(vs:List V)(H:Hp)(Q:VK):Prop
 |mk (l b xs zs) (_:x=.ref l) (_:vs=[.ref b]) (_:H l=some (.lst xs)) (_:(fD K H b zs\/m3 K H b zs)) (_:xs.length+zs.length<=aQ) (_:Q .hZ (upd H l (.lst (xs++zs)))):sU K x vs H Q
def N7:OG X "list.extend" (sU (kx X)):=by
 intro L s Z H x vs v us Q I O U h;obtain⟨l,b,xs,N,rfl,rfl,M,hB,hz,q⟩:=h;cases O;obtain⟨u,rfl,Y⟩:=U.one;cases Y;obtain⟨z,i,n,r,hl,e⟩:=I.tT M;have C:∃T f m p j,(T="list"\/T="tuple")/\Vals N f/\s.1.get? b=some {cls:=.type T,dict:=p,data:=.seq f.toArray m,slots:=j}:=by
  obtain hB|hB:=hB
  ·obtain⟨f,w,A,_⟩:=I.list hB;obtain⟨⟨cls,dd,data,y⟩,m,J,c,d,q⟩:=A;subst c d q;exact⟨_,f,m,_,y,.inl rfl,w,J⟩
  ·obtain⟨f,w,A,_⟩:=I.tuple hB;obtain⟨⟨cls,dd,data,y⟩,J,c,m,q⟩:=A;subst c q;exact⟨_,f,m,_,y,.inr rfl,w,J⟩
 obtain⟨T,f,m,p,j,hT,w,e2⟩:=C;have α:=w.length;have G:i.toArray.size+f.toArray.size<=aQ:=by rw[bO,bO];lia
 have o:¬(!i.toArray.isEmpty && kM (i.toArray.size+f.toArray.size))=true:=by
  rw[Vj G,lM];exact Bool.false_ne_true
 refine nU F.slot_list_extend ⟨_,e,rfl⟩ F.entry_list_extend (F.args_list_extend_2 _ _)
  (Gy T hT l i.toArray n b f.toArray m p j o (by lia) (by lia)) ⟨e,e2,?_⟩
 refine⟨.hZ,_,I.tU M e (by simp) (r.append w) ?_,rfl,q⟩;rw[aM]
 lia
noncomputable def vg(i:Nat)(g:En->Res):En->Out:=λδ=>match δ[i]? with
 |some (.ow c)=>(g δ).then λd=>match sr d with
  |some es=>if c.length+es.length<=aQ then .nx (δ.set i (.ow (c++es)))else .st
  |none=>.st
 |_=>.st
def W8{i:Nat}{x:Str}{p m f:Pos}(hv:PE X (.Name x p) (uj i))(ha:k9 X B E e g)
  (u:iM (.Name x p) "extend" X.env (eval (.Name x p) X.env)=eval (.Name x p) X.env:=by rfl)
  (w:((fF f (bM [e] X.env)).all (λx=> !x.1) && (mS f (iW [] X.env)).all (λx=>x.1.isSome)
   && decide (([e]:List Expr).length+([]:List iF).length+(if([]:List iF).isEmpty then 0 else 1)<30))=true:=by rfl)
  (s:(m.endLine==f.line)=true:=by rfl) (Y:bM [e] X.env=(false,eval e X.env)::bM [] X.env:=by rfl) (o:(fF f (bM [] X.env)).any (·.1)=false:=by rfl)
  (M:kC (.Call (.Attribute (.Name x p) "extend" m) [e] [] f) none pos.line X.env=pure false:=by rfl):
  vm X G0 B E (.Expr (.Call (.Attribute (.Name x p) "extend" m) [e] [] f) pos) (vg i g):=
 PS.imp (uf (y6 eJ PySem.F.slot_list_extend PySem.F.type_list_extend N7 hv (ip ha je Y) u w s Y o) M)<|by
  rintro D Z H ⟨G,δ,R,ex,q⟩
  unfold vg at q;cases z:δ[i]? with
  |none=>rw[z]at q;exact q.elim
  |some sl=>
   rw[z]at q;cases sl with
   |ow ds=>
    obtain⟨l,Q,U,J,T,q4,q5⟩:=R.qO z;refine⟨.ref l,U,.inl ⟨rfl,Q,fD.of J⟩,G,δ,R,?_⟩;have j:=zd ex q;unfold au;cases N:g δ with
    |er c=>rw[N]at j;exact j
    |st=>rw[N]at j;exact j
    |ok d=>
     rw[N]at j;cases y:sr d with
     |none=>
      have j:il _ G0 B E G _ D:=j;rw[y]at j;exact j.elim
     |some es=>
      have j:il _ G0 B E G _ D:=j;rw[y]at j;dsimp only at j
      by_cases hl:ds.length+es.length<=aQ
      ·rw[aN hl]at j;intro ws G1 H1 r al;obtain⟨v,rfl,av⟩:=gr.one al;have h1:=r.hh _ _ J;have L:∃b n,v=.ref b/\(fD (kx X) H1 b n\/m3 (kx X) H1 b n)/\br (kx X) G1 es n:=by
        cases d with
        |lst O=>cases y;obtain⟨b,n,I,C,A⟩:=av.lst r.gh;exact⟨b,n,I,.inl C,A⟩
        |tup O=>cases y;obtain⟨b,n,I,C,A⟩:=av.tup r.gh;exact⟨b,n,I,.inr C,A⟩
        |_=>cases y
       obtain⟨b,n,rfl,sq,dl⟩:=L;have l1:=T.length;have l2:=dl.length;refine⟨l,b,Q,n,rfl,rfl,h1,sq,by lia,?_⟩;exact j Z G1 _ r.gg (c5.wr (R.ext r) z U h1 ((T.mono r.gg).append dl)) (Ext.wr (ex.trans r) (r.fr _ _ J q4 rfl) q5)
      ·rw[aK hl]at j;exact j.elim
   |no=>exact q.elim
   |pu _=>exact q.elim
   |bo _=>exact q.elim
   |od _ _=>exact q.elim
end
def ka:D->Option iu
 |.int i=>some (.inl i)
 |.str x=>some (.inr x)
 |_=>none
def wm(k:iu):ka (kD k)=some k:=by cases k<;>rfl
noncomputable def wu:List (D×D)->iu->Option D
 |[],_=>none
 |(k,d)::r,j=>if ka k=some j then some d else wu r j
def FP(a:List (D×D))(j:iu):Bool:=a.any λp=>decide (ka p.1=some j)
def BM(a:List (D×D))(j:iu)(v:D):List (D×D):=if FP a j=true then a.map (λp=>if ka p.1=some j then(p.1,v)else p)else a++[(kD j,v)]
section
variable{K:KA}{G:Hp}
def hG.length:∀{a:List (D×D)}{es:List (iu×V)},hG K G a es->a.length=es.length:=by
 intro b;induction b with
 |nil=>rintro _ h;rw[h];rfl
 |cons _ _ c=>rintro _ ⟨k,v,r,e,_,_,d⟩;rw[e,aE,aE,c d]
def hG.look:∀{b:List (D×D)}{es:List (iu×V)},hG K G b es->∀j,(∀d,wu b j=some d->∃v,kr es j=some v/\Den K G d v)/\(wu b j=none->kr es j=none):=by
 intro a;induction a with
 |nil=>
  rintro es h j
  rw[h];exact⟨λd e=>(by cases e),λ_=>J0⟩
 |cons a r c=>
  obtain⟨k,d⟩:=a
  rintro es h j
  obtain⟨l,v,t,rfl,rfl,o,p⟩:=h;obtain⟨n,m⟩:=c p j;unfold wu;rw[wm]
  by_cases e:l=j
  ·subst e;rw[aN rfl];exact⟨λf z=>⟨v,mn rfl,by cases z;exact o⟩,λz=>by cases z⟩
  ·rw[aK (λz=>e (bN z))];refine⟨λf z=>?_,λz=>?_⟩
   ·obtain⟨u,i,g⟩:=n f z;exact⟨u,(j6 e).trans i,g⟩
   ·exact(j6 e).trans (m z)
def hG.has:∀{b:List (D×D)}{es:List (iu×V)},hG K G b es->∀j,FP b j=es.any λf=>decide (f.1=j):=by
 intro a;induction a with
 |nil=>rintro es h j;rw[h];rfl
 |cons a r c=>
  obtain⟨k,m⟩:=a
  rintro es h j
  obtain⟨g,u,t,rfl,rfl,l,i⟩:=h;have d:=c i j;unfold FP at d⊢;rw[gN,gN,d]
  congr 1
  rw[wm]
  by_cases e:g=j
  ·simp[e]
  ·rw[decide_eq_false e,decide_eq_false λz=>e (bN z)]
def hG.qZ(l:Den K G d v):∀{b:List (D×D)}{es:List (iu×V)},hG K G b es->∀j,hG K G (b.map λp=>if ka p.1=some j then(p.1,d)else p) (es.map λc=>if c.1=j then(c.1,v)else c):=by
 intro a;induction a with
 |nil=>rintro es h j;rw[h];rfl
 |cons a r g=>
  obtain⟨k,o⟩:=a
  rintro es h j
  obtain⟨f,u,t,rfl,rfl,m,n⟩:=h;have i:=g n j;rw[aR,aR];rw[wm]
  by_cases e:f=j
  ·rw[aN e,aN (by rw[e])];exact⟨f,v,_,rfl,rfl,l,i⟩
  ·rw[aK e,aK λz=>e (bN z)];exact⟨f,u,_,rfl,rfl,m,i⟩
def hG.snoc(f:Den K G d v):∀{b:List (D×D)}{es:List (iu×V)},hG K G b es->∀j,hG K G (b++[(kD j,d)]) (es++[(j,v)]):=by
 intro a;induction a with
 |nil=>rintro es h j;rw[h];exact⟨j,v,[],rfl,rfl,f,rfl⟩
 |cons a r c=>
  obtain⟨k,l⟩:=a
  rintro es h j
  obtain⟨e,u,t,rfl,rfl,g,i⟩:=h;exact⟨e,u,_,rfl,rfl,g,c i j⟩
def hG.put(b:Den K G d v)(h:hG K G a es)(j:iu):hG K G (BM a j d) (jh es j v):=by
 unfold BM jh;rw[h.has j]
 by_cases e:(es.any λc=>decide (c.1=j))=true
 ·rw[aN e,aN e];exact h.qZ b j
 ·rw[aK e,aK e];exact h.snoc b j
end
section
variable{X:Cx}{G0 B:Hp}{E:EK}{e a b:Expr}{es:List Expr}{g h k:En->Res}{pos:Pos}
def Arg.tX{K:KA}{G H:Hp}{c:List (D×D)}{v:V}(s:bc G H)(h:Arg K G H (.ja false c) v):RA H .dK (hG K G c) v:=by
 obtain ⟨a,f,d⟩|⟨_,_,_,z,_⟩|⟨j,i,a,z,f,d⟩:=h
 ·obtain ⟨_,es,q,r⟩|⟨z,_⟩:=d
  ·exact⟨a,es,f,s _ _ q,r⟩
  ·cases z
 ·cases z
 ·cases z;obtain ⟨_,es,q,r⟩|⟨z,_⟩:=d
  ·exact⟨a,es,f,q,r⟩
  ·cases z
def zx{K:KA}{G H:Hp}{d:D}{v:V}{k:iu}(h:Arg K G H d v)(e:ka d=some k):v=kV k:=by
 cases d with
 |int i=>cases e;exact h.int
 |str x=>cases e;exact h.str
 |_=>cases e
end
def i9:Expr->Bool
 |.Starred _ _=>false
 |_=>true
def ak(h:i9 e=true):bM (e::es) a=(false,eval e a)::bM es a:=by
 cases e<;>first|rfl|cases h
def Jp:∀{es:List Expr}{b:Env}{a:Pos},es.all i9=true->(fF a (bM es b)).any (·.1)=false:=by
 intro c;induction c with
 |nil=>rintro _ _ _;exact rfl
 |cons e es d=>
  rintro b a h
  rw[cF,bA]at h;rw[ak h.1];show((false||(fF a _).any (·.1)))=false;rw[d h.2];rfl
def ml:∀{es:List Expr}{b:Env}{a:Pos},es.all i9=true->(fF a (bM es b)).all (λx=> !x.1)=true:=by
 intro c;induction c with
 |nil=>rintro _ _ _;exact rfl
 |cons e es d=>
  rintro b a h
  rw[cF,bA]at h;rw[ak h.1];show((true && (fF a _).all _))=true;rw[d h.2];rfl
def Jq(h:i9 e=true)(c:i9 f=true):fF b (bM [e,f] a)=[(false,eval e a),(false,eval f a)]:=by
 rw[ak h,ak c];rfl
def Fk:Expr->Bool
 |.UnaryOp .Not _ _=>false
 |.BoolOp _ _ _=>false
 |.IfExp _ _ _ _=>false
 |.Compare _ _ _ _=>false
 |_=>true
def Dw{a:Expr}(h:Fk a=true):∀b,isTrue a d b=(do let v <-b;standAt a.pos;holding [v] (truthy v)):=by
 intro b;cases a<;>first|rfl|(cases h;done)|skip
 rename_i c x p;cases c<;>first|rfl|cases h
def Fj:Expr->Bool
 |.Slice _ _ _ _=>false
 |_=>true
def Q3(h:Fj b=true):Ea b:=by
 intro o i;cases b<;>first|rfl|cases h
def rk:Expr->Bool
 |.Set _ _ _=>false
 |_=>true
def sx(h:rk b=true):mN a b=false:=by
 cases b<;>first|rfl|cases h
def qg(h:rk e=true):∀x,fV e a x=pure x:=by
 intro x;cases e<;>first|rfl|cases h
def B0(h:rk c=true):pY [d,a] [b,c]=false:=sx h
def vc:Expr->Bool
 |.ListComp _ _ _ _=>false
 |.SetComp _ _ _ _=>false
 |.DictComp _ _ _ _ _=>false
 |_=>true
def qf(h:vc e=true):kC e t n a=pure false:=by
 cases e<;>first|rfl|cases h
def kn:Expr->Bool
 |.Call _ _ _ _=>false
 |_=>true
def ni(h:kn o=true):iM o a b w=w:=by
 cases o<;>first|rfl|cases h
end Pu
namespace L2
open PySem PySem.Spec PyProof.Rows
section
variable{P:bH}{w:bV}{K:aP}{mg:Str->Option aG}{base:Heap}
def uD.wZ{x b:Str}{st:Stmt}{f:Addr}{l:jV}{N h:List Str}{k:Nat}{g:Sp}(F:uD K x b st f l)(S:kv N h (a8 st))(len:∀d H Q E,g d H Q E->d.length=h.length)
   (e:∀(c:aG)(A:cB)(a:List Env)(s:aI)(H:Hp)(d:List V)(Q:VK)(E:XK),l.code=c->gy k (A.deeper (pA b (a8 st) s.1.1.size f c))->g d H Q E->
   ∃t,qN (zh (R9 P w) P w K mg base N b (a8 st) f c A a s H E) (a6 st) t/\t {nx:=λ_ q=>Q .hZ q,rt:=Q} (ro N d) H):i0 P w K mg base (R9 P w) (k+1) f l h g:=by
 obtain⟨u,od,kV,p,r,v,c,ct,m,rfl,n,j⟩:=F.ex;exact KH n j S len λA a s H d Q E o i=>e c A a s H d Q E rfl o i
def i0.calm(F:i0 P w K mg base (R9 P w) k f o j g):i0 P w K mg base R7 k f o j (λb H Q _=>g b H Q E0):=by
 refine⟨λb H Q E h=>F.len b H Q E0 h,λA a s H c d b Q E l p m r h=>jA (F.run A a s H c d b Q E0 l p m r h) λi q z=>?_⟩;cases i with
 |ok n=>cases n<;>exact z
 |error e=>
  exact dY z
end
end L2
namespace Pu
open PySem PySem.Spec PyProof.Rows L2
def Tu{P:bH}{w:bV}{e:aP}{mg:Str->Option aG}{base:Heap}{x b:Str}{st:Stmt}{f:Addr}{j:jV}{N i:List Str}{k:Nat}{ms:List Bool}{Fb:En->Out}(F:uD e x b st f j)(S:kv N i (a8 st))(n:ms.length=i.length)
   (d:∀(c:aG)(A:cB)(a:List Env)(s:aI)(H u:Hp)(E:XK),j.code=c->gy k (A.deeper (pA b (a8 st) s.1.1.size f c))->
   zg (zh (R9 P w) P w e mg base N b (a8 st) f c A a s H E) u H (ek ⟨e,Sn mg⟩ E) (a6 st) Fb):
  i0 P w e mg base (R9 P w) (k+1) f j i (qY ⟨e,Sn mg⟩ ms (OB ms N.length Fb)):=by
 refine F.wZ S (λl H Q E h=>h.1.trans n) λc A a s H l Q E o m h=>?_;obtain⟨v,p,G,y,g,r,q⟩:=h;exact⟨_,d c A a s H G E o m,G,_,Kp p g r,Ext.refl g,AQ g q⟩
end Pu
namespace L2
open PySem PySem.Spec PyProof.Rows
def FU{CX:R8}{P:bH}{w:bV}{K:aP}{mg:Str->Option aG}{base:Heap}{f:Addr}{l d:Str}{g:Arguments}{i:List Stmt}{a:fK}{dV kV M pm h ct oc:aG}{an od:Option Addr}
  {α:Array (Option aG)} {N O:List Str} {T:Sp} (lk:K.lookup f=some ⟨oc,od,.func (dC l d g i a dV kV M pm an h ct),α⟩) (β:fC K h d=true) (S:kv N O a)
  (len:∀p H Q E,T p H Q E->p.length=O.length)
  (B:∀(A:cB)(c:List Env)(s:aI)(H:Hp)(p:List V)(Q:VK)(E:XK),T p H Q E->
   ∃t,qN (zh CX P w K mg base N d a f h A c s H E) i t/\t {nx:=λ_ m=>Q .hZ m,rt:=Q} (ro N p) H):
  i0 P w K mg base CX 0 f (dC l d g i a dV kV M pm an h ct) O T:=by
 refine⟨len,λA c s H η us p Q E hr L hb r G=>?_⟩;have hl:=len _ _ _ _ G;have KX:=L.mod.uV.keeps λb o e=>(L.bs b o e).1;have z:∀y∈O.zip us,a.names.lookup y.1=some .local\/(a.names.lookup y.1=some .cell/\((mG (s.1.1.size+1) a.names []).lookup y.1).isSome=true):=by
  rintro ⟨n,v⟩ hy
  rcases S.par n (nB hy).1 with q|q
  ·exact .inl q
  ·exact .inr ⟨q,lI _ _ _ (.inl q)⟩
 refine codeAny_call_function hr.depth (KX _ _ lk) rfl S.co S.gen rfl (PySem.W.codeRec_of KX β) (hb _ _ _ _ ?_);refine wpAny_newFunctionEnv_cells S.kind z λω he s1 x=>?_;subst he;refine⟨(L.mod.nolimit.keeps λb o e=>(L.bs b o e).1).keeps x.toInCall.keep,codeAny_func ?_⟩;obtain⟨t,ht,hq⟩:=B A c s H p Q E G;refine cJ (ht [] s1 _ H _ (Dp S hr.hd L hl r x) hq) (λfl U C=>?_) λe U C=>C;have I:∀{j:St}{m:Hp}{v:V}{u:aG},Inv (zh CX P w K mg base N d a f h A c s H E) [] j m U->RelV v u->Q v m->CE c P w H s Q u U:=
  λ{j m v u} J Y q=>⟨v,m,J.os,J.bare,J.base,J.ez,Y,q⟩
 cases fl with
 |ret u=>
  obtain⟨v,j,m,J,Y,q⟩:=C;exact I J Y q
 |next=>
  obtain⟨j,m,J,q⟩:=C;exact I (v:=V.hZ) (u:=eK) J rfl q
 |brk=>
  obtain⟨_,_,_,q⟩:=C;exact dY q
 |cont=>
  obtain⟨_,_,_,q⟩:=C;exact dY q
end L2
namespace Pu
open PySem PySem.Spec PyProof.Rows L2
inductive rY(C:Addr)(n1 n2:Str)(vs:List V)(H:Hp)(Q:VK)(E:XK):Prop
 |mk (x dx u1 u2) (_:vs=[.ref x,u1,u2]) (_:H x=some (.ins C dx [])) (_:Q .hZ (upd H x (.ins C dx [(n1,u1),(n2,u2)]))):rY C n1 n2 vs H Q E
inductive qF(P:bH)(w:bV)(K:aP)(mg:Str->Option aG)(base:Heap)(c n1 n2:Str):Prop
 |mk (C f fd) (_:mg c=some (.ref C)) (_:tE K C) (_:js K C n1) (_:js K C n2) (_:n1≠n2) (_:Mk K C f) (_:Binds K fd ["self",n1,n2] []) (_:i0 P w K mg base R7 0 f fd ["self",n1,n2] (rY C n1 n2)):qF P w K mg base c n1 n2
def Zg{P:bH}{w:bV}{K:aP}{mg:Str->Option aG}{base:Heap}{f C:Addr}{i a g d:Str}{st:Stmt}{kV j v h ct N:aG}{y od:Option Addr}{m:Array (Option aG)}
  (O:K.lookup f=some ⟨N,od,.func (dC i a (gd st) (a6 st) (a8 st) .none kV j v y h ct),m⟩)(n:fC K h a=true)(S:kv ["self",g,d] ["self",g,d] (a8 st))
  (eb:a6 st=[.Assign [.Attribute (.Name "self" M) g p2] (.Name g L) p4,.Assign [.Attribute (.Name "self" J) d p6] (.Name d I) p8]) (ne:g≠d)
  (ok:([("self":Str),g,d].all λx=>decide ((a8 st).names.lookup x=some .local) && !(x==("__debug__":Str)) && !(x==("__classdict__":Str)))=true) (c:tE K C) (a1:js K C g) (a2:js K C d):i0 P w K mg base R7 0 f (dC i a (gd st) (a6 st) (a8 st) .none kV j v y h ct) ["self",g,d] (rY C g d):=by
 refine FU O n S (by rintro z H Q E ⟨x,o,u,l,e,_,_⟩;rw[e];rfl) λA b s H z Q E ⟨x,o,u,l,e,hx,q⟩=>?_;subst e;simp only[bA,decide_eq_true_eq,lN,cF,List.all_nil,and_true]at ok;obtain⟨⟨⟨Y,d0⟩,η⟩,⟨⟨U,d1⟩,d2⟩,⟨T,d3⟩,d4⟩:=ok;rw[eb];have r:∀p,PE (zh R7 P w K mg base ["self",g,d] a _ f h A b s H E) (.Name "self" p) (uj 0):=λp=>Fi rfl (.inl Y);have G:∀p,PE (zh R7 P w K mg base ["self",g,d] a _ f h A b s H E) (.Name g p) (uj 1):=λp=>Fi rfl (.inl U) d1 d2;have B:∀p,PE (zh R7 P w K mg base ["self",g,d] a _ f h A b s H E) (.Name d p) (uj 2):=λp=>Fi rfl (.inl T) d3 d4;refine⟨_,Jd (Wf (r M) (G L) rfl) (Af (Wf (r J) (B I) rfl)),?_⟩;refine⟨u,rfl,.ref x,rfl,x,C,o,[],rfl,hx,c,a1,by simp,?_⟩;refine⟨l,rfl,.ref x,rfl,x,C,o,[_],rfl,ai,c,a2,by simp,?_⟩;rw[Aj,show tj d l [_]=[_,_]from by unfold tj;rw[aK ne];rfl];exact q
def Oo(cls:Str->Option (Str×Str))(f:Str)(d:D):Option D:=match d with
 | .obj (.Name c _) fs => (match cls c with
  |some (b,a)=>if f=b\/f=a then fs.lookup f else none
  |none=>none)
 |_=>none
def fq(cls:Str->Option (Str×Str))(f:Str)(g:En->Res):En->Res:=λδ=>(g δ).bind λd=>Res.of (Oo cls f d)
def qK.look{K:KA}{G:Hp}{f:Str}:∀{fs:List (Str×D)}{c:List (Str×V)}{d:D},qK K G fs c->fs.lookup f=some d->∃v,c.lookup f=some v/\Den K G d v:=by
 intro a;induction a with
 |nil=>rintro _ _ _ e;cases e
 |cons a r b=>
  obtain⟨n,p⟩:=a
  rintro _ d ⟨v,t,m,l,j⟩ e
  subst m;rw[dF]at e
  by_cases g:f=n
  ·subst g;rw[show(f==f)=true from by simp]at e;cases e;exact⟨v,by rw[dF,show(f==f)=true from by simp],l⟩
  ·have h:(f==n)=false:=by simpa using g
   rw[h]at e;obtain⟨u,o,i⟩:=b j e;exact⟨u,by rwa [dF,h],i⟩
section
variable{X:Cx}{B:Hp}{E:EK}{e:Expr}{es:List Expr}{g h:En->Res}{pos p:Pos}{f:Str}{cls:Str->Option (Str×Str)}
def HH(L:∀c j i,cls c=some (j,i)->qF X.prog X.w X.K X.mg X.base c j i)(N:k9 X B E e g)(M:kn e=true):gj X B E (.Attribute e f pos) (fq cls f g):=
 PE.imp (GE N (ni M)) λZ H Q ⟨G,δ,R,q⟩=>⟨G,δ,R,(c7.bind q).mono λd _ q v s H1 r av=>by
  obtain⟨d',b,x⟩:=c7.of q;cases d with
  |obj T fs=>
   cases T with
   |Name c p=>
     change (match cls c with
    |some (j,i)=>if f=j\/f=i then fs.lookup f else none
    |none=>none)=some d' at b
     cases m:cls c with
     |none=>rw[m]at b;cases b
     |some y=>
      obtain⟨j,i⟩:=y;rw[m]at b;dsimp only at b
      by_cases l:f=j\/f=i
      ·rw[aN l]at b;obtain⟨C,fi,fd,J,O,a1,a2,_⟩:=L c j i m;obtain⟨a,u,rfl,⟨Y,o⟩,df⟩:Den _ s _ v:=by
        obtain z|⟨_,_,_,z,_⟩|⟨_,_,_,z,_⟩:=av
        ·exact z
        ·cases z
        ·cases z
       obtain⟨n,I,dv⟩:=df.look b;have U:(kx X).A c=C:=by show Sn X.mg c=C;unfold Sn;rw[J]
       rw[U]at o;exact⟨a,C,Y,u,n,rfl,r.gh _ _ o,O,by rcases l with rfl|rfl<;>assumption,I,x n s H1 r dv⟩
      ·rw[aK l]at b;cases b
   |_=>cases b
  |_=>cases b⟩
def y8(c b a:Str)(d:List D):Res:=match d with
 |[j,i]=>.ok (.obj (.Name c ⟨0,0,0,0⟩) [(b,j),(a,i)])
 |_=>.st
def HF{x u s:Str}{a b:Expr}{r:En->dg}(hc:qF X.prog X.w X.K X.mg X.base x u s)(T:gy 1 X.A)(U:Gl X x)(ha:M9 X B E [false,false] [a,b] r)(l:(x==("__debug__":Str))=false)
  (Y:bM [a,b] X.env=(false,eval a X.env)::bM [b] X.env)(i:(fF pos (bM [b] X.env)).any (·.1)=false):gj X B E (.Call (.Name x p) [a,b] [] pos) (ah (y8 x u s) r):=by
 obtain⟨C,fi,fd,v,hC,a1,a2,ne,M,bd,F⟩:=hc;refine PE.imp (AL (E:=E0) M F T U v bd .nil MZ ha l Y i) λZ H Q ⟨G,δ,R,q⟩=>⟨G,δ,R,(DZ q).mono λds _ q vs J m a al=>?_⟩;intro y c O j N;obtain⟨d1,dr,o,vr,rfl,rfl,h1,h2⟩:=al;obtain⟨d2,κ,n,L,rfl,rfl,h3,h4,h5⟩:=h2;subst h4 h5;refine⟨y,c,o,n,rfl,ai,rfl,?_⟩;rw[Aj];have I:Ext J m J (upd m c (.own y)):=Ext.own a.gh _ j;have d:upd m c (.own y) y=none:=by rwa [ag N.symm]
 have z:=dh a.gh O;have eC:(kx X).A x=C:=by show Sn X.mg x=C;unfold Sn;rw[v]
 refine q _ _ _ ((a.trans I).trans (Ext.new I.gh _ d)) ⟨y,_,rfl,⟨c,by rw[eC];exact ai⟩,o,_,rfl,h1.mono (bx z _),n,[],rfl,h3.mono (bx z _),rfl⟩
end
structure SC where
 N:List Str
 sc:fK
 td:List Str
 lam:Bool
 wN:Bool
structure FS where
 ms:List Bool
 f:List D->Res
structure XT where
 cls:Str->Option (Str×Str)
structure GT where
 fns:Str->Option FS
 qe:Str->Option Str
 xs:XT
 cls:Str->Option (Str×Str)
noncomputable def o8:List Str:=["len","list","tuple","int","isinstance","range","all","any","sorted","set","min","max","abs","str","bool","dict","enumerate","zip","reversed","ValueError"]
structure ki(X:Cx)(C:SC)(T:GT)(E:XK):Prop where
 n:X.N=C.N
 s:X.env.scope=C.sc
 nd:C.N.Nodup
 calm:X.calm=true
 units:X.A.units+65<cZ
 fns:∀x s,T.fns x=some s->∃k f fd ps,gy k X.A/\X.mg x=some (.ref f)/\dP X.K (.ref f)=true/\Binds X.K fd ps []/\i0 X.prog X.w X.K X.mg X.base (R9 X.prog X.w) k f fd ps (qY (kx X) s.ms s.f)
 qe:∀x y,T.qe x=some y->∃t,X.mg x=some (.str y t)
 bl:∀x∈o8,X.mg x=none
 acc:Acc X E
 top:C.wN=false->X.ex=[]/\X.stack=X.env::X.outer/\X.env.frame=some X.env.locals
 cls:∀c n1 n2,T.cls c=some (n1,n2)->gy 1 X.A/\qF X.prog X.w X.K X.mg X.base c n1 n2
def tG(a:fK)(x:Str):Bool:=match a.names.lookup x with
 |some .local=>true
 |some .cell=>true
 |some .free=>true
 |_=>false
def X7(h:tG a x=true):KW a x:=by
 unfold tG at h;unfold KW;cases e:a.names.lookup x with
 |none=>rw[e]at h;cases h
 |some k=>rw[e]at h;cases k<;>first|exact .inl rfl|exact .inr (.inl rfl)|exact .inr (.inr rfl)|cases h
def Hi(a:fK)(x:Str):Bool:=match a.names.lookup x with
 |some .local=>true
 |some .cell=>true
 |_=>false
def Bd(h:Hi a x=true):L2.Sb a x:=by
 unfold Hi at h;unfold L2.Sb;cases e:a.names.lookup x with
 |none=>rw[e]at h;cases h
 |some k=>rw[e]at h;cases k<;>first|exact .inl rfl|exact .inr rfl|cases h
def nt(x:Str):Bool:= !(x==("__debug__":Str)) && !(x==("__classdict__":Str))
def Iz(h:nt x=true):(x==("__debug__":Str))=false:=by
 unfold nt at h;simp only[bA,lN]at h;exact h.1
def Vl(h:nt x=true):(x==("__classdict__":Str))=false:=by
 unfold nt at h;simp only[bA,lN]at h;exact h.2
def Ui(x:Str):List Str->Nat->Option Nat
 |[],_=>none
 |y::r,i=>if x=y then some i else Ui x r (i+1)
def N1:∀{l:List Str}{i j:Nat},Ui x l i=some j->i<=j/\l[j - i]?=some x:=by
 intro a;induction a with
 |nil=>rintro _ _ h;cases h
 |cons y r b=>
  rintro i j h
  unfold Ui at h
  by_cases e:x=y
  ·rw[aN e]at h;cases h;subst e;exact⟨aJ _,by simp⟩
  ·rw[aK e]at h;obtain⟨d,c⟩:=b h;refine⟨by lia,?_⟩;rw[show j - i=(j - (i+1))+1 by lia];simpa using c
def slot(C:SC)(x:Str):Option Nat:=if tG C.sc x && nt x then Ui x C.N 0 else none
def Fo{C:SC}(h:slot C x=some i):C.N[i]?=some x/\tG C.sc x=true/\nt x=true:=by
 unfold slot at h
 by_cases e:(tG C.sc x && nt x)=true
 ·rw[aN e]at h;rw[bA]at e;obtain⟨_,q⟩:=N1 h;exact⟨by simpa using q,e.1,e.2⟩
 ·rw[aK e]at h;cases h
def FM(C:SC)(x:Str):Bool:=decide (C.sc.names.lookup x=some .globalImplicit) && nt x
section
variable{X:Cx}{C:SC}{T:GT}{B:Hp}{E:EK}{x:Str}{i:Nat}{pos:Pos}
def ki.var(O:ki X C T d)(h:slot C x=some i):PE X (.Name x pos) (uj i):=by
 obtain⟨c,b,a⟩:=Fo h;exact Fi (by rwa [O.n]) (by rw[O.s];exact X7 b) (Iz a) (Vl a)
def ki.gl(O:ki X C T a)(h:FM C x=true):Gl X x/\(x==("__debug__":Str))=false:=by
 unfold FM at h;rw[bA]at h;refine⟨?_,Iz h.2⟩;show X.env.scope.names.lookup x=_;rw[O.s];exact of_decide_eq_true h.1
end
def j8:En->Res:=λ_=>.st
def KD:En->dg:=λ_=>.st
def y9:En->Out:=λ_=>.st
section
variable{X:Cx}{B G0:Hp}{E:EK}{e tg:Expr}{es:List Expr}
def cw:gj X B E e j8:=by rintro a s Z H Q I ⟨G,δ,R,q⟩;exact q.elim
def LA:Yd X B E e j8:=by rintro a s Z H Q I ⟨G,δ,R,q⟩;exact q.elim
def wz:Fz X B E e j8:=by rintro a s Z H Q I ⟨G,δ,R,q⟩;exact q.elim
def CF:M9 X B E c es KD:=by rintro b a s Z H Q I ⟨G,δ,R,q⟩;exact q.elim
def om{st:Stmt}:vm X G0 B E st y9:=by rintro a s Z H D I ⟨G,δ,R,x,q⟩;exact q.elim
end
def Pr:∀{l:List (Str×gR)},(y,gO)∈l↔y∈ij l:=by
 intro a;induction a with
 |nil=>simp[ij]
 |cons a r b=>
  obtain⟨n,k⟩:=a;unfold ij
  by_cases h:k=.free
  ·subst h;rw[aN rfl,dM,dM,b];constructor
   ·rintro (z|z)
    ·cases z;exact .inl rfl
    ·exact .inr z
   ·rintro (z|z)
    ·subst z;exact .inl rfl
    ·exact .inr z
  ·rw[aK h,dM,b];constructor
   ·rintro (z|z)
    ·cases z;exact absurd rfl h
    ·exact z
   ·exact .inr
def tm(a b:fK):fK:=
 {a with names:=a.names.map λ(n,k)=>if(k==.free && b.kind==.function && b.names.lookup n==some .cell)then(n,.cell)else(n,k)}
def slots(C:SC):List Str->Option (List Nat)
 |[]=>some []
 |y::r=>match slot C y,slots C r with
  |some i,some is=>some (i::is)
  |_,_=>none
noncomputable def Ng(C:SC)(a:fK)(y:Str):Bool:=
 (decide (C.sc.names.lookup y=some .cell)||decide (C.sc.names.lookup y=some .free)) &&
 (decide ((tm a C.sc).names.lookup y=some .cell)||decide ((tm a C.sc).names.lookup y=some .free))
def B2(a:fK):List Str:=(a.names.filter λy=>y.2==.cell).map λy=>y.1
def Lz(a:fK):(a.names.filter λy=>y.2==.cell)=(B2 a).map λx=>(x,fN):=by
 unfold B2;rw[bW];refine(List.map_id' _).symm.trans (cM λy b=>?_);have:=(List.mem_filter.mp b).2;obtain⟨n,k⟩:=y;have:k=.cell:=by simpa using this
 rw[this];rfl
noncomputable def xp(C:SC)(a:fK)(xs:List Str):Bool:=
 decide (a.kind=.function) && (decide ((B2 a).length<=1) && (B2 a).all λy=>decide (y∈xs)) && (a.names.all λy=> !decide (y.2=.local)||decide (a.names.lookup y.1=some .local)) &&
 (xs.all λx=>decide (a.names.lookup x=some .local)||decide (a.names.lookup x=some .cell)) && decide ((xs++ij a.names).Nodup) && (ij a.names).all (Ng C a)
def Xi{C:SC}:∀{M:List Str}{d:List Nat},slots C M=some d->∀{X:Cx}{a:fK}{g:List (Str×Addr)},X.N=C.N->X.env.scope=C.sc->(∀y∈M,∃c,g.lookup y=some c)->M.all (Ng C a)=true->qV X a g M d:=by
 intro j;induction j with
 |nil=>rintro d h X a g _ _ _ _;cases h;exact rfl
 |cons y r l=>
  rintro d h X a g o e p m
  unfold slots at h;cases f:slot C y with
  |none=>rw[f]at h;cases h
  |some i=>
   cases n:slots C r with
   |none=>rw[f,n]at h;cases h
   |some is=>
    rw[f,n]at h;cases h;rw[cF,bA]at m;obtain⟨v,q,u⟩:=Fo f;have b:=m.1;unfold Ng at b;rw[bA,iC,iC,decide_eq_true_eq,decide_eq_true_eq,decide_eq_true_eq,decide_eq_true_eq]at b;refine⟨i,is,rfl,⟨by rwa [o],by rw[e];exact X7 q,?_,p y (aZ),?_⟩,l n o e (λz s=>p z (aY _ s)) m.2⟩
    ·show X.env.scope.names.lookup y≠_;rw[e];rcases b.1 with z|z<;>rw[z]<;>decide
    ·have:oG a X.env=tm a C.sc:=by
      rw[<-e];rfl
     rw[this];exact b.2
def Xh{C:SC}(v:C.N.Nodup):∀{M:List Str}{a:List Nat},slots C M=some a->M.Nodup->a.Nodup/\∀i∈a,∃y∈M,C.N[i]?=some y:=by
 intro d;induction d with
 |nil=>rintro a h _;cases h;exact⟨fE,λi l=>by simp at l⟩
 |cons y r e=>
  rintro a h u
  unfold slots at h;cases c:slot C y with
  |none=>rw[c]at h;cases h
  |some i=>
   cases m:slots C r with
   |none=>rw[c,m]at h;cases h
   |some is=>
    rw[c,m]at h;cases h;obtain⟨s,q⟩:=List.nodup_cons.mp u;obtain⟨p,o⟩:=e m q;obtain⟨n,_,_⟩:=Fo c;refine⟨List.nodup_cons.mpr ⟨λl=>?_,p⟩,λj g=>?_⟩
    ·obtain⟨z,f,b⟩:=o i l;rw[n]at b;cases b;exact s f
    ·rcases List.mem_cons.mp g with rfl|g
     ·exact⟨y,aZ,n⟩
     ·obtain⟨z,f,b⟩:=o j g;exact⟨z,aY _ f,b⟩
def Ga(f:Env):∀(a:List (Str×gR))(g:List (Str×Addr)),(∀y∈ij a,∃c,f.cells.lookup y=some c)->∃l,ju f a g=some l:=by
 intro b;induction b with
 |nil=>rintro g _;exact⟨g,rfl⟩
 |cons b r d=>
  obtain⟨n,k⟩:=b
  rintro g h
  unfold ju
  by_cases i:k=.free
  ·subst i;obtain⟨c,e⟩:=h n (by unfold ij;exact aZ);rw[e];exact d _ λy j=>h y (by unfold ij;exact aY _ j)
  ·rw[aK i];exact d g λy j=>h y (by unfold ij;rwa [aK i])
def F9(f:Env):∀(a:List (Str×gR))(g d:List (Str×Addr)),ju f a g=some d->∀y,(g.lookup y=none)->y∉ij a->d.lookup y=none:=by
 intro b;induction b with
 |nil=>rintro g d h y q _;cases h;exact q
 |cons b r e=>
  obtain⟨n,k⟩:=b
  rintro g d h y q m
  unfold ju at h
  by_cases i:k=.free
  ·subst i;unfold ij at m;rw[aN rfl,dM,not_or]at m;cases j:f.cells.lookup n with
   |none=>rw[j]at h;cases h
   |some c=>
    rw[j]at h;refine e _ d h y ?_ m.2;have l:(y==n)=false:=by simpa using m.1
    rwa [dF,l]
  ·rw[aK i]at h;unfold ij at m;rw[aK i]at m;exact e g d h y q m
def yq{X:Cx}{a:fK}(O:ki X C T B)(ok:X.Ok)(h:xp C a xs=true)(g:slots C (ij a.names)=some r):∃i,gL X a i (B2 a) xs (ij a.names) r:=by
 unfold xp at h;simp only[bA,decide_eq_true_eq]at h;obtain⟨⟨⟨⟨⟨z,m⟩,w⟩,v⟩,l⟩,j⟩:=h;have b:∀y∈ij a.names,∃c,X.env.cells.lookup y=some c:=λy d=>by
  have q:=List.all_eq_true.mp j y d;unfold Ng at q;rw[bA,iC,decide_eq_true_eq,decide_eq_true_eq,<-O.s]at q;exact ok.has y q.1
 obtain⟨i,f⟩:=Ga X.env a.names [] b;obtain⟨A,o,p⟩:=List.nodup_append.mp l;refine⟨i,f,z,Lz a,m.1,λy d=>?_,λy d e=>?_,λx g=>?_,λx g=>F9 X.env _ _ i f x rfl (λu=>p x g x u rfl),l,(Xh O.nd g o).1,Xi g O.n O.s (λy d=>yp X.env _ _ i f y (.inr (Pr.mpr d))) j⟩
 ·exact of_decide_eq_true (List.all_eq_true.mp m.2 y d)
 ·have q:=List.all_eq_true.mp w y d;rw[decide_eq_true e]at q;exact of_decide_eq_true (by simpa using q)
 ·have q:=List.all_eq_true.mp v x g;rw[iC,decide_eq_true_eq,decide_eq_true_eq]at q;exact q
def El(C:SC)(a:fK)(xs:List Str):SC:=⟨xs++ij a.names,tm a C.sc,[],false,true⟩
def Ax{a:fK}(O:ki X C T l)(h:xp C a xs=true)(g b c e d){f:XK}(j:Acc (jf X a i (xs++ij a.names) xs g b c e d) f):ki (jf X a i (xs++ij a.names) xs g b c e d) (El C a xs) T f where
 n:=rfl
 s:=by
  show oG a X.env=_;show _=tm a C.sc;rw[<-O.s];rfl
 nd:=by
  unfold xp at h;simp only[bA,decide_eq_true_eq]at h;exact h.1.2
 calm:=O.calm
 units:=O.units
 fns:=O.fns
 qe:=O.qe
 bl:=O.bl
 acc:=j
 top:=λh=>by cases h
 cls:=O.cls
def ki.sN{X:Cx}{C:SC}{T:GT}{E:XK}(O:ki X C T E):lx (R9 X.prog X.w) X E:=O.acc.sN
def ki.none(O:ki X C T E):ki X C T E0:=⟨O.n,O.s,O.nd,O.calm,O.units,O.fns,O.qe,O.bl,Al,O.top,O.cls⟩
end Pu
namespace Pu
open PySem PySem.Spec PyProof.Rows L2 PySem.SeqAt
def ER(A:cB)(s:aI)(y x:aG)(b:Bool):Prop:=
 ∀(a:bH)(w:bV)(E:aG->aI->Prop)(Q:aG->aI->Prop),Q (.bool b) s->bF (bB a w) A (richCompare .Lt y x) Q E s
def wq(e c:Nat->Bool)(a:Bool):List Nat->Bool
 |[]=>a
 |i::r=>if e i then wq e c a r else c i
def Mz(l m:Addr)(xs a:Array aG)(n k:Nat)(dd dm:Option Addr)(O N:Array (Option aG))(e c:Nat->Bool):
  Meets (Builtin.«tuple.__lt__» ⟨[.ref l,.ref m],[]⟩) (λA R s=>
   s.1.get? l=some {cls:=.type "tuple",dict:=dd,data:=.seq xs n,slots:=O}/\
   s.1.get? m=some {cls:=.type "tuple",dict:=dm,data:=.seq a k,slots:=N}/\
   (∀j (p:j<xs.size) (q:j<a.size),EqAt A.in1 s xs[j] a[j] (e j)/\(e j=false->ER A.in1 s xs[j] a[j] (c j)))/\
   R (.ok (.ret (.bool (wq e c (decide (xs.size<a.size)) (aS (min xs.size a.size)))))) s):=
 .of_wp λf w A R s h=>by
  obtain⟨L,g,d,J,os⟩:=s;obtain⟨T,Q,M,h⟩:=h;have f2:=AutoSeq1.sub_tuple_tuple;have Y:(xs.toList.zip a.toList).length=min xs.size a.size:=by simp
  wp_walk using wpAny_loadPart' T,wpAny_loadPart' Q,fG _ (λrest b E=>b.1=none/\E=⟨L,g,d,J,os⟩/\∃i,
   rest=(xs.toList.zip a.toList).drop i/\R (.ok (.ret (.bool (wq e c (decide (xs.size<a.size)) ((aS (min xs.size a.size)).drop i))))) ⟨L,g,d,J,os⟩) _
  case turn=>
   rintro ⟨y,x⟩ rest b E ⟨v,rfl,i,r,o⟩
   have B:i<(xs.toList.zip a.toList).length:=by
    by_cases z:i<(xs.toList.zip a.toList).length
    ·exact z
    ·rw[gK (oT z)]at r;cases r
   have G:i<min xs.size a.size:=by rw[<-Y];exact B
   have p:i<xs.size:=by lia
   have q:i<a.size:=by lia
   rw[cU B]at r;injection r with C u
   obtain rfl:y=xs[i]:=by simpa using congrArg Prod.fst C
   obtain rfl:x=a[i]:=by simpa using congrArg Prod.snd C
   have U:(aS (min xs.size a.size)).drop i=i::(aS (min xs.size a.size)).drop (i+1):=by simp[cU,G]
   rw[U]at o;refine aC ((M i p q).1 f w _ _ ?_);cases H:e i with
   |true=>
    simp only[wq,H,if_true]at o
    wp_walk
    exact⟨rfl,rfl,i+1,u,o⟩
   |false=>
    simp only[wq,H,Bool.false_eq_true,if_false]at o;rw[aN (show(!false)=true from rfl)];refine aC (eY (aC ((M i p q).2 H f w _ _ ?_)))
    wp_walk
    exact⟨_,rfl,o⟩
  case fin=>
   rintro ⟨b1,b2⟩ E ⟨v,rfl,i,r,o⟩
   simp only at v;subst v;have I:min xs.size a.size<=i:=by
    by_cases z:i<(xs.toList.zip a.toList).length
    ·rw[cU z]at r;cases r
    ·lia
   rw[gK (by simpa using I)]at o
   wp_walk
   exact⟨_,rfl,by simpa[Builtin.Tuple.tupleCompareSizes,wq]using o⟩
  case h=>exact⟨rfl,rfl,0,rfl,by simpa using h⟩
mutual
def JI:jD->jD->Option Bool
 |.int i,.int j=>some (decide (i<j))
 |.str x,.str y=>some (decide (x.cps.toList<y.cps.toList))
 |.tuple xs,.tuple ys=>jy xs ys
 |_,_=>none
def jy:List jD->List jD->Option Bool
 |[],[]=>some false
 |[],_::_=>some true
 |_::_,[]=>some false
 |x::xs,y::ys=>match JI x y,jy xs ys with
  |some a,some b=>some (if cV x y then b else a)
  |_,_=>none
end
def nu(xs a:List jD)(j:Nat):Bool:=match xs[j]?,a[j]? with
 |some x,some y=>(JI x y).getD false
 |_,_=>false
def yx(h:jy (x::xs) (y::e)=some c):∃a b,JI x y=some a/\jy xs e=some b/\c=if cV x y then b else a:=by
 rw[jy]at h;cases d:JI x y with
 |none=>rw[d]at h;cases h
 |some a=>
  cases f:jy xs e with
  |none=>rw[d,f]at h;cases h
  |some b=>rw[d,f]at h;cases h;exact⟨a,b,rfl,rfl,rfl⟩
def Lf:∀l:List Nat,wq e c d (l.map (· +1))=wq (λj=>e (j+1)) (λj=>c (j+1)) d l:=by
 intro a;induction a with
 |nil=>exact rfl
 |cons i r b=>
  rw[aR];unfold wq;rw[b]
theorem E7:∀{xs f:List jD}{c:Bool},jy xs f=some c->wq (pairEq xs f) (nu xs f) (decide (xs.length<f.length)) (aS (min xs.length f.length))=c
 |[],[],c,h=>by cases h;rfl
 |[],_::_,c,h=>by cases h;simp[wq]
 |_::_,[],c,h=>by cases h;simp[wq]
 |x::xs,y::f,c,h=>by
  obtain⟨a,b,i,g,rfl⟩:=yx h;have e:min (x::xs).length (y::f).length=min xs.length f.length+1:=by simp
  rw[e,List.range_succ_eq_map];unfold wq;have m:pairEq (x::xs) (y::f) 0=cV x y:=rfl;have o:nu (x::xs) (y::f) 0=a:=by simp[nu,i]
  rw[m,o,show Nat.succ=_ from rfl,Lf];have d:(decide ((x::xs).length<(y::f).length))=decide (xs.length<f.length):=by simp
  rw[d];have l:(λj=>pairEq (x::xs) (y::f) (j+1))=pairEq xs f:=rfl;have n:(λj=>nu (x::xs) (y::f) (j+1))=nu xs f:=rfl;rw[l,n,(E7 g)]
mutual
theorem u7:∀(da db:jD)(A:cB)(s:aI)(a b:aG)(as bs:List Addr)(c:Bool),oF s.1 a da as->oF s.1 b db bs->da.canLay0=true->db.canLay0=true->A.units+min da.depth db.depth<cZ->
  JI da db=some c->ER A s a b c
 |.int i,db,A,s,_,_,_,_,c,ra,rb,ha,hb,hu,h=>by
  cases db<;>cases h
  cases ra;cases rb;exact λprog w E Q q=>(show bF _ _ (dX .Lt _ _) _ _ _ from nI q)
 |.str i,db,A,s,_,_,_,_,c,ra,rb,ha,hb,hu,h=>by
  cases db<;>cases h
  cases ra;cases rb;exact λprog w E Q q=>(show bF _ _ (dX .Lt _ _) _ _ _ from PyProof.Rows.lt_str q)
 |.tuple xs,.tuple ys,A,s,_,_,_,_,c,ra,rb,ha,hb,hu,h=>by
  cases ra with
  |@tuple l o vs n _ as₁ h1 h2 h3 h4=>
   cases rb with
   |@tuple l' o' vs' n' _ bs₁ k1 k2 k3 k4=>
    have h':jy xs ys=some c:=h;have n1:vs.size=xs.length:=by simpa using ReadsAll.length _ _ _ h4
    have n2:vs'.size=ys.length:=by simpa using ReadsAll.length _ _ _ k4
    obtain⟨cl,dd,dt,sl⟩:=o;obtain⟨cl',dd',dt',sl'⟩:=o';simp only at h2 h3 k2 k3;subst h2 h3 k2 k3;intro prog w E Q q;refine richCompare_meets_room (op:=.Lt) ⟨_,h1,rfl⟩ ⟨_,k1,rfl⟩ nD oU (oH _ _) (Mz l l' vs vs' n n' dd dd' sl sl' (pairEq xs ys) (nu xs ys)) ⟨h1,k1,λj p r=>⟨?_,λ_=>?_⟩,?_⟩ (room_here hu)
    ·have z:=eqAt_readsAll xs ys A.in1 s vs.toList vs'.toList _ _ h4 k4 ha hb (room_in hu) j (by simpa using p) (by simpa using r);simpa using z
    ·have z:=nr xs ys A.in1 s vs.toList vs'.toList _ _ c h4 k4 ha hb (room_in hu) h' j (by simpa using p) (by simpa using r);simpa using z
    ·have e:=E7 h';rw[<-n1,<-n2]at e;rw[e];exact show nR c≠Value.notImplemented/\Q (.bool c) s from⟨(λx=>nomatch x),q⟩
 |.none,_,_,_,_,_,_,_,_,_,_,_,_,_,h|.bool _,_,_,_,_,_,_,_,_,_,_,_,_,_,h|.list _,_,_,_,_,_,_,_,_,_,_,_,_,_,h|.dict _,_,_,_,_,_,_,_,_,_,_,_,_,_,h=>by cases h
 |.tuple _,.none,_,_,_,_,_,_,_,_,_,_,_,_,h|.tuple _,.bool _,_,_,_,_,_,_,_,_,_,_,_,_,h|.tuple _,.int _,_,_,_,_,_,_,_,_,_,_,_,_,h|.tuple _,.str _,_,_,_,_,_,_,_,_,_,_,_,_,h|.tuple _,.list _,_,_,_,_,_,_,_,_,_,_,_,_,h|.tuple _,.dict _,_,_,_,_,_,_,_,_,_,_,_,_,h=>by cases h
theorem nr:∀(xs ys:List jD)(A:cB)(s:aI)(vs ws:List aG)(as bs:List Addr)(c:Bool),ReadsAll s.1 vs xs as->ReadsAll s.1 ws ys bs->bP xs=true->bP ys=true->
  A.units+min (cN xs) (cN ys)<cZ->jy xs ys=some c->∀j (p:j<vs.length) (q:j<ws.length),ER A s vs[j] ws[j] (nu xs ys j)
 |[],_,_,_,_,_,_,_,_,ra,_,_,_,_,_,j,p,_=>by cases ra;exact absurd p (pN _)
 |_::_,[],_,_,_,_,_,_,_,_,rb,_,_,_,_,j,_,q=>by cases rb;exact absurd q (pN _)
 |x::xs,y::ys,A,s,_,_,_,_,c,ra,rb,ha,hb,hu,h,j,p,q=>by
  have ha':x.canLay0=true/\bP xs=true:=by simpa[bP]using ha
  have hb':y.canLay0=true/\bP ys=true:=by simpa[bP]using hb
  obtain⟨a,b,h1,h2,_⟩:=yx h;cases ra with
  |cons r rs=>
   cases rb with
   |cons r' rs'=>
    cases j with
    |zero=>
     have e:nu (x::xs) (y::ys) 0=a:=by simp[nu,h1]
     rw[e];exact u7 x y A s _ _ _ _ a r r' ha'.1 hb'.1 (room_head hu) h1
    |succ j=>exact nr xs ys A s _ _ _ _ b rs rs' ha'.2 hb'.2 (room_tail hu) h2 j (Nat.lt_of_succ_lt_succ p) (Nat.lt_of_succ_lt_succ q)
end
def QC(d e:D):Option Bool:=match cf d,cf e with
 |some p,some q=>if bU p && bU q then JI p q else none
 |_,_=>none
def Wv(d e:D):Option D:=match MO d e with
 |some r=>some r
 |none=>(QC d e).map .bl
def Qv{f:jD->jD->Option Bool}{d e:D}{b:Bool}(h:(match cf d,cf e with
 |some p,some q=>if(bU p && bU q)=true then f p q else none
 |_,_=>none)=some b):∃p q,cf d=some p/\cf e=some q/\bU p=true/\bU q=true/\f p q=some b:=by
 cases c:cf d with
 |none=>rw[c]at h;cases h
 |some p=>
  cases g:cf e with
  |none=>rw[c,g]at h;cases h
  |some q=>
   rw[c,g]at h;dsimp only at h
   by_cases a:(bU p && bU q)=true
   ·rw[aN a]at h;rw[bA]at a;exact⟨p,q,rfl,rfl,a.1,a.2,h⟩
   ·rw[aK a]at h;cases h
section
variable{X:Cx}
inductive tJ(K:KA)(f:D->D->Option Bool)(x:V)(y:V)(H:Hp)(Q:VK):Prop
 |mk (G dx dy b) (_:bc G H) (_:Arg K G H dx x) (_:Arg K G H dy y) (_:f dx dy=some b) (_:Q (.bl b) H):tJ K f x y H Q
def GL(m:X.A.units+64<cZ):kO X (dX .Lt) (tJ (kx X) QC):=by
 intro e s Z H x y v u Q I h g q;obtain⟨G,E,C,b,c,z,r,a,q⟩:=q;obtain⟨p,l,o,n,d,f,a⟩:=Qv a;obtain⟨B,j⟩:=cv I c z h o;obtain⟨bs,i⟩:=cv I c r g n;exact u7 p l X.A s v u B bs b j i (canLay_of_shaped d) (canLay_of_shaped f) (room_of_shaped d m) a X.prog X.w _ _ ⟨.bl b,H,I,rfl,q⟩
def Wd{K:KA}{c:Int->Int->Bool}{f:D->D->Option Bool}{g:D->D->Option D}(s:∀d e,g d e=match y7 c d e with
 |some r=>some r
 |none=>(f d e).map .bl):ic K g (λx y H Q=>sL (λi j=>.bl (c i j)) x y H Q\/tJ K f x y H Q):=λG H x y m l d n p o a Q q=>by
 rw[s]at a;cases h:y7 c m l with
 |some r=>rw[h]at a;cases a;exact .inl (Wb G H x y m l d n p o h Q q)
 |none=>
  rw[h]at a;cases e:f m l with
  |none=>rw[e]at a;cases a
  |some b=>rw[e]at a;cases a;exact .inr ⟨G,m,l,b,n,p,o,e,q _ G H (Ext.refl n) rfl⟩
def GG{c:Int->Int->Bool}{f:D->D->Option Bool}{g:D->D->Option D}(i:∀d e,g d e=match y7 c d e with
 |some r=>some r
 |none=>(f d e).map .bl) (x y d:D) (a:g x y=some d):∃b,d=.bl b:=by
 rw[i]at a;cases h:y7 c x y with
 |some r=>rw[h]at a;cases a;exact EC _ _ _ h
 |none=>rw[h]at a;exact Bt a
end
end Pu
namespace Pu
open PySem PySem.Spec PyProof.Rows L2
def j5(d e:D):Option D:=Rc d e
def gw(d e:D):Option D:=uh d e
def Wc{X:Cx}:ic (kx X) j5 (q7 (kx X) false):=AB
def Jc{X:Cx}:ic (kx X) gw (q7 (kx X) true):=L7
def FN(x y d:D)(h:j5 x y=some d):∃b,d=.bl b:=Bt h
def Qq(x y d:D)(h:gw x y=some d):∃b,d=.bl b:=Bt h
abbrev Ev:=SC->Expr->En->Res
def kg(T:GT)(a:Ev):Prop:=∀X C B (E:XK) e,ki X C T E->gj X B (ek (kx X) E) e (a C e)
def Ec(T:GT)(a:Ev):Prop:=∀X C B (E:XK) e,ki X C T E->Fz X B (ek (kx X) E) e (a C e)
section
variable{X:Cx}{B:Hp}{E:EK}{e a b:Expr}{es:List Expr}{g h:En->Res}{pos:Pos}
noncomputable def Kg:CmpOp->Option (D->D->Option D)
 |.Eq=>some gu
 |.NotEq=>some jm
 |.Lt=>some Wv
 |.LtE=>none
 |.Gt=>none
 |.GtE=>none
 |.In=>some j5
 |.NotIn=>some gw
 |.Is=>none
 |.IsNot=>none
def Ej(j:Kg c=some f)(i:X.A.units+65<cZ):∃r,kO X (dX c) r/\ic (kx X) f r/\∀x y d,f x y=some d->∃b,d=.bl b:=by
 cases c<;>cases j
 ·exact⟨_,GN (by lia),AC,λ_ _ _ h=>Bt h⟩
 ·exact⟨_,GI (by lia),BZ,λ_ _ _ h=>Bt h⟩
 ·exact⟨_,LC.or (GL (by lia)),Wd λ_ _=>rfl,GG λ_ _=>rfl⟩
 ·exact⟨_,GM i,Wc,FN⟩
 ·exact⟨_,Qu i,Jc,Qq⟩
end
def xl(a:Ev)(C:SC)(e:Expr):En->Res:=match e with
 | .Name x _ => (match slot C x with
  |some i=>aa i
  |none=>a C e)
 |_=>a C e
noncomputable def JJ(a:Ev)(C:SC):List Bool->List Expr->En->dg
 |[],[]=>af
 |m::b,e::c=>au (if m then xl a C e else a C e) (JJ a C b c)
 |_,_=>KD
def G9(a:Ev)(C:SC):List Expr->En->dg
 |[]=>af
 |e::b=>au (a C e) (G9 a C b)
noncomputable def Cj(T:GT)(C:SC)(x:Str):En->Res:=match slot C x with
 |some i=>b8 i
 | none => if FM C x then (match T.qe x with
  |some y=>gC (.str y)
  | none => (match T.fns x with
   |some _=>gC (.fn x)
   |none=>j8))else j8
def Gz(f:Expr->En->Res):List Expr->En->Res
 |[]=>j8
 |[a]=>f a
 |a::r=>A5 (f a) (Gz f r)
noncomputable def xj(a:Ev)(C:SC)(l:Expr)(b:List CmpOp)(e:List Expr):En->Res:=match b,e with
 | [d], [r] => (match Kg d with
  |some f=>if rk r then g2 f (xl a C l) (xl a C r)else j8
  |none=>j8)
 | [d, c], [m, r] => (match Kg d, Kg c with
  |some f,some g=>if rk r then Ex f g (xl a C l) (xl a C m) (xl a C r)else j8
  |_,_=>j8)
 |_,_=>j8
section
variable{T:GT}{ev tv:Ev}{X:Cx}{C:SC}{B:Hp}{E:XK}{pos:Pos}
def fw(h:kg T ev)(O:ki X C T E)(e:Expr):k9 X B (ek (kx X) E) e (xl ev C e):=by
 have d:=MT (h X C B E e O);cases e with
 |Name x p=>
  show k9 X B _ _ (match slot C x with
   |some i=>aa i
   |none=>ev C _)
  cases a:slot C x with
  |none=>exact d
  |some i=>exact EL i (O.var a)
 |_=>exact d
theorem Dd(h:kg T ev)(O:ki X C T E):∀{b:List Bool}{es:List Expr},es.all i9=true->M9 X B (ek (kx X) E) b es (JJ ev C b es)
 |[],[],_=>je
 |[],_::_,_=>CF
 |_::_,[],_=>CF
 |m::b,e::es,a=>by
  rw[cF,bA]at a;cases m with
  |true=>exact ip (fw h O e) (Dd h O a.2) (ak a.1)
  |false=>exact Ap (h X C B E e O) (Dd h O a.2) (ak a.1)
def Em(h:kg T ev)(O:ki X C T E):∀{es:List Expr},es.all i9=true->M9 X B (ek (kx X) E) (es.map λ_=>false) es (G9 ev C es):=by
 intro a;induction a with
 |nil=>rintro _;exact je
 |cons e es b=>
  rintro c
  rw[cF,bA]at c;exact Ap (h X C B E e O) (b c.2) (ak c.1)
def Aq:∀{es:List Expr},Ed (es.map λ_=>false)=true:=by
 intro a;induction a with
 |nil=>exact rfl
 |cons _ es b=>
  show(!false && Ed _)=true;rw[b];rfl
def Z4(O:ki X C T E):gj X B (ek (kx X) E) (.Name x pos) (Cj T C x):=by
 unfold Cj;cases b:slot C x with
 |some i=>exact IT i (O.var b)
 |none=>
  by_cases a:FM C x=true
  ·rw[aN a];obtain⟨g1,g2⟩:=O.gl a;cases d:T.qe x with
   |some y=>
    obtain⟨t,q⟩:=O.qe x y d;exact BQ g1 q g2
   |none=>
    cases c:T.fns x with
    |some s=>
     obtain⟨k,f,g,e,_,q,_⟩:=O.fns x s c;exact HG g1 q g2
    |none=>exact cw
  ·rw[aK a];exact cw
theorem Nc{E:EK}(h:∀e,gj X B E e (f e)):∀{c:List Expr},gj X B E (.BoolOp .And c pos) (Gz f c)
 |[]=>cw
 |[a]=>IX (h a)
 |a::b::r=>HL (h a) (Nc h)
def MP{E:EK}{e:Expr}:JK X B E e j8:=by rintro b a s Z H Q I ⟨G,δ,R,q⟩;exact q.elim
theorem Nd{E:EK}(h:∀e,Fz X B E e (f e)):∀{c:List Expr},JK X B E (.BoolOp .And c pos) (Gz f c)
 |[]=>MP
 |[a]=>Wt (h a)
 |a::b::r=>BK (h a) (Nd h)
def Sz(h:kg T ev)(O:ki X C T E):gj X B (ek (kx X) E) (.Compare l b i pos) (xj ev C l b i)/\Fz X B (ek (kx X) E) (.Compare l b i pos) (xj ev C l b i):=by
 unfold xj;split
 ·rename_i n r;cases p:Kg n with
  |none=>exact⟨cw,wz⟩
  |some f=>
   dsimp only
   by_cases a:rk r=true
   ·rw[aN a];obtain⟨v,g,d,s⟩:=Ej p O.units;exact⟨HI g d (fw h O l) (fw h O r) (sx a),BW g d s (fw h O l) (fw h O r) (sx a)⟩
   ·rw[aK a];exact⟨cw,wz⟩
 ·rename_i n j m r;cases p:Kg n with
  |none=>exact⟨cw,wz⟩
  |some f=>
   cases o:Kg j with
   |none=>exact⟨cw,wz⟩
   |some w=>
    dsimp only
    by_cases a:rk r=true
    ·rw[aN a];obtain⟨v,g,d,s⟩:=Ej p O.units;obtain⟨u,e,c,q⟩:=Ej o O.units;exact⟨Wl g d e c (fw h O l) (fw h O m) (fw h O r) (B0 a),Q5 g d e c q (fw h O l) (fw h O m) (fw h O r) (B0 a)⟩
    ·rw[aK a];exact⟨cw,wz⟩
 ·exact⟨cw,wz⟩
end
section
variable{X:Cx}{pins:List (Addr×Obj)}{Z:St}{G H:Hp}{s:aI}{B:Hp}{E:EK}{e a b:Expr}{g h:En->Res}{pos p:Pos}
def i7:List D->Option (List Bool)
 |[]=>some []
 |.bl b::r=>(i7 r).map (b::·)
 |_::_=>none
def yk{K:KA}:∀{i:List D}{bs:List Bool}{c:List V}{f:List aG},i7 i=some bs->br K G i c->Vals c f->f=bs.map nR:=by
 intro j;induction j with
 |nil=>rintro bs c f h d r;cases h;cases (d);cases r;rfl
 |cons d i l=>
  rintro bs c f h dl r
  obtain⟨v,w,rfl,o,q⟩:=dl;cases d with
  |bl b=>
   unfold i7 at h;cases e:i7 i with
   |none=>rw[e]at h;cases h
   |some u=>
    rw[e]at h;cases h;cases r with
    |cons n m=>
     cases (o);cases (n);rw[aR,l e q m]
  |_=>cases h
def uo(bs:List Bool)(f:List Bool->(Nat->Bool))(c:f=λbs i=>bs.getD i false):(aS bs.length).all (f bs)=bs.all id/\(aS bs.length).any (f bs)=bs.any id:=by
 subst c;have e:(aS bs.length).map (λi=>bs.getD i false)=bs:=by
  apply kF
  ·simp
  ·intro i j d;simp[aU,d]
 constructor
 ·have:=congrArg (λl=>l.all id) e;simpa[oJ]using this
 ·have:=congrArg (λl=>l.any id) e;simpa[oJ]using this
inductive se(K:KA)(an:Bool)(xs:List V)(H:Hp)(Q:VK):Prop
 |mk (G l vs ds bs) (_:xs=[.ref l]) (_:fD K H l vs) (_:br K G ds vs) (_:i7 ds=some bs) (_:Q (.bl (if an then bs.any id else bs.all id)) H):se K an xs H Q
def yn{bs:List Bool}{c:Array aG}(e:c.toList=bs.map nR):TruthOf l w A (λi v=>c[i]?=some v) (λi=>bs.getD i false):=by
 intro i v s Q E m n;have d:c.toList[i]?=some v:=by simpa using m
 rw[e,bJ]at d;cases j:bs[i]? with
 |none=>rw[j]at d;cases d
 |some b=>
  rw[j]at d;cases d;have f:Q (bs.getD i false) s:=n;rw[aU,j]at f;exact dS f
def O7(z:X.calm=true):hW X (.builtin "all") (se (kx X) false):=by
 intro pins s Z H xs L Q I r q;obtain⟨G,l,J,O,bs,rfl,m,dl,C,q⟩:=q;obtain⟨u,rfl,v⟩:=mq r;cases v;obtain⟨c,n,d,_⟩:=I.list m;have e:=yk C dl n;have x:l<s.1.1.size:=by obtain⟨o,j,_⟩:=d.isList;exact aV j
 have W:=pF (prog:=X.prog) (w:=X.w) (A:=X.A.in1) (I.ok.hd z) s.1.1.size l (bL x) c.toArray;refine call_all_walk (fW d.isList ⟨s.1.1.size,_,_,_,_,_,λi=>bs.getD i false,rfl,W,⟨⟨_,aT _ rfl,rfl,rfl⟩,d.isList.at λo j=>aH _ j⟩,yn (by simpa using e),λN M y=>?_⟩);refine⟨.bl _,H,I.kept λb o e=>y b o (by simpa using bL (aV e)) (aH _ e),?_,q⟩;have f:c.toArray.size=bs.length:=by rw[bO,e,aF]
 rw[f,(uo bs _ rfl).1];rfl
def O8(z:X.calm=true):hW X (.builtin "any") (se (kx X) true):=by
 intro pins s Z H xs L Q I r q;obtain⟨G,l,J,O,bs,rfl,m,dl,C,q⟩:=q;obtain⟨u,rfl,v⟩:=mq r;cases v;obtain⟨c,n,d,_⟩:=I.list m;have e:=yk C dl n;have x:l<s.1.1.size:=by obtain⟨o,j,_⟩:=d.isList;exact aV j
 have W:=pF (prog:=X.prog) (w:=X.w) (A:=X.A.in1) (I.ok.hd z) s.1.1.size l (bL x) c.toArray;refine call_any_walk (fW d.isList ⟨s.1.1.size,_,_,_,_,_,λi=>bs.getD i false,rfl,W,⟨⟨_,aT _ rfl,rfl,rfl⟩,d.isList.at λo j=>aH _ j⟩,yn (by simpa using e),λN M y=>?_⟩);refine⟨.bl _,H,I.kept λb o e=>y b o (by simpa using bL (aV e)) (aH _ e),?_,q⟩;have f:c.toArray.size=bs.length:=by rw[bO,e,aF]
 rw[f,(uo bs _ rfl).2];rfl
def Dy:D->Option D
 |.lst c=>(i7 c).map λbs=>.bl (bs.all id)
 |_=>none
def w8:D->Option D
 |.lst c=>(i7 c).map λbs=>.bl (bs.any id)
 |_=>none
def HM(v:X.calm=true)(u:Gl X "all")(r:X.mg "all"=none)(w:k9 X B E e g)(j:bM [e] X.env=(false,eval e X.env)::bM [] X.env):gj X B E (.Call (.Name "all" p) [e] [] pos) (g1 Dy g):=
 PE.imp (og (O7 v) u r PyProof.Rows.boot_all (ip w je j) (by decide) (by decide) j rfl) λZ H Q q=>Yp (λG H x y d i z c Q q=>by
  cases y with
  |lst m=>
   unfold Dy at c;dsimp only at c;cases f:i7 m with
   |none=>rw[f]at c;cases c
   |some bs=>
    rw[f]at c;cases c;obtain⟨l,n,rfl,o,dl⟩:=z.lst i;exact⟨G,l,n,m,bs,rfl,o,dl,f,q _ G H (Ext.refl i) rfl⟩
  |_=>cases c) q
def HK(v:X.calm=true)(u:Gl X "any")(r:X.mg "any"=none)(w:k9 X B E e g)(j:bM [e] X.env=(false,eval e X.env)::bM [] X.env):gj X B E (.Call (.Name "any" p) [e] [] pos) (g1 w8 g):=
 PE.imp (og (O8 v) u r PyProof.Rows.boot_any (ip w je j) (by decide) (by decide) j rfl) λZ H Q q=>Yp (λG H x y d i z c Q q=>by
  cases y with
  |lst m=>
   unfold w8 at c;dsimp only at c;cases f:i7 m with
   |none=>rw[f]at c;cases c
   |some bs=>
    rw[f]at c;cases c;obtain⟨l,n,rfl,o,dl⟩:=z.lst i;exact⟨G,l,n,m,bs,rfl,o,dl,f,q _ G H (Ext.refl i) rfl⟩
  |_=>cases c) q
end
def Xe(x:Str):List D:=x.cps.toList.map λc=>.str ⟨#[c]⟩
def ND(x:Str):It:=⟨λi _=>i<x.cps.size,λi H v a=>a=H/\∃c,x.cps[i]?=some c/\v=.str ⟨#[c]⟩,λi _=>x.cps.size<=i⟩
def M3{P:bH}{w:bV}{K:aP}{tg:Expr}(it:Addr)(x:Str)(t:Tok):Turn P w K tg (ND x) [it] it (λi h=>h.IsStrIter it "str_ascii_iterator" x t i) where
 mem:=by simp
 obj:=λi h st b f=>by
  have e:b=it:=by simpa using f
  subst e;obtain⟨o,e,c,d⟩:=st;exact⟨o,e,λv z=>by rw[d]at z;cases z⟩
 keep:=λi h B st k=>let ⟨o,J,r⟩:=st;⟨o,k it (by simp) o J,r⟩
 item:=by
  intro X L G M A i j s Z H E I l st m;obtain⟨y,u,N,q,p,n⟩:=l it (by simp);have a:i<x.cps.size:=m;refine wpAny_pyNext_ascii_item st (c:=x.cps[i]) (by simp[a]) λB g C=>?_;obtain⟨o,e,c,d⟩:=id g;exact⟨_,rfl,Dn e c d (by decide) ⟨.str ⟨#[x.cps[i]]⟩,H,(I.turned (λb o f e=>(C.2 b f).trans e) y u q p n),⟨_,rfl⟩,⟨rfl,_,by simp[a],rfl⟩,g,λb f=>(l b f).1⟩⟩
 done:=by
  intro X L G M A i j s Z H E I l st m;obtain⟨y,u,N,q,p,n⟩:=l it (by simp);have a:x.cps.size<=i:=m;exact wpAny_pyNext_ascii_end (I.ok.hd A) st (by simp[a]) λB O=>⟨rfl,I.turned (λb o f e=>O b o f e) y u q p n⟩
 self:=λ_ _ _ _ _ st h=>wpAny_pyIter_striter_ascii st h
def Rq{P:bH}{w:bV}{K:aP}{tg:Expr}(it:Addr)(x:Str)(t:Tok):Turn P w K tg (ND x) [it] it (λi h=>h.IsStrIter it "str_iterator" x t i) where
 mem:=by simp
 obj:=λi h st b f=>by
  have e:b=it:=by simpa using f
  subst e;obtain⟨o,e,c,d⟩:=st;exact⟨o,e,λv z=>by rw[d]at z;cases z⟩
 keep:=λi h B st k=>let ⟨o,J,r⟩:=st;⟨o,k it (by simp) o J,r⟩
 item:=by
  intro X L G M A i j s Z H E I l st m;obtain⟨y,u,N,q,p,n⟩:=l it (by simp);have a:i<x.cps.size:=m;refine wpAny_pyNext_wide_item st (c:=x.cps[i]) (by simp[a]) λB g C=>?_;obtain⟨o,e,c,d⟩:=id g;exact⟨_,rfl,Dn e c d (by decide) ⟨.str ⟨#[x.cps[i]]⟩,H,(I.turned (λb o f e=>(C.2 b f).trans e) y u q p n),⟨_,rfl⟩,⟨rfl,_,by simp[a],rfl⟩,g,λb f=>(l b f).1⟩⟩
 done:=by
  intro X L G M A i j s Z H E I l st m;obtain⟨y,u,N,q,p,n⟩:=l it (by simp);have a:x.cps.size<=i:=m;exact wpAny_pyNext_wide_end (I.ok.hd A) st (by simp[a]) λB O=>⟨rfl,I.turned (λb o f e=>O b o f e) y u q p n⟩
 self:=λ_ _ _ _ _ st h=>wpAny_pyIter_striter_wide st h
def Ug{K:KA}{x:Str}{S:Hp->Hp->Prop}:xm K (ND x) (Xe x) S:=λi G H m b=>by
 unfold Xe;refine⟨λd a=>?_,λf=>?_⟩
 ·rw[bJ]at a;cases e:x.cps.toList[i]? with
  |none=>rw[e]at a;cases a
  |some c=>
   rw[e]at a;cases a;have g:i<x.cps.size:=by simpa using(List.getElem?_eq_some_iff.mp e).1
   refine⟨g,λv n ⟨z,l,j,h⟩=>?_⟩;subst z;have:x.cps.toList[i]?=some l:=by simpa using j
   rw[e]at this;cases this;exact⟨G,Ext.refl b,h⟩
 ·show x.cps.size<=i;simpa using f
section
variable{X:Cx}{G0 B:Hp}{E:EK}{e a b c tg iter:Expr}{g h:En->Res}{pos p:Pos}
def KB(K:aP)(f:TE):TI:=λZ H R=>f Z H λx d=>(∃a,x=.ref a/\(((∃xs,fD K d a xs)/\R (NG K a) d)\/((∃xs,m3 K d a xs)/\R (NC K a) d)))\/∃z,x=.str z/\R (ND z) d
def Oj{l:Expr}{w:TE}(J:PE X l w):PI X tg l (KB X.K w):=by
 intro j s Z H R I h;refine iq (J j s Z H _ I h) λv f ⟨x,m,d,n,C⟩=>?_;obtain ⟨a,e,⟨⟨xs,u⟩,q⟩|⟨⟨xs,u⟩,q⟩⟩|⟨z,e,q⟩:=C
 ·subst e;cases n;obtain⟨r,A,p,G⟩:=d.list u;refine fW p.isList ?_;refine⟨f.1.1.size,[f.1.1.size],_,_,m,rfl,d.kept λb o e=>aH _ e,D6 a _,⟨_,aT _ rfl,rfl,rfl⟩,λb i=>?_,q⟩;have e:b=f.1.1.size:=by simpa using i
  subst e;exact d.qh (aJ _) (d.ez.fresh (aJ _))
 ·subst e;cases n;obtain⟨r,A,p,G⟩:=d.tuple u;refine wpAny_pyIter_tuple (p) ?_;refine⟨f.1.1.size,[f.1.1.size],_,_,m,rfl,d.kept λb o e=>aH _ e,Co a _,⟨_,aT _ rfl,rfl,rfl⟩,λb i=>?_,q⟩;have e:b=f.1.1.size:=by simpa using i
  subst e;exact d.qh (aJ _) (d.ez.fresh (aJ _))
 ·subst e;obtain⟨t,rfl⟩:=n;cases y:z.cps.all _
  ·refine wpAny_pyIter_wide y ⟨f.1.1.size,[f.1.1.size],_,_,m,rfl,d.kept λb o e=>aH _ e,Rq _ z t,⟨_,aT _ rfl,rfl,rfl⟩,λb i=>?_,q⟩;have e:b=f.1.1.size:=by simpa using i
   subst e;exact d.qh (aJ _) (d.ez.fresh (aJ _))
  ·refine wpAny_pyIter_ascii y ⟨f.1.1.size,[f.1.1.size],_,_,m,rfl,d.kept λb o e=>aH _ e,M3 _ z t,⟨_,aT _ rfl,rfl,rfl⟩,λb i=>?_,q⟩;have e:b=f.1.1.size:=by simpa using i
   subst e;exact d.qh (aJ _) (d.ez.fresh (aJ _))
def D8:D->Option (List D)
 |.lst d=>some d
 |.tup d=>some d
 |.str x=>some (Xe x)
 |_=>none
noncomputable def aj(g:En->Res):En->dg:=λδ=>match g δ with
 | .ok d => (match D8 d with
  |some f=>.ok f
  |none=>.st)
 |.er c=>.er c
 |.st=>.st
def EU(q:eT E G H (aj g δ) P):c7 E G H (g δ) λd=>∃f,D8 d=some f/\P f:=by
 unfold aj at q;cases e:g δ with
 |ok d=>
  rw[e]at q;dsimp only at q;cases i:D8 d with
  |some f=>rw[i]at q;exact⟨f,i,q⟩
  |none=>rw[i]at q;exact q.elim
 |er c=>rw[e]at q;exact q
 |st=>rw[e]at q;exact q
def L5(h:JL X B E e g):Sd X B E tg e (aj g):=PI.imp (Oj h) λZ H R ⟨G,δ,A,q⟩=>⟨G,δ,A,(EU q).mono<|by
 rintro d _ ⟨J,f,q⟩ v o n j y
 cases d with
 |lst x=>
  cases f;obtain ⟨a,l,rfl,s,dl⟩|⟨w,a,l,z,rfl,s,dl⟩|⟨t,u,a,z,_⟩:=y
  ·exact .inl ⟨a,rfl,.inl ⟨⟨l,fD.mono j.gh s⟩,q _ o n j (K2 (by rintro I C ⟨i,r⟩ m;exact⟨fD.mono (i.trans m) s,i⟩) dl)⟩⟩
  ·cases z;exact .inl ⟨a,rfl,.inl ⟨⟨l,fD.mono (A.bh.trans j.hh) s⟩,q _ o n j (K2 (by rintro I C ⟨i,r⟩ m;exact⟨fD.mono r s,i⟩) dl)⟩⟩
  ·cases z
 |tup x=>
  cases f;obtain ⟨a,l,rfl,s,dl⟩|⟨w,a,l,z,rfl,s,dl⟩|⟨t,u,a,z,_⟩:=y
  ·exact .inl ⟨a,rfl,.inr ⟨⟨l,m3.of (j.gh _ _ s)⟩,q _ o n j (Uh (by rintro I C ⟨i,r⟩ m;exact⟨m3.of ((i.trans m) _ _ s),i⟩) dl)⟩⟩
  ·cases z
  ·cases z
 |str z=>cases f;exact .inr ⟨z,y.str,q _ o n j Ug⟩
 |hZ=>cases f
 |bl _=>cases f
 |int _=>cases f
 |ja _ _=>cases f
 |obj _ _=>cases f
 |fn _=>cases f⟩
def AI(h:k9 X B E e g):O4 X B E tg e (aj g):=PI.imp (Oj h) λZ H R ⟨G,δ,u,q⟩=>⟨G,δ,u,(EU q).mono<|by
 rintro d _ ⟨A,f,q⟩ v o n i m
 cases d with
 |lst l=>
  cases f;obtain⟨a,j,rfl,s,dl⟩:=m.lst i.gh;exact .inl ⟨a,rfl,.inl ⟨⟨j,s⟩,q _ o n i (K2 (λy w x r=>⟨fD.mono x.hh s,x.gg⟩) dl)⟩⟩
 |tup l=>
  cases f;obtain⟨a,j,rfl,s,dl⟩:=m.tup i.gh;exact .inl ⟨a,rfl,.inr ⟨⟨j,s⟩,q _ o n i (Uh (λy w x r=>⟨m3.mono x.hh s,x.gg⟩) dl)⟩⟩
 |str z=>cases f;exact .inr ⟨z,m.str,q _ o n i Ug⟩
 |hZ=>cases f
 |bl _=>cases f
 |int _=>cases f
 |ja _ _=>cases f
 |obj _ _=>cases f
 |fn _=>cases f⟩
def A4(d:List jD)(q:jD):Option Nat:=d.findIdx? λy=>cV y q
noncomputable def g9:D->D->Option D
 | .lst xs, d => (match c9 xs, cf d with
  |some f,some q=>if bP f && bU q && decide (xs.length<=aQ)then(A4 f q).map λj=>.int (j:Nat)else none
  |_,_=>none)
 |_,_=>none
inductive vS(K:KA)(f:D->D->Option D)(x:V)(vs:List V)(H:Hp)(Q:VK):Prop
 |mk (G dx dy y d) (_:bc G H) (_:Arg K G H dx x) (_:vs=[y]) (_:Arg K G H dy y) (_:f dx dy=some d) (_:∀v,Den K G d v->Q v H):vS K f x vs H Q
def Qo(hu:X.A.units+65<cZ):NB X "list.index" (vS (kx X) g9):=by
 intro γ s Z H x vs v us Q I rx rv q;obtain⟨G,dx,dy,y,d,N,ax,rfl,ay,i,q⟩:=q;obtain⟨u,rfl,ru⟩:=rv.one;cases dx with
 |lst xs=>
  unfold g9 at i;dsimp only at i;cases M:c9 xs with
  |none=>rw[M]at i;cases i
  |some m=>
   cases e2:cf dy with
   |none=>rw[M,e2]at i;cases i
   |some C=>
    rw[M,e2]at i;dsimp only at i
    by_cases J:(bP m && bU C && decide (xs.length<=aQ))=true
    ·rw[aN J]at i;simp only[bA,decide_eq_true_eq]at J;obtain⟨⟨h1,h2⟩,h3⟩:=J;cases Y:A4 m C with
     |none=>rw[Y]at i;cases i
     |some j=>
      rw[Y]at i;cases i;obtain⟨as,ra⟩:=cv I N ax rx (by unfold cf;rw[M]);obtain⟨bs,rb⟩:=cv I N ay ru e2;cases ra with
      |@list l o f n _ _ g1 g2 g3 g4=>
       obtain⟨cls,dd,data,sl⟩:=o;subst g2 g3;have hm:=SeqAt.readsAll_map m _ _ h1 g4;have w:f.size=m.length:=by rw[<-hm,aF];simp
       obtain⟨w1,w2,w3⟩:=List.findIdx?_eq_some_iff_getElem.mp Y;have z:∀(k:Nat)(L:k<f.size),cV (SeqAt.readOf s.1 f[k]) C=cV (m[k]'(by lia)) C:=λk L=>by
        congr 1
        have:(f.toList.map (SeqAt.readOf s.1))[k]?=m[k]?:=by rw[hm]
        rw[bJ,aW (by simpa using L),aW (by lia)]at this;simpa using this
       have hz:m.length<=aQ:=by
        have:xs.length=m.length:=by
         obtain⟨l',μ,rfl,sq,dl⟩:=ax.lst N;cases rx;obtain⟨χ,O,pl,_⟩:=I.list sq;obtain⟨o',r,Γ,n',U⟩:=pl.isList;rw[g1]at r;cases r;cases U;rw[dl.length,O.length,<-w];simp
        lia
       have ε:(aQ:Int)<2 ^ 63 - 1:=by decide
       refine nU PySem.F.slot_list_index ⟨_,g1,rfl⟩ PySem.F.entry_list_index (PySem.F.args_list_index_2 _ _)
        (PySem.SeqAt.list_indexAt l f n dd sl u _ j (by lia) (by lia) ?_ ?_) ⟨g1,λy hy=>SeqAt.items_eqAt g4 rb h1 (gJ h2) (lK h2 hu) y hy,?_⟩
       ·rwa [z j (by lia)]
       ·intro k L T;rw[z k L];have:=w3 k T;simpa using this
       ·exact⟨.int j,H,I.tok _,⟨_,rfl⟩,q _ rfl⟩
    ·rw[aK J]at i;cases i
 |_=>cases i
end
section
variable{X:Cx}{G0 B:Hp}{E:EK}{e a b c tg iter:Expr}{g h:En->Res}{pos p:Pos}
def gM(f:D->D->Option D)(g h:En->Res):En->Res:=λδ=>(g δ).bind λx=>match x with
 |.lst xs=>(h δ).bind λy=>Res.of (f (.lst xs) y)
 |_=>.st
def MQ{f:D->D->Option D}{m:Str}{id:String}{z u:Pos}(slot:Slot "list" m id)(n:typeOf (.builtin id)=pure (.type "method_descriptor"))(M:NB X id (vS (kx X) f))(L:k9 X B E a g)(O:k9 X B E e h)
  (T:iM a m X.env (eval a X.env)=eval a X.env)(o:i9 e=true)(N:(z.endLine==u.line)=true):gj X B E (.Call (.Attribute a m z) [e] [] u) (gM f g h):=
 PE.imp (y6 eJ slot n M L (ip O je (ak o)) T (by rw[ml (by rw[cF,o];rfl)];rfl) N (ak o) rfl) λZ H Q ⟨G,δ,R,q⟩=>⟨G,δ,R,(c7.bind q).mono λdx _ i x G1 H1 j w=>by
  cases dx with
  |lst xs=>
   obtain⟨l,C,rfl,I,dl⟩:=w.lst j.gh;refine⟨.inl ⟨rfl,C,I⟩,G1,δ,R.ext j,?_⟩;have i:=c7.ext j i;unfold au;cases r:h δ with
   |ok Y=>
    rw[r]at i;obtain⟨d,U,J⟩:=c7.of (i);intro ws A H2 s al;obtain⟨y,rfl,ay⟩:=gr.one al;exact⟨A,.lst xs,Y,y,d,s.gh,w.ext s,rfl,ay,U,λv dn=>J v A H2 (j.trans s) dn⟩
   |er c=>rw[r]at i;exact i
   |st=>rw[r]at i;exact i
  |_=>exact i.elim⟩
def Wo{f d:Pos}(i:X.A.units+65<cZ)(j:k9 X B E a g)(n:k9 X B E e h)(o:kn a=true)(l:i9 e=true)(m:(f.endLine==d.line)=true):gj X B E (.Call (.Attribute a "index" f) [e] [] d) (gM g9 g h):=
 MQ PySem.F.slot_list_index PySem.F.type_list_index (Qo i) j n (ni o) l m
noncomputable def k8:D->D->Option D
 |.int i,.int j=>if(-(2 ^ 64)<i/\i<2 ^ 64)\/(-(2 ^ 64)<j/\j<2 ^ 64)then some (.int (i * j))else none
 |.str x,.int n=>if x.length * n.toNat<=aQ/\-(2 ^ 20)<=n/\n<2 ^ 20 then some (.str (Txt.mul x n))else none
 |_,_=>none
def LL{x:Str}{n:Int}(h:x.length * n.toNat<=aQ/\-(2 ^ 20)<=n/\n<2 ^ 20):MulOk x n:=by
 obtain⟨d,o,m⟩:=h;refine⟨?_,λa b=>?_,λa b=>?_⟩
 ·simp only[Bool.or_eq_false_iff,decide_eq_false_iff_not]
  lia
 ·intro j;have f:x.length<=aQ:=by
   have:1<=n.toNat:=by lia
   exact cG (Nat.le_mul_of_pos_right _ this) d
  have i:(aQ:Int)=2 ^ 24:=rfl;have l:(2 ^ 63 - 1:Int) / n>=2 ^ 43 - 1:=by
   rw[ge_iff_le,Int.le_ediv_iff_mul_le (by lia)]
   lia
  lia
 ·unfold Builtin.Str.tooLong;simp only[gt_iff_lt,decide_eq_false_iff_not,Nat.not_lt];exact d
inductive sS(K:KA)(x:V)(y:V)(H:Hp)(Q:VK):Prop
 |mk (G dx dy d) (_:bc G H) (_:Arg K G H dx x) (_:Arg K G H dy y) (_:k8 dx dy=some d) (_:∀v G' H',Ext G H G' H'->Den K G' d v->Q v H'):sS K x y H Q
def AV:kO X (jI .Mult) (sS (kx X)):=by
 intro i s Z H x y v u Q I l j q;obtain⟨G,C,A,d,n,r,o,f,q⟩:=q;unfold k8 at f;split at f
 ·split at f
  ·rename_i m;cases f;rw[r.int]at l;rw[o.int]at j;exact GJ i s Z H _ _ _ _ Q I l j ⟨_,_,rfl,rfl,m,q _ G H (Ext.refl n) rfl⟩
  ·cases f
 ·split at f
  ·rename_i m;cases f;rw[r.str]at l;rw[o.int]at j;obtain⟨t,rfl⟩:=l;obtain⟨z,rfl⟩:=j;exact SB.mul (LL m) λw k=>⟨.str _,H,I.tok _,⟨_,rfl⟩,q _ G H (Ext.refl n) rfl⟩
  ·cases f
 ·cases f
def HA(j:k9 X B E a g)(i:k9 X B E b h):gj X B E (.BinOp a .Mult b pos) (g2 k8 g h):=On AV (λG H x y n m d f r o l Q q=>⟨G,n,m,d,f,r,o,l,q⟩) j i
theorem J1:∀{xs:List V}{d:List aG},xs.length=d.length->(∀(i:Nat) x u,xs[i]?=some x->d[i]?=some u->RelV x u)->Vals xs d
 |[],[],_,_=>.nil
 |[],_::_,h,_=>by simp at h
 |_::_,[],h,_=>by simp at h
 |x::xs,u::d,h,f=>.cons (f 0 x u rfl rfl) (J1 (by simpa using h) λi y v l j=>f (i+1) y v (by simpa using l) (by simpa using j))
end
inductive qC where
 |ok (d:D) (δ:En)
 |er (c:Str)
 |st
def Nb(K:KA)(f B:Hp)(E:EK)(G:Hp)(Z:St)(r:qC)(P:D->Hp->Hp->En->Prop):Prop:=match r with
 |.ok d e=>∀b a,bc G b->c5 K B b a Z e->Ext f B b a->P d b a e
 |.er c=>∀b a,Ext f B b a->E c a
 |.st=>False
inductive wJ(K:KA)(G0 B:Hp)(E:EK)(g:En->qC)(Z:St)(H:Hp)(Q:VK):Prop
 |mk (G δ) (_:c5 K B G H Z δ) (_:Ext G0 B G H) (_:Nb K G0 B E G Z (g δ) λd G' H' _=>∀v,Den K G' d v->Q v H'):wJ K G0 B E g Z H Q
abbrev ON(X:Cx)(a B:Hp)(E:EK)(e:Expr)(g:En->qC):Prop:=PE X e (wJ (kx X) a B E g)
def Res.ef(r:Res)(δ:En):qC:=match r with
 |.ok d=>.ok d δ
 |.er c=>.er c
 |.st=>.st
section
variable{X:Cx}{G0 B:Hp}{E:EK}{e a b c tg iter:Expr}{g h k:En->Res}{f:En->qC}{pos p:Pos}{ss tt:List Stmt}{F1 F2:En->Out}
def qp(f:En->qC):En->Out:=λδ=>match f δ with
 |.ok _ d=>.nx d
 |.er c=>.er c
 |.st=>.st
def BD(h:ON X G0 B E e f)(m:kC e none pos.line X.env=pure false):vm X G0 B E (.Expr e pos) (qp f):=
 PS.imp (uf h m) λD Z H ⟨G,δ,R,x,q⟩=>⟨G,δ,R,x,by
  unfold qp at q;cases ef:f δ with
  |er c=>rw[ef]at q;exact q
  |st=>rw[ef]at q;exact q
  |ok d i=>
   rw[ef]at q;intro r o l n j v s;exact q Z r o l n j⟩
end
section
variable{X:Cx}{G0 B:Hp}{E:EK}{e a b c tg iter:Expr}{g h k:En->Res}{f:En->qC}{pos p:Pos}
noncomputable def OX(i:Nat)(o n:En->Res):En->qC:=λδ=>match δ[i]? with
 | some (.od false l) => (match o δ with
  | .ok q => (match n δ with
   | .ok m => (match ka q with
    | some j => if l.length < aQ then (match wu l j with
     |some d=>.ok d δ
     |none=>.ok m (δ.set i (.od false (BM l j m))))else .st
    |none=>.st)
   |.er c=>.er c
   |.st=>.st)
  |.er c=>.er c
  |.st=>.st)
 |_=>.st
def DN(d:List (D×D)):List D:=d.map (·.1)
def Pm{K:KA}{G:Hp}:∀{i:List (D×D)}{es:List (iu×V)},hG K G i es->br K G (DN i) (es.map λp=>kV p.1):=by
 intro d;induction d with
 |nil=>rintro es h;rw[h];rfl
 |cons d _ j=>
  obtain⟨_,_⟩:=d
  rintro es ⟨k,v,r,m,n,o,l⟩
  subst m n;refine⟨kV k,_,rfl,?_,j l⟩;cases k<;>rfl
def fo:D->Option D
 |.lst i=>some (.lst i)
 |.tup i=>some (.lst i)
 |.ja false d=>some (.lst (DN d))
 |_=>none
def LW{P:bH}{w:bV}{k:iu}{v:aG}(h:(ao P w).is k v=true):RelV (kV k) v:=by
 rcases bp (h)with ⟨i,t,rfl,rfl⟩|⟨x,t,rfl,rfl⟩
 ·exact⟨t,rfl⟩
 ·exact⟨t,rfl⟩
def Kc(hc:X.calm=true):hW X (.type "list") (λxs H Q=>∃p es,xs=[.ref p]/\H p=some (.dK es)/\∀l,H l=none->Q (.ref l) (upd H l (.lst (es.map λp=>kV p.1)))):=by
 intro J s Z H xs us Q I r h;obtain⟨p,es,rfl,O,q⟩:=h;obtain⟨u,rfl,L⟩:=mq r;cases L;obtain⟨z,hd,vs,rel,dd⟩:=KM I.ez O;obtain⟨ep,da⟩:=dd.dictAt;refine PySem.W.kdl_call (PySem.W.kdl_dict (ep:=ep) hd) (I.ok.hd hc) da (by rwa [<-rel.length]) λh' tk v c' U hS ⟨T,j⟩=>?_;have N:Vals (es.map λp=>kV p.1) v.toList:=by
  refine J1 (by rw[aF,rel.length];simp[T]) λi x u d n=>?_;obtain⟨k,y,ek,A⟩:=j i u (by simpa using n);rw[bJ]at d;have w:∀{l:List _}{m:List _},KV l m->∀(i:Nat)(p:iu×V)(q:iu×aG),l[i]?=some p->m[i]?=some q->p.1=q.1:=by
   intro l m r;induction r with
   |nil=>intro i p q e;simp at e
   |@cons a b as bs Y t M=>
    intro i p q d n;cases i with
    |zero=>simp at d n;subst d n;exact Y.1
    |succ i=>exact M i p q (by simpa using d) (by simpa using n)
  cases C:es[i]? with
  |none=>rw[C]at d;cases d
  |some G=>
   rw[C]at d;cases d;have:=w rel i G _ C ek;show RelV (kV G.1) u;rw[this];exact LW A
 refine⟨.ref _,_,I.laid (o:=.lst _) U (aJ _) ⟨by rwa [aF],v.toList,c',N,by simpa using hS⟩,rfl,q _ I.fresh⟩
def I0(z:X.calm=true)(y:Gl X "list")(x:X.mg "list"=none)(A:k9 X B E e g)(w:i9 e=true):Yd X B E (.Call (.Name "list" p) [e] [] pos) (g1 fo g):=
 PE.imp (oh (hW.or Eh (Kc z)) y x PyProof.Rows.boot_list (ip A je (ak w)) (by decide) (by decide) (ak w) rfl) λZ H Q ⟨G,δ,R,q⟩=>⟨G,δ,R,by
  unfold au;unfold g1 at q;cases e:g δ with
  |er c=>rw[e]at q;exact q
  |st=>rw[e]at q;exact q
  |ok M=>
   rw[e]at q;obtain⟨d,n,N,J,r⟩:=c7.of (q);subst J;intro m u O i L;obtain⟨v,rfl,s⟩:=gr.one L;unfold fo at n;split at n
   ·cases n;obtain⟨l,m,rfl,o,dl⟩:=s.lst i.gh;exact .inl ⟨l,m,rfl,.inl o,λp j=>r p m u _ (i.trans (Ext.own i.gh _ j)) (dh i.hh j) (dh i.gh j) ai dl⟩
   ·cases n;obtain⟨l,m,rfl,o,dl⟩:=s.tup i.gh;exact .inl ⟨l,m,rfl,.inr o,λp j=>r p m u _ (i.trans (Ext.own i.gh _ j)) (dh i.hh j) (dh i.gh j) ai dl⟩
   ·cases n;obtain⟨l,I,rfl,C,dl⟩:=Arg.tX i.gh s;exact .inr ⟨l,I,rfl,C,λp j=>r p _ u _ (i.trans (Ext.own i.gh _ j)) (dh i.hh j) (dh i.gh j) ai (Pm dl)⟩
   ·cases n⟩
def P5:IsL (g1 fo g):=λδ d h=>by
 unfold g1 at h;cases e:g δ with
 |er c=>rw[e]at h;cases h
 |st=>rw[e]at h;cases h
 |ok j=>
  rw[e]at h;have i:Res.of _=.ok d:=h;unfold fo at i;split at i
  ·cases i;exact⟨_,rfl⟩
  ·cases i;exact⟨_,rfl⟩
  ·cases i;exact⟨_,rfl⟩
  ·cases i
end
def GW(b:List (D×D))(a:List (iu×D)):List (D×D):=a.foldl (λc p=>BM c p.1 p.2) b
def PD(K:KA)(G:Hp):List (iu×D)->List (iu×V)->Prop
 |[],[]=>True
 |(j,d)::r,(k,v)::q=>j=k/\Den K G d v/\PD K G r q
 |_,_=>False
theorem PD.merge{K:KA}{G:Hp}:∀{l:List (iu×D)}{q:List (iu×V)}{kvs:List (D×D)}{es:List (iu×V)},PD K G l q->hG K G kvs es->hG K G (GW kvs l) (U3 es q)
 |[],[],_,_,_,h=>h
 |(j,d)::r,(k,v)::q,kvs,es,a,h=>by
  obtain⟨e,b,t⟩:=a;subst e;exact PD.merge (l:=r) (q:=q) t (h.put b j)
end Pu
section
/-! dict(list of pairs):a list has no keys -/
namespace Pu
open PySem PySem.Spec PyProof.Rows L2
def E8:typeLookup (.type "list") "keys"=pure none:=am_miss_of_fast (by decide+kernel)
def wt:typeLookup (.type "list") "__getattr__"=pure none:=by rw[typeLookup_type,builtinLookup_eq_fast];kernel_rfl
def Ez(a:Addr)(c:Array aG)(n:Nat)(i:Array (Option aG))(u:Tok):
  Meets (Builtin.«object.__getattribute__» ⟨[.ref a,.str "keys" u],[]⟩) (λA R s=>s.1.get? a=some {cls:=.type "list",dict:=none,data:=.seq c n,slots:=i}/\raisesAttr (.ref a) "keys" A R s):=
 Meets.of_wp λf w A R s b=>by
  obtain⟨l,g,d,h,os⟩:=s;obtain⟨j,b⟩:=b;have m:(⟨l,g,d,h,os⟩:aI).TypeIs (.ref a) "list":=⟨_,j,rfl⟩;have e:=E8;unfold Builtin.«object.__getattribute__»
  repeat (any_goals (first|assumption|wp_step))
  exact wpAny_raiseAttrError (A:=A.in1) b.1 b.2 (attrMsg_fits (by decide+kernel) (by rw[cR];decide))
def Ff{c:bH}{w:bV}{A:cB}{E:aG->aI->Prop}{h:Heap}{g:Array GenState}{d:Drawn}{t:Nat}{os:OsState}{a:Addr}{f:Array aG}{n:Nat}{l:Array (Option aG)}{Q:Option aG->aI->Prop}(o:h.get? a=some {cls:=.type "list",dict:=none,data:=.seq f n,slots:=l})(u:A.handled=none)
  (r:∀j q,(∀b m,h.get? b=some m->j.get? b=some m)->Q none ⟨j,g,d,q,os⟩):bF (bB c w) A (getAttr? (.ref a) "keys") Q E ⟨h,g,d,t,os⟩:=by
 have s:(⟨h,g,d,t,os⟩:aI).TypeIs (.ref a) "list":=⟨_,o,rfl⟩;have G:=sub_AttributeError;have C:=F.slot_list_getattribute.lookup;have B:=F.slot_list_getattribute.bind (.ref a);have z:=wt;unfold getAttr? getAttrBy? getAttrBy
 repeat (any_goals (first|assumption|((with_reducible show bF _ _ (call (Value.builtin "list.__getattribute__") _ _) _ _ _);refine nU F.slot_list_getattribute s F.entry_list_ga (F.args_list_getattribute_2 _ _) (Ez a f n l _) ⟨o,u,λj p e i=>?_⟩)|wp_step))
 obtain⟨x,v,y⟩:=i.there;show bF _ _ (getattributeRaised _ _ _ _ _ _ _) _ _ _;unfold getattributeRaised
 repeat (any_goals (first|assumption|wp_step))
 exact r j _ i.keeps
def ri:entryFor table "dict.update.loop"=some Builtin.«dict.update.loop»:=entryFor_of_tree (by kernel_rfl)
def jc:plainId "dict.update.loop"=true:=by decide+kernel
def Ht(w:bV):Bool:= !(w.params.followText "set-order")
section
variable{prog:bH}{w:bV}{A:cB}{E:aG->aI->Prop}{s:aI}
def Z5(x:aG)(h:Q (.ref s.1.1.size) {s with heap:=s.1.push {cls:=.type "set",dict:=none,data:=.set #[] 0 (.fresh 0 0 (Ht w))}}):
  iE (bB prog w) A (.call (.builtin "set.__new__") ⟨[.type "set",x],[]⟩) (wants Q E) s:=by
 refine codeAny_of_tree ?_;refine aC (lC (PySem.F.newCall_set_1 x) (aD ?_));refine⟨eV PySem.F.plain_set_new _,eM PySem.F.entry_set_new ?_⟩;have a:=sub_set_self
 wp_walk
 refine iT (aD ?_);refine aC (wpAny_alloc (aD (aD ?_)));exact h
end
theorem kl:∀{l:List α}{i:Nat}(h:i<l.length),(l[i]::l.eraseIdx i).Perm l
 |a::r,0,_=>gS _
 |a::r,i+1,h=>by
  have b:i<r.length:=by simpa using h
  exact(iU a _ _).trans ((kl b).cons a)
def Ja(next:Nat->Nat):∀(n k:Nat)(left:List α)(a:Array α),left.length=n->(pickOrder.go next n k left a).toList.Perm (a.toList++left):=by
 intro c;induction c with
 |zero=>
  rintro k left a h
  have:=List.length_eq_zero_iff.mp h;subst this;unfold pickOrder.go;rw[bT]
 |succ n d=>
  rintro k left a h
  unfold pickOrder.go;have b:next k % left.length<left.length:=Nat.mod_lt _ (by lia)
  rw[aW b];refine(d _ _ _ (by rw[List.length_eraseIdx,aN b];lia)).trans ?_;rw[Array.toList_push,cD];refine List.Perm.append_left _ ?_;exact kl b
def Q1(next:Nat->Nat)(xs:Array α):(pickOrder next xs).toList.Perm xs.toList:=by
 have:=Ja next xs.size 0 xs.toList #[] (by simp)
 simpa[pickOrder]using this
noncomputable def oz(w:bV)(a b:Nat)(es:Array (Int×aG)):Array (Int×aG):=if w.params.followText "set-order" then pickOrder (w.params.setOrder a b) es else es
def mr(w:bV)(a b:Nat)(es:Array (Int×aG)):(oz w a b es).toList.Perm es.toList:=by
 unfold oz;split
 ·exact Q1 _ _
 ·exact gS _
def ql(h:Heap)(I a:Addr)(slot i n b:Nat):Prop:=h.get? I=some {cls:=.type "set_iterator",data:=.fields #[eA slot,eA i,.ref a,eA n,eA b]}
def gx:Slot "set_iterator" "__next__" "set_iterator.__next__":=
 .of (owner:="set_iterator") (n:="__next__") (by kernel_rfl) (by decide+kernel) (by decide+kernel) (by decide+kernel) (.inl (by decide+kernel)) (by kernel_rfl)
def qu:entryFor table "set_iterator.__next__"=some Builtin.«set_iterator.__next__»:=entryFor_of_tree (by kernel_rfl)
def qr(a:aG):argsOk "set_iterator.__next__" ⟨[a],[]⟩:=by
 kernel_rfl
def xf:Slot "set_iterator" "__iter__" "set_iterator.__iter__":=
 .of (owner:="set_iterator") (n:="__iter__") (by kernel_rfl) (by decide+kernel) (by decide+kernel) (by decide+kernel) (.inl (by decide+kernel)) (by kernel_rfl)
def Ca:entryFor table "set.__iter__"=some Builtin.«frozenset.__iter__»:=entryFor_alias (id':="frozenset.__iter__") (by kernel_rfl) rfl (by decide+kernel) (by kernel_rfl)
def Cb(a:aG):argsOk "set_iterator.__iter__" ⟨[a],[]⟩:=by
 kernel_rfl
def Cd:entryFor table "set_iterator.__iter__"=some Builtin.«dict_keyiterator.__iter__»:=entryFor_alias (id':="dict_keyiterator.__iter__") (by kernel_rfl) (by first|rfl|decide+kernel) (by decide+kernel) (by kernel_rfl)
section
variable{prog:bH}{w:bV}{A:cB}{E:aG->aI->Prop}{s:aI}{a I:Addr}{S:List Nat}{es:Array (Int×aG)}{ep i:Nat}
def ql.ty{slot n:Nat}(h:ql s.1 I a slot i n ep):s.TypeIs (.ref I) "set_iterator":=⟨_,h,rfl⟩
def Jm(e:s.TypeIs (.ref a) "set")(h:Q false s):bF (bB prog w) A (Builtin.List.listLengthHint (.ref a)) Q E s:=by
 refine aC (jH e PySem.F.slot_set_len.lookup ?_);generalize c:("set.__len__")=f
 wp_delta
 subst c;refine aC (fH (b:=true) e sub_set_self ?_);refine nE (λd=>absurd d (by decide)) (λ_=>?_);exact aC (kG e (aD h))
end
end Pu
end
section
/-! list.sort of any length,over keys that are compared without a trace:runs,counted and filled -/
namespace Pu
open PySem PySem.Spec PyProof.Rows PySem.SeqAt PySem.W
/-- a strict order of the numbers below n -/
structure Ord(n:Nat)(cmp:Nat->Nat->Bool):Prop where
 as:∀i j,i<n->j<n->i≠j->cmp j i= !cmp i j
 tr:∀i j k,i<n->j<n->k<n->cmp i j=true->cmp j k=true->cmp i k=true
def At(p:Array Nat)(i:Nat):Nat:=p.getD i 0
def c8(n:Nat)(p:Array Nat):Prop:=p.toList.Perm (aS n)
section
variable{n:Nat}{cmp:Nat->Nat->Bool}
def c8.size{p:Array Nat}(h:c8 n p):p.size=n:=by
 have:=List.Perm.length_eq h;simpa using this
def jn{p:Array Nat}{i:Nat}(h:i<p.size):At p i=p[i]:=by
 unfold At;simp[nW,h]
def c8.lt{p:Array Nat}(h:c8 n p){i:Nat}(b:i<n):At p i<n:=by
 have a:i<p.size:=by rw[h.size];exact b
 rw[jn a];exact List.mem_range.mp (h.mem_iff.mp (by simp))
def c8.ne{p:Array Nat}(h:c8 n p){i j:Nat}(f:i<n)(d:j<n)(e:i≠j):At p i≠At p j:=by
 have b:i<p.size:=by rw[h.size];exact f
 have a:j<p.size:=by rw[h.size];exact d
 rw[jn b,jn a];have c:p.toList.Nodup:=(h.nodup_iff).mpr oV;intro z;have pw:=List.pairwise_iff_getElem.mp c;rcases Nat.lt_or_gt_of_ne e with q|q
 ·exact pw i j (by simpa using b) (by simpa using a) q (by simpa using z)
 ·exact pw j i (by simpa using a) (by simpa using b) q (by simpa using z.symm)
def c8.no{p:Array Nat}(O:Ord n cmp)(h:c8 n p){i j:Nat}(b:i<n)(a:j<n)(e:i≠j)(c:cmp (At p i) (At p j)=false):cmp (At p j) (At p i)=true:=by
 rw[O.as _ _ (h.lt b) (h.lt a) (h.ne b a e),c];rfl
def c8.rev{p:Array Nat}(a:c8 n p)(i j:Nat):c8 n (qA p i j):=(Array.perm_iff_toList_perm.mp (mirror_perm p i j _)).trans a
def c8.w9{p:Array Nat}(a:c8 n p)(i j:Nat):c8 n (pR p i j):=(Array.perm_iff_toList_perm.mp (bubble_perm p i j)).trans a
def uu{p:Array Nat}{i:Nat}:At p i=(p[i]?).getD 0:=by
 unfold At;simp[nM]
def Ka{p:Array Nat}{i m k:Nat}(a:m<=p.size):At (qA p i m) k=if i<=k/\k<m then At p (i+m - 1 - k)else At p k:=by
 rw[uu,uu,uu];unfold qA;rw[getElem?_mirror_all a];split<;>rfl
def J9{p:Array Nat}{k l:Nat}(c:k<p.size)(d:l<=k)(i:Nat):At (pR p k (k - l)) i=if i=l then At p k else if l<i/\i<=k then At p (i - 1)else At p i:=by
 rw[uu,getElem?_bubble c (k - l) (by lia),uu,uu,uu];have e:k - (k - l)=l:=by lia
 by_cases a:i=l
 ·subst a;simp[e]
 ·by_cases b:l<i/\i<=k
  ·simp[e,a,b]
  ·simp[e,a,b]
end
def So(c:Nat->Nat->Bool)(p:Array Nat)(m:Nat):Prop:=∀a b,a<b->b<m->c (At p a) (At p b)=true
/-- rising between -/
def qW(c:Nat->Nat->Bool)(p:Array Nat)(lo d:Nat):Prop:=∀a b,lo<=a->a<b->b<d->c (At p a) (At p b)=true
def vE(c:Nat->Nat->Bool)(p:Array Nat)(lo d:Nat):Prop:=∀a b,lo<=a->a<b->b<d->c (At p b) (At p a)=true
/-- the same elsewhere -/
def Eo(p a:Array Nat)(lo b:Nat):Prop:=∀i,i<lo\/b<=i->At a i=At p i
/-- keys that are compared without a trace -/
def ny(a:bH)(w:bV)(A:cB)(s:aI)(κ:mU)(item:Nat->jX)(n:Nat)(b:Nat->Nat->Bool):Prop:=
 ∀i j,i<n->j<n->∀Q:Bool->aI->Prop,Q (b i j) s->bF (bB a w) A (keyLt' κ (item i).1 (item j).1) Q (λ_ _=>False) s
def fu(κ:mU)(item:Nat->jX)(p:Array Nat)(a:Array (Nat×Nat×Nat))(g:Nat):eF:=kU κ (p.map item) a g none
section
variable{prog:bH}{w:bV}{A:cB}{E:aG->aI->Prop}{s:aI}{κ:mU}{item:Nat->jX}{n:Nat}{cmp:Nat->Nat->Bool}{p:Array Nat}{pend:Array (Nat×Nat×Nat)}{g:Nat}
def lh{β:Type}{d:Nat->β->StateT eF Sem (ForInStep β)}{Q:β->eF->aI->Prop}(I:List Nat->β->eF->Prop)(R:β->eF->Prop)
  (m:∀x l b st (e:ForInStep β->eF->aI->Prop),I (x::l) b st->(∀c a,I l c a->e (.yield c) a s)->(∀c a,R c a->e (.done c) a s)->kasC (bB prog w) A E (d x b) e st s)
  (o:∀b st,I [] b st->R b st) (f:∀b st,R b st->Q b st s):∀(l:List Nat)(b:β)(st:eF),I l b st->kasC (bB prog w) A E (forIn l b d) Q st s:=by
 intro l;induction l with
 |nil=>exact λb st i=>kasC_nil (f b st (o b st i))
 |cons x l h=>exact λb st i=>kasC_cons (m x l b st _ i (λc a j=>h c a j) λc a r=>f c a r)
def E1{i:Nat}(a:i<p.size):(Array.map item p)[i]?=some (item (At p i)):=by
 rw[jn a];simp[a]
def Uz{i j:Nat}{Q:Option Bool->eF->aI->Prop}(P:ny prog w A s κ item n cmp)(d:i<n)(c:j<n)(q:Q (some (cmp i j)) (fu κ item p pend g) s):kasC (bB prog w) A E (lt' (item i) (item j)) Q (fu κ item p pend g) s:=by
 rw[lt'_eq];refine aX (lO (aX (nP (gQ (cJ (P i j d c (λb a=>b=cmp i j/\a=s) ⟨rfl,rfl⟩) (λb a h=>?_) λ_ _ z=>z.elim)))));obtain⟨rfl,rfl⟩:=h;exact bC q
def fh{a:Array Nat}{i:Nat}{Q:jX->eF->aI->Prop}{st:eF}(b:i<a.size)(q:Q (item (At a i)) st s):kasC (bB prog w) A E (elem' (a.map item) i) Q st s:=by
 rw[elem'_eq,E1 b];exact bC q
def ya{i j:Nat}{Q:Option Bool->eF->aI->Prop}(P:ny prog w A s κ item n cmp)(a:c8 n p)(c:i<n)(b:j<n)(q:Q (some (cmp (At p i) (At p j))) (fu κ item p pend g) s):kasC (bB prog w) A E (ltAt' i j) Q (fu κ item p pend g) s:=by
 rw[ltAt'_eq];refine aX (lO ?_);show kasC _ _ _ (do let x <-elem' (p.map item) i;let y <-elem' (p.map item) j;lt' x y) Q _ _;exact aX (fh (by rw[a.size];exact c) (aX (fh (by rw[a.size];exact b) (Uz P (a.lt c) (a.lt b) q))))
def GU{i j:Nat}{Q:Unit->eF->aI->Prop}(q:Q () (fu κ item (pR p i (i - j)) pend g) s):kasC (bB prog w) A E (moveDown' i j) Q (fu κ item p pend g) s:=by
 rw[moveDown'_eq];refine mV ?_;have e:setArr (fu κ item p pend g) (pR (arrOf (fu κ item p pend g)) i (i - j))=fu κ item (pR p i (i - j)) pend g:=by
  show kU κ (pR (p.map item) i (i - j)) pend g none=kU κ ((pR p i (i - j)).map item) pend g none;rw[show pR (p.map item) i (i - j)=(pR p i (i - j)).map item from kas_swaps_map item (λk=>i - k) (λk=>i - k - 1) _ p]
 rw[e];exact q
def MN{i j:Nat}{Q:Unit->eF->aI->Prop}(q:Q () (fu κ item (qA p i j) pend g) s):kasC (bB prog w) A E (reverseSlice' i j) Q (fu κ item p pend g) s:=by
 rw[reverseSlice'_eq];refine mV ?_;have e:setArr (fu κ item p pend g) (mirror (arrOf (fu κ item p pend g)) i j ((j - i) / 2))=fu κ item (qA p i j) pend g:=by
  show kU κ (mirror (p.map item) i j ((j - i) / 2)) pend g none=kU κ ((mirror p i j ((j - i) / 2)).map item) pend g none;rw[show mirror (p.map item) i j ((j - i) / 2)=(mirror p i j ((j - i) / 2)).map item from kas_swaps_map item (λk=>i+k) (λk=>j - 1 - k) _ p]
 rw[e];exact q
/-! ### a run -/
def qW.succ{lo m:Nat}(O:Ord n cmp)(c:c8 n p)(r:1<=m)(j:lo+m<n)(h:qW cmp p lo (lo+m))(l:cmp (At p (lo+m)) (At p (lo+m - 1))=false):qW cmp p lo (lo+(m+1)):=by
 intro a b i f q
 by_cases d:b<lo+m
 ·exact h a b i f d
 ·obtain rfl:b=lo+m:=by lia
  have e:=c.no O j (show lo+m - 1<n by lia) (by lia) l
  by_cases o:a=lo+m - 1
  ·rw[o];exact e
  ·exact O.tr _ _ _ (c.lt (by lia)) (c.lt (by lia)) (c.lt j) (h a (lo+m - 1) i (by lia) (by lia)) e
def vE.succ{lo m:Nat}(O:Ord n cmp)(c:c8 n p)(q:1<=m)(j:lo+m<n)(h:vE cmp p lo (lo+m))(i:cmp (At p (lo+m)) (At p (lo+m - 1))=true):vE cmp p lo (lo+(m+1)):=by
 intro a b f e o
 by_cases d:b<lo+m
 ·exact h a b f e d
 ·obtain rfl:b=lo+m:=by lia
  by_cases l:a=lo+m - 1
  ·rw[l];exact i
  ·exact O.tr _ _ _ (c.lt j) (c.lt (by lia)) (c.lt (by lia)) i (h a (lo+m - 1) f (by lia) (by lia))
def CD{lo nrem m:Nat}{a:Nat->AscSt->StateT eF Sem (ForInStep AscSt)}{Q:AscSt->eF->aI->Prop}(O:Ord n cmp)(u:c8 n p)(H:1<=m)(G:m<=nrem)(C:lo+nrem<=n)(r:qW cmp p lo (lo+m))
  (y:∀x k (i:ForInStep AscSt->eF->aI->Prop),lo+k<n->lo+k - 1<n->(∀c,cmp (At p (lo+k)) (At p (lo+k - 1))=c->i (if c then .done (none,k)else .yield (none,k+1)) (fu κ item p pend g) s)->kasC (bB prog w) A E (a x (none,k)) i (fu κ item p pend g) s)
  (q:∀k,m<=k->k<=nrem->qW cmp p lo (lo+k)->(k<nrem->cmp (At p (lo+k)) (At p (lo+k - 1))=true)->Q (none,k) (fu κ item p pend g) s):kasC (bB prog w) A E (forIn [m:nrem] ((none,m):AscSt) a) Q (fu κ item p pend g) s:=by
 refine eR (lh (λl b st=>st=fu κ item p pend g/\∃k,b=(none,k)/\m<=k/\k+l.length=nrem/\qW cmp p lo (lo+k))
  (λb st=>st=fu κ item p pend g/\∃k,b=(none,k)/\m<=k/\k<=nrem/\qW cmp p lo (lo+k)/\(k<nrem->cmp (At p (lo+k)) (At p (lo+k - 1))=true)) ?_ ?_ ?_ _ _ _ ⟨rfl,m,rfl,aJ _,by rw[eS];lia,r⟩)
 ·rintro x l b st i ⟨rfl,k,rfl,f,e,d⟩ o v
  rw[aE]at e;refine y x k i (by lia) (by lia) λc j=>?_;cases c with
  |true=>exact v _ _ ⟨rfl,k,rfl,f,by lia,d,λ_=>j⟩
  |false=>exact o _ _ ⟨rfl,k+1,rfl,by lia,by lia,d.succ O u (by lia) (by lia) j⟩
 ·rintro b st ⟨h,k,rfl,f,e,d⟩
  exact⟨h,k,rfl,f,fM e,d,λz=>by simp at e;lia⟩
 ·rintro b st ⟨rfl,k,rfl,f,e,d,B⟩
  exact q k f e d B
def Yu{lo c:Nat}{Q:Option Nat->eF->aI->Prop}(P:ny prog w A s κ item n cmp)(O:Ord n cmp)(d:c8 n p)(h1:1<=c)(M:lo+c<=n)
  (q:∀m u,c8 n u->1<=m->m<=c->qW cmp u lo (lo+m)->Eo p u lo (lo+c)->Q (some m) (fu κ item u pend g) s):kasC (bB prog w) A E (countRun' lo c) Q (fu κ item p pend g) s:=by
 refine aX (CD O d (aJ _) h1 M (λa b _ _ _=>by lia) (λx k Y G C o=>aX (ya P d G C ?_)) λm B v j J=>?_)
 ·cases e:cmp (At p (lo+k)) (At p (lo+k - 1))with
  |true=>exact bC (o _ e)
  |false=>exact bC (o _ e)
 ·show kasC _ _ _ (if(m==c)=true then _ else _) _ _ _
  by_cases U:m=c
  ·rw[aN (by simpa using U)];exact bC (q m p d B v j λ_ _=>rfl)
  ·rw[aK (by simpa using U)];show kasC _ _ _ (if m>1 then _ else _) _ _ _
   by_cases T:m>1
   ·rw[aN T];refine aX (ya P d (by lia) (by lia) ?_);rw[j lo (lo+m - 1) (aJ _) (by lia) (by lia)];exact bC (q m p d B v j λ_ _=>rfl)
   ·rw[aK T];obtain rfl:m=1:=by lia
    have c0:=J (by lia);refine aX (nP (eY (aX (eR (lh (λl b st=>st=fu κ item p pend g/\∃k,b=(none,k,0)/\2<=k/\k+l.length=c/\vE cmp p lo (lo+k))
     (λb st=>st=fu κ item p pend g/\∃k,b=(none,k,0)/\2<=k/\k<=c/\vE cmp p lo (lo+k)) ?_ ?_ ?_ _ _ _ ⟨rfl,2,rfl,aJ _,by rw[eS];lia,λa b L I N=>?_⟩)))))
    ·rintro x l b st Y ⟨rfl,k,rfl,y,r,f⟩ hy hd
     rw[aE]at r;refine aX (ya P d (show lo+k<n by lia) (show lo+k - 1<n by lia) ?_);cases e:cmp (At p (lo+k)) (At p (lo+k - 1))with
     |true=>exact bC (hy _ _ ⟨rfl,k+1,rfl,by lia,by lia,f.succ O d (by lia) (by lia) e⟩)
     |false=>
      refine aX (ya P d (show lo+k - 1<n by lia) (show lo+k<n by lia) ?_);rw[d.no O (show lo+k<n by lia) (show lo+k - 1<n by lia) (by lia) e];exact bC (hd _ _ ⟨rfl,k,rfl,y,by lia,f⟩)
    ·rintro b st ⟨h,k,rfl,y,r,f⟩
     exact⟨h,k,rfl,y,fM r,f⟩
    ·rintro b st ⟨rfl,k,rfl,y,r,f⟩
     have H:=d.rev lo (lo+k);have z:lo+k<=p.size:=by rw[d.size];lia
     refine aX (MN (aX (CD (lo:=lo) (nrem:=c) (m:=k) O H (by lia) r M (λa b L I N=>?_) (λx k Y G C o=>aX (ya P H G C ?_)) λm B v j J=>?_)))
     ·rw[Ka z,Ka z,aN ⟨L,by lia⟩,aN ⟨by lia,N⟩];exact f _ _ (by lia) (by lia) (by lia)
     ·cases e:cmp (At (qA p lo (lo+_)) (lo+k)) (At (qA p lo (lo+_)) (lo+k - 1))with
      |true=>exact bC (o _ e)
      |false=>exact bC (o _ e)
     ·exact bC (q m _ H (by lia) v j λi hi=>by rw[Ka z,aK (by lia)])
    ·obtain rfl:b=lo+1:=by lia
     obtain rfl:a=lo:=by lia
     exact c0
/-! ### put in one by one -/
def KQ{lo m ok:Nat}{Q:Bool->eF->aI->Prop}(P:ny prog w A s κ item n cmp)(O:Ord n cmp)(hp:c8 n p)(I:lo+m<=n)(ι:1<=ok)(hm:ok<=m)(hs:qW cmp p lo (lo+ok))
  (q:∀d,c8 n d->qW cmp d lo (lo+m)->Eo p d lo (lo+m)->Q true (fu κ item d pend g) s):kasC (bB prog w) A E (binarySort' lo m ok) Q (fu κ item p pend g) s:=by
 have mx:max ok 1=ok:=by lia
 rw[binarySort'_eq,mx];refine aX (eR (lh (λl b st=>b=(none,())/\∃k d,l=List.range' k (m - k)/\ok<=k/\k<=m/\st=fu κ item d pend g/\c8 n d/\qW cmp d lo (lo+k)/\Eo p d lo (lo+m))
  (λb st=>b=(none,())/\∃d,st=fu κ item d pend g/\c8 n d/\qW cmp d lo (lo+m)/\Eo p d lo (lo+m)) ?_ ?_ ?_ _ _ _ ⟨rfl,ok,p,rfl,aJ _,hm,rfl,hp,hs,λ_ _=>rfl⟩))
 ·rintro x l b st Q' ⟨rfl,k,d,o,k1,k2,rfl,f,j,G⟩ hy hd
  have k3:k<m:=by
   rcases eO k m with h|h
   ·exact h
   ·rw[show m - k=0 by lia]at o;cases o
  rw[show m - k=(m - (k+1))+1 by lia,oW]at o;obtain⟨rfl,rfl⟩:=List.cons.inj o;refine aX (eR (lh (λl b st=>st=fu κ item d pend g/\∃u v,b=(none,u,v)/\u<=v/\v<=x/\v - u<=l.length/\(∀a,a<u->cmp (At d (lo+a)) (At d (lo+x))=true)/\(∀a,v<=a->a<x->cmp (At d (lo+x)) (At d (lo+a))=true))
   (λb st=>st=fu κ item d pend g/\∃u v,b=(none,u,v)/\u<=x/\(∀a,a<u->cmp (At d (lo+a)) (At d (lo+x))=true)/\(∀a,u<=a->a<x->cmp (At d (lo+x)) (At d (lo+a))=true)) ?_ ?_ ?_ _ _ _
   ⟨rfl,0,x,rfl,bX _,aJ _,by rw[eS];exact aJ _,λa h=>by lia,λa h h'=>by lia⟩))
  ·rintro y l b st Q2 ⟨rfl,u,v,rfl,h1,H,N,B,r⟩ C J
   show kasC _ _ _ (if u>=v then _ else _) _ _ _
   by_cases c:u>=v
   ·rw[aN c];obtain rfl:u=v:=by lia
    exact bC (J _ _ ⟨rfl,u,u,rfl,H,B,r⟩)
   ·rw[aK c];rw[aE]at N;have mk:(u+v) / 2<x:=by lia
    refine aX (ya P f (show lo+x<n by lia) (show lo+(u+v) / 2<n by lia) ?_);cases L:cmp (At d (lo+x)) (At d (lo+(u+v) / 2))with
    |true=>
     refine bC (C _ _ ⟨rfl,u,(u+v) / 2,rfl,by lia,by lia,by lia,B,λa U T=>?_⟩)
     by_cases z:a=(u+v) / 2
     ·rw[z];exact L
     ·exact O.tr _ _ _ (f.lt (by lia)) (f.lt (by lia)) (f.lt (by lia)) L (j _ _ (by lia) (by lia) (by lia))
    |false=>
     have e:=f.no O (show lo+x<n by lia) (show lo+(u+v) / 2<n by lia) (by lia) L;refine bC (C _ _ ⟨rfl,(u+v) / 2+1,v,rfl,by lia,H,by lia,λa ha=>?_,r⟩)
     by_cases z:a=(u+v) / 2
     ·rw[z];exact e
     ·exact O.tr _ _ _ (f.lt (by lia)) (f.lt (by lia)) (f.lt (by lia)) (j (lo+a) (lo+(u+v) / 2) (by lia) (by lia) (by lia)) e
  ·rintro b st ⟨h,u,v,rfl,h1,H,N,B,r⟩
   obtain rfl:u=v:=by simp at N;lia
   exact⟨h,u,u,rfl,H,B,r⟩
  ·rintro b st ⟨rfl,u,v,rfl,H,B,r⟩
   refine aX (GU (bC (hy _ _ ⟨rfl,x+1,_,rfl,by lia,by lia,rfl,f.w9 _ _,λa b Y M hb=>?_,λi hi=>?_⟩)))
   ·have I:lo+x<d.size:=by rw[f.size];lia
    rw[J9 I (show lo+u<=lo+x by lia),J9 I (show lo+u<=lo+x by lia)]
    by_cases U:a=lo+u
    ·rw[aN U,aK (by lia),aN (by lia)];have:=r (b - 1 - lo) (by lia) (by lia);rwa [show lo+(b - 1 - lo)=b - 1 by lia]at this
    ·rw[aK U]
     by_cases T:lo+u<a/\a<=lo+x
     ·rw[aN T,aK (by lia),aN (by lia)];exact j _ _ (by lia) (by lia) (by lia)
     ·rw[aK T]
      by_cases b1:b=lo+u
      ·rw[aN b1];have:=B (a - lo) (by lia);rwa [show lo+(a - lo)=a by lia]at this
      ·rw[aK b1]
       by_cases b2:lo+u<b/\b<=lo+x
       ·rw[aN b2];exact j _ _ Y (by lia) (by lia)
       ·rw[aK b2];exact j _ _ Y M (by lia)
   ·rw[J9 (by rw[f.size];lia) (show lo+u<=lo+x by lia),aK (by lia),aK (by lia)];exact G i hi
 ·rintro b st ⟨rfl,k,d,o,k1,k2,rfl,f,j,G⟩
  obtain rfl:k=m:=by
   have:=congrArg dH o;simp at this;lia
  exact⟨rfl,d,rfl,f,j,G⟩
 ·rintro b st ⟨rfl,d,rfl,f,j,G⟩
  exact bC (q d f j G)
end
end Pu
end
section
/-! list.sort of any length:leaps,two runs put together -/
namespace Pu
open PySem PySem.Spec PyProof.Rows PySem.SeqAt PySem.W
def Y9:Bool->jX->Array jX->Nat->Nat->Nat->StateT eF Sem (Option Nat):=sortPriv% PySem.Builtin.gallop
def Ih:Array jX->Array jX->StateT eF Sem (Array jX):=sortPriv% PySem.Builtin.mergeLo
def Ig:Array jX->Array jX->StateT eF Sem (Array jX):=sortPriv% PySem.Builtin.mergeHi
section
variable{prog:bH}{w:bV}{A:cB}{E:aG->aI->Prop}{s:aI}{κ:mU}{item:Nat->jX}{n:Nat}{cmp:Nat->Nat->Bool}{p:Array Nat}{pend:Array (Nat×Nat×Nat)}{g:Nat}
/-! ### how many lie ahead -/
def Eg(cmp:Nat->Nat->Bool)(l:Bool)(a:Nat)(p:Array Nat)(base i:Nat):Bool:=if l then cmp (At p (base+i)) a else !cmp a (At p (base+i))
def BN(n:Nat)(p:Array Nat):Prop:=∀i,i<p.size->At p i<n
def F5{q:Array Nat}{l:Bool}{a base i:Nat}{Q:Option Bool->eF->aI->Prop}(P:ny prog w A s κ item n cmp)(e:a<n)(d:BN n p)(c:base+i<p.size)(h:Q (some (Eg cmp l a p base i)) (fu κ item q pend g) s):
  kasC (bB prog w) A E (elem' (p.map item) (base+i)>>=λx=>if l=true then lt' x (item a)else lt' (item a) x>>=λr=>pure (r.map λb=> !b)) Q (fu κ item q pend g) s:=by
 refine aX (fh c ?_);cases l with
 |true=>exact Uz P (d _ c) e h
 |false=>exact aX (Uz P e (d _ c) (bC h))
def Dm{q:Array Nat}{l:Bool}{d base m hint k:Nat}{Q:Option Nat->eF->aI->Prop}(P:ny prog w A s κ item n cmp)(I:d<n)(H:BN n p)(hz:base+m<=p.size)(hh:hint<m)(km:k<=m)
  (N:∀i,i<m->Eg cmp l d p base i=decide (i<k))(h:Q (some k) (fu κ item q pend g) s):
  kasC (bB prog w) A E (Y9 l (item d) (p.map item) base m hint) Q (fu κ item q pend g) s:=by
 have last:∀{lo J:Nat}{f:Nat->Option (Option Nat)×Nat×Nat->StateT eF Sem (ForInStep (Option (Option Nat)×Nat×Nat))}{R:Option (Option Nat)×Nat×Nat->eF->aI->Prop},lo<=k->k<=J->J<=m->
   (∀x u v (o:ForInStep (Option (Option Nat)×Nat×Nat)->eF->aI->Prop),v<=m->(u>=v->o (.done (none,u,v)) (fu κ item q pend g) s)->(¬u>=v->∀c,Eg cmp l d p base (u+(v - u) / 2)=c->o (.yield (if c then(none,u+(v - u) / 2+1,v)else(none,u,u+(v - u) / 2))) (fu κ item q pend g) s)->kasC (bB prog w) A E (f x (none,u,v)) o (fu κ item q pend g) s)->
   (∀u,R (none,u,k) (fu κ item q pend g) s)->kasC (bB prog w) A E (forIn [:m] (none,lo,J) f) R (fu κ item q pend g) s:=by
  intro lo J f R M L h3 U r;refine eR (lh (λl b st=>st=fu κ item q pend g/\∃u v,b=(none,u,v)/\u<=k/\k<=v/\v<=m/\v - u<=l.length) (λb st=>st=fu κ item q pend g/\∃u,b=(none,u,k)) ?_ ?_ ?_ _ _ _ ⟨rfl,lo,J,rfl,M,L,h3,by rw[eS];omega⟩)
  ·rintro x l b st o ⟨rfl,u,v,rfl,a,y,e,O⟩ G B
   rw[aE]at O;refine U x u v o e (λc=>B _ _ ⟨rfl,u,?_⟩) λc b j=>?_
   ·rw[show k=v by omega]
   ·rw[N _ (by omega)]at j;cases b with
    |true=>exact G _ _ ⟨rfl,_,_,rfl,by simp at j;omega,y,e,by omega⟩
    |false=>exact G _ _ ⟨rfl,_,_,rfl,a,by simp at j;omega,by omega,by omega⟩
  ·rintro b st ⟨h,u,v,rfl,a,y,e,O⟩
   refine⟨h,u,?_⟩;simp at O;rw[show k=v by omega]
  ·rintro b st ⟨rfl,u,rfl⟩
   exact r u
 refine aX (F5 P I H (by omega) ?_);rw[N hint hh]
 by_cases T:hint<k
 ·rw[decide_eq_true T];show kasC _ _ _ (if true=true then _ else _) _ _ _;rw[aN rfl];refine aX (eR (lh (λl b st=>st=fu κ item q pend g/\∃u v,b=(none,u,v)/\hint+u<k/\u<v/\m<=l.length+v) (λb st=>st=fu κ item q pend g/\∃u v,b=(none,u,v)/\hint+u<k/\(m - hint<=v\/k<=hint+v)) ?_ ?_ ?_ _ _ _ ⟨rfl,0,1,rfl,T,by omega,by rw[eS];omega⟩))
  ·rintro x l b st o ⟨rfl,u,v,rfl,a,y,e⟩ G B
   rw[aE]at e;show kasC _ _ _ (if v>=m - hint then _ else _) _ _ _
   by_cases c:v>=m - hint
   ·rw[aN c];exact bC (B _ _ ⟨rfl,u,v,rfl,a,.inl c⟩)
   ·rw[aK c];refine aX (F5 (i:=hint+v) P I H (by omega) ?_);rw[N _ (by omega)]
    by_cases C:hint+v<k
    ·rw[decide_eq_true C];exact bC (G _ _ ⟨rfl,v,2 * v+1,rfl,C,by omega,by omega⟩)
    ·rw[decide_eq_false C];exact bC (B _ _ ⟨rfl,u,v,rfl,a,.inr (by omega)⟩)
  ·rintro b st ⟨h,u,v,rfl,a,y,e⟩
   exact⟨h,u,v,rfl,a,.inl (by simp at e;omega)⟩
  ·rintro b st ⟨rfl,u,v,rfl,a,y⟩
   refine aX (last (by dsimp only;omega) (by dsimp only;omega) (by dsimp only;omega) (λx u v o hv M L=>?_) λu=>bC h);show kasC _ _ _ (if u>=v then _ else _) _ _ _
   by_cases c:u>=v
   ·rw[aN c];exact bC (M c)
   ·rw[aK c];refine aX (F5 (i:=u+(v - u) / 2) P I H (by omega) ?_);have z:=L c _ rfl;cases j:Eg cmp l d p base (u+(v - u) / 2)with
    |true=>rw[j]at z;exact bC z
    |false=>rw[j]at z;exact bC z
 ·rw[decide_eq_false T];show kasC _ _ _ (if false=true then _ else _) _ _ _;rw[aK (by decide)];refine aX (eR (lh (λl b st=>st=fu κ item q pend g/\∃u v,b=(none,u,v)/\k<=hint - u/\u<=hint/\u<v/\m<=l.length+v) (λb st=>st=fu κ item q pend g/\∃u v,b=(none,u,v)/\k<=hint - u/\(hint+1<=v\/hint - v<k)) ?_ ?_ ?_ _ _ _ ⟨rfl,0,1,rfl,by omega,by omega,by omega,by rw[eS];omega⟩))
  ·rintro x l b st o ⟨rfl,u,v,rfl,a,Y,y,e⟩ G B
   rw[aE]at e;show kasC _ _ _ (if v>=hint+1 then _ else _) _ _ _
   by_cases c:v>=hint+1
   ·rw[aN c];exact bC (B _ _ ⟨rfl,u,v,rfl,a,.inl c⟩)
   ·rw[aK c];refine aX (F5 (i:=hint - v) P I H (by omega) ?_);rw[N _ (by omega)]
    by_cases C:hint - v<k
    ·rw[decide_eq_true C];exact bC (B _ _ ⟨rfl,u,v,rfl,a,.inr C⟩)
    ·rw[decide_eq_false C];exact bC (G _ _ ⟨rfl,v,2 * v+1,rfl,by omega,by omega,by omega,by omega⟩)
  ·rintro b st ⟨h,u,v,rfl,a,Y,y,e⟩
   exact⟨h,u,v,rfl,a,.inl (by simp at e;omega)⟩
  ·rintro b st ⟨rfl,u,v,rfl,a,y⟩
   refine aX (last (by dsimp only;omega) (by dsimp only;omega) (by dsimp only;omega) (λx u v o hv M L=>?_) λu=>bC h);show kasC _ _ _ (if u>=v then _ else _) _ _ _
   by_cases c:u>=v
   ·rw[aN c];exact bC (M c)
   ·rw[aK c];refine aX (F5 (i:=u+(v - u) / 2) P I H (by omega) ?_);have z:=L c _ rfl;cases j:Eg cmp l d p base (u+(v - u) / 2)with
    |true=>rw[j]at z;exact bC z
    |false=>rw[j]at z;exact bC z
end
end Pu
end
section
/-! two runs put together -/
namespace Pu
open PySem PySem.Spec PyProof.Rows PySem.SeqAt PySem.W
/-- two rising rows as one -/
def mg(c:Nat->Nat->Bool)(a b:List Nat):List Nat:=a.merge b λx y=> !c y x
section
variable{cmp:Nat->Nat->Bool}
def pq(b:List Nat):mg cmp [] b=b:=by cases b<;>simp[mg,List.merge]
def nh(a:List Nat):mg cmp a []=a:=by cases a<;>simp[mg,List.merge]
def Ii{x y:Nat}(xs a:List Nat)(c:cmp y x=true):mg cmp (x::xs) (y::a)=y::mg cmp (x::xs) a:=by
 unfold mg;rw[List.cons_merge_cons];simp[c]
def Lq{x y:Nat}(xs a:List Nat)(c:cmp y x=false):mg cmp (x::xs) (y::a)=x::mg cmp xs (y::a):=by
 unfold mg;rw[List.cons_merge_cons];simp[c]
def U6{y:Nat}(b c:List Nat):∀a:List Nat,(∀x∈a,cmp y x=false)->mg cmp (a++c) (y::b)=a++mg cmp c (y::b):=by
 intro a;induction a with
 |nil=>intro _;rfl
 |cons x a d=>
  intro h;rw[cY,Lq _ _ (h x (.head _)),d λz e=>h z (.tail _ e)];rfl
def DK{x:Nat}(xs b:List Nat):∀a:List Nat,(∀y∈a,cmp y x=true)->mg cmp (x::xs) (a++b)=a++mg cmp (x::xs) b:=by
 intro a;induction a with
 |nil=>intro _;rfl
 |cons y a c=>
  intro h;rw[cY,Ii _ _ (h y (.head _)),c λz d=>h z (.tail _ d)];rfl
def Ij{x:Nat}{a:List Nat}(h:∀y∈a,cmp y x=true):mg cmp [x] a=a++[x]:=by
 have:=DK (cmp:=cmp) [] [] a h;rwa [bT,nh]at this
def Ql{y:Nat}{xs:List Nat}(h:∀x∈xs,cmp y x=false):mg cmp xs [y]=xs++[y]:=by
 have:=U6 (cmp:=cmp) [] [] xs h;rwa [bT,pq]at this
/-- the greatest,of the first row -/
def DJ{x:Nat}:∀a b:List Nat,(∀y∈b,cmp y x=true)->mg cmp (a++[x]) b=mg cmp a b++[x]:=by
 intro a;induction a with
 |nil=>intro b h;rw[iD,pq];exact Ij h
 |cons u a e=>
  intro b;induction b with
  |nil=>intro _;rw[nh,nh]
  |cons v b d=>
   intro h;cases c:cmp v u with
   |true=>rw[cY,Ii _ _ c,Ii _ _ c,<-cY,d λz f=>h z (.tail _ f)];rfl
   |false=>rw[cY,Lq _ _ c,Lq _ _ c,e _ h];rfl
def DI{y:Nat}:∀a b:List Nat,(∀x∈a,cmp y x=false)->mg cmp a (b++[y])=mg cmp a b++[y]:=by
 intro a;induction a with
 |nil=>intro b _;rw[pq,pq]
 |cons u a e=>
  intro b;induction b with
  |nil=>intro h;rw[iD,nh];exact Ql h
  |cons v b d=>
   intro h;cases c:cmp v u with
   |true=>rw[cY,Ii _ _ c,Ii _ _ c,d h];rfl
   |false=>rw[cY,Lq _ _ c,Lq _ _ c,<-cY,e _ λz f=>h z (.tail _ f)];rfl
def U7:∀a b l:List Nat,(∀x∈a,∀y∈l,cmp y x=false)->mg cmp a (b++l)=mg cmp a b++l:=by
 intro a b l;induction l generalizing b with
 |nil=>intro _;rw[bT,bT]
 |cons y l d=>
  intro h;rw[show b++y::l=(b++[y])++l by simp,d _ λx c z e=>h x c z (.tail _ e),DI _ _ λx c=>h x c y (.head _)];simp
def GV:∀a b l:List Nat,(∀x∈l,∀y∈b,cmp y x=true)->mg cmp (a++l) b=mg cmp a b++l:=by
 intro a b l;induction l generalizing a with
 |nil=>intro _;rw[bT,bT]
 |cons x l c=>
  intro h;rw[show a++x::l=(a++[x])++l by simp,c _ λx f z d=>h x (.tail _ f) z d,DJ _ _ λy e=>h x (.head _) y e];simp
def Ac(a b:List Nat):(mg cmp a b).Perm (a++b):=List.merge_perm_append _
def Lr(a b:List Nat):(mg cmp a b).length=a.length+b.length:=by rw[(Ac a b).length_eq,aM]
/-- two rising rows of unlike ones below n -/
structure nz(n:Nat)(cmp:Nat->Nat->Bool)(a b:List Nat):Prop where
 sa:a.Pairwise λx y=>cmp x y=true
 sb:b.Pairwise λx y=>cmp x y=true
 la:∀x∈a,x<n
 lb:∀y∈b,y<n
 ne:∀x∈a,∀y∈b,x≠y
def nz.no{n:Nat}{a b:List Nat}(O:Ord n cmp)(T:nz n cmp a b){x y:Nat}(d:x∈a)(c:y∈b):cmp x y= !cmp y x:=O.as y x (T.lb y c) (T.la x d) (T.ne x d y c).symm
def nz.ta{n x:Nat}{a b:List Nat}(T:nz n cmp (x::a) b):nz n cmp a b:=⟨(List.pairwise_cons.mp T.sa).2,T.sb,λx h=>T.la x (.tail _ h),T.lb,λx h=>T.ne x (.tail _ h)⟩
def nz.tb{n y:Nat}{a b:List Nat}(T:nz n cmp a (y::b)):nz n cmp a b:=⟨T.sa,(List.pairwise_cons.mp T.sb).2,T.la,λx h=>T.lb x (.tail _ h),λx h y c=>T.ne x h y (.tail _ c)⟩
def LP{n:Nat}(O:Ord n cmp):∀a b:List Nat,nz n cmp a b->(mg cmp a b).Pairwise λx y=>cmp x y=true:=by
 intro a;induction a with
 |nil=>intro b T;rw[pq];exact T.sb
 |cons x a f=>
  intro b;induction b with
  |nil=>intro T;rw[nh];exact T.sa
  |cons y b e=>
   intro T;have d:=T.no O (x:=x) (y:=y) (.head _) (.head _);cases c:cmp y x with
   |true=>
    rw[Ii _ _ c];refine List.pairwise_cons.mpr ⟨λz g=>?_,e T.tb⟩;rcases List.mem_append.mp ((Ac _ _).mem_iff.mp g)with h|h
    ·rcases List.mem_cons.mp h with rfl|h
     ·exact c
     ·exact O.tr _ _ _ (T.lb _ (.head _)) (T.la _ (.head _)) (T.la _ (.tail _ h)) c ((List.pairwise_cons.mp T.sa).1 z h)
    ·exact(List.pairwise_cons.mp T.sb).1 z h
   |false=>
    rw[Lq _ _ c];rw[c]at d;refine List.pairwise_cons.mpr ⟨λz g=>?_,f _ T.ta⟩;rcases List.mem_append.mp ((Ac _ _).mem_iff.mp g)with h|h
    ·exact(List.pairwise_cons.mp T.sa).1 z h
    ·rcases List.mem_cons.mp h with rfl|h
     ·exact d
     ·exact O.tr _ _ _ (T.la _ (.head _)) (T.lb _ (.head _)) (T.lb _ (.tail _ h)) d ((List.pairwise_cons.mp T.sb).1 z h)
end
/-! ### places of rows -/
def t6{p:Array Nat}{i:Nat}:At p i=p.toList.getD i 0:=by
 unfold At;simp[nM,aU]
def pb{p:Array Nat}{i:Nat}(h:i<p.size):p.toList.drop i=At p i::p.toList.drop (i+1):=by
 rw[jn h,cU (by simpa using h)];simp
def Ah{p:Array Nat}{i:Nat}(h:i<p.size):p.toList.take (i+1)=p.toList.take i++[At p i]:=by
 rw[jn h,List.take_add_one];simp[h]
def rp{p:Array Nat}{i:Nat}(h:i<p.size):At p i∈p.toList:=by rw[jn h];simp
def Jg{R:Nat->Nat->Prop}{p:Array Nat}(h:p.toList.Pairwise R){i j:Nat}(a:i<j)(b:j<p.size):R (At p i) (At p j):=by
 rw[jn b,jn (kE a b)];have:=List.pairwise_iff_getElem.mp h i j (by simp;lia) (by simpa using b) a;simpa using this
/-- where it turns -/
def Xy(f:Nat->Bool):∀m,(∀i j,i<j->j<m->f j=true->f i=true)->∃k,k<=m/\∀i,i<m->f i=decide (i<k):=by
 intro m;induction m with
 |zero=>exact λ_=>⟨0,aJ _,λi h=>by lia⟩
 |succ m g=>
  intro h;obtain⟨k,l,e⟩:=g λi j a b=>h i j a (by lia)
  by_cases c:f m=true
  ·refine⟨m+1,aJ _,λi d=>?_⟩;rw[decide_eq_true d];rcases eO i m with z|z
   ·exact h i m z (by lia) c
   ·rw[show i=m by lia];exact c
  ·refine⟨k,by lia,λi d=>?_⟩;rcases eO i m with z|z
   ·exact e i z
   ·rw[show i=m by lia,decide_eq_false (by lia)];simpa using c
end Pu
end
section
/-! mergeLo -/
namespace Pu
open PySem PySem.Spec PyProof.Rows PySem.SeqAt PySem.W
def a9{Z:Type}{M:Model}{A:cB}{E:aG->aI->Prop}{α:Type}{c:Prop}[Decidable c]{x y:StateT Z Sem α}{Q:α->Z->aI->Prop}{st:Z}{s:aI}(b:c->kasC M A E x Q st s)(a:¬c->kasC M A E y Q st s):kasC M A E (if c then x else y) Q st s:=by
 by_cases h:c
 ·rw[aN h];exact b h
 ·rw[aK h];exact a h
section
variable{prog:bH}{w:bV}{A:cB}{E:aG->aI->Prop}{s:aI}{κ:mU}{item:Nat->jX}{n:Nat}{cmp:Nat->Nat->Bool}{p:Array Nat}{pend:Array (Nat×Nat×Nat)}{g:Nat}
def gf{α:Type}(a:Array α)(i j:Nat):(a.extract i j).toList=(a.toList.drop i).take (j - i):=by
 simp[Array.toList_extract,List.extract_eq_drop_take]
/-- so far -/
def ML(cmp:Nat->Nat->Bool)(a b o:Array Nat)(d c:Nat):Prop:=o.toList++mg cmp (a.toList.drop d) (b.toList.drop c)=mg cmp a.toList b.toList
def mR(cmp:Nat->Nat->Bool)(item:Nat->jX)(a b:Array Nat):Array jX:=(mg cmp a.toList b.toList).toArray.map item
def Fc{o:Array Nat}{l:List Nat}(h:o.toList=l):o.map item=l.toArray.map item:=by rw[<-h]
def uc(o a:Array Nat)(i j:Nat):o.map item++(a.map item).extract i j=(o++a.extract i j).map item:=by simp
def Az{a:Array Nat}{i:Nat}(h:a.size<=i):a.toList.drop i=[]:=gK (by simpa using h)
def ML.done{a b o:Array Nat}{d c:Nat}(h:ML cmp a b o d c)(e:a.size<=d\/b.size<=c):o.map item++(a.map item).extract d (a.map item).size++(b.map item).extract c (b.map item).size=mR cmp item a b:=by
 rw[uc,uc];refine Fc ?_;rw[<-h,dO,dO,gf,gf,gU,gU,dJ (by simp),dJ (by simp),cD]
 congr 1
 obtain e|e:=e
 ·rw[Az e,pq];rfl
 ·rw[Az e,nh,bT]
def ML.last{a b o:Array Nat}{c d:Nat}(h:ML cmp a b o c d)(e:c+1=a.size)(i:∀y∈b.toList,cmp y (At a (a.size - 1))=true):o.map item++(b.map item).extract d (b.map item).size++(a.map item).extract c (a.map item).size=mR cmp item a b:=by
 rw[uc,uc];refine Fc ?_;rw[<-h,dO,dO,gf,gf,gU,gU,dJ (by simp),dJ (by simp),cD]
 congr 1
 rw[pb (p:=a) (by lia),Az (a:=a) (fM e.symm),Ij λy f=>?_];have:=i y (jY f);rwa [show a.size - 1=c by lia]at this
def ML.qD{a b o:Array Nat}{ia ib:Nat}(h:ML cmp a b o ia ib)(e:ia<a.size)(d:ib<b.size)(c:cmp (At b ib) (At a ia)=true):ML cmp a b (o.push (At b ib)) ia (ib+1):=by
 unfold ML at h⊢;rw[<-h,pb d,pb e,Ii _ _ c];simp
def ML.qE{a b o:Array Nat}{d e:Nat}(h:ML cmp a b o d e)(i:d<a.size)(f:e<b.size)(c:cmp (At b e) (At a d)=false):ML cmp a b (o.push (At a d)) (d+1) e:=by
 unfold ML at h⊢;rw[<-h,pb f,pb i,Lq _ _ c];simp
def k6{a:Array Nat}{i k x:Nat}(h:x∈(a.toList.drop i).take k):∃j,j<k/\i+j<a.size/\At a (i+j)=x:=by
 obtain⟨j,b,e⟩:=List.mem_iff_getElem.mp h;rw[dQ,dE,aO]at b;have z:i+j<a.size:=by lia
 refine⟨j,by lia,z,?_⟩;rw[jn z,<-e];simp
def ML.rW{a b o:Array Nat}{c d k:Nat}(h:ML cmp a b o c d)(m:d<b.size)(l:∀j,j<k->c+j<a.size->cmp (At b d) (At a (c+j))=false):ML cmp a b (o++a.extract c (c+k)) (c+k) d:=by
 unfold ML at h⊢;rw[<-h,pb m,dO,gf,cD,show c+k - c=k by lia,show a.toList.drop (c+k)=(a.toList.drop c).drop k by rw[nX]]
 congr 1
 rw[<-U6 _ _ _ λx i=>?_,cI];obtain⟨j,f,e,rfl⟩:=k6 i;exact l j f e
def ML.rV{a b o:Array Nat}{d c k:Nat}(h:ML cmp a b o d c)(m:d<a.size)(l:∀j,j<k->c+j<b.size->cmp (At b (c+j)) (At a d)=true):ML cmp a b (o++b.extract c (c+k)) d (c+k):=by
 unfold ML at h⊢;rw[<-h,pb m,dO,gf,cD,show c+k - c=k by lia,show b.toList.drop (c+k)=(b.toList.drop c).drop k by rw[nX]]
 congr 1
 rw[<-DK _ _ _ λx i=>?_,cI];obtain⟨j,f,e,rfl⟩:=k6 i;exact l j f e
def nz.rS{a b:Array Nat}(T:nz n cmp a.toList b.toList):BN n a:=λi h=>T.la _ (rp h)
def nz.rR{a b:Array Nat}(T:nz n cmp a.toList b.toList):BN n b:=λi h=>T.lb _ (rp h)
/-- how many of a,from i on,lie below one of b -/
def nz.rU{a b:Array Nat}(O:Ord n cmp)(T:nz n cmp a.toList b.toList){ia ib m:Nat}(d:ib<b.size)(l:ia+m<=a.size):∃k,k<=m/\∀i,i<m->Eg cmp false (At b ib) a ia i=decide (i<k):=by
 refine Xy _ m λi j h o c=>?_;unfold Eg at c⊢;rw[aK (by decide)]at c⊢;have f:=T.no O (rp (p:=a) (i:=ia+i) (by lia)) (rp d);have e:=T.no O (rp (p:=a) (i:=ia+j) (by lia)) (rp d);rw[<-e]at c;rw[<-f];exact O.tr _ _ _ (T.rS _ (by lia)) (T.rS _ (by lia)) (T.rR _ d) (Jg T.sa (by lia) (by lia)) c
def nz.rT{a b:Array Nat}(O:Ord n cmp)(T:nz n cmp a.toList b.toList){ia ib m:Nat}(e:ia<a.size)(f:ib+m<=b.size):∃k,k<=m/\∀i,i<m->Eg cmp true (At a ia) b ib i=decide (i<k):=by
 refine Xy _ m λi j d h c=>?_;unfold Eg at c⊢;rw[aN rfl]at c⊢;exact O.tr _ _ _ (T.rR _ (by lia)) (T.rR _ (by lia)) (T.rS _ e) (Jg T.sb (by lia) (by lia)) c
def Fm{k:Nat}{Q:Unit->eF->aI->Prop}{f:eF->eF}(a:f (fu κ item p pend g)=fu κ item p pend k)(q:Q () (fu κ item p pend k) s):kasC (bB prog w) A E (modify f:StateT eF Sem Unit) Q (fu κ item p pend g) s:=by
 refine mV ?_;rw[a];exact q
def LN{a b:Array Nat}{Q:Array jX->eF->aI->Prop}(P:ny prog w A s κ item n cmp)(O:Ord n cmp)(T:nz n cmp a.toList b.toList)(ha:0<a.size)(hb:0<b.size)(hf:cmp (At b 0) (At a 0)=true)(hl:∀y∈b.toList,cmp y (At a (a.size - 1))=true)
  (q:∀G,Q (mR cmp item a b) (fu κ item p pend G) s):kasC (bB prog w) A E (Ih (a.map item) (b.map item)) Q (fu κ item p pend g) s:=by
 have m0:ML cmp a b #[At b 0] 0 1:=by
  have:=ML.qD (cmp:=cmp) (a:=a) (b:=b) (o:=#[]) (ia:=0) (ib:=0) (by unfold ML;simp) ha hb hf;simpa using this
 have sa:(a.map item).size=a.size:=gU;have sb:(b.map item).size=b.size:=gU;refine aX (nP (eY (aX (fh hb ?_))));have e0:(#[item (At b 0)]:Array jX)=(#[At b 0]:Array Nat).map item:=by simp
 show kasC _ _ _ (if(1==(b.map item).size)=true then _ else _) _ _ _;refine a9 (λc=>?_) λc=>?_
 ·have c':1=b.size:=by simpa using c
  rw[e0];exact bC (Eq.mpr (congrArg (λr=>Q r (fu κ item p pend g) s) (m0.done (item:=item) (.inr (by lia)))) (q g))
 refine a9 (λc2=>?_) λc2=>?_
 ·have c':1=a.size:=by simpa using c2
  rw[e0];exact bC (Eq.mpr (congrArg (λr=>Q r (fu κ item p pend g) s) (m0.last (item:=item) (by lia) hl)) (q g))
 have b1:b.size≠1:=λz=>c (by simp[z]);have a1:a.size≠1:=λz=>c2 (by simp[z]);refine aX (lO (aX (eR ?_)));rw[e0];refine lh (λl H st=>∃G o ia ib k,st=fu κ item p pend G/\H=(none,o.map item,ia,ib,k)/\ia+1<a.size/\ib<b.size/\a.size+b.size<ia+ib+l.length/\ML cmp a b o ia ib)
  (λH st=>∃G,st=fu κ item p pend G/\H.1=some (mR cmp item a b)) ?_ ?_ ?_ _ _ _ ⟨g,_,0,1,_,rfl,rfl,by lia,by lia,by rw[eS];lia,m0⟩
 ·rintro x l H st Q' ⟨G,o,ia,ib,k,rfl,rfl,h1,h2,h3,h4⟩ hy hd
  rw[aE]at h3;refine aX (eR ?_);refine lh (λl H st=>st=fu κ item p pend G/\∃o i f L I,H=(none,o.map item,i,f,L,I)/\i+1<a.size/\f<b.size/\(ia+ib<i+f\/ia+ib<=i+f/\l≠[])/\ML cmp a b o i f)
   (λH st=>st=fu κ item p pend G/\(H.1=some (mR cmp item a b)\/∃o i f L I,H=(none,o.map item,i,f,L,I)/\i+1<a.size/\f<b.size/\ia+ib<i+f/\ML cmp a b o i f)) ?_ ?_ ?_ _ _ _ ⟨rfl,o,ia,ib,0,0,rfl,h1,h2,.inr ⟨aJ _,?_⟩,h4⟩
  ·rintro x l H st Q2 ⟨rfl,o,i,f,L,I,rfl,Y,C,k3,U⟩ δ B
   refine aX (fh (a:=b) C (aX (fh (a:=a) (show i<a.size by lia) (aX (Uz P (T.rR _ C) (T.rS _ (show i<a.size by lia)) ?_)))));cases hc:cmp (At b f) (At a i)with
   |true=>
    have k5:=U.qD (by lia) C hc;refine aX (fh (a:=b) C ?_);show kasC _ _ _ (if(f+1==(b.map item).size)=true then _ else if I+1>=k then _ else _) _ _ _;rw[<-gV];refine a9 (λd=>bC (B _ _ ⟨rfl,.inl (congrArg some ?_)⟩)) λd=>?_
    ·have N:f+1=b.size:=by simpa using d
     exact k5.done (.inr (by lia))
    ·have N:f+1≠b.size:=λz=>d (by simp[z]);exact a9 (λ_=>bC (B _ _ ⟨rfl,.inr ⟨_,i,f+1,_,_,rfl,Y,by lia,by lia,k5⟩⟩)) λ_=>bC (δ _ _ ⟨rfl,_,i,f+1,_,_,rfl,Y,by lia,.inl (by lia),k5⟩)
   |false=>
    have k5:=U.qE (by lia) C hc;refine aX (fh (a:=a) (show i<a.size by lia) ?_);show kasC _ _ _ (if(i+1+1==(a.map item).size)=true then _ else if L+1>=k then _ else _) _ _ _;rw[<-gV];refine a9 (λd=>bC (B _ _ ⟨rfl,.inl (congrArg some ?_)⟩)) λd=>?_
    ·have N:i+1+1=a.size:=by simpa using d
     exact k5.last N hl
    ·have N:i+1+1≠a.size:=λz=>d (by simp[z]);exact a9 (λ_=>bC (B _ _ ⟨rfl,.inr ⟨_,i+1,f,_,_,rfl,by lia,C,by lia,k5⟩⟩)) λ_=>bC (δ _ _ ⟨rfl,_,i+1,f,_,_,rfl,by lia,C,.inl (by lia),k5⟩)
  ·rintro H st ⟨h,o,i,f,L,I,rfl,Y,C,k3,U⟩
   exact⟨h,.inr ⟨o,i,f,L,I,rfl,Y,C,k3.resolve_right λz=>z.2 rfl,U⟩⟩
  ·rintro ⟨r,z⟩ st ⟨rfl,(e:r=_)|⟨o,i,f,L,I,eb,Y,C,k3,U⟩⟩
   ·subst e;exact bC (hd _ _ ⟨G,rfl,rfl⟩)
   ·cases eb;refine aX (nP (eY (aX (eR ?_))));refine lh (λl H st=>∃G o i f v L I,st=fu κ item p pend G/\H=(none,o.map item,i,f,v,L,I)/\i+1<a.size/\f<b.size/\ia+ib<i+f/\ML cmp a b o i f)
     (λH st=>∃G,st=fu κ item p pend G/\(H.1=some (mR cmp item a b)\/∃o i f v L I,H=(none,o.map item,i,f,v,L,I)/\i+1<a.size/\f<b.size/\ia+ib<i+f/\ML cmp a b o i f)) ?_ ?_ ?_ _ _ _ ⟨G,o,i,f,_,L,I,rfl,rfl,Y,C,k3,U⟩
    ·rintro x l H st Q2 ⟨g2,o,i,f,v,L,I,rfl,rfl,Y,C,k3,U⟩ δ B
     extract_lets _ _ _ _ _ _ _ _ _ _ _ _ jp
     have J:∀v,kasC (bB prog w) A E (jp () v) Q2 (fu κ item p pend g2) s:=λv=>by
      refine aX (Fm rfl (aX (fh (a:=b) C ?_)));obtain⟨k,e1,e2⟩:=T.rU O (ia:=i) (m:=(a.map item).size - i) C (by lia);refine aX (Dm (k:=k) (base:=i) (m:=(a.map item).size - i) (hint:=0) P (T.rR _ C) T.rS (by lia) (by lia) e1 e2 ?_);have nx:i+k<a.size->cmp (At b f) (At a (i+k))=true:=λz=>by
       have:=e2 k (by lia);rw[decide_eq_false (cP _)]at this;simpa[Eg]using this
      dsimp -zeta only
      extract_lets L ψ o2 i2
      have J2:∀o u,ML cmp a b o u f->u+1<a.size->i<=u->cmp (At b f) (At a u)=true->kasC (bB prog w) A E (ψ () (o.map item) u) Q2 (fu κ item p pend v) s:=λo u u1 u2 u0 u3=>by
       have u4:=u1.qD (by lia) C u3;refine aX (fh (a:=b) C ?_);rw[<-gV];refine a9 (λd=>bC (B _ _ ⟨_,rfl,.inl (congrArg some ?_)⟩)) λd=>?_
       ·have N:f+1=b.size:=by rw[<-sb];exact eU d
        exact u4.done (.inr (by lia))
       have N:f+1≠b.size:=λz=>d (beq_iff_eq.mpr (by rw[sb];exact z));refine aX (fh (a:=a) (show u<a.size by lia) ?_);obtain⟨k',Φ,η⟩:=T.rT O (ia:=u) (ib:=f+1) (m:=(b.map item).size - (f+1)) (by lia) (by lia);refine aX (Dm (k:=k') (base:=f+1) (m:=(b.map item).size - (f+1)) (hint:=0) P (T.rS _ (by lia)) T.rR (by lia) (by lia) Φ η ?_);have μ:f+1+k'<b.size->cmp (At b (f+1+k')) (At a u)=false:=λz=>by
        have:=η k' (by lia);rw[decide_eq_false (cP _)]at this;simpa[Eg]using this
       dsimp -zeta only
       extract_lets I i3 χ o3 i4
       have J3:∀o M,ML cmp a b o u M->M<b.size->f<M->cmp (At b M) (At a u)=false->kasC (bB prog w) A E (χ () (o.map item) M) Q2 (fu κ item p pend v) s:=λo M v1 v2 v0 v3=>by
        have v4:=v1.qE (by lia) v2 v3;refine aX (fh (a:=a) (show u<a.size by lia) ?_);rw[<-gV];refine a9 (λd=>bC (B _ _ ⟨_,rfl,.inl (congrArg some ?_)⟩)) λd=>?_
        ·have N:u+1+1=a.size:=by rw[<-sa];exact eU d
         exact v4.last N hl
        have N:u+1+1≠a.size:=λz=>d (beq_iff_eq.mpr (by rw[sa];exact z));exact a9 (λ_=>bC (B _ _ ⟨_,rfl,.inr ⟨_,u+1,M,_,_,_,rfl,by lia,v2,by lia,v4⟩⟩)) λ_=>bC (δ _ _ ⟨_,_,u+1,M,_,_,_,rfl,rfl,by lia,v2,by lia,v4⟩)
       refine a9 (λc=>?_) λc=>?_
       ·have u5:=u4.rV (k:=k') (by lia) λj j1 j2=>by
         have:=η j (by lia);rw[decide_eq_true j1]at this;simpa[Eg]using this
        have eo:o3=((o.push (At b f))++b.extract (f+1) (f+1+k')).map item:=uc _ _ _ _;rw[eo];refine a9 (λd=>bC (B _ _ ⟨_,rfl,.inl (congrArg some ?_)⟩)) λd=>?_
        ·have N:f+1+k'=b.size:=by rw[<-sb];exact eU d
         exact u5.done (.inr (by lia))
        have N:f+1+k'≠b.size:=λz=>d (beq_iff_eq.mpr (by rw[sb];exact z));exact J3 _ (f+1+k') u5 (by lia) (by lia) (μ (by lia))
       ·obtain rfl:k'=0:=by lia
        exact J3 _ (f+1) u4 (by lia) (by lia) (μ (by lia))
      refine a9 (λc=>?_) λc=>?_
      ·have u5:=U.rW (k:=k) C λj j1 j2=>by
        have:=e2 j (by lia);rw[decide_eq_true j1]at this;simpa[Eg]using this
       have eo:o2=(o++a.extract i (i+k)).map item:=uc _ _ _ _;rw[eo];refine a9 (λd=>bC (B _ _ ⟨_,rfl,.inl (congrArg some ?_)⟩)) λd=>?_
       ·have N:i+k+1=a.size:=by rw[<-sa];exact eU d
        exact u5.last N hl
       have N:i+k+1≠a.size:=λz=>d (beq_iff_eq.mpr (by rw[sa];exact z));refine a9 (λd2=>bC (B _ _ ⟨_,rfl,.inl (congrArg some ?_)⟩)) λd2=>?_
       ·have d3:i+k=a.size:=by rw[<-sa];exact eU d2
        exact u5.done (.inl (by lia))
       have d3:i+k≠a.size:=λz=>d2 (beq_iff_eq.mpr (by rw[sa];exact z));exact J2 _ (i+k) u5 (by lia) (by lia) (nx (by lia))
      ·obtain rfl:k=0:=by lia
       exact J2 _ i U Y (aJ _) (nx (by lia))
     exact a9 (λ_=>J _) λ_=>J _
    ·rintro H st ⟨G,o,i,f,v,L,I,rfl,rfl,Y,C,k3,U⟩
     exact⟨G,rfl,.inr ⟨o,i,f,v,L,I,rfl,Y,C,k3,U⟩⟩
    ·rintro ⟨r,z⟩ st ⟨G,rfl,(e:r=_)|⟨o,i,f,v,L,I,eb,Y,C,k3,U⟩⟩
     ·subst e;exact bC (hd _ _ ⟨G,rfl,rfl⟩)
     ·cases eb;exact aX (Fm rfl (bC (hy _ _ ⟨_,o,i,f,_,rfl,rfl,Y,C,by lia,U⟩)))
  ·rw[Nat.sub_zero,show(a.map item).size+(b.map item).size=(a.size+b.size - 1)+1 by lia,oW];exact λz=>by cases z
 ·rintro H st ⟨G,o,ia,ib,k,rfl,rfl,h1,h2,h3,h4⟩
  simp at h3;lia
 ·rintro ⟨r,z⟩ st ⟨G,rfl,(e:r=_)⟩
  subst e;exact bC (q G)
end
end Pu
end
section
/-! mergeHi -/
namespace Pu
open PySem PySem.Spec PyProof.Rows PySem.SeqAt PySem.W
section
variable{prog:bH}{w:bV}{A:cB}{E:aG->aI->Prop}{s:aI}{κ:mU}{item:Nat->jX}{n:Nat}{cmp:Nat->Nat->Bool}{p:Array Nat}{pend:Array (Nat×Nat×Nat)}{g:Nat}
/-- so far,from the right -/
def MH(cmp:Nat->Nat->Bool)(a b o:Array Nat)(d c:Nat):Prop:=mg cmp (a.toList.take d) (b.toList.take c)++o.toList.reverse=mg cmp a.toList b.toList
def N6(o:Array Nat):(o.map item).reverse=o.reverse.map item:=by simp
def z9(o u:Array Nat):o.map item++u.map item=(o++u).map item:=by simp
def MH.done{a b o:Array Nat}{d c:Nat}(h:MH cmp a b o d c)(e:d=0\/c=0):(a.map item).extract 0 d++(b.map item).extract 0 c++(o.map item).reverse=mR cmp item a b:=by
 rw[<-jO,<-jO,N6,z9,z9];refine Fc ?_;rw[<-h,dO,dO,gf,gf,Array.toList_reverse]
 congr 1
 obtain rfl|rfl:=e
 ·simp[pq]
 ·simp[nh]
def MH.first{a b o:Array Nat}{c:Nat}(h:MH cmp a b o c 1)(d:0<b.size)(f:∀x∈a.toList,cmp (At b 0) x=true):(b.map item).extract 0 1++(a.map item).extract 0 c++(o.map item).reverse=mR cmp item a b:=by
 rw[<-jO,<-jO,N6,z9,z9];refine Fc ?_;rw[<-h,dO,dO,gf,gf,Array.toList_reverse]
 congr 1
 rw[show b.toList.take 1=[At b 0]from Ah (i:=0) d,List.drop_zero,List.drop_zero,show b.toList.take (1 - 0)=[At b 0]from Ah (i:=0) d,Nat.sub_zero];cases e:a.toList.take c with
 |nil=>rw[pq];rfl
 |cons x xs=>rw[Ii _ _ (f x (jZ (by rw[e];exact .head _))),nh];rfl
def n9{a:Array Nat}{k x:Nat}(h:x∈a.toList.take k):∃j,j<k/\j<a.size/\At a j=x:=by
 obtain⟨j,d,c,b⟩:=k6 (a:=a) (i:=0) (k:=k) (x:=x) h;rw[eP]at c b;exact⟨j,d,c,b⟩
def MH.qE{a b o:Array Nat}{d e:Nat}(h:MH cmp a b o (d+1) e)(m:d<a.size)(c:∀j,j<e->j<b.size->cmp (At b j) (At a d)=true):MH cmp a b (o.push (At a d)) d e:=by
 unfold MH at h⊢;rw[<-h,Ah m,DJ _ _ λy l=>?_]
 ·simp
 ·obtain⟨j,i,f,rfl⟩:=n9 l;exact c j i f
def MH.qD{a b o:Array Nat}{e d:Nat}(h:MH cmp a b o e (d+1))(m:d<b.size)(c:∀j,j<e->j<a.size->cmp (At b d) (At a j)=false):MH cmp a b (o.push (At b d)) e d:=by
 unfold MH at h⊢;rw[<-h,Ah m,DI _ _ λy l=>?_]
 ·simp
 ·obtain⟨j,i,f,rfl⟩:=n9 l;exact c j i f
def D5{α:Type}(l:List α){i j:Nat}(h:i<=j):l.take j=l.take i++(l.drop i).take (j - i):=by
 rw[show j=i+(j - i) by lia,List.take_add];simp
def MH.rW{a b o:Array Nat}{d e k:Nat}(h:MH cmp a b o d e)(u:k<=d)(c:∀i,k<=i->i<d->i<a.size->∀j,j<e->j<b.size->cmp (At b j) (At a i)=true):MH cmp a b (o++(a.extract k d).reverse) k e:=by
 unfold MH at h⊢;rw[<-h,D5 a.toList u,GV _ _ _ λx r y q=>?_]
 ·simp[gf]
 ·obtain⟨i,v,m,rfl⟩:=k6 r;obtain⟨j,l,f,rfl⟩:=n9 q;exact c _ (by lia) (by lia) m j l f
def MH.rV{a b o:Array Nat}{e d k:Nat}(h:MH cmp a b o e d)(u:k<=d)(c:∀j,k<=j->j<d->j<b.size->∀i,i<e->i<a.size->cmp (At b j) (At a i)=false):MH cmp a b (o++(b.extract k d).reverse) e k:=by
 unfold MH at h⊢;rw[<-h,D5 b.toList u,U7 _ _ _ λy q x r=>?_]
 ·simp[gf]
 ·obtain⟨i,v,m,rfl⟩:=k6 r;obtain⟨j,l,f,rfl⟩:=n9 q;exact c _ (by lia) (by lia) m j l f
def nz.yes{a b:Array Nat}(O:Ord n cmp)(T:nz n cmp a.toList b.toList){i i' j j':Nat}(c:cmp (At b j) (At a i)=true)(e:i'<a.size)(d:j<b.size)(l:i<=i')(h:j'<=j):cmp (At b j') (At a i')=true:=by
 have f:cmp (At b j) (At a i')=true:=by
  rcases Nat.lt_or_eq_of_le l with z|rfl
  ·exact O.tr _ _ _ (T.rR _ d) (T.rS _ (by lia)) (T.rS _ e) c (Jg T.sa z e)
  ·exact c
 rcases Nat.lt_or_eq_of_le h with z|rfl
 ·exact O.tr _ _ _ (T.rR _ (by lia)) (T.rR _ d) (T.rS _ e) (Jg T.sb z d) f
 ·exact f
def nz.nay{a b:Array Nat}(O:Ord n cmp)(T:nz n cmp a.toList b.toList){i i' j j':Nat}(c:cmp (At b j) (At a i)=false)(f:i<a.size)(d:j'<b.size)(l:i'<=i)(h:j<=j'):cmp (At b j') (At a i')=false:=by
 cases e:cmp (At b j') (At a i')with
 |false=>rfl
 |true=>rw[T.yes O e f d l h]at c;cases c
def LO{a b:Array Nat}{Q:Array jX->eF->aI->Prop}(P:ny prog w A s κ item n cmp)(O:Ord n cmp)(T:nz n cmp a.toList b.toList)(ha:0<a.size)(hb:0<b.size)(hf:cmp (At b 0) (At a 0)=true)(hl:∀y∈b.toList,cmp y (At a (a.size - 1))=true)
  (q:∀G,Q (mR cmp item a b) (fu κ item p pend G) s):kasC (bB prog w) A E (Ig (a.map item) (b.map item)) Q (fu κ item p pend g) s:=by
 have sa:(a.map item).size=a.size:=gU;have sb:(b.map item).size=b.size:=gU;have ζ:∀x∈a.toList,cmp (At b 0) x=true:=λx hx=>by
  obtain⟨i,hi,e⟩:=List.mem_iff_getElem.mp hx;have ρ:i<a.size:=by simpa using hi
  have:=T.yes O hf ρ hb (bX _) (aJ _);rwa [jn ρ,show a[i]=x from by simpa using e]at this
 have m0:MH cmp a b #[At a (a.size - 1)] (a.size - 1) b.size:=by
  have h0:MH cmp a b #[] (a.size - 1+1) b.size:=by
   unfold MH;rw[dJ (by simp;lia),dJ (by simp)];simp
  have:=h0.qE (by lia) λj _ h=>hl _ (rp h);simpa using this
 refine aX (nP (eY ?_));rw[sa];refine aX (fh (a:=a) (i:=a.size - 1) (by lia) ?_);have e0:(#[item (At a (a.size - 1))]:Array jX)=(#[At a (a.size - 1)]:Array Nat).map item:=by simp
 show kasC _ _ _ (if(a.size - 1==0)=true then _ else _) _ _ _;rw[sb,e0];refine a9 (λc=>?_) λc=>?_
 ·exact bC (Eq.mpr (congrArg (λr=>Q r (fu κ item p pend g) s) (m0.done (item:=item) (.inl (eU c)))) (q g))
 refine a9 (λc2=>?_) λc2=>?_
 ·have c':b.size=1:=eU c2;rw[c']at m0⊢;exact bC (Eq.mpr (congrArg (λr=>Q r (fu κ item p pend g) s) (m0.first (item:=item) hb ζ)) (q g))
 have b1:b.size≠1:=λz=>c2 (beq_iff_eq.mpr z);have a1:a.size - 1≠0:=λz=>c (beq_iff_eq.mpr z);refine aX (lO (aX (eR ?_)));refine lh (λl I st=>∃G o na nb k,st=fu κ item p pend G/\I=(none,na,nb,o.map item,k)/\0<na/\na<a.size/\1<nb/\nb<=b.size/\na+nb<l.length/\MH cmp a b o na nb)
  (λI st=>∃G,st=fu κ item p pend G/\I.1=some (mR cmp item a b)) ?_ ?_ ?_ _ _ _ ⟨g,_,a.size - 1,b.size,_,rfl,rfl,by lia,by lia,by lia,by lia,by rw[eS];lia,m0⟩
 ·rintro x l I st Q' ⟨G,o,na,nb,k,rfl,rfl,h1,υ,h2,τ,h3,h4⟩ hy hd
  rw[aE]at h3;refine aX (eR ?_);refine lh (λl I st=>st=fu κ item p pend G/\∃o u f N M,I=(none,u,f,o.map item,N,M)/\0<u/\u<a.size/\1<f/\f<=b.size/\(u+f<na+nb\/u+f<=na+nb/\l≠[])/\MH cmp a b o u f)
   (λI st=>st=fu κ item p pend G/\(I.1=some (mR cmp item a b)\/∃o u f N M,I=(none,u,f,o.map item,N,M)/\0<u/\u<a.size/\1<f/\f<=b.size/\u+f<na+nb/\MH cmp a b o u f)) ?_ ?_ ?_ _ _ _ ⟨rfl,o,na,nb,0,0,rfl,h1,υ,h2,τ,.inr ⟨aJ _,?_⟩,h4⟩
  ·rintro x l I st Q2 ⟨rfl,o,u,f,N,M,rfl,k1,H,k2,B,k3,Y⟩ ε C
   obtain⟨u,rfl⟩:∃i,u=i+1:=⟨u - 1,by lia⟩;obtain⟨f,rfl⟩:∃i,f=i+1:=⟨f - 1,by lia⟩;refine aX (fh (a:=b) (i:=f) (by lia) (aX (fh (a:=a) (i:=u) (by lia) (aX (Uz P (T.rR _ (by lia)) (T.rS _ (by lia)) ?_)))));cases hc:cmp (At b f) (At a u)with
   |true=>
    have k5:=Y.qE (by lia) λj j1 j2=>T.yes O hc (by lia) (by lia) (aJ _) (by lia);refine aX (fh (a:=a) (i:=u) (by lia) ?_);show kasC _ _ _ (if(u==0)=true then _ else if N+1>=k then _ else _) _ _ _;rw[<-gV];refine a9 (λd=>bC (C _ _ ⟨rfl,.inl (congrArg some (k5.done (.inl (eU d))))⟩)) λd=>?_;have d':u≠0:=λz=>d (beq_iff_eq.mpr z);exact a9 (λ_=>bC (C _ _ ⟨rfl,.inr ⟨_,u,f+1,_,_,rfl,by lia,by lia,k2,B,by lia,k5⟩⟩)) λ_=>bC (ε _ _ ⟨rfl,_,u,f+1,_,_,rfl,by lia,by lia,k2,B,.inl (by lia),k5⟩)
   |false=>
    have k5:=Y.qD (by lia) λj j1 j2=>T.nay O hc (by lia) (by lia) (by lia) (aJ _);refine aX (fh (a:=b) (i:=f) (by lia) ?_);show kasC _ _ _ (if(f==1)=true then _ else if M+1>=k then _ else _) _ _ _;rw[<-gV];refine a9 (λd=>bC (C _ _ ⟨rfl,.inl (congrArg some ?_)⟩)) λd=>?_
    ·obtain rfl:f=1:=eU d;exact k5.first hb ζ
    have d':f≠1:=λz=>d (beq_iff_eq.mpr z);exact a9 (λ_=>bC (C _ _ ⟨rfl,.inr ⟨_,u+1,f,_,_,rfl,by lia,by lia,by lia,by lia,by lia,k5⟩⟩)) λ_=>bC (ε _ _ ⟨rfl,_,u+1,f,_,_,rfl,by lia,by lia,by lia,by lia,.inl (by lia),k5⟩)
  ·rintro I st ⟨h,o,u,f,N,M,rfl,k1,H,k2,B,k3,Y⟩
   exact⟨h,.inr ⟨o,u,f,N,M,rfl,k1,H,k2,B,k3.resolve_right λz=>z.2 rfl,Y⟩⟩
  ·rintro ⟨r,z⟩ st ⟨rfl,(e:r=_)|⟨o,u,f,N,M,eb,k1,H,k2,B,k3,Y⟩⟩
   ·subst e;exact bC (hd _ _ ⟨G,rfl,rfl⟩)
   ·cases eb;refine aX (nP (eY (aX (eR ?_))));refine lh (λl I st=>∃G o u f v N M,st=fu κ item p pend G/\I=(none,u,f,o.map item,v,N,M)/\0<u/\u<a.size/\1<f/\f<=b.size/\u+f<na+nb/\MH cmp a b o u f)
     (λI st=>∃G,st=fu κ item p pend G/\(I.1=some (mR cmp item a b)\/∃o u f v N M,I=(none,u,f,o.map item,v,N,M)/\0<u/\u<a.size/\1<f/\f<=b.size/\u+f<na+nb/\MH cmp a b o u f)) ?_ ?_ ?_ _ _ _ ⟨G,o,u,f,_,N,M,rfl,rfl,k1,H,k2,B,k3,Y⟩
    ·rintro x l I st Q2 ⟨g2,o,u,f,v,N,M,rfl,rfl,k1,H,k2,B,k3,Y⟩ ε C
     obtain⟨f,rfl⟩:∃i,f=i+1:=⟨f - 1,by lia⟩
     extract_lets _ _ _ _ _ _ _ _ _ _ _ _ jp
     have J:∀v,kasC (bB prog w) A E (jp () v) Q2 (fu κ item p pend g2) s:=λv=>by
      refine aX (Fm rfl (aX (fh (a:=b) (i:=f) (by lia) ?_)));obtain⟨k,e1,e2⟩:=T.rU O (ia:=0) (ib:=f) (m:=u) (by lia) (by lia);refine aX (Dm (k:=k) (base:=0) (m:=u) (hint:=u - 1) P (T.rR _ (by lia)) T.rS (by lia) (by lia) e1 e2 ?_);have nx:∀i,i<u->cmp (At b f) (At a i)=decide (k<=i):=λi z=>by
       have:=e2 i z;unfold Eg at this;rw[aK (by decide),eP]at this
       by_cases c:i<k
       ·rw[decide_eq_true c]at this;rw[decide_eq_false (by lia)];simpa using this
       ·rw[decide_eq_false c]at this;rw[decide_eq_true (by lia)];simpa using this
      dsimp -zeta only
      extract_lets kk N Θ o2 n2
      have J2:∀o i,MH cmp a b o (i+1) (f+1)->i+1<=u->cmp (At b f) (At a i)=false->kasC (bB prog w) A E (Θ () (i+1) (o.map item)) Q2 (fu κ item p pend v) s:=λo i u1 u2 u3=>by
       have u4:=u1.qD (by lia) λj j1 j2=>T.nay O u3 (by lia) (by lia) (by lia) (aJ _);refine aX (fh (a:=b) (i:=f) (by lia) ?_);rw[<-gV];refine a9 (λd=>bC (C _ _ ⟨_,rfl,.inl (congrArg some ?_)⟩)) λd=>?_
       ·obtain rfl:f=1:=eU d;exact u4.first hb ζ
       have d':f≠1:=λz=>d (beq_iff_eq.mpr z);refine aX (fh (a:=a) (i:=i) (by lia) ?_);obtain⟨L,Ω,φ⟩:=T.rT O (ia:=i) (ib:=0) (m:=f) (by lia) (by lia);refine aX (Dm (k:=L) (base:=0) (m:=f) (hint:=f - 1) P (T.rS _ (by lia)) T.rR (by lia) (by lia) Ω φ ?_);have θ:∀j,j<f->cmp (At b j) (At a i)=decide (j<L):=λj z=>by
        have:=φ j z;unfold Eg at this;rw[aN rfl,eP]at this;exact this
       dsimp -zeta only
       extract_lets kk' M n3 Δ o3 n4
       have J3:∀o U,MH cmp a b o (i+1) (U+1)->0<U->U<f->cmp (At b U) (At a i)=true->kasC (bB prog w) A E (Δ () (U+1) (o.map item)) Q2 (fu κ item p pend v) s:=λo U v1 v2 v0 v3=>by
        have v4:=v1.qE (by lia) λj j1 j2=>T.yes O v3 (by lia) (by lia) (aJ _) (by lia);refine aX (fh (a:=a) (i:=i) (by lia) ?_);rw[<-gV];refine a9 (λd=>bC (C _ _ ⟨_,rfl,.inl (congrArg some (v4.done (.inl (eU d))))⟩)) λd=>?_;have d':i≠0:=λz=>d (beq_iff_eq.mpr z);exact a9 (λ_=>bC (C _ _ ⟨_,rfl,.inr ⟨_,i,U+1,_,_,_,rfl,by lia,by lia,by lia,by lia,by lia,v4⟩⟩)) λ_=>bC (ε _ _ ⟨_,_,i,U+1,_,_,_,rfl,rfl,by lia,by lia,by lia,by lia,by lia,v4⟩)
       refine a9 (λ(c:f - L>0)=>?_) λ(c:¬f - L>0)=>?_
       ·have u5:=u4.rV (k:=L) (by lia) λj j1 j2 j3 i' i1 i2=>T.nay O (show cmp (At b j) (At a i)=false by rw[θ j j2,decide_eq_false (by lia)]) (by lia) (by lia) (by lia) (aJ _);have eo:o3=((o.push (At b f))++(b.extract L f).reverse).map item:=by
         show(o.push (At b f)).map item++((b.map item).extract L f).reverse=_;simp
        rw[eo];refine a9 (λd=>bC (C _ _ ⟨_,rfl,.inl (congrArg some ?_)⟩)) λd=>?_
        ·obtain rfl:L=1:=eU d;exact u5.first hb ζ
        have d2:L≠1:=λz=>d (beq_iff_eq.mpr z);refine a9 (λd=>bC (C _ _ ⟨_,rfl,.inl (congrArg some (u5.done (.inr (eU d))))⟩)) λd=>?_;have d3:L≠0:=λz=>d (beq_iff_eq.mpr z);obtain⟨L,rfl⟩:∃i,L=i+1:=⟨L - 1,by lia⟩;exact J3 _ L u5 (by lia) (by lia) (by rw[θ L (by lia),decide_eq_true (by lia)])
       ·obtain rfl:L=f:=by lia
        obtain⟨f,rfl⟩:∃i,L=i+1:=⟨L - 1,by lia⟩;exact J3 _ f u4 (by lia) (by lia) (by rw[θ f (by lia),decide_eq_true (by lia)])
      refine a9 (λ(c:u - k>0)=>?_) λ(c:¬u - k>0)=>?_
      ·have u5:=Y.rW (k:=k) (by lia) λi i1 i2 i3 j j1 j2=>T.yes O (show cmp (At b f) (At a i)=true by rw[nx i i2,decide_eq_true (by lia)]) (by lia) (by lia) (aJ _) (by lia);have eo:o2=(o++(a.extract k u).reverse).map item:=by
        show o.map item++((a.map item).extract k u).reverse=_;simp
       rw[eo];refine a9 (λd=>bC (C _ _ ⟨_,rfl,.inl (congrArg some (u5.done (.inl (eU d))))⟩)) λd=>?_;have d3:k≠0:=λz=>d (beq_iff_eq.mpr z);obtain⟨k,rfl⟩:∃i,k=i+1:=⟨k - 1,by lia⟩;exact J2 _ k u5 (by lia) (by rw[nx k (by lia),decide_eq_false (by lia)])
      ·obtain rfl:k=u:=by lia
       obtain⟨u,rfl⟩:∃i,k=i+1:=⟨k - 1,by lia⟩;exact J2 _ u Y (by lia) (by rw[nx u (by lia),decide_eq_false (by lia)])
     exact a9 (λ_=>J _) λ_=>J _
    ·rintro I st ⟨G,o,u,f,v,N,M,rfl,rfl,k1,H,k2,B,k3,Y⟩
     exact⟨G,rfl,.inr ⟨o,u,f,v,N,M,rfl,k1,H,k2,B,k3,Y⟩⟩
    ·rintro ⟨r,z⟩ st ⟨G,rfl,(e:r=_)|⟨o,u,f,v,N,M,eb,k1,H,k2,B,k3,Y⟩⟩
     ·subst e;exact bC (hd _ _ ⟨G,rfl,rfl⟩)
     ·cases eb;exact aX (Fm rfl (bC (hy _ _ ⟨_,o,u,f,_,rfl,rfl,k1,H,k2,B,by lia,Y⟩)))
  ·rw[Nat.sub_zero,show a.size+b.size=(a.size+b.size - 1)+1 by lia,oW];exact λz=>by cases z
 ·rintro I st ⟨G,o,ia,ib,k,rfl,rfl,h1,υ,h2,τ,h3,h4⟩
  simp at h3
 ·rintro ⟨r,z⟩ st ⟨G,rfl,(e:r=_)⟩
  subst e;exact bC (q G)
end
end Pu
end
section
/-! mergeAt,sortRuns -/
namespace Pu
open PySem PySem.Spec PyProof.Rows PySem.SeqAt PySem.W
def BL{α:Type}(k:Nat):∀(M:List α)(i:Nat)(c old b:List α),c.length=k+i->old.length=M.length->(M.zipIdx i).foldl (λa x=>a.setIfInBounds (k+x.2) x.1) (c++old++b).toArray=(c++M++b).toArray:=by
 intro M;induction M with
 |nil=>intro i c old b _ h;rw[List.length_eq_zero_iff.mp h];rfl
 |cons m M f=>
  intro i c old b g d
  match old,d with
  |o::old,d=>
   rw[List.zipIdx_cons,pO];have e:(c++o::old++b).toArray.setIfInBounds (k+(m,i).2) (m,i).1=((c++[m])++old++b).toArray:=by
    rw[List.setIfInBounds_toArray,show k+(m,i).2=c.length by simp[g]];simp
   rw[e,f (i+1) (c++[m]) old b (by simp;lia) (by simpa using d)];simp
def Sq{a A b:List Nat}{i:Nat}(h:i<A.length):At (a++A++b).toArray (a.length+i)=At A.toArray i:=by
 rw[t6,t6];simp[aU,cA,cK,h]
def MV(x:Nat×Nat×Nat):Nat×Nat:=(x.1,x.2.1)
/-- where runs lie -/
def mw(i:Nat):List (List Nat)->List (Nat×Nat)
 |[]=>[]
 |r::a=>(i,r.length)::mw (i+r.length) a
def Iy:∀(a b:List (List Nat))(i:Nat),mw i (a++b)=mw i a++mw (i+a.flatten.length) b:=by
 intro a;induction a with
 |nil=>intro b i;simp[mw]
 |cons r a c=>intro b i;simp[mw,c,iL]
def Lx:∀(X:List (Nat×Nat))(a:List (List Nat))(i:Nat){u v:Nat×Nat}{Y:List (Nat×Nat)},X++u::v::Y=mw i a->∃b A B c,a=b++A::B::c/\X=mw i b/\u=(i+b.flatten.length,A.length)/\v=(i+b.flatten.length+A.length,B.length)/\Y=mw (i+b.flatten.length+A.length+B.length) c:=by
 intro X;induction X with
 |nil=>
  intro a i u v Y h
  match a,h with
  |A::B::c,h=>
   simp only[mw,iD,List.cons.injEq]at h;exact⟨[],A,B,c,rfl,rfl,by simpa using h.1,by simpa using h.2.1,by simpa using h.2.2⟩
  |[A],h=>simp[mw]at h
  |[],h=>simp[mw]at h
 |cons x X d=>
  intro a i u v Y h
  match a,h with
  |r::a,h=>
   rw[mw,cY,List.cons.injEq]at h;obtain⟨b,A,B,c,l,j,g,f,e⟩:=d a _ h.2;refine⟨r::b,A,B,c,by rw[l];rfl,by rw[h.1,j];rfl,?_,?_,?_⟩
   ·rw[g];simp[iL]
   ·rw[f];simp[iL]
   ·rw[e];simp[iL]
  |[],h=>simp[mw]at h
/-- runs,and the rest -/
def RI(c:Nat->Nat->Bool)(p:Array Nat)(a:Array (Nat×Nat×Nat))(rest:List Nat):Prop:=∃b:List (List Nat),p.toList=b.flatten++rest/\(∀r∈b,r≠[]/\r.Pairwise λx y=>c x y=true)/\a.toList.map MV=mw 0 b
section
variable{prog:bH}{w:bV}{A:cB}{E:aG->aI->Prop}{s:aI}{κ:mU}{item:Nat->jX}{n:Nat}{cmp:Nat->Nat->Bool}{p:Array Nat}{pend:Array (Nat×Nat×Nat)}{g:Nat}
def Um{st a:eF}{Q:PUnit->eF->aI->Prop}(h:Q ⟨⟩ a s):kasC (bB prog w) A E (set a:StateT eF Sem PUnit) Q st s:=by
 unfold kasC;rw[StateT.run_set];exact aD h
def X3{a b:List Nat}{k m:Nat}(T:nz n cmp a b):nz n cmp (a.drop k) (b.take m):=
 ⟨T.sa.sublist (List.drop_sublist _ _),T.sb.sublist (List.take_sublist _ _),λx h=>T.la x (jY h),λx h=>T.lb x (jZ h),λx h y c=>T.ne x (jY h) y (jZ c)⟩
def N5{a L b:List Nat}{i j:Nat}(d:i=a.length)(c:j=a.length+L.length):((a++L++b).toArray.map item).extract i j=L.toArray.map item:=by
 rw[<-jO]
 congr 1
 apply Array.toList_inj.mp;rw[gf,d,c];simp
def LR{i v B pw u J γ:Nat}{l d o f:List Nat}{Q:Bool->eF->aI->Prop}(P:ny prog w A s κ item n cmp)(O:Ord n cmp)(T:nz n cmp d o)(ha:d≠[])(hb:o≠[])(L:p=(l++(d++o)++f).toArray)(lt:∀x∈p.toList,x<n)
  (p1:pend[i]?=some (v,B,pw))(p2:pend[i+1]?=some (u,J,γ))(e1:v=l.length)(e2:B=d.length)(e3:u=l.length+d.length)(e4:J=o.length)
  (q:∀I,Q true (fu κ item (l++mg cmp d o++f).toArray ((pend.setIfInBounds i (v,B+J,pw)).eraseIdxIfInBounds (i+1)) I) s):kasC (bB prog w) A E (mergeAt' i) Q (fu κ item p pend g) s:=by
 have la:0<d.length:=List.length_pos_iff.mpr ha;have lb:0<o.length:=List.length_pos_iff.mpr hb;have U:BN n p:=λi h=>lt _ (rp h);have sz:p.size=l.length+(d.length+o.length)+f.length:=by rw[L];simp;omega
 have aA:∀j,j<d.length->At p (v+j)=At d.toArray j:=λj H=>by
  rw[L,e1,show l++(d++o)++f=l++d++(o++f) by simp];exact Sq H
 have aB:∀j,j<o.length->At p (u+j)=At o.toArray j:=λj H=>by
  rw[L,e3,show l++(d++o)++f=(l++d)++o++f by simp,<-aM];exact Sq H
 have Y:nz n cmp d.toArray.toList o.toArray.toList:=T;refine aX (lO ?_);show kasC _ _ _ (match (pend[i]?,pend[i+1]?)with|(some (v,B,δ),some (u,J,_))=>_|_=>_) _ _ _;rw[p1,p2];refine aX (Um ?_);show kasC _ _ _ _ _ (fu κ item p ((pend.setIfInBounds i (v,B+J,pw)).eraseIdxIfInBounds (i+1)) g) _;generalize (pend.setIfInBounds i (v,B+J,pw)).eraseIdxIfInBounds (i+1)=G at q⊢;refine aX (fh (a:=p) (i:=u) (by omega) ?_);obtain⟨k,k1,k2⟩:=Y.rU O (ia:=0) (ib:=0) (m:=d.length) lb (by simp);have ι:At p u=At o.toArray 0:=aB 0 lb;refine aX (Dm (k:=k) (base:=v) (m:=B) (hint:=0) P (U _ (by omega)) U (by omega) (by omega) (by omega) (λj H=>?_) ?_)
 ·have:=k2 j (by omega);unfold Eg at this⊢;rw[aA j (by omega),ι];simpa using this
 have ub:∀j,j<d.length->cmp (At o.toArray 0) (At d.toArray j)=decide (k<=j):=λj H=>by
  have:=k2 j H;unfold Eg at this;rw[aK (by decide),eP]at this
  by_cases c:j<k
  ·rw[decide_eq_true c]at this;rw[decide_eq_false (by omega)];simpa using this
  ·rw[decide_eq_false c]at this;rw[decide_eq_true (by omega)];simpa using this
 obtain⟨y,b,rfl⟩:∃y r,o=y::r:=by cases o with
  |nil=>exact absurd rfl hb
  |cons y r=>exact⟨y,r,rfl⟩
 have ey:At (y::b).toArray 0=y:=rfl;have ly:(y::b).length=b.length+1:=rfl;have m1:mg cmp d (y::b)=d.take k++mg cmp (d.drop k) (y::b):=by
  rw[<-U6 _ _ _ λx M=>?_,cI];obtain⟨j,j1,j2,rfl⟩:=n9 (a:=d.toArray) M;have:=ub j (by simpa using j2);rw[decide_eq_false (by omega),ey]at this;exact this
 dsimp only;refine a9 (λc=>?_) λc=>?_
 ·have c':B - k=0:=eU c;have e:mg cmp d (y::b)=d++(y::b):=by
   rw[m1,dJ (by omega),gK (by omega),pq]
  have:=q g;rw[e,<-L]at this;exact bC this
 have c':B - k≠0:=λz=>c (beq_iff_eq.mpr z);have aL:At p (v+k+(B - k) - 1)=At d.toArray (d.length - 1):=by
  rw[<-aA (d.length - 1) (by omega)]
  congr 1;omega
 refine aX (fh (a:=p) (i:=v+k+(B - k) - 1) (by omega) ?_);obtain⟨m,k3,k4⟩:=Y.rT O (ia:=d.length - 1) (ib:=0) (m:=(y::b).length) (by simp;omega) (by simp);refine aX (Dm (k:=m) (base:=u) (m:=J) (hint:=J - 1) P (U _ (by omega)) U (by omega) (by omega) (by omega) (λj H=>?_) ?_)
 ·have:=k4 j (by omega);unfold Eg at this⊢;rw[aB j (by omega),aL];simpa using this
 have vb:∀j,j<(y::b).length->cmp (At (y::b).toArray j) (At d.toArray (d.length - 1))=decide (j<m):=λj H=>by
  have:=k4 j H;unfold Eg at this;rwa [aN rfl,eP]at this
 have m0:m≠0:=λz=>by
  have C:=ub k (by omega);rw[decide_eq_true (aJ _)]at C;have h2:=Y.yes O C (i':=d.length - 1) (j':=0) (by simp;omega) (by simp) (by omega) (aJ _);have h3:=vb 0 (by simp);rw[h2,z]at h3;simp at h3
 dsimp only;refine a9 (λc=>absurd (eU c) m0) λ_=>?_;have m2:mg cmp (d.drop k) (y::b)=mg cmp (d.drop k) ((y::b).take m)++(y::b).drop m:=by
  rw[<-U7 _ _ _ λx M z hz=>?_,cI];obtain⟨j,H,rfl⟩:=List.mem_iff_getElem.mp M;obtain⟨j',θ,rfl⟩:=List.mem_iff_getElem.mp hz;rw[dE]at H θ;rw[List.getElem_drop,List.getElem_drop];have C:=vb (m+j') (by omega);rw[decide_eq_false (by omega)]at C;have:=Y.nay O C (i':=k+j) (j':=m+j') (by simp;omega) (by simp;omega) (by omega) (aJ _);rw[jn (p:=(y::b).toArray) (i:=m+j') (by simp;omega),jn (p:=d.toArray) (i:=k+j) (by simp;omega)]at this;simpa using this
 have T2:nz n cmp (d.drop k).toArray.toList ((y::b).take m).toArray.toList:=X3 T;have M:((p.map item).extract (v+k) u)=(d.drop k).toArray.map item:=by
  rw[L,show l++(d++y::b)++f=(l++d.take k)++d.drop k++(y::b++f) by
   rw[cD l (d.take k),cI];simp]
  exact N5 (by simp;omega) (by simp;omega)
 have hy:((p.map item).extract u (u+m))=((y::b).take m).toArray.map item:=by
  rw[L,show l++(d++y::b)++f=(l++d)++(y::b).take m++((y::b).drop m++f) by
   rw[cD (l++d),<-cD ((y::b).take m),cI];simp]
  exact N5 (by simp;omega) (by simp;omega)
 have N:∀I,kasC (bB prog w) A E (do
   modify λs=>setArr s ((mR cmp item (d.drop k).toArray ((y::b).take m).toArray).toList.zipIdx.foldl (λa x=>a.setIfInBounds (v+k+x.2) x.1) (arrOf s))
   return (failedOf (<-get)).isNone) Q (fu κ item p G I) s:=λI=>by
  refine aX (mV (aX (lO (bC ?_))));have e:(mR cmp item (d.drop k).toArray ((y::b).take m).toArray).toList.zipIdx.foldl (λa x=>a.setIfInBounds (v+k+x.2) x.1) (p.map item)=(l++mg cmp d (y::b)++f).toArray.map item:=by
   have ep:p.map item=((l++d.take k).map item++(d.drop k++(y::b).take m).map item++((y::b).drop m++f).map item).toArray:=by
    rw[L,<-cO,<-cO,List.map_toArray]
    congr 2
    rw[show(l++d.take k)++(d.drop k++(y::b).take m)++((y::b).drop m++f)=l++((d.take k++d.drop k)++((y::b).take m++(y::b).drop m))++f by simp only[cD],cI,cI]
   rw[ep,BL (v+k) _ 0 _ _ _ (by simp;omega) ?_]
   ·unfold mR;rw[m1,m2];simp
   ·unfold mR;simp[Lr]
  show Q true (kU κ (List.foldl _ (p.map item) _) G I none) s;rw[e];exact q I
 have hf:cmp (At ((y::b).take m).toArray 0) (At (d.drop k).toArray 0)=true:=by
  have C:=ub k (by omega);rw[decide_eq_true (aJ _)]at C;rw[t6,t6]at C⊢;simpa[aU,Nat.pos_of_ne_zero m0]using C
 have hl:∀z∈((y::b).take m).toArray.toList,cmp z (At (d.drop k).toArray ((d.drop k).toArray.size - 1))=true:=λz hz=>by
  obtain⟨j,j1,j2,rfl⟩:=n9 (a:=(y::b).toArray) hz;have C:=vb j (by simpa using j2);rw[decide_eq_true j1]at C;have:At (d.drop k).toArray ((d.drop k).toArray.size - 1)=At d.toArray (d.length - 1):=by
   rw[t6,t6];simp[aU]
   congr 2;omega
  rw[this];exact C
 have s1:0<(d.drop k).toArray.size:=by simp;omega
 have s2:0<((y::b).take m).toArray.size:=by simp;omega
 show kasC _ _ _ (if B - k<=m then _ else _) _ _ _;refine a9 (λ_=>aX ?_) λ_=>aX ?_
 ·show kasC _ _ _ (Ih ((p.map item).extract (v+k) u) ((p.map item).extract u (u+m))) _ _ _;rw[M,hy];exact LN P O T2 s1 s2 hf hl λI=>N I
 ·show kasC _ _ _ (Ig ((p.map item).extract (v+k) u) ((p.map item).extract u (u+m))) _ _ _;rw[M,hy];exact LO P O T2 s1 s2 hf hl λI=>N I
end
end Pu
end
section
/-! sortRuns -/
namespace Pu
open PySem PySem.Spec PyProof.Rows PySem.SeqAt PySem.W
def IF{α:Type}:∀(l:List α)(i:Nat),i+1<l.length->∃X u v Y,l=X++u::v::Y/\X.length=i:=by
 intro l;induction l with
 |nil=>intro i h;exact absurd h (pN _)
 |cons a l c=>
  intro i h;cases i with
  |zero=>
   cases l with
   |nil=>exact absurd h (by simp)
   |cons b l=>exact⟨[],a,b,l,rfl,rfl⟩
  |succ i=>
   obtain⟨X,u,v,Y,e,d⟩:=c i (by simpa using h);exact⟨a::X,u,v,Y,by rw[e];rfl,by rw[aE,d]⟩
def IH{α:Type}{u v a:α}{Y:List α}:∀X:List α,((X++u::v::Y).set X.length a).eraseIdx (X.length+1)=X++a::Y:=by
 intro X;induction X with
 |nil=>rfl
 |cons x X b=>rw[cY,aE,nY,List.eraseIdx_cons_succ,b];rfl
def BA{α:Type}{a:Array α}{X Y:List α}{u v u':α}{i:Nat}(h:a.toList=X++u::v::Y)(b:X.length=i):((a.setIfInBounds i u').eraseIdxIfInBounds (i+1)).toList=X++u'::Y:=by
 subst b;rw[<-Array.toArray_toList (xs:=a),h];rw[List.setIfInBounds_toArray,lX];exact IH X
section
variable{prog:bH}{w:bV}{A:cB}{E:aG->aI->Prop}{s:aI}{κ:mU}{item:Nat->jX}{n:Nat}{cmp:Nat->Nat->Bool}{p:Array Nat}{pend:Array (Nat×Nat×Nat)}{g:Nat}
def DL{i:Nat}{rest:List Nat}{Q:Bool->eF->aI->Prop}(P:ny prog w A s κ item n cmp)(O:Ord n cmp)(L:c8 n p)(R:RI cmp p pend rest)(hi:i+1<pend.size)
  (q:∀J a g',c8 n J->RI cmp J a rest->a.size+1=pend.size->Q true (fu κ item J a g') s):kasC (bB prog w) A E (mergeAt' i) Q (fu κ item p pend g) s:=by
 obtain⟨rs,h1,G,h3⟩:=R;obtain⟨X,⟨o,C,pw⟩,⟨sb,B,I⟩,Y,e,N⟩:=IF pend.toList i (by simpa using hi);rw[e,cO,aR,aR]at h3;obtain⟨u,l,j,H,rfl,k1,k2,k3,k4⟩:=Lx _ _ _ h3;obtain⟨b,d⟩:=Prod.mk.inj k2;obtain⟨m,c⟩:=Prod.mk.inj k3;rw[eP]at b m k4;replace b:o=_:=b;replace d:C=_:=d;replace c:B=_:=c;have M:=G l (by simp);have hB:=G j (by simp);have v:p.toList=u.flatten++(l++j)++(H.flatten++rest):=by rw[h1];simp
 have lt:∀x∈p.toList,x<n:=λx h=>List.mem_range.mp (L.mem_iff.mp h);have nd:p.toList.Nodup:=(L.nodup_iff).mpr oV;have ab:∀x∈l++j,x∈p.toList:=λx h=>by rw[v];exact dG _ (cH _ h)
 have T:nz n cmp l j:=⟨M.2,hB.2,λx h=>lt x (ab x (dG _ h)),λx h=>lt x (ab x (cH _ h)),λx h y h'=>by
  rw[v,cD,jP]at nd;have:=(List.nodup_append.mp nd.2.1).1;exact(List.nodup_append.mp this).2.2 x h y h'⟩
 have p1:pend[i]?=some (o,C,pw):=by rw[<-bI,e,<-N];simp
 have p2:pend[i+1]?=some (sb,B,I):=by rw[<-bI,e,<-N];simp
 refine LR P O T M.1 hB.1 (by rw[<-v]) lt p1 p2 b d m c λg'=>?_;have U:=BA (u':=(o,C+B,pw)) e N;refine q _ _ _ ?_ ⟨u++mg cmp l j::H,by simp,λr f=>?_,?_⟩ ?_
 ·show(u.flatten++mg cmp l j++(H.flatten++rest)).Perm _;refine List.Perm.trans ?_ L;rw[v];exact((Ac l j).append_left _).append_right _
 ·rcases List.mem_append.mp f with f|f
  ·exact G r (dG _ f)
  ·rcases List.mem_cons.mp f with rfl|f
   ·refine⟨λz=>?_,LP O _ _ T⟩;have l1:=congrArg dH z;rw[Lr]at l1;have l2:=List.length_pos_iff.mpr M.1;rw[dA]at l1
    lia
   ·exact G r (cH _ (.tail _ (.tail _ f)))
 ·rw[U,cO,aR,Iy,mw,k1,k4,eP];show mw 0 u++(o,C+B)::_=_;rw[b,d,c,Lr,iL]
 ·have e1:=congrArg dH U;have e2:=congrArg dH e;rw[aO,aM,aE]at e1 e2;rw[aE]at e2
  lia
def qW.pw{lo c:Nat}(h:qW cmp p lo c)(e:c<=p.size):((p.toList.drop lo).take (c - lo)).Pairwise λx y=>cmp x y=true:=by
 rw[List.pairwise_iff_getElem];intro i j b a d;rw[dQ,dE,aO]at b a;have:=h (lo+i) (lo+j) (by lia) (by lia) (by lia);rw[jn (by lia),jn (by lia)]at this;simpa using this
def Y1{a:Array Nat}{lo c:Nat}(h:Eo p a lo c)(b:a.size=p.size)(f:lo<=p.size):a.toList.take lo=p.toList.take lo:=by
 apply kF
 ·simp[b]
 intro i e d;rw[dQ,aO]at e d;have:=h i (.inl (by lia));rw[jn (by lia),jn (by lia)]at this;simpa using this
def RI.pd{a:Array (Nat×Nat×Nat)}{rest:List Nat}(R:RI cmp p pend rest)(h:a.toList.map MV=pend.toList.map MV):RI cmp p a rest:=by
 obtain⟨b,e,d,c⟩:=R;exact⟨b,e,d,h.trans c⟩
def AD(i k:Nat):∀l:List (Nat×Nat×Nat),(l.modify i λx=>(x.1,x.2.1,k)).map MV=l.map MV:=by
 intro l;induction l generalizing i with
 |nil=>cases i<;>rfl
 |cons a l b=>
  cases i with
  |zero=>rfl
  |succ i=>rw[List.modify_succ_cons,aR,aR,b]
def RI.push{lo k:Nat}{rest:List Nat}(R:RI cmp p pend rest)(l:lo+rest.length=p.size)(j:1<=k)(d:k<=rest.length)(f:(rest.take k).Pairwise λx y=>cmp x y=true):RI cmp p (pend.push (lo,k,0)) (rest.drop k):=by
 obtain⟨b,c,i,h⟩:=R;have e:=congrArg dH c;rw[aO,aM]at e;refine⟨b++[rest.take k],by rw[c];simp,λr a=>?_,?_⟩
 ·rcases List.mem_append.mp a with a|a
  ·exact i r a
  ·rw[List.mem_singleton.mp a];refine⟨λz=>?_,f⟩;have:=congrArg dH z;rw[dQ,dA]at this
   lia
 ·rw[Array.toList_push,cO,h,Iy,eP,show b.flatten.length=lo by lia]
  congr 1
  rw[aR,fO,mw,dQ,Nat.min_eq_left d];rfl
def IK{Q:Unit->eF->aI->Prop}(P:ny prog w A s κ item n cmp)(O:Ord n cmp)(h2:2<=n)
  (q:∀p pend g,c8 n p->So cmp p n->Q () (fu κ item p pend g) s):kasC (bB prog w) A E sortRuns' Q (fu κ item (aS n).toArray #[] 7) s:=by
 rw[sortRuns'_eq];refine aX (lO ?_);have sz:(arrOf (fu κ item (aS n).toArray #[] 7)).size=n:=by
  show((aS n).toArray.map item).size=n;simp
 dsimp -zeta only;rw[sz]
 extract_lets size B
 have es:size=n:=rfl
 clear_value B
 refine aX (eR (lh (λl b st=>∃p pend g rest,b=(none,n - rest.length)/\st=fu κ item p pend g/\c8 n p/\RI cmp p pend rest/\rest.length<=l.length)
  (λb st=>∃p pend g lo,b=(none,lo)/\st=fu κ item p pend g/\c8 n p/\RI cmp p pend []) ?_ ?_ ?_ _ _ _ ⟨(aS n).toArray,#[],7,aS n,by rw[bZ,Nat.sub_self],rfl,gS _,⟨[],by simp,by simp,rfl⟩,by simp[es]⟩))
 ·rintro x l b st Q' ⟨p,pend,g,rest,rfl,rfl,L,R,M⟩ hy hd
  have hsz:=L.size;have hrl:rest.length<=n:=by
   obtain⟨o,h1,_⟩:=R;have:=congrArg dH h1;rw[aO,aM]at this
   lia
  dsimp -zeta only
  extract_lets lo jp Y nn
  have elo:lo=n - rest.length:=rfl;have fr:Y=min (size - lo) B:=rfl;have J:∀k G,c8 n G->1<=k->k<=rest.length->qW cmp G lo (lo+k)->Eo p G lo n->kasC (bB prog w) A E (jp () k) Q' (fu κ item G pend g) s:=by
   intro k G C k1 k2 hs he;have hz':=C.size;have lr:(G.toList.drop lo).length=rest.length:=by rw[dE,aO];lia
   have R':RI cmp G pend (G.toList.drop lo):=by
    obtain⟨o,I,a2,a3⟩:=R;refine⟨o,?_,a2,a3⟩;have:o.flatten=p.toList.take lo:=by
     have:=congrArg dH I;rw[aO,aM]at this;rw[I,List.take_left' (by lia)]
    rw[this,<-Y1 he (by lia) (by lia),cI]
   have N:=qW.pw hs (by lia);rw[lB]at N;generalize G.toList.drop lo=u at R' lr N;refine aX (lO ?_)
   extract_lets lo2 μ
   have J2:∀j e g2,c8 n j->RI cmp j e u->kasC (bB prog w) A E (μ ()) Q' (fu κ item j e g2) s:=by
    intro j e g2 f R2;have hz2:=f.size;refine aX (mV (bC ?_));refine hy _ _ ⟨j,e.push (lo,k,0),g2,u.drop k,?_,rfl,f,R2.push (by lia) k1 (by lia) N,?_⟩
    ·show(none,lo+k)=_;rw[dE]
     congr 1
     lia
    ·rw[dE];rw[aE]at M
     lia
   show kasC _ _ _ (match pend.back? with|some (s1,n1,snd)=>_|x=>_) _ _ _;cases hb:pend.back? with
   |none=>exact J2 _ _ _ C R'
   |some v=>
    obtain⟨s1,n1,v3⟩:=v;dsimp -zeta only
    extract_lets pw
    clear_value pw
    refine aX (eR (lh (λ_ b st=>∃j e g2,b=(none,())/\st=fu κ item j e g2/\c8 n j/\RI cmp j e u)
     (λb st=>∃j e g2,b=(none,())/\st=fu κ item j e g2/\c8 n j/\RI cmp j e u) ?_ (λ_ _ h=>h) ?_ _ _ _ ⟨G,pend,g,rfl,rfl,C,R'⟩))
    ·rintro x l b st Q2 ⟨j,e,g2,rfl,rfl,f,R2⟩ T H
     refine aX (lO ?_);show kasC _ _ _ (match (if e.size>1 then e[e.size - 2]? else none)with|some (fst,φ,ι)=>_|x=>_) _ _ _
     by_cases c:e.size>1
     ·rw[aN c];cases hv:e[e.size - 2]? with
      |none=>exact bC (H _ _ ⟨j,e,g2,rfl,rfl,f,R2⟩)
      |some v=>
       obtain⟨v1,v2,old⟩:=v;refine a9 (λ_=>bC (H _ _ ⟨j,e,g2,rfl,rfl,f,R2⟩)) λ_=>?_;refine aX (DL (i:=e.size - 2) P O f R2 (by lia) λp3 z g3 U R3 _=>?_);exact bC (T _ _ ⟨p3,z,g3,rfl,rfl,U,R3⟩)
     ·rw[aK c];exact bC (H _ _ ⟨j,e,g2,rfl,rfl,f,R2⟩)
    ·rintro b st ⟨j,e,g2,rfl,rfl,f,R2⟩
     dsimp only;refine aX (mV ?_);refine J2 j (e.modify (e.size - 1) λx=>(x.1,x.2.1,pw)) g2 f (R2.pd ?_);rw[Array.toList_modify];exact AD _ _ _
  refine a9 (λc=>?_) λc=>?_
  ·refine bC (hd _ _ ⟨p,pend,g,lo,rfl,rfl,L,?_⟩);rw[es]at c;have:rest=[]:=List.length_eq_zero_iff.mp (by lia);rwa [this]at R
  rw[es]at c;refine aX (Yu P O L (by lia) (by lia) λm G C m1 m2 hs he=>?_);dsimp -zeta only
  extract_lets n0
  have en:n0=m:=rfl;have δ:Eo p G lo n:=by
   rw[show lo+(size - lo)=n by lia]at he;exact he
  refine a9 (λd=>?_) λd=>?_
  ·refine aX (nP (eY ?_));refine aX (KQ P O C (by lia) (by lia) (by lia) hs λΦ γ ξ σ=>?_);refine J _ _ γ (by lia) (by lia) ξ λi hi=>?_;rw[σ i (by lia),δ i hi]
  ·exact J _ _ C (by lia) (by lia) hs δ
 ·rintro b st ⟨p,pend,g,rest,rfl,rfl,L,R,M⟩
  have:rest=[]:=List.length_eq_zero_iff.mp (by simpa using M);subst this;exact⟨p,pend,g,_,rfl,rfl,L,R⟩
 ·rintro b st ⟨p,pend,g,lo,rfl,rfl,L,R⟩
  dsimp only;have hz:=L.size;have ps:pend.size<=n:=by
   obtain⟨o,I,a2,a3⟩:=R;have e1:=congrArg dH I;have e3:=congrArg dH a3;have:∀(o:List (List Nat))(i:Nat),(∀r∈o,r≠[])->(mw i o).length<=o.flatten.length:=by
    intro o;induction o with
    |nil=>intro i _;exact aJ _
    |cons r o ih=>
     intro i h;have:=ih (i+r.length) λr hr=>h r (.tail _ hr);have h0:=List.length_pos_iff.mpr (h r (.head _));rw[mw,lP,aE,aM]
     lia
   have:=this o 0 λr hr=>(a2 r hr).1;rw[aO,aM,dA]at e1;rw[aF,aO]at e3
   lia
  refine aX (eR (lh (λl b st=>∃p pend g,b=(none,())/\st=fu κ item p pend g/\c8 n p/\RI cmp p pend []/\pend.size<=l.length+1)
   (λb st=>∃p pend g,b=(none,())/\st=fu κ item p pend g/\c8 n p/\RI cmp p pend []/\pend.size<=1) ?_ ?_ ?_ _ _ _ ⟨p,pend,g,rfl,rfl,L,R,by simp;lia⟩))
  ·rintro x l b st Q2 ⟨j,e,g2,rfl,rfl,f,R2,M⟩ T H
   refine aX (lO ?_);show kasC _ _ _ (if e.size<=1 then _ else _) _ _ _;refine a9 (λc=>bC (H _ _ ⟨j,e,g2,rfl,rfl,f,R2,c⟩)) λc=>?_;refine aX (DL P O f R2 (?_:(if _ then e.size - 2 - 1 else e.size - 2)+1<e.size) λp3 z g3 U R3 hs3=>?_)
   ·have:∀(c:Prop)[Decidable c],(if c then e.size - 2 - 1 else e.size - 2)+1<e.size:=λc _=>by split<;>lia
    exact this _
   refine bC (T _ _ ⟨p3,z,g3,rfl,rfl,U,R3,?_⟩);rw[aE]at M
   lia
  ·rintro b st ⟨j,e,g2,rfl,rfl,f,R2,M⟩
   exact⟨j,e,g2,rfl,rfl,f,R2,by simpa using M⟩
  ·rintro b st ⟨j,e,g2,rfl,rfl,f,R2,M⟩
   refine bC (q _ _ _ f ?_);obtain⟨o,I,a2,a3⟩:=R2;have e3:=congrArg dH a3;have ol:∀(o:List (List Nat))(i:Nat),(mw i o).length=o.length:=by
    intro o;induction o with
    |nil=>intro i;rfl
    |cons r o ih=>intro i;rw[mw,aE,aE,ih]
   rw[aF,aO,ol]at e3;have pw:j.toList.Pairwise λx y=>cmp x y=true:=by
    match o,e3,I,a2 with
    |[],_,I,_=>rw[I];exact iG
    |[r],_,I,a2=>
     rw[I,lP,List.flatten_nil,bT,bT];exact(a2 r (.head _)).2
    |r::r'::o,e3,_,_=>rw[aE,aE]at e3;lia
   intro a b τ hb;exact Jg pw τ (by rw[f.size];exact hb)
end
end Pu
end
namespace Pu
open PySem PySem.Spec PyProof.Rows L2 PySem.SeqAt PySem.W
def FW(i j:Int):cV (.int i) (.int j)=(i==j):=by rw[cV]
theorem Gw:∀(c d:List Int),iO (c.map .int) (d.map .int)=decide (c=d)
 |[],[]=>by simp[iO]
 |[],_::_=>by simp[iO]
 |_::_,[]=>by simp[iO]
 |i::c,j::d=>by
  rw[aR,aR,iO,Gw c d,FW]
  by_cases h:i=j<;>simp[h]
theorem nc:∀(k l:List Int),jy (k.map .int) (l.map .int)=some (decide (k<l))
 |[],[]=>by simp[jy]
 |[],_::_=>by simp[jy]
 |_::_,[]=>by simp[jy]
 |i::k,j::l=>by
  rw[aR,aR,jy,nc k l,FW];show some _=_
  congr 1
  by_cases h:i=j
  ·subst h;simp[gY]
  ·have:(i==j)=false:=by simpa using h
   simp[gY,h]
def jl:∀k:List Int,bP (k.map .int)=true:=by
 intro a;induction a with
 |nil=>exact rfl
 |cons i k b=>
  rw[aR,bP,b];rfl
def Gk:∀k:List Int,cN (k.map .int)=0:=by
 intro a;induction a with
 |nil=>exact rfl
 |cons i k b=>
  rw[aR,cN,b];rfl
section
variable{prog:bH}{w:bV}{A:cB}{E:aG->aI->Prop}{s:aI}
def Qs{b:Bool}{i j:Int}{t u:Tok}{Q:Bool->aI->Prop}(q:Q (decide (i<j)) s):bF (bB prog w) A (oneLt' b (.int i t) (.int j u)) Q E s:=by
 cases b with
 |true=>exact oneLt_int q
 |false=>exact kat_one _ _ (nI q)
theorem Uo{b:Bool}{Q:Bool->aI->Prop}:∀(c d:List Int)(l j:List aG)(i:Nat)(n bs:List Addr)(a:Bool),ReadsAll s.1 l (c.map .int) n->ReadsAll s.1 j (d.map .int) bs->
  A.units<cZ->a=decide (c.length<d.length)->Q (decide (c<d)) s->KatLex prog w A b a Q (l.zip j) i s
 |[],[],l,j,i,n,bs,a,g,f,m,h,q=>by
  cases g;cases f;subst h;exact kat_nil (by simpa using q)
 |[],y::p,l,j,i,n,bs,a,g,f,m,h,q=>by
  cases g;cases f;subst h;exact kat_nil (by simpa using q)
 |x::xs,[],l,j,i,n,bs,a,g,f,m,h,q=>by
  cases g;cases f;subst h;exact kat_nil (by simpa using q)
 |x::xs,y::p,_,_,i,_,_,a,g,f,m,h,q=>by
  cases g with
  |@cons v J _ _ I H r B=>
   cases f with
   |@cons L z _ _ G C u o=>
    refine kat_cons (eqAt_reads (.int x) (.int y) A s _ _ _ _ r u rfl rfl m prog w _ _ ?_);rw[FW]
    by_cases e:x=y
    ·subst e;rw[beq_self_eq_true];refine kat_yes (Uo xs p _ _ _ _ _ _ B o m (by rw[h];simp) ?_);simpa[gY]using q
    ·have:(x==y)=false:=by simpa using e
     rw[this];refine kat_no ?_;cases r;cases u;refine Qs ?_;simpa[gY,e]using q
/-- the key of a value:an int,or a tuple of ints -/
def Na(h:Heap)(b:Bool)(v:aG)(k:List Int):Prop:=if b then∃a,oF h v (.tuple (k.map .int)) a else∃i t,v=.int i t/\k=[i]
def Zu{b:Bool}{x y:aG}{k l:List Int}{B bs:List Addr}{Q:Bool->aI->Prop}(i:oF s.1 x (.tuple (k.map .int)) B)(g:oF s.1 y (.tuple (l.map .int)) bs)(I:A.units+1<cZ)(h:Q (decide (k<l)) s):
  bF (bB prog w) A (keyLt' (tuples' b) x y) Q E s:=by
 cases i with
 |@tuple a o f n _ z u J r e=>
  cases g with
  |@tuple L C c G _ v q H p d=>
   have m:f.size=k.length:=by simpa using ReadsAll.length _ _ _ e
   have j:c.size=l.length:=by simpa using ReadsAll.length _ _ _ d
   exact kat_lt u r q p (Uo k l _ _ 0 _ _ _ e d (by lia) (by rw[m,j]) h)
def xq(k:List Int):fP (.tuple (k.map .int))<=1:=by
 rw[fP,Gk];lia
def Zr{x y:aG}{k l:List Int}{c bs:List Addr}{Q:Bool->aI->Prop}(b:oF s.1 x (.tuple (k.map .int)) c)(a:oF s.1 y (.tuple (l.map .int)) bs)(d:A.units+1<cZ)(h:Q (decide (k<l)) s):
  bF (bB prog w) A (keyLt' general' x y) Q E s:=by
 have e:=xq k;exact kat_one _ _ (u7 _ _ A s _ _ _ _ _ b a (jl k) (jl l) (by lia) (nc k l) prog w _ _ h)
def Zt{x y:aG}{k l:List Int}{as bs:List Addr}{Q:Bool->aI->Prop}(I:oF s.1 x (.tuple (k.map .int)) as)(H:oF s.1 y (.tuple (l.map .int)) bs)(hu:A.units+1<cZ)(h:Q (decide (k<l)) s):
  bF (bB prog w) A (keyLt' oneType' x y) Q E s:=by
 rw[keyLt'_oneType,oneLt'_eq];simp only[if_true];have d1:=xq k;have d2:=xq l;have q:A.units+min (fP (.tuple (k.map .int))) (fP (.tuple (l.map .int)))<cZ:=by lia
 refine aC (wpAny_cRoomFor (by lia) ?_);cases I with
 |@tuple a o c n _ β i C B g=>
  cases H with
  |@tuple a' J b N _ α O v u f=>
   have M:c.size=(k.map cS).length:=by simpa using ReadsAll.length _ _ _ g
   have L:b.size=(l.map cS).length:=by simpa using ReadsAll.length _ _ _ f
   obtain⟨cl,U,dt,G⟩:=o;obtain⟨Y,m,T,d⟩:=J;simp only at C B v u;subst C B v u;refine aC (wpAny_callSpecialIfBound?_slot ⟨_,i,rfl⟩ nD (nU nD ⟨_,i,rfl⟩ oU (oH _ _) (Mz a a' c b n N U m G d (pairEq (k.map .int) (l.map .int)) (nu (k.map .int) (l.map .int))) ⟨i,O,λj p r=>⟨?_,λ_=>?_⟩,?_⟩))
   ·have z:=eqAt_readsAll _ _ A.in1 s c.toList b.toList _ _ g f (jl k) (jl l) (room_in q) j (by simpa using p) (by simpa using r);simpa using z
   ·have z:=nr _ _ A.in1 s c.toList b.toList _ _ _ g f (jl k) (jl l) (room_in q) (nc k l) j (by simpa using p) (by simpa using r);simpa using z
   ·have e:=E7 (nc k l);rw[<-M,<-L]at e;rw[e];exact dS h
def KeysAre(s:aI)(b:Bool):List aG->List (List Int)->Prop
 |[],[]=>True
 |v::a,k::c=>Na s.1 b v k/\KeysAre s b a c
 |_,_=>False
theorem KeysAre.len{b:Bool}:∀{c:List aG}{d:List (List Int)},KeysAre s b c d->d.length=c.length
 |[],[],_=>rfl
 |[],_::_,h=>h.elim
 |_::_,[],h=>h.elim
 |v::c,k::d,a=>by obtain⟨_,h⟩:=a;rw[aE,aE,KeysAre.len h]
theorem KeysAre.get{b:Bool}:∀{a:List aG}{c:List (List Int)},KeysAre s b a c->∀{i:Nat},i<a.length->Na s.1 b (a.getD i eK) (c.getD i [])
 |[],_,_,i,h=>by simp at h
 |_::_,[],h,_,_=>h.elim
 |v::a,k::c,e,0,_=>by obtain⟨g,_⟩:=e;exact g
 |v::a,k::c,d,i+1,f=>by
  obtain⟨_,h⟩:=d;have:=KeysAre.get h (by simpa using f);simpa using this
theorem KeysAre.mem{b:Bool}:∀{c:List aG}{e:List (List Int)},KeysAre s b c e->∀v∈c,∃k,Na s.1 b v k
 |[],_,_,v,h=>by cases h
 |_::_,[],h,_,_=>h.elim
 |v::c,k::e,a,x,d=>by
  obtain⟨f,h⟩:=a;rcases List.mem_cons.mp d with rfl|d
  ·exact⟨k,f⟩
  ·exact KeysAre.mem h x d
/-- all of them,without a trace -/
def Ia{α β:Type}{f:α->Sem β}{P:β->Prop}{Q:List β->aI->Prop}:∀(a:List α),(∀v∈a,∀e:β->aI->Prop,(∀r,P r->e r s)->bF (bB prog w) A (f v) e E s)->(∀b,(∀r∈b,P r)->Q b s)->bF (bB prog w) A (a.mapM f) Q E s:=by
 intro a;induction a generalizing Q with
 |nil=>intro _ q;rw[List.mapM_nil];exact aD (q [] λr h=>nomatch h)
 |cons v a g=>
  intro h q;rw[List.mapM_cons];refine aC (h v (.head _) _ λr j=>aC (g (λu i=>h u (.tail _ i)) λb d=>aD (q _ λx c=>?_)));rcases List.mem_cons.mp c with rfl|c
  ·exact j
  ·exact d x c
def Oa{a:List aG}{Q:Option aG->aI->Prop}(h:∀v∈a,∃T,s.TypeIs v T)(q:∀r,Q r s):bF (bB prog w) A (oneTypeOnly' a.toArray) Q E s:=by
 rw[oneTypeOnly'_eq,List.mapM_toArray,map_eq_pure_bind];refine aC (aC (Ia (P:=λ_=>True) a (λv b f c=>?_) λe _=>aD ?_))
 ·obtain⟨T,d⟩:=h v b;exact kG d (c _ trivial)
 ·split
  ·exact aD (q _)
  ·exact aD (q _)
def Us{m:List aG}{Q:mU->aI->Prop}(h:∀v∈m,∃k,Na s.1 true v k)(I:∀b,Q (tuples' b) s)(B:Q general' s)(H:Q oneType' s):bF (bB prog w) A (keyKind' m.toArray) Q E s:=by
 rw[keyKind'_eq,List.mapM_toArray,map_eq_pure_bind];refine aC (aC (Ia (P:=λr=>∀v,r=some v->∃i t,v=.int i t) m (λv f U L=>?_) λz p=>aD ?_))
 ·obtain⟨k,N,r⟩:=h v f;cases r with
  |@tuple a o l n _ y j q C g=>
   rw[kas_first_eq];refine aC (kG (T:="tuple") ⟨o,j,q⟩ ?_);rw[aK (by first|decide|simp)];refine aC (listItems_at j C (aD (L _ λu c=>?_)));rw[<-bI]at c;cases k with
   |nil=>
    cases d:l.toList with
    |nil=>rw[d]at c;cases c
    |cons x xs=>rw[d]at g;cases g
   |cons i k=>
    cases d:l.toList with
    |nil=>rw[d]at c;cases c
    |cons x xs=>
     rw[d]at g c;cases c;cases g with
     |cons G O=>cases G with
      |int _ t=>exact⟨_,_,rfl⟩
 ·refine wpAny_ite ?_;split
  ·refine aC (eY (aC ?_));have e:z.toArray.filterMap id=(z.filterMap id).toArray:=by simp
   rw[e];refine Oa (λv f=>?_) λr=>aD (I _);obtain⟨r,J,M⟩:=List.mem_filterMap.mp f;obtain⟨i,t,rfl⟩:=p r J v M;exact⟨"int",typeIs_int s i t⟩
  ·refine wpAny_ite ?_;split
   ·exact aD B
   ·refine aC (Oa (λv f=>?_) λr=>?_)
    ·obtain⟨k,N,r⟩:=h v f;cases r with
     |@tuple a o l n _ y j q C g=>exact⟨"tuple",o,j,q⟩
    ·split
     ·exact aD H
     ·exact aD B
def As(a:List (List Int))(i j:Nat):Bool:=decide (a.getD i []<a.getD j [])
def Vn{a:List (List Int)}(d:a.Nodup):Ord a.length (As a) where
 as:=λi j c b ne=>by
  have e:a.getD i []≠a.getD j []:=by
   rw[show a.getD i []=a[i] by simp[c],show a.getD j []=a[j] by simp[b]];have pw:=List.pairwise_iff_getElem.mp d;rcases Nat.lt_or_gt_of_ne ne with q|q
   ·exact pw i j c b q
   ·exact(pw j i b c q).symm
  unfold As
  by_cases z:a.getD i []<a.getD j []
  ·have:¬a.getD j []<a.getD i []:=λy=>kA _ (kQ z y);rw[decide_eq_true z,decide_eq_false this];rfl
  ·have:=Std.lt_of_le_of_ne z (iY e);rw[decide_eq_true this,decide_eq_false z];rfl
 tr:=λi j k _ _ _ g f=>by
  exact decide_eq_true (kQ (of_decide_eq_true g) (of_decide_eq_true f))
def Eb(prog:bH)(w:bV)(A:cB)(c a:List aG)(R:Array Nat->Prop)(s:aI):Prop:=
 ∀E:aG->aI->Prop,bF (bB prog w) A (keyKind' c.toArray) (λκ d=>d=s/\∀e:aG->aI->Prop,bF (bB prog w) A (sortRuns'.run (kU κ (c.toArray.zip a.toArray) #[] 7 none)) (λr b=>
  b=s/\failedOf r.2=none/\∃p:Array Nat,R p/\p.size=a.length/\(arrOf r.2).map (·.2)=List.toArray (p.toList.map λi=>a.getD i eK)) e s) E s
def IL{b:Bool}{vs:List aG}{d:List (List Int)}(f:KeysAre s b vs d)(M:2<=vs.length)(O:d.Nodup)(H:A.units+1<cZ):
  Eb prog w A vs vs (λp=>c8 vs.length p/\So (As d) p vs.length) s:=by
 intro E;have o:=Vn O;rw[f.len]at o;have B:∀κ,ny prog w A s κ (kas_item (vs.toArray.zip vs.toArray)) vs.length (As d)->s=s/\∀I:aG->aI->Prop,bF (bB prog w) A (sortRuns'.run (kU κ (vs.toArray.zip vs.toArray) #[] 7 none)) (λr C=>
  C=s/\failedOf r.2=none/\∃p:Array Nat,(c8 vs.length p/\So (As d) p vs.length)/\p.size=vs.length/\(arrOf r.2).map (·.2)=List.toArray (p.toList.map λi=>vs.getD i eK)) I s:=λκ P=>by
  refine⟨rfl,λI=>?_⟩;have r:=IK (E:=I) (Q:=λ_ st N=>N=s/\failedOf st=none/\∃p:Array Nat,(c8 vs.length p/\So (As d) p vs.length)/\p.size=vs.length/\(arrOf st).map (·.2)=List.toArray (p.toList.map λi=>vs.getD i eK)) P o M λp J g L U=>⟨rfl,rfl,p,⟨L,U⟩,L.size,kat_snds rfl rfl⟩;have e:=kas_range (vs.toArray.zip vs.toArray);rw[show(vs.toArray.zip vs.toArray).size=vs.length by simp]at e;unfold fu at r;rw[show((aS vs.length).toArray.map (kas_item (vs.toArray.zip vs.toArray)))=vs.toArray.zip vs.toArray from e]at r;exact r
 have it:∀i,i<vs.length->(kas_item (vs.toArray.zip vs.toArray) i).1=vs.getD i eK:=λi m=>by
  rw[kat_item rfl]
 cases b with
 |true=>
  have P:∀κ,(∀x y (k l:List Int) z bs (Q:Bool->aI->Prop),oF s.1 x (.tuple (k.map .int)) z->oF s.1 y (.tuple (l.map .int)) bs->Q (decide (k<l)) s->bF (bB prog w) A (keyLt' κ x y) Q (λ_ _=>False) s)->ny prog w A s κ (kas_item (vs.toArray.zip vs.toArray)) vs.length (As d):=λκ h i j m n Q q=>by
   obtain⟨z,c⟩:=f.get m;obtain⟨bs,a⟩:=f.get n;rw[it i m,it j n];exact h _ _ _ _ _ _ Q c a q
  exact Us (λv G=>f.mem v G) (λb=>B _ (P _ λx y k l z bs Q c a q=>Zu c a H q)) (B _ (P _ λx y k l z bs Q c a q=>Zr c a H q)) (B _ (P _ λx y k l z bs Q c a q=>Zt c a H q))
 |false=>
  refine kas_kind M (T:=.type "int") (λv G=>?_) (by decide) (by decide) (B _ λi j m n Q q=>?_)
  ·obtain⟨k,i,t,rfl,_⟩:=f.mem v G;exact Looks.of_pure rfl
  ·obtain⟨x,t,e1,e2⟩:=f.get m;obtain⟨y,u,e3,Y⟩:=f.get n;rw[it i m,it j n,e1,e3];refine kat_lt_int ?_;unfold As at q;rw[e2,Y]at q;simpa[gY]using q
end
noncomputable def Z3(h:Heap)(a:Addr)(b:List aG):Heap:=((h.update a (nT λ_=>(#[]:Array aG))).push (seqObj "tuple" b.toArray 0)).push (seqObj "list" #[] 0)
def U8{h:Heap}(e:h.get? b=some o)(ne:b≠a):(Z3 h a c).get? b=some o:=by
 refine aH _ (aH _ ?_);rwa [Heap.get?_update_ne _ _ _ _ ne]
def sG(R:Array Nat->Prop)(a b:List aG):Prop:=(a.length<2/\b=a)\/(2<=a.length/\∃p:Array Nat,R p/\p.size=a.length/\b=p.toList.map λi=>a.getD i eK)
def sG.len{b a:List aG}(h:sG R b a):a.length=b.length:=by
 obtain ⟨_,rfl⟩|⟨_,p,_,c,rfl⟩:=h
 ·rfl
 ·rw[aF,aO,c]
section
variable{prog:bH}{w:bV}{A:cB}{E:aG->aI->Prop}{s:aI}
def Mp{b:List aG}(m:s.1.get? a=some (seqObj "list" b.toArray n))(G:b.length<=100000)(B:2<=b.length->Eb prog w A b b R {s with heap:=Z3 s.1 a b})
  (h:∀f:List aG,sG R b f->P (.done (.ret .none)) {s with heap:=sortedHeap s.1 a b f.toArray}):bF (bB prog w) A (Builtin.«list.sort» ⟨[.ref a],[]⟩) P E s:=by
 have o:b.length<=aQ:=by rw[cR];lia
 obtain⟨u,j⟩:∃u,(s.1.update a _).get? a=some (seqObj "list" #[] u):=⟨_,get?_update_seq m λ_=>#[]⟩;have c:(Z3 s.1 a b).get? a=some _:=aH _ (aH _ j);rw[list_sort_plain];refine aC (listItems_at m rfl (aC (listUpdate_at m rfl ?_ (by simpa using o) (bX _))));refine aC (seqEpoch_at j rfl (aC (wpAny_newTuple (aC (wpAny_newList (cX ?_) (bX _))) o)));dsimp only
 by_cases e:b.toArray.size<2
 ·have d:b.length<2:=by simpa using e
  rw[aN e,aN e];refine aC (aD ?_);refine aC (aD ?_);have em:Array.map (λx:jX=>x.2) (b.toArray.zip b.toArray)=b.toArray:=by
   apply Array.toList_inj.mp;rw[Array.toList_map,Array.toList_zip];exact List.map_snd_zip (aJ _)
  rw[em];refine aC (seqEpoch_at c rfl (aC (listUpdate_at c rfl ?_ (bX _) (cG (fM (bO ..)) (by lia)))));simp only[bne_self_eq_false,Bool.false_eq_true,if_false];exact aD (h b (.inl ⟨d,rfl⟩))
 ·have d:2<=b.length:=by simpa using e
  rw[aK e,aK e];refine aC (cJ (B d _) (λκ v g=>?_) λ_ _ x=>x);obtain⟨rfl,g⟩:=g;refine aC (cJ (g _) (λr v g=>?_) λ_ _ x=>x);obtain⟨rfl,z,p,y,q,l⟩:=g;obtain⟨⟨⟩,st⟩:=r;rw[l,z];have C:(p.toList.map λi=>b.getD i eK).length<=aQ:=by rwa [aF,aO,q]
  refine aC (seqEpoch_at c rfl (aC (listUpdate_at c rfl ?_ (bX _) (cG (fM (bO ..)) (by lia)))));simp only[bne_self_eq_false,Bool.false_eq_true,if_false];exact aD (h _ (.inr ⟨d,p,y,q,rfl⟩))
end
def LY:D->Option Int
 |.int i=>some i
 |_=>none
def Bb:List D->Option (List Int)
 |[]=>some []
 |d::a=>match LY d,Bb a with
  |some i,some r=>some (i::r)
  |_,_=>none
def K3:D->Option (List Int)
 |.tup a=>Bb a
 |_=>none
def kd:List D->Option (List (List Int))
 |[]=>some []
 |d::a=>match K3 d,kd a with
  |some k,some r=>some (k::r)
  |_,_=>none
def Ub:∀{c:List D}{b:List Int},Bb c=some b->c=b.map D.int:=by
 intro e;induction e with
 |nil=>rintro b h;cases h;rfl
 |cons d c f=>
  rintro b h
  unfold Bb at h;cases a:LY d with
  |none=>rw[a]at h;cases h
  |some i=>
   cases g:Bb c with
   |none=>rw[a,g]at h;cases h
   |some r=>
    rw[a,g]at h;cases h;cases d<;>first|(cases a;rw[f g];rfl)|cases a
def Zp{k:List Int}(h:K3 d=some k):d=.tup (k.map D.int):=by
 unfold K3 at h;cases d with
 |tup a=>rw[Ub h]
 |_=>cases h
def l9(h:kd (d::c)=some e):∃k r,K3 d=some k/\kd c=some r/\e=k::r:=by
 unfold kd at h;cases a:K3 d with
 |none=>rw[a]at h;cases h
 |some k=>
  cases b:kd c with
  |none=>rw[a,b]at h;cases h
  |some r=>rw[a,b]at h;cases h;exact⟨k,r,rfl,rfl,rfl⟩
def Rl:∀c:List Int,c9 (c.map D.int)=some (c.map cS):=by
 intro a;induction a with
 |nil=>exact rfl
 |cons i r b=>
  rw[aR,c9,b];rfl
section
variable{X:Cx}{pins:List (Addr×Obj)}{Z:St}{G H:Hp}{s:aI}
def Ur(I:Inv X pins Z H s)(i:bc G H):∀{g:List D}{c:List (List Int)}{a:List V}{b:List aG},kd g=some c->br (kx X) G g a->Vals a b->KeysAre s true b c:=by
 intro e;induction e with
 |nil=>
  rintro c a b h dl r
  cases h;cases (dl);cases r;trivial
 |cons d g f=>
  rintro c a b h dl r
  obtain⟨k,x,o,n,rfl⟩:=l9 h;obtain⟨v,w,rfl,p,q⟩:=dl;obtain rfl:=Zp o;cases r with
  |cons j l=>
   refine⟨?_,f n q l⟩;obtain⟨u,m⟩:=B6 I i p j (show cf _=some _ by rw[cf,Rl]);exact⟨u,m⟩
end
noncomputable def E3(x:List Int×D):List (List Int×D)->List (List Int×D)
 |[]=>[x]
 |y::r=>if x.1<y.1 then x::y::r else y::E3 x r
def tw(l:List (List Int×D)):List (List Int×D):=l.foldr E3 []
def Do(x:List Int×D):∀l,(E3 x l).Perm (x::l):=by
 intro a;induction a with
 |nil=>exact .refl _
 |cons y r b=>
  unfold E3;split
  ·exact .refl _
  ·exact((b).cons y).trans (iU x y r)
def qz:∀l,(tw l).Perm l:=by
 intro a;induction a with
 |nil=>exact .refl _
 |cons x r b=>exact(Do x _).trans ((b).cons x)
def Zh:∀{l:List (List Int×D)},l.Pairwise (λa b=>a.1<b.1)->(∀y∈l,y.1≠x.1)->(E3 x l).Pairwise (λa b=>a.1<b.1):=by
 intro e;induction e with
 |nil=>rintro _ _;exact lD _ _
 |cons y r f=>
  rintro h g
  unfold E3;obtain⟨i,j⟩:=List.pairwise_cons.mp h;split
  ·rename_i c;refine List.pairwise_cons.mpr ⟨λz d=>?_,h⟩;rcases List.mem_cons.mp d with rfl|d
   ·exact c
   ·exact kQ c (i z d)
  ·rename_i c;refine List.pairwise_cons.mpr ⟨λz d=>?_,f j λz d=>g z (.tail _ d)⟩;rcases List.mem_cons.mp ((Do x r).mem_iff.mp d)with rfl|d
   ·exact(Std.lt_of_le_of_ne c (g y (.head _)))
   ·exact i z d
def xg:∀{l:List (List Int×D)},(l.map (·.1)).Nodup->(tw l).Pairwise (λa b=>a.1<b.1):=by
 intro c;induction c with
 |nil=>rintro _;exact iG
 |cons x r d=>
  rintro h
  obtain⟨i,g⟩:=List.nodup_cons.mp (show(x.1::r.map _).Nodup from h);refine Zh (d g) λy f e=>i ?_;rw[<-e];exact List.mem_map_of_mem ((qz r).mem_iff.mp f)
def ko{d:List (List Int)}{c:List D}{p:Array Nat}(r:d.length=c.length)(u:d.Nodup)(l:c8 c.length p)(q:So (As d) p c.length):p.toList.map (λi=>c.getD i D.hZ)=(tw (d.zip c)).map (·.2):=by
 have e:p.toList.map (λi=>(d.getD i [],c.getD i D.hZ))=tw (d.zip c):=by
  have n:(p.toList.map λi=>(d.getD i [],c.getD i D.hZ)).Perm (d.zip c):=by
   have:(aS c.length).map (λi=>(d.getD i [],c.getD i D.hZ))=d.zip c:=by
    refine kF (by simp[r]) λi h m=>?_;have:i<c.length:=by simpa using h
    simp[*]
   rw[<-this];exact List.Perm.map _ l
  have o:((d.zip c).map (·.1)).Nodup:=by
   rwa [oX (by omega)]
  refine kR (λa b _ _ h m=>absurd (kQ h m) (kA _)) ?_ (xg o) (n.trans (qz _).symm);rw[iH,List.pairwise_iff_getElem];intro i j v s g;have f:j<c.length:=by rw[<-l.size];simpa using s
  have:=q i j g f;rw[jn (by omega),jn (by omega)]at this;simpa[As]using this
 rw[<-e,bW];rfl
end Pu
section
namespace PySem
section
variable{prog:bH}{w:bV}{K:Type}[DecidableEq K]{knd:HeapKind prog w K}{A:cB}{E:aG->aI->Prop}{s:aI}
def qj(r:knd.room A)(c:knd.is s.1 k a)(C:s.1.DictOfH knd d xs)
  (I:∀v,(pK xs k).map (·.2)=some v->Q v {s with toks:=s.toks+knd.draws k})
  (H:pK xs k=none->∀n,n.DictOfH knd d (nL xs k a dflt)->cQ d s.1 n->Q dflt {s with heap:=n,toks:=s.toks+knd.draws k})
  (z:xs.length<=aQ):bF (bB prog w) A (dictSetDefault d (.ref a) dflt) Q E s:=by
 obtain⟨o,L,J,h,G,g,l,i,m⟩:=C;unfold dictSetDefault
 try with_reducible refine cX ?_
 refine aC (knd.pyHash r c ?_);refine aC (wpAny_dictFind_heap r c h g l i m ?_ ?_)
 ·intro b;refine aC (eY (aC (wpAny_updateDictKeys (hz:=by have e:=size_of_entries l;lia) (s:={s with toks:=s.toks+knd.draws k}) h g (aD (H (lQ b) _ ⟨_,_,J+1,cE _ h (Obj.isFreed_of_dict (Obj.data_mapDictKeys g _)),
   G.mapDictKeys _,Obj.data_mapDictKeys g _,?_,?_,?_⟩ (cC ..))))))
  ·rw[storedH_new (lQ b)];simp[l,entryOfKey]
  ·rw[storedH_new (lQ b)];intro x f;rcases List.mem_append.mp f with f|f
   ·exact knd.keeps (i x f) h g (cC ..)
   ·simp only[jF]at f;subst f;exact knd.keeps c h g (cC ..)
  ·rw[storedH_new (lQ b)];rw[cO,jP];refine⟨m,by simp,?_⟩;intro x f y q;simp only[aR,fO,jF]at q;subst q;exact λe=>(not_mem_keys_of_get b) (e▸f)
 ·intro j p u;have B:(pK xs k).map (·.2)=some p.2:=by rw[atKey_of_get m u];rfl
  refine aC (fY h g ?_);rw[entry_at l j,u];exact aC (eY (aD (I _ B)))
def ti(knd:HeapKind prog w K)(d a:Addr)(m:(d==gE)=false)(dflt:aG):
  MeetsIn prog w (Builtin.«dict.setdefault» ⟨[.ref d,.ref a,dflt],[]⟩) (λA R s=>knd.room A.in1/\∃k xs,knd.is s.1 k a/\s.1.DictOfH knd d xs/\xs.length<=aQ/\
   (∀v,(pK xs k).map (·.2)=some v->R (.ok (.ret v)) {s with toks:=s.toks+knd.draws k})/\
   (pK xs k=none->∀c,c.DictOfH knd d (nL xs k a dflt)->cQ d s.1 c->R (.ok (.ret dflt)) {s with heap:=c,toks:=s.toks+knd.draws k})):=
 .of_wp<|by
  rintro A R s ⟨j,k,xs,b,g,h,o,n⟩
  refine aC ?_;refine aC (jL g.typeIs ?_);refine aD ?_;show bF _ _ (if _=true then _ else _) _ _ s;rw[aK (by rw[m];exact Bool.false_ne_true)];exact aC (qj j b g (λv i=>aD ⟨v,rfl,o v i⟩) (λl c f e=>aD ⟨dflt,rfl,n l c f e⟩) h)
end
end PySem
namespace Pu
open PySem PySem.Spec PyProof.Rows L2
def n6:List D->Option (List iu)
 |[]=>some []
 |d::r=>match ka d,n6 r with
  |some k,some a=>some (k::a)
  |_,_=>none
def Uq:∀a:List iu,n6 (a.map kD)=some a:=by
 intro b;induction b with
 |nil=>exact rfl
 |cons k a c=>
  show(match ka _,n6 _ with
   |some k,some a=>some _
   |_,_=>none)=_
  rw[wm,c]
def Iv:D->Option NK
 |.tup a=>(n6 a).map .inr
 |d=>(ka d).map .inl
def yc:List D->Option a7
 |[]=>some []
 |d::r=>match Iv d,yc r with
  |some k,some a=>some (k::a)
  |_,_=>none
def bw:D->Option a7
 |.tup a=>yc a
 |_=>none
def Vh:∀k:NK,Iv (Lv k)=some k
 |.inl (.inl _)=>rfl
 |.inl (.inr _)=>rfl
 |.inr a=>by show(n6 _).map nJ=_;rw[Uq];rfl
def Z7:∀a:a7,yc (a.map Lv)=some a:=by
 intro b;induction b with
 |nil=>exact rfl
 |cons k a c=>
  show(match Iv _,yc _ with
   |some k,some a=>some _
   |_,_=>none)=_
  rw[Vh,c]
def n8(a:a7):bw (kT a)=some a:=Z7 a
def Ep{K:KA}{G:Hp}:∀{j:List D}{i:List V}{c:List iu},br K G j i->n6 j=some c->i=c.map kV:=by
 intro b;induction b with
 |nil=>rintro _ _ h e;cases e;exact h
 |cons d r f=>
  rintro _ c ⟨v,t,o,n,m⟩ e
  unfold n6 at e;cases a:ka d with
  |none=>rw[a]at e;cases e
  |some k=>
   cases g:n6 r with
   |none=>rw[a,g]at e;cases e
   |some l=>
    rw[a,g]at e;cases e;rw[o,f m g,zx (H:=G) (.inl n) a];rfl
def FZ{K:KA}{G:Hp}{d:D}{v:V}{k:NK}(h:Den K G d v)(e:Iv d=some k):qd G k v:=by
 have one:∀{d:D},Den K G d v->(ka d).map lF=some k->qd G k v:=λ{d} h e=>by
  cases b:ka d with
  |none=>rw[b]at e;cases e
  |some j=>rw[b]at e;cases e;exact zx (H:=G) (.inl h) b
 cases d with
 |tup c=>
  obtain⟨a,g,rfl,l,f⟩:=h;have e:(n6 c).map nJ=some k:=e;cases b:n6 c with
  |none=>rw[b]at e;cases e
  |some i=>rw[b]at e;cases e;exact⟨a,rfl,by rwa [<-Ep f b]⟩
 |_=>exact one h e
def Gg{K:KA}{G:Hp}:∀{j:List D}{i:List V}{c:a7},br K G j i->yc j=some c->sQ G c i:=by
 intro b;induction b with
 |nil=>rintro _ _ h e;cases e;exact h
 |cons d r f=>
  rintro _ c ⟨v,t,o,n,m⟩ e
  unfold yc at e;cases a:Iv d with
  |none=>rw[a]at e;cases e
  |some k=>
   cases g:yc r with
   |none=>rw[a,g]at e;cases e
   |some l=>
    rw[a,g]at e;cases e;exact⟨v,t,o,FZ n a,f m g⟩
noncomputable def i6:List (D×D)->a7->Option D
 |[],_=>none
 |(k,d)::r,j=>if bw k=some j then some d else i6 r j
def xy(a:List (D×D))(j:a7):Bool:=a.any λp=>decide (bw p.1=some j)
def C8(a:List (D×D))(j:a7)(v:D):List (D×D):=if xy a j=true then a.map (λp=>if bw p.1=some j then(p.1,v)else p)else a++[(kT j,v)]
section
variable{K:KA}{G:Hp}
def fc.length:∀{a:List (D×D)}{es:List (a7×V)},fc K G a es->a.length=es.length:=by
 intro b;induction b with
 |nil=>rintro _ h;rw[h];rfl
 |cons _ _ c=>rintro _ ⟨k,v,r,e,_,_,d⟩;rw[e,aE,aE,c d]
def fc.look:∀{b:List (D×D)}{es:List (a7×V)},fc K G b es->∀j,(∀d,i6 b j=some d->∃v,kr es j=some v/\Den K G d v)/\(i6 b j=none->kr es j=none):=by
 intro a;induction a with
 |nil=>
  rintro es h j
  rw[h];exact⟨λd e=>(by cases e),λ_=>J0⟩
 |cons a r c=>
  obtain⟨k,d⟩:=a
  rintro es h j
  obtain⟨f,v,t,rfl,rfl,o,p⟩:=h;obtain⟨n,m⟩:=c p j;unfold i6;rw[n8 f]
  by_cases e:f=j
  ·subst e;rw[aN rfl];exact⟨λg z=>⟨v,mn rfl,by cases z;exact o⟩,λz=>by cases z⟩
  ·rw[aK (λz=>e (bN z))];refine⟨λg z=>?_,λz=>?_⟩
   ·obtain⟨u,l,i⟩:=n g z;exact⟨u,(j6 e).trans l,i⟩
   ·exact(j6 e).trans (m z)
def fc.has:∀{b:List (D×D)}{es:List (a7×V)},fc K G b es->∀j,xy b j=es.any λg=>decide (g.1=j):=by
 intro a;induction a with
 |nil=>rintro es h j;rw[h];rfl
 |cons a r c=>
  obtain⟨k,m⟩:=a
  rintro es h j
  obtain⟨d,u,t,rfl,rfl,l,i⟩:=h;have f:=c i j;unfold xy at f⊢;rw[gN,gN,f]
  congr 1
  rw[n8 d]
  by_cases e:d=j
  ·simp[e]
  ·rw[decide_eq_false e,decide_eq_false λz=>e (bN z)]
def fc.qZ(l:Den K G d v):∀{b:List (D×D)}{es:List (a7×V)},fc K G b es->∀j,fc K G (b.map λp=>if bw p.1=some j then(p.1,d)else p) (es.map λf=>if f.1=j then(f.1,v)else f):=by
 intro a;induction a with
 |nil=>rintro es h j;rw[h];rfl
 |cons a r g=>
  obtain⟨k,o⟩:=a
  rintro es h j
  obtain⟨c,u,t,rfl,rfl,m,n⟩:=h;have i:=g n j;rw[aR,aR];rw[n8 c]
  by_cases e:c=j
  ·rw[aN e,aN (by rw[e])];exact⟨c,v,_,rfl,rfl,l,i⟩
  ·rw[aK e,aK λz=>e (bN z)];exact⟨c,u,_,rfl,rfl,m,i⟩
def fc.snoc(f:Den K G d v):∀{b:List (D×D)}{es:List (a7×V)},fc K G b es->∀j,fc K G (b++[(kT j,d)]) (es++[(j,v)]):=by
 intro a;induction a with
 |nil=>rintro es h j;rw[h];exact⟨j,v,[],rfl,rfl,f,rfl⟩
 |cons a r c=>
  obtain⟨k,l⟩:=a
  rintro es h j
  obtain⟨e,u,t,rfl,rfl,g,i⟩:=h;exact⟨e,u,_,rfl,rfl,g,c i j⟩
def fc.put(b:Den K G d v)(h:fc K G a es)(j:a7):fc K G (C8 a j d) (jh es j v):=by
 unfold C8 jh;rw[h.has j]
 by_cases e:(es.any λc=>decide (c.1=j))=true
 ·rw[aN e,aN e];exact h.qZ b j
 ·rw[aK e,aK e];exact h.snoc b j
end
section
variable{X:Cx}{G0 B:Hp}{E:EK}{e a b:Expr}{es:List Expr}{g h k:En->Res}{pos p:Pos}
def tq(i:Nat):En->Out:=λδ=>.nx (δ.set i (.od true []))
def c5.uN{K:KA}{G H:Hp}{Z:St}{δ:En}{i:Nat}{a:Addr}(R:c5 K B G H Z δ)(c:H a=none):c5 K B G (upd H a (.dT [])) (Z.set i (some (.ref a))) (δ.set i (.od true [])):=R.uS (Ext.own R.gh _ c) c (dh R.gh c) ⟨a,[],rfl,ai,rfl⟩
def BC(f:PS X (.Assign [.Name x c] (.Dict [] [] p) pos) (Xq Xr (sk i))):vm X G0 B E (.Assign [.Name x c] (.Dict [] [] p) pos) (tq i):=
 PS.imp f (by rintro D Z H ⟨G,δ,R,e,q⟩;exact λa d=>q _ G _ (bc.refl G) (R.uN d) (e.trans (Ext.own R.gh _ d)))
def c5.uR{K:KA}{G H:Hp}{Z:St}{δ:En}{i:Nat}{c:List (D×D)}(R:c5 K B G H Z δ)(h:δ[i]?=some (.od true c)):OA B G H .dT (fc K G c) Z[i]?:=by
 obtain⟨o,d,a,f,m,l,j⟩:=R.sl i _ h;subst m;obtain⟨g,b⟩:=R.own i _ a h rfl d;exact⟨a,f,d,l,j,g,b⟩
def c5.vL{K:KA}{G H:Hp}{Z:St}{δ:En}{i:Nat}{f c:List (D×D)}{a:Addr}{es d:List (a7×V)}(R:c5 K B G H Z δ)(l:δ[i]?=some (.od true f))(j:Z[i]?=some (some (V.ref a)))(m:H a=some (.dT es))(dl:fc K G c d):
  c5 K B G (upd H a (.dT d)) Z (δ.set i (.od true c)):=R.wG l rfl j ⟨a,d,rfl,ai,dl⟩
def Dg{i:List (Addr×Obj)}{Z:St}{H:Hp}{s:aI}{a b:Addr}{f:List (a7×V)}{k:a7}{v:V}{r:aG}{A:cB}{E:aG->aI->Prop}{Q:aG->aI->Prop}(L:A.units+5<cZ)(I:Inv X i Z H s)(e:H a=some (.dT f))(y:ll H k b)(hl:f.length<aQ)(G:RelV v r)
  (T:∀l w m,kr f k=some l->RelV l w->Inv X i Z H m->Q w m)(O:∀m,kr f k=none->Inv X i Z (upd H a (.dT (jh f k v))) m->Q r m):
  bF (bB X.prog X.w) A (call (.builtin "dict.setdefault") [.ref a,.ref b,r]) Q E s:=by
 obtain⟨z,x,xs,rel,C⟩:=Td I.ez e;have d:=rel.val k;refine pC jJ C.typeIs PySem.F.entry_dict_setdefault (PySem.F.args_dict_setdefault_3 _ _ _) (ti _ a b x r)
  ⟨j0 L,k,xs,x4 I.ez y,C,(by rwa [<-kK rel]),λw J=>?_,λN h' o M=>?_⟩
 ·rw[J]at d;cases j:kr f k with
  |none=>rw[j]at d;cases d
  |some l=>rw[j]at d;exact T l w _ j d (I.tok _)
 ·rw[N]at d;have j:kr f k=none:=by
   cases j:kr f k with
   |none=>rfl
   |some l=>rw[j]at d;cases d
  refine O _ j ?_;have n:(jh f k v).length<=aQ:=by have:=Hv f k v;lia
  obtain⟨q,es,ep,u,g2,g3,Y,_,U⟩:=o;refine Nk I (by rw[e];exact mF) M ⟨q,u⟩ ⟨n,x,_,(rel.put k y G).keeps λc ys ec=>?_,q,es,ep,u,g2,g3,Y,U⟩;rwa [ag (DH ec e (λz=>nomatch z))]
def jw(i:Nat)(n m:En->Res):En->qC:=λδ=>match δ[i]? with
 | some (.od true f) => (match n δ with
  | .ok o => (match m δ with
   | .ok l => (match bw o with
    | some j => if f.length < aQ then (match i6 f j with
     |some d=>.ok d δ
     |none=>.ok l (δ.set i (.od true (C8 f j l))))else .st
    |none=>.st)
   |.er c=>.er c
   |.st=>.st)
  |.er c=>.er c
  |.st=>.st)
 |_=>.st
def Arg.keys{K:KA}{G H:Hp}{d:D}{v:V}{c:a7}(s:bc G H)(h:Arg K G H d v)(e:bw d=some c):∃b,v=.ref b/\ll H c b:=by
 cases d with
 |tup m=>
  obtain⟨b,f,l,j,i⟩:=h.uK s;exact⟨b,l,f,j,(Gg i e).mono λ_ _ q=>s _ _ q⟩
 |_=>cases e
def Q8{K:KA}{G:Hp}{c:List (D×D)}{es:List (a7×V)}(dl:fc K G c es){j:a7}(h:kr es j=none):i6 c j=none:=by
 cases e:i6 c j with
 |none=>rfl
 |some d=>
  obtain⟨v,q,_⟩:=(dl.look j).1 d e;rw[h]at q;cases q
def Ko{i:Nat}{x:Str}{ke ve:Expr}{ap cp:Pos}(hu:X.A.units+5<cZ)(hv:PE X (.Name x p) (uj i))(hk:k9 X B E ke g)(ζ:gj X B E ve h)(hn:i9 ke=true)(η:i9 ve=true)(O:(ap.endLine==cp.line)=true):
  ON X G0 B E (.Call (.Attribute (.Name x p) "setdefault" ap) [ke,ve] [] cp) (jw i g h):=by
 intro n s Z H Q I ⟨G,δ,R,ex,q⟩;unfold jw at q;cases ed:δ[i]? with
 |none=>rw[ed]at q;exact q.elim
 |some sl=>
  rw[ed]at q;cases sl with
  |od t m=>
   cases t with
   |false=>exact q.elim
   |true=>
    obtain⟨l,es,q1,q2,q3,q4,q5⟩:=R.uR ed;have υ:((fF cp (bM [ke,ve] X.env)).all (λx=> !x.1) && (mS cp (iW [] X.env)).all (λx=>x.1.isSome)
     && decide (([ke,ve]).length+([]:List iF).length+(if([]:List iF).isEmpty then 0 else 1)<30))=true:=by
     rw[ml (by rw[cF,cF,hn,η];rfl)];rfl
    refine wpAny_Call_method rfl υ O iQ jJ nF (iq (hv n s Z H (λv N=>v=.ref l/\N=H) I ⟨_,q1,rfl,rfl⟩) λu s1 ⟨v,N,I1,r1,e1,M⟩=>?_);subst e1 M;cases r1;obtain⟨t1,t2,_⟩:=Uc I1 (.inr ⟨es,.inl q2⟩);refine⟨t1,t2,?_⟩;rw[Jq hn η];have qk:c7 (E) G N (g δ) λr=>c7 E G N (h δ) λC=>∃j,bw r=some j/\m.length<aQ/\Nb (kx X) G0 B E G Z (match i6 m j with
     |some d=>.ok d δ
     |none=>.ok C (δ.set i (.od true (C8 m j C)))) λd L J _=>∀v,Den (kx X) L d v->Q v J:=by
     cases eg:g δ with
     |er c=>rw[eg]at q;exact λL J e=>q L J (ex.trans e)
     |st=>rw[eg]at q;exact q
     |ok r=>
      rw[eg]at q;dsimp only at q;show c7 E G N (h δ) _;cases eh:h δ with
      |er c=>rw[eh]at q;exact λL J e=>q L J (ex.trans e)
      |st=>rw[eh]at q;exact q
      |ok C=>
       rw[eh]at q;cases ej:bw r with
       |none=>rw[ej]at q;exact q.elim
       |some j=>
        rw[ej]at q;dsimp only at q
        by_cases O:m.length<aQ
        ·rw[aN O]at q;exact⟨j,rfl,O,q⟩
        ·rw[aK O]at q;exact q.elim
    refine jC rfl (mT (iZ (iq (hk n s1 Z N (λy H2=>∃U r,Ext G N U H2/\Arg _ U H2 r y/\c7 E G N _ λC=>∃j,bw r=some j/\m.length<aQ/\Nb _ G0 B E G Z _ λd L J _=>∀v,Den _ L d v->Q v J) I1 ⟨G,δ,R,qk.mono λr _ qk y U H2 M ay=>⟨U,r,M,ay,qk⟩⟩) λyv s2 ⟨y,H2,I2,ry,U,r,M,ay,qv⟩=>?_)));refine iZ (iq (ζ n s2 Z H2 (λz H3=>∃T C j,Ext U H2 T H3/\Den _ T C z/\bw r=some j/\m.length<aQ/\Nb _ G0 B E G Z _ λd L J _=>∀v,Den _ L d v->Q v J) I2 ⟨U,δ,R.ext M,(qv.ext M).mono λC _ ⟨j,ej,O,q⟩ z T H3 e3 dz=>⟨T,C,j,e3,dz,ej,O,q⟩⟩) λzv s3 ⟨z,H3,I3,rz,T,C,j,e3,dz,ej,hsz,q⟩=>oE ?_);have f:=M.trans e3;have h3:=f.hh _ _ q2;have o:=q3.mono f.gg;have R3:=R.ext f;obtain⟨b,rfl,hb⟩:=Arg.keys M.gh ay ej;cases (ry);refine Dg hu I3 h3 (hb.mono λ_ _ q=>e3.hh _ _ q) (by rwa [<-o.length]) rz (λv' w s' Y ρ I'=>?_) λs' Y I'=>?_
    ·cases el:i6 m j with
     |none=>rw[(o.look j).2 el]at Y;cases Y
     |some d=>
      rw[el]at q;obtain⟨v2,z1,z2⟩:=(o.look j).1 d el;rw[z1]at Y;cases Y;exact⟨v',H3,I',ρ,q T H3 f.gg R3 (ex.trans f) v' z2⟩
    ·rw[(Q8 o Y)]at q;exact⟨z,_,I',rz,q T _ f.gg (c5.vL R3 ed q1 h3 (o.put dz j)) (Ext.wr (ex.trans f) (f.fr _ _ q2 q4 rfl) q5) z dz⟩
  |no=>exact q.elim
  |pu _=>exact q.elim
  |bo _=>exact q.elim
  |ow _=>exact q.elim
end
noncomputable def Xv:Expr->Bool
 |.Call (.Name x _) _ _ _=>decide (x≠"len") && decide (x≠"int") && decide (x≠"str")
 |.Tuple _ _ _=>true
 |_=>false
noncomputable def Mw:Nat->Expr->List Str
 |0,_=>[]
 |n+1,e=>match e with
  |.Call (.Attribute (.Name x _) m _) (k::r) _ _=>(if(m="setdefault"||m="get") && Xv k then[x]else[])++(r.flatMap (Mw n))
  |.Call (.Attribute o _ _) _ _ _=>Mw n o
  |.Compare l _ a _=>Mw n l++a.flatMap (Mw n)
  |.BoolOp _ b _=>b.flatMap (Mw n)
  |.UnaryOp _ e _=>Mw n e
  |.BinOp l _ r _=>Mw n l++Mw n r
  |_=>[]
def Mx:Nat->List Stmt->List Str
 |0,_=>[]
 |n+1,a=>a.flatMap λs=>match s with
  |.For _ it b o _=>Mw n it++Mx n b++Mx n o
  |.While c b o _=>Mw n c++Mx n b++Mx n o
  |.If c b o _=>Mw n c++Mx n b++Mx n o
  |.Assign [.Subscript (.Name x _) k _] v _=>(if Xv k then[x]else[])++Mw n v
  |.Assign _ v _=>Mw n v
  |.Expr e _=>Mw n e
  |.Return (some e) _=>Mw n e
  |_=>[]
end Pu
end
namespace Pu
open PySem PySem.Spec PyProof.Rows L2
noncomputable def dj:D->D->Option D
 |.lst xs,.int i=>qM xs i
 |.tup xs,.int i=>qM xs i
 | .str z, .int i => if z.length <= aQ then (match qM z.cps.toList i with
  |some c=>some (.str ⟨#[c]⟩)
  |none=>none)else none
 |.ja false a,k=>(ka k).bind (wu a)
 |.ja true a,k=>(bw k).bind (i6 a)
 |_,_=>none
inductive tP(x:V)(y:V)(H:Hp)(Q:VK):Prop
 |mk (a v) (_:x=.ref a) (_:qL H a y (some v)) (_:Q v H):tP x y H Q
section
variable{X:Cx}{B:Hp}{E:EK}{a b:Expr}{g h:En->Res}{pos:Pos}
def Zm(m:X.A.units+5<cZ):sJ X tP:=by
 intro value c e s Z H x y v u Q I j i q n;obtain⟨l,w,rfl,f,q⟩:=q;cases j;exact tail_any (Gm I f) PySem.F.slot_dict_getitem.lookup (Pk m I f i λp r o d=>⟨w,H,o,d,q⟩) n
def Arg.u6{K:KA}{G H:Hp}{c:List (D×D)}{v:V}(s:bc G H)(h:Arg K G H (.ja true c) v):∃a es,v=.ref a/\Rd H a (.dT es)/\fc K G c es:=by
 obtain ⟨a,e,d⟩|⟨_,_,_,z,_⟩|⟨i,f,a,z,e,d⟩:=h
 ·obtain ⟨z,_⟩|⟨_,o,es,q,r⟩:=d
  ·cases z
  ·exact⟨a,es,e,.inr ⟨o,s _ _ q⟩,r⟩
 ·cases z
 ·cases z;obtain ⟨z,_⟩|⟨_,es,q,r⟩:=d
  ·cases z
  ·exact⟨a,es,e,.inl q,r⟩
def AA{K:KA}:ic K dj (λx y H Q=>RY K x y H Q\/tP x y H Q):=λG H x y I w d f o n e Q q=>by
 unfold dj at e;split at e
 ·obtain⟨l,p,rfl,r,dl⟩:=o.lst f;obtain⟨v,i,m⟩:=dl.qM e;exact .inl (.inl ⟨l,p,_,v,rfl,n.int,r,i,q _ G H (Ext.refl f) m⟩)
 ·obtain⟨l,p,rfl,r,dl⟩:=o.tup f;obtain⟨v,i,m⟩:=dl.qM e;exact .inl (.inr (.inl ⟨l,p,_,v,rfl,n.int,r,i,q _ G H (Ext.refl f) m⟩))
 ·split at e
  ·rename_i z;split at e
   ·rename_i c C;cases e;exact .inl (.inr (.inr ⟨_,_,c,o.str,n.int,z,C,q _ G H (Ext.refl f) rfl⟩))
   ·cases e
  ·cases e
 ·cases ek:ka w with
  |none=>rw[ek]at e;cases e
  |some j=>
   rw[ek]at e;obtain⟨l,u,rfl,s,dl⟩:=Arg.tX f o;obtain⟨v,i,m⟩:=(dl.look j).1 d e;rw[zx n ek];refine .inr ⟨l,v,rfl,?_,q _ G H (Ext.refl f) m⟩;rw[<-i];exact qL.k s
 ·cases ek:bw w with
  |none=>rw[ek]at e;cases e
  |some j=>
   rw[ek]at e;obtain⟨l,u,rfl,s,dl⟩:=Arg.u6 f o;obtain⟨v,i,m⟩:=(dl.look j).1 d e;obtain⟨b,rfl,A⟩:=Arg.keys f n ek;refine .inr ⟨l,v,rfl,?_,q _ G H (Ext.refl f) m⟩;rw[<-i];exact .inr ⟨u,j,b,s,rfl,A,rfl⟩
 ·cases e
def MR(c:X.A.units+5<cZ)(f:k9 X B E a g)(e:k9 X B E b h)(d:Ea b:=by intro _ _;rfl):gj X B E (.Subscript a b pos) (g2 dj g h):=PE.imp (MX (FH.or (Zm c)) f e d) λZ H Q q=>OV AA q
end
end Pu
namespace L2
open PySem PySem.Spec PyProof.Rows
def Inv.drew{X:Cx}{a:List (Addr×Obj)}{Z:St}{H:Hp}{s:aI}(I:Inv X a Z H s)(c:Drawn):Inv X a Z H {s with drawn:=c}:=by
 have:=I.step (g':=s.gens) (d':=c) (t':=s.toks) (ch:=[]) (λ_ z=>nomatch z) (λb o _ _ _ e _=>e) (λb o _ _ _ e _=>⟨o.slots,e⟩) (λb o _ _ n=>n) (λb o _ e=>⟨o,e⟩) (λ_ _ z=>z) (λ_ _ _ z=>z) (λ_ _ z=>z) (λ_ z=>z) I.ez I.bare;exact this
end L2
namespace Pu
open PySem PySem.Spec PyProof.Rows L2 PySem.SeqAt PySem.W
def Yw{K:KA}{G:Hp}{a:List D}{b:List V}(dl:br K G a b):∀{e:List Nat},(∀i∈e,i<a.length)->br K G (e.map λi=>a.getD i D.hZ) (e.map λi=>b.getD i V.hZ):=by
 intro c;induction c with
 |nil=>rintro _;exact rfl
 |cons i r g=>
  rintro h
  refine⟨_,_,rfl,?_,g λj m=>h j (.tail _ m)⟩;have f:∀{a:List D}{b:List V}(i:Nat),br K G a b->i<a.length->Den K G (a.getD i D.hZ) (b.getD i V.hZ):=by
   intro a;induction a with
   |nil=>intro b i _ h;simp at h
   |cons d a l=>
    intro b i dl h;obtain⟨v,p,rfl,n,o⟩:=dl;cases i with
    |zero=>exact n
    |succ i=>simpa using l i o (by simpa using h)
  exact f i dl (h i (.head _))
def CI{a:List V}{b:List aG}(r:Vals a b):∀{d:List Nat},(∀i∈d,i<a.length)->Vals (d.map λi=>a.getD i V.hZ) (d.map λi=>b.getD i eK):=by
 intro c;induction c with
 |nil=>rintro _;exact .nil
 |cons i q f=>
  rintro h
  refine .cons ?_ (f λj l=>h j (.tail _ l));have e:∀{a:List V}{b:List aG}(i:Nat),Vals a b->i<a.length->RelV (a.getD i V.hZ) (b.getD i eK):=by
   intro a b i r;induction r generalizing i with
   |nil=>intro h;simp at h
   |cons m t g=>
    intro h;cases i with
    |zero=>exact m
    |succ i=>simpa using g i (by simpa using h)
  exact e i r (h i (.head _))
noncomputable def Up:D->Option (List Int)
 |.int i=>some [i]
 |_=>none
def kf:List D->Option (List (List Int))
 |[]=>some []
 |d::a=>match Up d,kf a with
  |some k,some r=>some (k::r)
  |_,_=>none
def Zq(h:Up d=some k):∃i,k=[i]/\d=.int i:=by
 cases d with
 |int i=>cases h;exact⟨i,rfl,rfl⟩
 |_=>cases h
def ma(h:kf (d::c)=some e):∃k r,Up d=some k/\kf c=some r/\e=k::r:=by
 unfold kf at h;cases a:Up d with
 |none=>rw[a]at h;cases h
 |some k=>
  cases b:kf c with
  |none=>rw[a,b]at h;cases h
  |some r=>rw[a,b]at h;cases h;exact⟨k,r,rfl,rfl,rfl⟩
def jx(b:List D):Option (Bool×List (List Int)):=match kd b with
 |some a=>some (true,a)
 |none=>(kf b).map λa=>(false,a)
def Qa:∀{e:List D}{a:List (List Int)},kd e=some a->a.length=e.length:=by
 intro b;induction b with
 |nil=>rintro a h;cases h;rfl
 |cons d e c=>
  rintro a h
  obtain⟨k,r,_,f,rfl⟩:=l9 h;rw[aE,aE,c f]
def Qb:∀{e:List D}{a:List (List Int)},kf e=some a->a.length=e.length:=by
 intro b;induction b with
 |nil=>rintro a h;cases h;rfl
 |cons d e c=>
  rintro a h
  obtain⟨k,r,_,f,rfl⟩:=ma h;rw[aE,aE,c f]
def uy{a:List D}{c:List (List Int)}(h:jx a=some (b,c)):c.length=a.length:=by
 unfold jx at h;split at h
 ·rename_i e;cases h;exact Qa e
 ·cases e:kf a with
  |none=>rw[e]at h;cases h
  |some k=>rw[e]at h;cases h;exact Qb e
noncomputable def ik(a:List D):Option (List D):=if a.length<2 then some a else if a.length<100000 then(match jx a with
  |some (_,b)=>if b.Nodup then some ((tw (b.zip a)).map (·.2))else none
  |none=>none)else none
noncomputable def mh:D->Option D
 |.lst a=>(ik a).map .lst
 |_=>none
def Cf{a d:List D}(h:ik a=some d):a.length<100000/\((a.length<2/\d=a)\/(2<=a.length/\∃b e,jx a=some (b,e)/\e.Nodup/\d=(tw (e.zip a)).map (·.2))):=by
 unfold ik at h
 by_cases g:a.length<2
 ·rw[aN g]at h;cases h;exact⟨by lia,.inl ⟨g,rfl⟩⟩
 ·rw[aK g]at h
  by_cases c:a.length<100000
  ·rw[aN c]at h;cases i:jx a with
   |none=>rw[i]at h;cases h
   |some p=>
    obtain⟨b,e⟩:=p;rw[i]at h;dsimp only at h
    by_cases f:e.Nodup
    ·rw[aN f]at h;cases h;exact⟨c,.inr ⟨by lia,b,e,rfl,f,rfl⟩⟩
    ·rw[aK f]at h;cases h
  ·rw[aK c]at h;cases h
section
variable{X:Cx}{pins:List (Addr×Obj)}{Z:St}{G H:Hp}{s:aI}
def Qd(I:Inv X pins Z H s)(u:bc G H):∀{g:List D}{c:List (List Int)}{a:List V}{b:List aG},kf g=some c->br (kx X) G g a->Vals a b->KeysAre s false b c:=by
 intro e;induction e with
 |nil=>
  rintro c a b h dl r
  cases h;cases (dl);cases r;trivial
 |cons d g f=>
  rintro c a b h dl r
  obtain⟨k,w,n,m,rfl⟩:=ma h;obtain⟨v,q,rfl,o,p⟩:=dl;obtain⟨i,rfl,rfl⟩:=Zq n;cases o;cases r with
  |cons j l=>
   obtain⟨t,rfl⟩:=j;exact⟨⟨i,t,rfl,rfl⟩,f m p l⟩
def Lb(I:Inv X pins Z H s)(a:bc G H)(h:jx c=some (b,g))(dl:br (kx X) G c d)(r:Vals d f):KeysAre s b f g:=by
 unfold jx at h;split at h
 ·rename_i e;cases h;exact Ur I a e dl r
 ·cases e:kf c with
  |none=>rw[e]at h;cases h
  |some k=>rw[e]at h;cases h;exact Qd I a e dl r
end
section
variable{X:Cx}{B:Hp}{E:EK}{e:Expr}{g:En->Res}{pos p:Pos}
def za{f:List (Addr×Obj)}{Z:St}{G H:Hp}{s:aI}{a:Addr}{h:List D}{Q:VK}(hu:X.A.units+5<cZ)(I:Inv X f Z H s)(sg:bc G H)
  (δ:∀(Q':List aG->aI->Prop)(E':aG->aI->Prop),(∀d' h' u c C n,(∀b o,s.1.get? b=some o->h'.get? b=some o)->Vals C c->br (kx X) G n C->ik n=some h->Q' c {s with heap:=h',toks:=u,drawn:=d'})->bF (bB X.prog X.w) X.A.in1 (collect (.ref a)) Q' E' s)
  (q:∀p d,H p=none->br (kx X) G h d->Q (.ref p) (upd H p (.lst d))):bF (bB X.prog X.w) X.A (call (.builtin "sorted") [.ref a]) (EP X f Z Q) X.xe s:=by
 refine Calls.call_function_entry kind_sorted plain_sorted entry_sorted (args_sorted1 _) ?_;refine aC (aD (aC (δ _ _ λd0 j u c C n k1 J dl e=>?_)));obtain⟨χ,hh⟩:=Cf e;have n1:=J.length.symm;have O:=dl.length.symm;have zl:c.length<=aQ:=by rw[cR];lia
 refine aC (wpAny_newList ?_ zl);have I1:Inv X f Z H {s with heap:=j,toks:=u,drawn:=d0}:=(I.drew d0).kept k1;have m:(j.push _).get? j.objs.size=some (seqObj "list" c.toArray 0):=aT _ rfl;have M:∀b o,j.get? b=some o->(j.push (seqObj "list" c.toArray 0)).get? b=some o/\b≠j.objs.size:=λb o e=>⟨aH _ e,bL (aV e)⟩;have hR:2<=c.length->Eb X.prog X.w X.A.in1.in1 c c (λp=>c8 c.length p/\∃b l,jx n=some (b,l)/\l.Nodup/\So (As l) p c.length/\h=(tw (l.zip n)).map _) {s with heap:=Z3 _ j.objs.size c,toks:=u,drawn:=d0}:=λh2=>by
  obtain ⟨z,_⟩|⟨_,b,l,N,L,Y⟩:=hh
  ·lia
  ·intro E';refine cJ (IL (A:=X.A.in1.in1) (vs:=c) (Lb (I1.kept λb o e=>U8 (M b o e).1 (M b o e).2) sg N dl J) h2 L (by show X.A.units+1+1+1<cZ;lia) E') (λκ s' g=>⟨g.1,λE2=>cJ (g.2 E2) (λr s2 g2=>?_) λ_ _ x=>x⟩) λ_ _ x=>x;obtain⟨g1,g2,p,⟨g3,g4⟩,g5,g6⟩:=g2;exact⟨g1,g2,p,⟨g3,b,l,N,L,g4,Y⟩,g5,g6⟩
 refine aC (cX (cL slot_list_sort ⟨_,m,rfl⟩ entry_list_sort (Mp m (by lia) hR λv ho=>⟨_,rfl,aD ⟨_,rfl,?_⟩⟩) (args_list_sort _)));obtain⟨ep,α⟩:=sortedHeap_at m;have T:∃d,br (kx X) G h d/\Vals d v:=by
  obtain ⟨z,rfl⟩|⟨z,p,⟨hp,b,l,N,L,hs,Y⟩,υ,rfl⟩:=ho
  ·obtain ⟨_,rfl⟩|⟨z2,_⟩:=hh
   ·exact⟨C,dl,J⟩
   ·lia
  ·have y:c8 n.length p:=by rwa [<-O,<-n1]
   have lt:∀i∈p.toList,i<n.length:=λi U=>List.mem_range.mp (y.mem_iff.mp U);rw[Y,<-ko (uy N) L y (by rwa [<-O,<-n1])];exact⟨_,Yw dl lt,CI J λi U=>by rw[O];exact lt i U⟩
 obtain⟨d,d',v'⟩:=T;refine⟨.ref j.objs.size,_,I1.laid (o:=.lst d) (t':=u) (λb o e=>?_) (aJ _) ⟨(by rwa [v'.length,ho.len]),v,ep,v',α⟩,rfl,q _ d (I1.ez.fresh (aJ _)) d'⟩;rw[sortedHeap_old (M b o e).2 (by rw[eN];exact fZ (aV e))];exact(M b o e).1
def Mq(y:X.A.units+5<cZ)(I:Inv X d Z H s)(v:bc G H)(x:Vals r f)(dl:br (kx X) G u r)(e:ik u=some l)
  (m:∀(i:List aG->aI->Prop)(n:aG->aI->Prop),(∀h j,(∀b o,s.1.get? b=some o->h.get? b=some o)->i f {s with heap:=h,toks:=j})->bF (bB X.prog X.w) X.A.in1 (collect (.ref a)) i n s)
  (q:∀p c,H p=none->br (kx X) G l c->Q (.ref p) (upd H p (.lst c))):bF (bB X.prog X.w) X.A (call (.builtin "sorted") [.ref a]) (EP X d Z Q) X.xe s:=
 za y I v (λi n z=>m i n λh j k=>z s.drawn h j f r u k x dl e) q
def qI(h:Heap)(d:Addr)(es:Array oY)(a:Nat):Prop:=∃o,h.get? d=some o/\o.ExactDict/\o.data=.dict es a
section
variable{prog:bH}{w:bV}{A:cB}{E:aG->aI->Prop}{s:aI}{d:Addr}{es:Array oY}{ep:Nat}
def qI.ty(h:qI s.1 d es ep):s.TypeIs (.ref d) "dict":=let ⟨o,b,a,_⟩:=h;⟨o,b,a.1⟩
def W0(h:(d==gE)=false)(f:qI s.1 d es ep)
  (i:Q (.ref s.1.1.size) {s with heap:=s.1.push {cls:=.type "dict_keyiterator",data:=.fields #[.ref d,.int 0 0,.int es.size 0,.int ep 0]}}):
  bF (bB prog w) A (pQ (.ref d)) Q E s:=by
 have b:=f.ty;obtain⟨o,c,j,a⟩:=id f;refine iI b F.slot_dict_iter (cL F.slot_dict_iter b F.entry_dict_iter ?_ (F.args_dict_iter_1 _));refine aC ?_;refine aC (jL b ?_);refine aD ?_;show bF _ _ (mC d>>=_) _ _ s;unfold mC;rw[aK (by rw[h];exact Bool.false_ne_true)];refine aC (aD ?_);refine aC (fY c a ?_);refine aC (jK c a ?_);refine aC (dI (aD ⟨_,rfl,"dict_keyiterator",_,⟨_,aT _ rfl,rfl⟩,F.slot_dict_keyiterator_next.lookup,?_⟩));simpa[eA]using i
def Wz(a:s.1.IsKeyIter it d i es.size ep)(q:qI s.1 d es ep)(f:i<es.size)
  (v:∀m,m.IsKeyIter it d (i+1) es.size ep->cQ it s.1 m->Q (some es[i].key) {s with heap:=m}):bF (bB prog w) A (nA (.ref it)) Q E s:=by
 obtain⟨o,l,u,j⟩:=id a;obtain⟨od,c,r,h⟩:=id q;refine aC (gQ (dR a.typeIs gG
  (cL gG a.typeIs mW ?_ (mI _))))
 refine aC (aD ?_);refine aC ?_;refine aC ?_
 first|refine aC (fQ a.typeIs (aD ?_))|refine aC _
 refine aC (gW l j ?_);have n:eQ "dict_keyiterator"=false:=by decide
 show bF _ _ _ _ _ s;refine aC (aD ?_);refine aC (fY c h ?_);rw[aK (by simp)];refine aC (aD ?_);refine aC (jK c h ?_);rw[aK (by simp)];refine aD ?_;simp only[by omega,if_false,dU,bQ f];refine aC ?_
 first|refine aC (fQ a.typeIs (aD ?_))|refine aC _
 refine aC (wpAny_isOneOf_keyiter a.typeIs ?_);show bF _ _ (setField _ 1 _>>=_) _ _ s;refine aC (fR l j (by simp) ?_);have b:(s.1.update it (oP (·.setIfInBounds 1 (eA (i+1))))).IsKeyIter it d (i+1) es.size ep:=
  ⟨_,cE _ l (Obj.isFreed_of_fields (Obj.data_mapFields j _)),(Obj.cls_mapFields ..).trans u,by rw[Obj.data_mapFields j];simp[eA]⟩
 refine aC (cX ?_);refine aC (wpAny_isOneOf_keyiter b.typeIs ?_);exact aD (aD ⟨_,rfl,aD (v _ b (cC ..))⟩)
def BI(n:A.handled=none)(a:s.1.IsKeyIter it d es.size es.size ep)(l:qI s.1 d es ep)
  (r:∀j,pS it s.1 j->Q none {s with heap:=j}):bF (bB prog w) A (nA (.ref it)) Q E s:=by
 obtain⟨o,h,u,i⟩:=id a;obtain⟨od,b,q,c⟩:=id l;refine aC (gQ (dR a.typeIs gG
  (cL gG a.typeIs mW ?_ (mI _))))
 refine aC (aD ?_);refine aC ?_;refine aC ?_
 first|refine aC (fQ a.typeIs (aD ?_))|refine aC _
 refine aC (gW h i ?_);have f:eQ "dict_keyiterator"=false:=by decide
 show bF _ _ _ _ _ s;refine aC (aD ?_);refine aC (fY b c ?_);rw[aK (by simp)];refine aC (aD ?_);refine aC (jK b c ?_);rw[aK (by simp)];refine aD ?_;simp only[by omega,if_false,dU,Array.getElem?_eq_none (aJ es.size)];refine aC ?_
 first|refine aC (fQ a.typeIs (aD ?_))|refine aC _
 show bF _ _ (setField _ 0 .none>>=_) _ _ s;refine aC (fR h i (by simp) ?_);refine aC ?_;refine aC (m:=gX _ _) (lC (by first|rfl|(simp only[gX];rfl)) ?_);refine dI ?_ (by size_fits);refine aC (oQ ?_);rw[n];refine aC (aD (pT ?_));refine aC (fH ⟨_,aT _ rfl,rfl⟩ nZ ?_);exact aD (r _ (((cC ..).extBut.push _).push _))
end
def gT(G H:Hp):Hp:=λb=>match H b with
 |some (.tup a)=>some (.tup a)
 |_=>G b
def xw(h:H b=some (.tup a)):gT G H b=some (.tup a):=by unfold gT;rw[h]
def Ey(h:∀a,H b≠some (.tup a)):gT G H b=G b:=by
 unfold gT;split
 ·rename_i a e;exact absurd e (h a)
 ·rfl
def xu(d:bc G H):Ext G H (gT G H) H:=by
 refine⟨λb u q=>?_,bc.refl H,λb u q=>?_,λb u q g z=>?_⟩
 ·have:=d b u q
  by_cases c:∃a,u=.tup a
  ·obtain⟨a,rfl⟩:=c;exact xw this
  ·rw[Ey λa e=>c ⟨a,by rw[this]at e;cases e;rfl⟩];exact q
 ·by_cases c:∃a,H b=some (.tup a)
  ·obtain⟨a,e⟩:=c;rw[xw e]at q;rwa [e]
  ·rw[Ey λa e=>c ⟨a,e⟩]at q;exact d b u q
 ·rw[Ey λa e=>by rw[q]at e;cases e;cases z];exact g
def Tb{K:KA}{G:Hp}(k:iu):Den K G (kD k) (kV k):=by cases k<;>exact rfl
def Yx{K:KA}{G:Hp}:∀c:List iu,br K G (c.map kD) (c.map kV):=by
 intro a;induction a with
 |nil=>exact rfl
 |cons k r b=>exact⟨_,_,rfl,Tb k,b⟩
def Gh{K:KA}{G H:Hp}{k:NK}{v:V}(h:qd H k v):Den K (gT G H) (Lv k) v:=by
 cases k with
 |inl k=>rw[h];exact Tb k
 |inr a=>obtain⟨b,rfl,q⟩:=h;exact⟨b,_,rfl,xw q,Yx a⟩
def S9{K:KA}{G H:Hp}:∀{d:a7}{c:List V},sQ H d c->br K (gT G H) (d.map Lv) c:=by
 intro a;induction a with
 |nil=>rintro _ h;exact h
 |cons _ _ b=>rintro _ ⟨v,t,e,i,f⟩;exact⟨v,t,e,Gh i,b f⟩
def Tc{K:KA}{G H:Hp}{k:a7}{b:Addr}(h:ll H k b):Den K (gT G H) (kT k) (.ref b):=by
 obtain⟨a,d,c⟩:=h;exact⟨b,a,rfl,xw d,S9 c⟩
def Dh{K:KA}{G:Hp}:∀{a:List (D×D)}{es:List (a7×V)},fc K G a es->a.map (·.1)=es.map λp=>kT p.1:=by
 intro b;induction b with
 |nil=>rintro _ h;rw[h];rfl
 |cons _ _ c=>rintro _ ⟨k,v,r,i,f,_,d⟩;rw[i,aR,aR,c d,f]
def IP(X:Cx):List V->Hp->VK->Prop:=λxs H Q=>∃a d G f c,xs=[.ref a]/\fD X.K H a d/\bc G H/\br (kx X) G f d/\ik f=some c/\∀p b,H p=none->br (kx X) G c b->Q (.ref p) (upd H p (.lst b))
def Ke(n:X.A.units+5<cZ)(L:X.calm=true):hW X (.builtin "sorted") (IP X):=by
 intro f s Z H xs z Q I r q;obtain ⟨a,y,G,M,x,rfl,i,j,dl,e,q⟩:=q
 ·obtain⟨u,rfl,l⟩:=mq r;cases l;obtain⟨c,d,m,_⟩:=I.list i;have w:=(Cf e).1;have J:=d.length.symm;have C:=dl.length.symm;have h:c.length<=aQ:=by lia
  refine Mq n I j d dl e (λN O v=>collect_list m.isList (v _ _ λb o e=>?_) h) q;rw[Heap.get?_update_ne _ _ _ _ (bL (aV e))];exact aH _ e
def Q7(o:X.A.units+5<cZ)(u:X.calm=true)(s:Gl X "sorted")(r:X.mg "sorted"=none)(v:k9 X B E e g)(h:bM [e] X.env=(false,eval e X.env)::bM [] X.env):gj X B E (.Call (.Name "sorted" p) [e] [] pos) (g1 mh g):=
 PE.imp (og (Ke o u) s r PyProof.Rows.boot_sorted (ip v je h) (by decide) (by decide) h rfl) λZ H Q q=>Yp (λG H x z d b y a Q q=>by
  unfold mh at a;split at a
  ·rename_i i;cases e:ik i with
   |none=>rw[e]at a;cases a
   |some c=>
    rw[e]at a;cases a;obtain⟨l,m,rfl,n,dl⟩:=y.lst b;exact⟨l,m,G,i,c,rfl,n,b,dl,e,λp j f w=>q _ _ _ (Ext.new b _ f) (vy b f w)⟩
  ·cases a) q
end
end Pu
namespace Pu
open PySem PySem.Spec PyProof.Rows L2
def Bh(b:K3 d=some k)(a:kd c=some r):kd (d::c)=some (k::r):=by
 unfold kd;rw[b,a]
def Bj(b:Up d=some k)(a:kf c=some r):kf (d::c)=some (k::r):=by
 unfold kf;rw[b,a]
def Bi{o b:List D}(p:o.Perm b):∀{a:List (List Int)},kd o=some a->∃c,kd b=some c/\(c.zip b).Perm (a.zip o):=by
 induction p with
 |nil=>intro a h;exact⟨a,h,gS _⟩
 |cons x p u=>
  intro a h;obtain⟨k,r,n,m,rfl⟩:=l9 h;obtain⟨d,f,e⟩:=u m;exact⟨k::d,Bh n f,e.cons _⟩
 |swap x y l=>
  intro a h;obtain⟨k,r,n,m,rfl⟩:=l9 h;obtain⟨g,d,w,v,rfl⟩:=l9 m;exact⟨g::k::d,Bh w (Bh n v),iU _ _ _⟩
 |trans A z j i=>
  intro a h;obtain⟨B,f,e⟩:=j h;obtain⟨g,s,q⟩:=i f;exact⟨g,s,q.trans e⟩
def K8{o b:List D}(p:o.Perm b):∀{a:List (List Int)},kf o=some a->∃c,kf b=some c/\(c.zip b).Perm (a.zip o):=by
 induction p with
 |nil=>intro a h;exact⟨a,h,gS _⟩
 |cons x p u=>
  intro a h;obtain⟨k,r,n,m,rfl⟩:=ma h;obtain⟨d,f,e⟩:=u m;exact⟨k::d,Bj n f,e.cons _⟩
 |swap x y l=>
  intro a h;obtain⟨k,r,n,m,rfl⟩:=ma h;obtain⟨g,d,w,v,rfl⟩:=ma m;exact⟨g::k::d,Bj w (Bj n v),iU _ _ _⟩
 |trans A z j i=>
  intro a h;obtain⟨B,f,e⟩:=j h;obtain⟨g,s,q⟩:=i f;exact⟨g,s,q.trans e⟩
def Mo{l d:List (List Int×D)}(p:d.Perm l)(c:(l.map (·.1)).Nodup):tw d=tw l:=by
 exact kR (λa b _ _ f e=>absurd (kQ f e) (kA _)) (xg ((p.map _).nodup_iff.mpr c)) (xg c) ((qz _).trans (p.trans (qz _).symm))
def Ho{f a:List D}(p:f.Perm a){l:List (List Int)}(h:jx f=some (b,l)):∃n d,jx a=some (n,d)/\(d.zip a).Perm (l.zip f):=by
 unfold jx at h⊢;cases e:kd f with
 |some k=>
  rw[e]at h;cases h;obtain⟨g,c,i⟩:=Bi p e;exact⟨true,g,by rw[c],i⟩
 |none=>
  rw[e]at h;cases m:kd a with
  |some g=>
   obtain⟨o,c,_⟩:=Bi p.symm m;rw[e]at c;cases c
  |none=>
   cases j:kf f with
   |none=>rw[j]at h;cases h
   |some k=>
    rw[j]at h;cases h;obtain⟨g,c,i⟩:=K8 p j;exact⟨false,g,by rw[c];rfl,i⟩
def Mm{e a c:List D}(p:e.Perm a)(h:ik e=some c):ik a=some c:=by
 have u:=p.length_eq;obtain⟨s,r⟩:=Cf h;obtain ⟨m,rfl⟩|⟨m,b,q,j,v,rfl⟩:=r
 ·have:a=c:=by
   match c,a,m,p with
   |[],l,_,p=>exact List.Perm.nil_eq p|>.symm
   |[x],l,_,p=>exact(List.singleton_perm.mp p).symm▸rfl
  rwa [this]
 ·obtain⟨y,d,g,f⟩:=Ho p j;have w:=uy j;have o:=uy g;have i:((q.zip e).map (·.1)).Nodup:=by rwa [oX (by lia)]
  have n:d.Nodup:=by
   have:=(f.map (·.1)).nodup_iff.mpr i;rw[oX (by lia)]at this;exact this
  unfold ik;rw[aK (by lia),aN (by lia),g];dsimp only;rw[aN n,Mo f i]
end Pu
namespace ST
open PySem PySem.SetTable
def Ry(mask:Nat)(p:Probe):Probe:=if p.more>0 then{p with j:=p.j+1,more:=p.more - 1}else
 {p with j:=(leap mask p.i p.perturb).1,more:=runEnd mask (leap mask p.i p.perturb).1 - (leap mask p.i p.perturb).1,i:=(leap mask p.i p.perturb).1,perturb:=(leap mask p.i p.perturb).2}
def it(mask:Nat):Nat->Probe->Probe
 |0,p=>p
 |n+1,p=>it mask n (Ry mask p)
def K1{mask:Nat}:∀(m n:Nat)(p:Probe),it mask (m+n) p=it mask n (it mask m p):=by
 intro a;induction a with
 |zero=>rintro n p;rw[eP];rfl
 |succ m b=>
  rintro n p
  rw[show m+1+n=(m+n)+1 by lia];exact b n _
def rG(mask:Nat)(h:Int):Probe:={j:=bits h % (mask+1),more:=runEnd mask (bits h % (mask+1)) - bits h % (mask+1),i:=bits h % (mask+1),perturb:=bits h,dummy:=none}
structure Val(mask:Nat)(p:Probe):Prop where
 more:p.more<=9
 i:p.i<=mask
 pt:p.perturb<2 ^ 64
 rQ:p.dummy=none
 j:p.j+p.more<=mask
def ye{mask i:Nat}(h:i<=mask):i<=runEnd mask i/\runEnd mask i<=mask/\runEnd mask i - i<=9:=by
 unfold runEnd;split<;>lia
def Ym(h:Int):bits h<2 ^ 64:=by
 unfold bits
 lia
def Ak(mask:Nat)(h:Int):Val mask (rG mask h):=by
 have e:bits h % (mask+1)<=mask:=Nat.le_of_lt_succ (Nat.mod_lt _ (Nat.succ_pos _));obtain⟨c,b,a⟩:=ye e;exact⟨a,e,Ym h,rfl,by show bits h % _+(runEnd mask _ - bits h % _)<=mask;lia⟩
def Bl(mask:Nat)(p:Probe):Nat:=(p.i * 5+1+p.perturb / 32) % (mask+1)
def Hs(mask:Nat)(p:Probe):Probe:={p with j:=Bl mask p,more:=runEnd mask (Bl mask p) - Bl mask p,i:=Bl mask p,perturb:=p.perturb / 32}
def xk{mask:Nat}{p:Probe}(v:Val mask p):Val mask (Hs mask p):=by
 have e:Bl mask p<=mask:=Nat.le_of_lt_succ (Nat.mod_lt _ (Nat.succ_pos _));obtain⟨c,b,a⟩:=ye e;exact⟨a,e,nV (Nat.div_le_self _ _) v.pt,v.rQ,by show Bl mask p+(runEnd mask _ - Bl mask p)<=mask;lia⟩
def CL{mask:Nat}{p:Probe}(v:Val mask p):Val mask (Ry mask p):=by
 unfold Ry;split
 ·exact⟨by have:=v.more;show p.more - 1<=9;lia,v.i,v.pt,v.rQ,by have:=v.j;show p.j+1+(p.more - 1)<=mask;lia⟩
 ·exact xk v
def X5{mask:Nat}:∀(n:Nat){p:Probe},Val mask p->Val mask (it mask n p):=by
 intro a;induction a with
 |zero=>rintro _ v;exact v
 |succ n b=>rintro _ v;exact b (CL v)
def N0{mask:Nat}:∀(k:Nat)(p:Probe),p.more=k->it mask (k+1) p=Hs mask p:=by
 intro a;induction a with
 |zero=>
  rintro p h
  show Ry mask p=_;unfold Ry;rw[aK (by lia)];rfl
 |succ k b=>
  rintro p h
  show it mask (k+1) _=_;have e:Ry mask p={p with j:=p.j+1,more:=p.more - 1}:=by unfold Ry;rw[aN (by lia)]
  rw[b _ (by rw[e];show p.more - 1=k;lia),e];rfl
def Hy(mask:Nat):Nat->Probe->Probe
 |0,p=>p
 |n+1,p=>Hy mask n (Hs mask p)
def FL{mask:Nat}:∀(k:Nat){p:Probe},Val mask p->∃m,m<=10 * k/\it mask m p=Hy mask k p:=by
 intro a;induction a with
 |zero=>rintro p v;exact⟨0,by lia,rfl⟩
 |succ k b=>
  rintro p v
  obtain⟨m,d,c⟩:=b (xk v);have:=v.more;exact⟨p.more+1+m,by lia,by rw[K1,N0 _ p rfl,c];rfl⟩
def N4{mask:Nat}:∀(m n:Nat)(p:Probe),Hy mask (m+n) p=Hy mask n (Hy mask m p):=by
 intro a;induction a with
 |zero=>rintro n p;rw[eP];rfl
 |succ m b=>
  rintro n p
  rw[show m+1+n=(m+n)+1 by lia];exact b n _
def O1{mask:Nat}:∀(n:Nat){p:Probe},Val mask p->Val mask (Hy mask n p):=by
 intro a;induction a with
 |zero=>rintro _ v;exact v
 |succ n b=>rintro _ v;exact b (xk v)
def Uy{mask:Nat}:∀(k:Nat)(p:Probe),(Hy mask k p).perturb=p.perturb / 32 ^ k:=by
 intro a;induction a with
 |zero=>rintro p;rw[Nat.pow_zero,Nat.div_one];rfl
 |succ k b=>
  rintro p
  show(Hy mask k _).perturb=_;rw[b,pG,Nat.mul_comm,<-Nat.div_div_eq_div_mul];rfl
def lc(mask:Nat):Nat->Nat->Nat
 |0,i=>i
 |n+1,i=>lc mask n ((i * 5+1) % (mask+1))
def Le{mask:Nat}:∀(m n i:Nat),lc mask (m+n) i=lc mask n (lc mask m i):=by
 intro a;induction a with
 |zero=>rintro n p;rw[eP];rfl
 |succ m b=>
  rintro n p
  rw[show m+1+n=(m+n)+1 by lia];exact b n _
theorem Li{mask:Nat}:∀(k:Nat){p:Probe},p.perturb=0->p.j=p.i->(Hy mask k p).i=lc mask k p.i/\(Hy mask k p).j=lc mask k p.i
 |0,p,h,e=>⟨rfl,e⟩
 |k+1,p,h,e=>by
  have:=Li (mask:=mask) k (p:=Hs mask p) (by show p.perturb / 32=0;rw[h]) rfl;have a:(Hs mask p).i=(p.i * 5+1) % (mask+1):=by show _ % _=_;rw[h]
  rw[a]at this;exact this
def Vm(mask:Nat):Nat->Nat->List Nat
 |0,_=>[]
 |n+1,i=>i::Vm mask n ((i * 5+1) % (mask+1))
def Ob{mask j:Nat}:∀{n i:Nat},j∈Vm mask n i->∃k,k<n/\lc mask k i=j:=by
 intro a;induction a with
 |zero=>rintro i h;cases h
 |succ n b=>
  rintro i h
  rcases List.mem_cons.mp h with h|h
  ·exact⟨0,by lia,h.symm⟩
  ·obtain⟨k,d,c⟩:=b h;exact⟨k+1,by lia,c⟩
def Mk(mask:Nat):Prop:=mask=7\/mask=31\/mask=127
def AU{mask:Nat}(a:Mk mask):(∀j,j<=mask->j∈Vm mask (mask+1) 0)/\lc mask (mask+1) 0=0:=by
 have g:∀m,((aS (m+1)).all λj=>(Vm m _ 0).contains j)=true->∀j,j<=m->j∈Vm m (m+1) 0:=λm h j b=>by
  have:=List.all_eq_true.mp h j (List.mem_range.mpr (by lia));simpa using this
 obtain rfl|rfl|rfl:=a
 ·exact⟨g _ (by decide+kernel),by decide+kernel⟩
 ·exact⟨g _ (by decide+kernel),by decide+kernel⟩
 ·exact⟨g _ (by decide+kernel),by decide+kernel⟩
def Hr{mask i j:Nat}(f:Mk mask)(l:i<=mask)(g:j<=mask):∃k,k<=mask/\lc mask k i=j:=by
 obtain⟨c,m⟩:=AU f;obtain⟨a,o,e⟩:=Ob (c i l);obtain⟨b,n,d⟩:=Ob (c j g)
 by_cases h:a<=b
 ·exact⟨b - a,by lia,by rw[<-e,<-Le,show a+_=b by lia,d]⟩
 ·exact⟨mask+1 - a+b,by lia,by rw[<-e,<-Le,show a+_=(mask+1)+b by lia,Le,m,d]⟩
def KN{mask j:Nat}{p:Probe}(e:Mk mask)(v:Val mask p)(f:j<=mask):∃m,m<10 * turns mask/\(it mask m p).j=j:=by
 have b:(Hy mask 13 p).perturb=0:=by
  rw[Uy];exact Nat.div_eq_of_lt (bS v.pt (by decide))
 have a:(Hy mask 13 p).j=(Hy mask 13 p).i:=by
  rfl
 obtain⟨k,h,d⟩:=Hr e (O1 13 v).i f;obtain⟨m,g,c⟩:=FL (13+k) v;refine⟨m,by unfold turns;lia,?_⟩;rw[c,N4,(Li k b a).2,d]
abbrev rL(xs:Array Nat):Prop:=xs.toList.Pairwise (· <·)
def rL.lt{xs:Array Nat}(h:rL xs){a b x y:Nat}(c:a<b)(e:xs[a]?=some x)(d:xs[b]?=some y):x<y:=by
 rw[<-bI]at e d;obtain⟨g,rfl⟩:=List.getElem?_eq_some_iff.mp e;obtain⟨f,rfl⟩:=List.getElem?_eq_some_iff.mp d;exact List.pairwise_iff_getElem.mp h a b g f c
def rL.inj(h:rL xs){a b x:Nat}(d:xs[a]?=some x)(c:xs[b]?=some x):a=b:=by
 rcases jQ a b with z|z|z
 ·exact absurd (h.lt z d c) (cP _)
 ·exact z
 ·exact absurd (h.lt z c d) (cP _)
def Ss{xs:Array Nat}(h:rL xs):∀(d lo c:Nat),c<=xs.size->lo<=c->c - lo<=d->(∀k x,k<lo->xs[k]?=some x->x<j)->(∀k x,c<=k->xs[k]?=some x->j<=x)->
  below.go xs j d lo c<=xs.size/\(∀k x,k<below.go xs j d lo c->xs[k]?=some x->x<j)/\(∀k x,below.go xs j d lo c<=k->xs[k]?=some x->j<=x):=by
 intro m;induction m with
 |zero=>
  rintro lo c i r q a b
  have:lo=c:=by lia
  subst this;exact⟨i,a,b⟩
 |succ d f=>
  rintro lo c i r q a b
  unfold below.go
  by_cases n:lo<c
  ·rw[aN n];have o:(lo+c) / 2<xs.size:=by lia
   have l:xs[(lo+c) / 2]?=some (xs.getD ((lo+c) / 2) j):=by
    simp[nW,o]
   by_cases g:xs.getD ((lo+c) / 2) j<j
   ·rw[aN g];refine f _ c i (by lia) (by lia) (λk x p e=>?_) b;rcases eO k _ with z|z
    ·exact kE (h.lt z e l) g
    ·have:k=(lo+c) / 2:=by lia
     subst this;rw[l]at e;cases e;exact g
   ·rw[aK g];refine f lo _ (by lia) (by lia) (by lia) a (λk x p e=>?_);rcases eO _ k with z|z
    ·have:=h.lt z l e;lia
    ·have:k=(lo+c) / 2:=by lia
     subst this;rw[l]at e;cases e;lia
  ·rw[aK n];have:lo=c:=by lia
   subst this;exact⟨i,a,b⟩
def vt{xs:Array Nat}(h:rL xs):below xs j<=xs.size/\(∀k x,k<below xs j->xs[k]?=some x->x<j)/\(∀k x,below xs j<=k->xs[k]?=some x->j<=x):=
 Ss h xs.size 0 xs.size (aJ _) (by lia) (by lia) (λk x b=>by lia) λk x b a=>by
  obtain⟨z,_⟩:=Array.getElem?_eq_some_iff.mp a
  lia
def Sr(h:rL xs)(e:xs[i]?=some j):below xs j=i:=by
 obtain⟨_,d,c⟩:=vt h;rcases jQ i _ with z|z|z
 ·exact absurd (d i j z e) (cP _)
 ·exact z.symm
 ·have b:below xs j<xs.size:=by
   obtain⟨q,_⟩:=Array.getElem?_eq_some_iff.mp e
   lia
  have a:=bQ b;have:=c _ _ (aJ _) a;have:=h.lt z a e
  lia
def D2{t:cT}(h:rL t.place)(e:t.place[i]?=some j):t.slot j=.live i:=by
 unfold slot;rw[Sr h e];rw[aN (by rw[e];exact beq_self_eq_true _)]
def Mi{t:cT}(a:t.dummies=#[])(e:j∉t.place.toList):t.slot j=.empty:=by
 unfold slot;rw[aK (λz=>e (by
  have z:t.place[below t.place j]?=some j:=by simpa using z
  rw[<-bI]at z;exact bR z)),a]
 rfl
def Mh{t:cT}(h:rL t.place)(b:t.dummies=#[])(j:Nat):(∃i,t.place[i]?=some j/\t.slot j=.live i)\/(j∉t.place.toList/\t.slot j=.empty):=by
 by_cases e:j∈t.place.toList
 ·obtain⟨i,a⟩:=eL e;rw[bI]at a;exact .inl ⟨i,a,D2 h a⟩
 ·exact .inr ⟨e,Mi b e⟩
def V8:∀(n:Nat)(l:List Nat),l.length<n->∃j,j<n/\j∉l:=by
 intro a;induction a with
 |zero=>rintro l h;lia
 |succ n b=>
  rintro l h
  by_cases e:n∈l
  ·obtain⟨j,d,c⟩:=b _ (by rw[List.length_erase_of_mem e];have:=List.length_pos_of_mem e;lia);exact⟨j,by lia,λz=>c ((List.mem_erase_of_ne (by lia)).mpr z)⟩
  ·exact⟨n,by lia,e⟩
theorem Nt{t:cT}(n:rL t.place)(q:t.dummies=#[]):∀(fuel:Nat)(p:Probe),p.dummy=none->(∃m,m<fuel/\(it t.mask m p).j∉t.place.toList)->
  ∃m,m<fuel/\(∀a,a<m->∃i,t.place[i]?=some (it t.mask a p).j/\hashAt i≠h)/\
   (((it t.mask m p).j∉t.place.toList/\probe.go t hashAt h fuel p=some (.empty (it t.mask m p).j none))\/
    ∃i,t.place[i]?=some (it t.mask m p).j/\hashAt i=h/\probe.go t hashAt h fuel p=some (.candidate (it t.mask m p).j i (it t.mask (m+1) p)))
 |0,p,_,f=>by obtain⟨m,v,_⟩:=f;lia
 |fuel+1,p,o,e=>by
  obtain⟨g,v,r⟩:=e;rcases Mh n q p.j with ⟨i,b,d⟩|⟨b,d⟩
  ·by_cases c:hashAt i=h
   ·refine⟨0,by lia,λa z=>by lia,.inr ⟨i,b,c,?_⟩⟩;unfold probe.go;rw[d];dsimp only;rw[aN (by rw[c];exact beq_self_eq_true _)];rfl
   ·have u:g≠0:=λz=>by
     subst z;rw[<-bI]at b;exact r (bR b)
    obtain⟨k,rfl⟩:∃k,g=k+1:=⟨g - 1,by lia⟩;have l:(Ry t.mask p).dummy=none:=by unfold Ry;split<;>exact o
    obtain⟨m,y,s,x⟩:=Nt (h:=h) n q fuel _ l ⟨k,by lia,r⟩;have w:probe.go t hashAt h (fuel+1) p=probe.go t hashAt h fuel (Ry t.mask p):=by
     rw[probe.go,d];dsimp only;rw[aK (by simpa using c)];rfl
    refine⟨m+1,by lia,λa z=>?_,?_⟩
    ·cases a with
     |zero=>exact⟨i,b,c⟩
     |succ a=>exact s a (by lia)
    ·rwa [w]
  ·refine⟨0,by lia,λa z=>by lia,.inl ⟨b,?_⟩⟩;unfold probe.go;rw[d];rw[o];rfl
def fk(mask:Nat)(h:Int)(m:Nat):Nat:=(it mask m (rG mask h)).j
def Oe{mask m:Nat}{h:Int}:fk mask h m<=mask:=by
 have:=(X5 m (Ak mask h)).j;unfold fk
 lia
structure qw(t:cT)(hs:List Int):Prop where
 mask:Mk t.mask
 rQ:t.dummies=#[]
 len:t.place.size=hs.length
 rise:rL t.place
 le:∀j∈t.place.toList,j<=t.mask
 room:t.place.size<=t.mask
 reach:∀q∈t.place.toList.zip hs,∃m,fk t.mask q.2 m=q.1/\∀m',m'<m->fk t.mask q.2 m'∈t.place.toList
def qw.fits{t:cT}{a:List Int}(T:qw t a):t.place.size=a.length/\t.fill<=t.mask:=by
 refine⟨T.len,?_⟩;unfold fill;rw[T.rQ];exact T.room
def qw.empty{t:cT}(T:qw t c)(p:Probe)(v:Val t.mask p):∃m,m<10 * turns t.mask/\(it t.mask m p).j∉t.place.toList:=by
 obtain⟨j,e,d⟩:=V8 (t.mask+1) t.place.toList (by have:=T.room;rw[aO];lia);obtain⟨m,b,a⟩:=KN T.mask v (j:=j) (by lia);exact⟨m,b,by rwa [a]⟩
def qw.probe{t:cT}(T:qw t l)(hashAt:Nat->Int)(h:Int)(m:Nat):∃c,m<=c/\(∀d,m<=d->d<c->∃i,t.place[i]?=some (fk t.mask h d)/\hashAt i≠h)/\
   ((fk t.mask h c∉t.place.toList/\t.probe hashAt h (it t.mask m (rG t.mask h))=some (.empty (fk t.mask h c) none))\/
   ∃i,t.place[i]?=some (fk t.mask h c)/\hashAt i=h/\t.probe hashAt h (it t.mask m (rG t.mask h))=some (.candidate (fk t.mask h c) i (it t.mask (c+1) (rG t.mask h)))):=by
 have v:=X5 m (Ak t.mask h);obtain⟨k,j,g,f⟩:=Nt (h:=h) T.rise T.rQ _ _ v.rQ (T.empty _ v);have e:∀n,_=it t.mask _ (rG t.mask h):=λn=>(K1 m n _).symm;refine⟨m+k,by lia,λd a b=>?_,?_⟩
 ·have:=g (d - m) (by lia);rw[e,show m+_=d by lia]at this;exact this
 ·rw[e,e]at f;exact f
def qw.first{t:cT}(T:qw t a)(h:Int):∃M,M<10 * turns t.mask/\fk t.mask h M∉t.place.toList:=T.empty _ (Ak t.mask h)
def X1{mask:Nat}(h:Mk mask):10 * turns mask<=1420:=by
 rcases h with rfl|rfl|rfl<;>decide
def fx(xs:Array α)(p:Nat)(x:α):(insertAt xs p x).toList=xs.toList.take p++x::xs.toList.drop p:=by
 unfold insertAt;simp[List.extract_eq_drop_take];exact dJ (by simp)
def Aa{l:List α}:y∈l.take p++x::l.drop p↔y=x\/y∈l:=by
 rw[nG,dM];constructor
 ·rintro (h|h|h)
  ·exact .inr (jZ h)
  ·exact .inl h
  ·exact .inr (jY h)
 ·rintro (h|h)
  ·exact .inr (.inl h)
  ·rw[<-cI p l,nG]at h;obtain h|h:=h
   ·exact .inl h
   ·exact .inr (.inr h)
def CH{l:List α}{r:List β}(a:l.length=r.length):(l.take p++x::l.drop p).zip (r.take p++y::r.drop p)=(l.zip r).take p++(x,y)::(l.zip r).drop p:=by
 rw[List.zip_append (by rw[dQ,dQ,a]),List.zip_cons_cons];unfold List.zip;rw[List.take_zipWith,List.drop_zipWith]
def qw.put{t:cT}(T:qw t d)(A:fk t.mask h m∉t.place.toList)(C:∀c,c<m->fk t.mask h c∈t.place.toList)(o:t.place.size+1<=t.mask):
  ∃p,p<=d.length/\(t.put (fk t.mask h m)).2=p/\qw (t.put (fk t.mask h m)).1 (d.take p++h::d.drop p)/\(t.put (fk t.mask h m)).1={t with place:=insertAt t.place p (fk t.mask h m),dummies:=#[]}:=by
 obtain⟨I,G,E⟩:=vt T.rise;have B:has t.dummies (fk t.mask h m)=false:=by rw[T.rQ];rfl
 have w:(t.put (fk t.mask h m)).1={t with place:=insertAt t.place (below t.place (fk t.mask h m)) (fk t.mask h m),dummies:=#[]}:=by
  unfold SetTable.put;rw[B,T.rQ];rfl
 refine⟨below t.place _,by rwa [<-T.len],rfl,?_,w⟩;rw[w];generalize H:below t.place _=p at *;have r:t.place.toList.length=d.length:=by exact T.len
 have lt:∀x∈t.place.toList.take p,x<fk t.mask h m:=λx b=>by
  obtain⟨i,a⟩:=eL b;rw[List.getElem?_take]at a;split at a
  ·rename_i z;rw[bI]at a;exact G i x z a
  ·cases a
 have v:∀x∈t.place.toList.drop p,fk t.mask h m<x:=λx b=>by
  obtain⟨i,a⟩:=eL b;rw[List.getElem?_drop,bI]at a;have u:=E _ x (iS p i) a;have s:x≠fk t.mask h m:=λz=>by
   subst z;rw[<-bI]at a;exact A (bR a)
  lia
 have n:(t.place.toList.take p).Pairwise (· <·)/\(t.place.toList.drop p).Pairwise (· <·):=by
  have:=T.rise;unfold rL at this;rw[<-cI p t.place.toList,List.pairwise_append]at this;exact⟨this.1,this.2.1⟩
 refine⟨T.mask,rfl,?_,?_,?_,?_,?_⟩
 ·rw[<-aO,fx];simp only[aM,dQ,aE,dE,r]
 ·show((insertAt t.place p _).toList).Pairwise _;rw[fx,List.pairwise_append];refine⟨n.1,List.pairwise_cons.mpr ⟨v,n.2⟩,λx b y e=>?_⟩;rcases List.mem_cons.mp e with rfl|e
  ·exact lt x b
  ·exact kE (lt x b) (v y e)
 ·rw[fx];intro j l;rcases Aa.mp l with rfl|l
  ·exact Oe
  ·exact T.le j l
 ·rw[<-aO,fx];simp only[aM,dQ,aE,dE,aO]
  lia
 ·rw[fx,CH r];intro q f;rcases Aa.mp f with rfl|f
  ·exact⟨m,rfl,λk g=>Aa.mpr (.inr (C k g))⟩
  ·obtain⟨c,u,s⟩:=T.reach q f;exact⟨c,u,λk g=>Aa.mpr (.inr (s k g))⟩
def Rm(d a:Nat)(led:Bool):qw (.fresh d a led) []:=⟨.inl rfl,rfl,rfl,iG,(λj c=>absurd (show j∈([]:List Nat)from c) (by simp)),bX _,(λq b=>absurd (b) (by simp))⟩
structure Own(mask:Nat)(owner:Array (Option Nat))(L:List Nat):Prop where
 size:owner.size=mask+1
 nd:L.Nodup
 le:∀j∈L,j<=mask
 at_:∀(j i:Nat),owner[j]?=some (some i)↔L[i]?=some j
def Own.none{mask:Nat}{a:Array (Option Nat)}{L:List Nat}(O:Own mask a L){j:Nat}(f:j<=mask):(a.getD j (some 0)).isNone=true↔j∉L:=by
 have b:j<a.size:=by rw[O.size];lia
 have d:a.getD j (some 0)=a[j]:=by simp[nW,b]
 rw[d];cases e:a[j]with
 |none=>
  refine⟨λ_ z=>?_,λ_=>rfl⟩;obtain⟨i,c⟩:=eL z;have:=(O.at_ j i).mpr c;rw[bQ b,e]at this;cases this
 |some i=>
  refine⟨λz=>(by cases z),λz=>absurd (bR ((O.at_ j i).mp ?_)) z⟩;rw[bQ b,e]
def Ud{mask:Nat}:∀(k:Nat)(p:Probe),k<=p.more->(it mask k p).j=p.j+k:=by
 intro a;induction a with
 |zero=>rintro p _;exact rfl
 |succ k b=>
  rintro p h
  show(it mask k _).j=_;have e:Ry mask p={p with j:=p.j+1,more:=p.more - 1}:=by unfold Ry;rw[aN (by lia)]
  rw[e,b _ (by show k<=p.more - 1;lia)];show p.j+1+k=p.j+_
  lia
def Kq:(∀k,(aS n).find? f=some k->k<n/\f k=true/\∀a,a<k->f a=false)/\((aS n).find? f=none->∀k,k<n->f k=false):=by
 refine⟨λk h=>?_,λh k g=>?_⟩
 ·have i:=List.mem_range.mp (List.mem_of_find?_eq_some h);refine⟨i,(List.find?_some h),λa e=>?_⟩;obtain⟨_,d,bs,c,j⟩:=List.find?_eq_some_iff_append.mp h;have l:d.length=k:=by
   have b:(aS n)[d.length]?=some k:=by rw[c];simp
   rw[kH (by
    have:=congrArg dH c;simp at this
    lia)]at b
   exact bN b
  have:a∈d:=by
   have b:(aS n)[a]?=some a:=kH (by lia);rw[c,cA (by lia)]at b;exact bR b
  simpa using j a this
 ·have:=List.find?_eq_none.mp h k (List.mem_range.mpr g);simpa using this
def Y8{mask:Nat}{c:Array (Option Nat)}{L:List Nat}(O:Own mask c L):∀(g:Nat)(p:Probe),Val mask p->p.j=p.i->p.more=runEnd mask p.i - p.i->(∃k,k<g/\(Hy mask k p).j∉L)->
  ∃m,layClean.free mask c g p.i p.perturb=some (it mask m p).j/\(it mask m p).j∉L/\∀d,d<m->(it mask d p).j∈L:=by
 intro l;induction l with
 |zero=>rintro p _ _ _ ⟨k,h,_⟩;lia
 |succ g o=>
  rintro p v u em ⟨k,hk,A⟩
  obtain⟨N,M,J⟩:=ye v.i;obtain⟨I,H⟩:=Kq (f:=λk=>(c.getD _ _).isNone);unfold layClean.free;cases e:(aS _).find? λk=>(c.getD _ _).isNone with
  |some q=>
   obtain⟨Q,E,C⟩:=I q e;have r:∀x,x<=q->(it mask x p).j=p.i+x:=λx Y=>by rw[Ud x p (by lia),u]
   refine⟨q,by rw[r q (aJ _)],?_,λd w=>?_⟩
   ·rw[r q (aJ _)];exact(O.none (by lia)).mp E
   ·rw[r d (by lia)];refine hJ λz=>?_;have:=(O.none (by lia)).mpr z;have:=C d w
    simp_all
  |none=>
   have all:=H e;have ne:k≠0:=λz=>by
    subst z;refine A ?_;refine hJ λz=>?_;have B:p.i+0∉L:=by rwa [Nat.add_zero,<-u]
    have a:=all 0 (by lia);have b:=(O.none (by lia)).mpr B
    simp_all
   obtain⟨n,rfl⟩:∃n,k=n+1:=⟨k - 1,by lia⟩;obtain⟨m,U,T,G⟩:=o _ (xk v) rfl rfl ⟨n,by lia,A⟩;have s:∀x,it mask _ p=it mask x _:=λx=>by rw[K1,N0 _ p rfl]
   refine⟨p.more+1+m,?_,?_,λd w=>?_⟩
   ·rwa [s]
   ·rwa [s]
   ·rcases eO d (p.more+1)with z|z
    ·rw[Ud d p (by lia),u];refine hJ λy=>?_;have a:=all d (by lia);have b:=(O.none (by lia)).mpr y
     simp_all
    ·have:=G (d - (p.more+1)) (by lia);rw[<-s,show p.more+1+_=d by lia]at this;exact this
def Y7{mask:Nat}{a:Array (Option Nat)}{L:List Nat}(f:Mk mask)(O:Own mask a L)(o:L.length<=mask)(h:Int):
  ∃m,layClean.free mask a (turns mask) (bits h % (mask+1)) (bits h)=some (fk mask h m)/\fk mask h m∉L/\∀c,c<m->fk mask h c∈L:=by
 obtain⟨j,n,l⟩:=V8 (mask+1) L (by lia);have v:=Ak mask h;have d:(Hy mask 13 (rG mask h)).perturb=0:=by
  rw[Uy];exact Nat.div_eq_of_lt (bS v.pt (by decide))
 have b:(Hy mask 13 (rG mask h)).j=(Hy mask 13 (rG mask h)).i:=by
  rfl
 obtain⟨k,g,e⟩:=Hr f (O1 13 v).i (show j<=mask by lia);exact Y8 O _ _ v rfl rfl ⟨13+k,by unfold turns;lia,by rwa [N4,(Li k d b).2,e]⟩
def Own.snoc{mask:Nat}{c:Array (Option Nat)}{L:List Nat}(O:Own mask c L){j:Nat}(m:j<=mask)(f:j∉L):Own mask (c.setIfInBounds j (some L.length)) (L++[j]):=by
 have g:j<c.size:=by rw[O.size];lia
 refine⟨by rw[Array.size_setIfInBounds];exact O.size,?_,?_,λx i=>?_⟩
 ·rw[jP];exact⟨O.nd,by simp,λa l b h=>by rw[List.mem_singleton.mp h];exact λz=>f (z▸l)⟩
 ·intro x d;rcases List.mem_append.mp d with d|d
  ·exact O.le x d
  ·rwa [List.mem_singleton.mp d]
 ·rw[Array.getElem?_setIfInBounds]
  by_cases e:j=x
  ·subst e;rw[aN rfl,aN g];constructor
   ·intro z;cases z;simp
   ·intro z;rcases jQ i L.length with y|y|y
    ·rw[cA y]at z;exact absurd (bR z) f
    ·rw[y]
    ·have:=(List.getElem?_eq_some_iff.mp z).1;simp at this
     lia
  ·rw[aK e,O.at_];rcases eO i L.length with y|y
   ·rw[cA y]
   ·rw[cK y,eI y];constructor
    ·intro z;cases z
    ·intro z;have:=List.mem_singleton.mp (bR z);exact absurd this.symm e
theorem Hq{mask:Nat}(n:Mk mask):∀(f:List Int)(a:Array (Option Nat))(L:List Nat)(c:List Int),Own mask a L->L.length=c.length->L.length+f.length<=mask->
  (∀q∈L.zip c,∃m,fk mask q.2 m=q.1/\∀d,d<m->fk mask q.2 d∈L)->
  ∃b e,f.foldl (init:=some (a,L.length)) (λl h=>do
    let (a,k) <-l;let j <-layClean.free mask a (turns mask) (bits h % (mask+1)) (bits h)
    pure (a.setIfInBounds j (some k),k+1))=some (b,e.length)/\Own mask b e/\e.length=(c++f).length/\
   ∀q∈e.zip (c++f),∃m,fk mask q.2 m=q.1/\∀d,d<m->fk mask q.2 d∈e
 |[],a,L,c,O,i,_,r=>⟨a,L,rfl,O,by rwa [bT],by rwa [bT]⟩
 |h::f,a,L,c,O,i,A,r=>by
  rw[aE]at A;obtain⟨m,v,u,s⟩:=Y7 n O (by lia) h;have w:(L++[fk mask h m]).length=L.length+1:=by simp
  obtain⟨b,e,p,C,B,o⟩:=Hq n f _ _ (c++[h]) (O.snoc Oe u) (by simp[i]) (by lia) (λq g=>by
   rw[List.zip_append i,List.zip_cons_cons,List.zip_nil_left]at g;rcases List.mem_append.mp g with g|g
   ·obtain⟨k,y,x⟩:=r q g;exact⟨k,y,λd z=>dG _ (x d z)⟩
   ·rw[List.mem_singleton.mp g];exact⟨m,rfl,λd z=>dG _ (s d z)⟩)
  refine⟨b,e,?_,C,by rw[B];simp,by
   rw[cD]at o;exact o⟩
  rw[pO];rw[w]at p;rw[<-p]
  congr 1
  show(layClean.free mask a _ _ _).bind _=_;rw[v];rfl
def PK(mask:Nat):Own mask (Array.replicate (mask+1) none) []:=by
 refine⟨by simp,fE,λj a=>(by cases a),λj i=>?_⟩;constructor
 ·intro h;rw[Array.getElem?_replicate]at h;split at h<;>cases h
 ·intro h;cases h
def Qg{mask:Nat}(e:Mk mask)(b:Array Int)(f:b.size<=mask):∃a L,layClean mask b=some a/\Own mask a L/\L.length=b.size/\
  ∀q∈L.zip b.toList,∃m,fk mask q.2 m=q.1/\∀c,c<m->fk mask q.2 c∈L:=by
 obtain⟨a,L,j,i,h,g⟩:=Hq e b.toList _ [] [] (PK mask) rfl (by simpa using f) (λq d=>by cases d);refine⟨a,L,?_,i,by simpa using h,by simpa using g⟩;unfold layClean;rw[<-Array.foldl_toList];exact congrArg _ j
def yw(mask:Nat)(a:Array (Option Nat)):List (Nat×Nat):=(aS (mask+1)).filterMap λj=>(a.getD j none).map (j,·)
def md{mask:Nat}{a:Array (Option Nat)}{L:List Nat}(O:Own mask a L){q:Nat×Nat}:q∈yw mask a↔L[q.2]?=some q.1:=by
 have e:∀j,j<mask+1->a[j]?=some (a.getD j none):=λj b=>by
  have d:j<a.size:=by rwa [O.size]
  simp[nW,d]
 unfold yw;rw[List.mem_filterMap];constructor
 ·rintro ⟨j,b,h⟩
  have b:=List.mem_range.mp b;cases c:a.getD j none with
  |none=>rw[c]at h;cases h
  |some i=>
   rw[c]at h;cases h;exact(O.at_ j i).mp (by rw[e j b,c])
 ·intro h;have b:=Nat.lt_succ_of_le (O.le _ (bR h));refine⟨q.1,List.mem_range.mpr b,?_⟩;have:=(O.at_ q.1 q.2).mpr h;rw[e _ b]at this;rw[bN this];rfl
def N3(mask:Nat)(c:Array (Option Nat)):(yw mask c).Pairwise λa b=>a.1<b.1:=by
 unfold yw;rw[List.pairwise_filterMap];refine lR ?_ lS;intro a b f x e y d;cases h:c.getD a none with
 |none=>rw[h]at e;cases e
 |some i=>
  cases g:c.getD b none with
  |none=>rw[g]at d;cases d
  |some k=>
   rw[h]at e;rw[g]at d;cases e;cases d;exact f
def Zv{mask:Nat}(r:Mk mask)(e:Array Int)(A:e.size<=mask)(M u:Nat)(led plain:Bool):∃g d,laid mask M u led plain e=some (g,d)/\g.mask=mask/\g.led=led/\g.plain=plain/\
  d.toList.Perm (aS e.size)/\qw g (d.toList.map λi=>e.toList.getD i 0):=by
 obtain⟨c,L,J,O,Q,I⟩:=Qg r e A;refine⟨_,_,by unfold laid;rw[J];rfl,rfl,rfl,rfl,?_,?_⟩
 ·refine(kB ?_ oV).mpr λi=>?_
  ·rw[List.Nodup,iH];refine List.Pairwise.imp_of_mem ?_ (N3 mask c);intro a b H E G z;have o:=(md O).mp H;rw[z,((md O).mp E)]at o;have:=bN o
   lia
  ·rw[iJ,List.mem_range];constructor
   ·rintro ⟨q,f,rfl⟩
    have:=(List.getElem?_eq_some_iff.mp ((md O).mp f)).1
    lia
   ·intro s;have p:i<L.length:=by lia
    exact⟨(L[i],i),(md O).mpr (aW p),rfl⟩
 ·have n:∀j,j∈(yw mask c).map (·.1)↔j∈L:=λj=>by
   rw[iJ];constructor
   ·rintro ⟨q,f,rfl⟩;exact bR ((md O).mp f)
   ·intro h;obtain⟨i,s⟩:=eL h;exact⟨(j,i),(md O).mpr s,rfl⟩
  have pw:((yw mask c).map (·.1)).Pairwise (· <·):=by rw[iH];exact N3 mask c
  have N:(yw mask c).length=e.size:=by have:=((kB (lR (λh=>bL h) pw) O.nd).mpr n).length_eq;rw[aF]at this;lia
  refine⟨r,rfl,?_,pw,λj B=>O.le j ((n j).mp B),?_,?_⟩
  ·simp
  ·show((yw mask c).map _).toArray.size<=mask;simp
   lia
  ·intro q f;rw[bW,List.zip_map',iJ]at f;obtain⟨x,l,rfl⟩:=f;have l:=(md O).mp l;have p:=(List.getElem?_eq_some_iff.mp l).1;have C:e.toList[x.2]?=some (e.toList.getD x.2 0):=by
    rw[aU,aW (by rw[aO];lia)];rfl
   obtain⟨m,w,v⟩:=I _ (by
    have:(L.zip e.toList)[x.2]?=some (x.1,e.toList.getD x.2 0):=by rw[List.getElem?_zip_eq_some];exact⟨l,C⟩
    exact bR this)
   exact⟨m,w,λy z=>(n _).mpr (v y z)⟩
structure qs(t:cT)(hs:List Int):Prop extends qw t hs where
 loose:t.place.size * 5<t.mask * 3
def Ri(b a:Nat)(led:Bool):qs (.fresh b a led) []:=⟨Rm b a led,by show 0 * 5<7 * 3;decide⟩
def qs.uO{t:cT}(S:qs t a):t.place.size+1<=t.mask:=by
 have:=S.loose;rcases S.mask with e|e|e<;>rw[e]at this⊢<;>lia
def t4{t:cT}(a:t.dummies=#[]):t.tooFull=decide (t.place.size * 5>=t.mask * 3):=by
 unfold tooFull fill;rw[a];rfl
def qs.uP{t:cT}{c:Array Int}(T:qw t c.toList)(h:(t.place.size - 1) * 5<t.mask * 3)(f:t.tooFull=true)(s:c.size<=76):
  sizeAbove (grown c.size)<=aQ/\∃d a,t.relaid c (grown c.size)=some (d,a)/\d.led=t.led/\d.plain=t.plain/\a.toList.Perm (aS c.size)/\qs d (a.toList.map λi=>c.toList.getD i 0):=by
 rw[t4 T.rQ]at f;have f:=of_decide_eq_true f;have o:=T.len;rw[aO]at o;have g:∀n b,sizeAbove (grown n) - 1=b->n=c.size->Mk b->n * 5<b * 3->n<=b->sizeAbove (grown n)<=aQ->sizeAbove (grown c.size)<=aQ/\∃d a,t.relaid c (grown c.size)=some (d,a)/\d.led=t.led/\d.plain=t.plain/\a.toList.Perm (aS c.size)/\qs d (a.toList.map λi=>c.toList.getD i 0):=by
  intro n b e u mk lo le m;subst u;refine⟨m,?_⟩;obtain⟨d,a,v,r,q,p,l,j⟩:=Zv mk c le t.finger _ t.led t.plain;refine⟨d,a,?_,q,p,l,j,?_⟩
  ·unfold relaid;rwa [e]
  ·rw[j.len,r];rwa [aF,l.length_eq,bZ]
 obtain e|e|e:=T.mask
 ·exact g 5 31 (by decide) (by lia) (.inr (.inl rfl)) (by decide) (by decide) (by decide)
 ·exact g 19 127 (by decide) (by lia) (.inr (.inr rfl)) (by decide) (by decide) (by decide)
 ·lia
end ST
namespace L2
open PySem PySem.Spec PyProof.Rows
def HV:iu->Bool
 |.inl _=>true
 |.inr _=>false
def JH:NK->Bool
 |.inl k=>HV k
 |.inr a=>a.all HV
section
variable{prog:bH}{w:bV}{A:cB}{E:aG->aI->Prop}{s:aI}
def Nu(n:Nat)(h:(ao prog w).is k v=true):pU n v=pure (HV k):=by
 rcases bp h with ⟨i,t,rfl,rfl⟩|⟨x,t,rfl,rfl⟩
 ·rw[hashByValue_scannable n rfl];rfl
 ·rw[hashByValue_scannable n rfl];rfl
def Zb{c:List iu}(d:eW (ao prog w) s.1 c a)(h:Q (c.all HV) s):bF (bB prog w) A (pU (n+1) (.ref a)) Q E s:=by
 have y:=d.typeIs;obtain⟨o,i,G,q,_,x,u⟩:=d;refine aC (jH y F.slot_tuple_hash.lookup ?_);refine aC (eZ q x ?_);refine aC ?_;rw[<-iX];refine fG _ (λrest r f=>r.1=none/\f=s/\∃left,ItemsAre (ao prog w) left rest/\left.all HV=c.all HV) _ ?_ ?_ _ _ ⟨rfl,rfl,c,u,rfl⟩
 ·rintro v rest r f ⟨l,rfl,left,j,b⟩
  cases j with
  |@cons k z g m d p=>
   rw[Nu n d];rw[cF]at b;cases e:HV k with
   |true=>
    rw[e,Bool.true_and]at b;exact aD ⟨rfl,rfl,g,p,b⟩
   |false=>
    rw[e,Bool.false_and]at b;refine aD (aD ?_);rw[<-b]at h;exact h
 ·rintro ⟨C,B⟩ f ⟨l,rfl,left,j,b⟩
  subst l;cases j;refine aD ?_;rw[<-b]at h;exact h
def FO(a:yb prog w s.1 k v)(h:Q (JH k) s):bF (bB prog w) A (pU 8 v) Q E s:=by
 cases k with
 |inl k=>rw[Nu _ a];exact aD h
 |inr c=>obtain⟨b,rfl,q⟩:=a;exact Zb q h
def Z8(n:Nat)(h:(ao prog w).is k v=true):oK n v=pure false:=by
 rcases bp h with ⟨i,t,rfl,rfl⟩|⟨x,t,rfl,rfl⟩<;>(cases n<;>rfl)
def N9(b:eW (ao prog w) s.1 j a)(h:Q false s):bF (bB prog w) A (oK (n+1) (.ref a)) Q E s:=by
 have u:=b.typeIs;obtain⟨o,e,B,m,_,q,p⟩:=b;unfold oK;refine aC (kG u ?_);show bF _ _ ((if("tuple"=="tuple")=true then pure true else isSubtype (.type "tuple") (.type "tuple"))>>=_) _ _ s;refine aC (aD ?_);refine aC (eZ m q ?_);refine aC ?_;rw[<-iX];refine fG _ (λrest r c=>r.1=none/\c=s/\∃left,ItemsAre (ao prog w) left rest) _ ?_ ?_ _ _ ⟨rfl,rfl,j,p⟩
 ·rintro v rest r c ⟨f,rfl,left,g⟩
  cases g with
  |@cons k x d i b l=>
   rw[Z8 n b];refine aC (aD ?_);exact aD ⟨rfl,rfl,d,l⟩
 ·rintro ⟨z,y⟩ c ⟨f,rfl,left,g⟩
  subst f;exact aD h
abbrev Sf(prog:bH)(w:bV)(h:Heap)(y:aG):Prop:=∃c a,y=.ref c/\eW (ao prog w) h a c
def JQ{m:List iu}(i:eW (ao prog w) s.1 m b)(d:∀y∈l,Sf prog w s.1 y)(h:Q false s):bF (bB prog w) A (searchCouldBeSeen (.ref b) l) Q E s:=by
 refine aC ?_;refine fG _ (λrest r a=>r.1=none/\a=s/\∀y∈rest,Sf prog w s.1 y) _ ?_ ?_ _ _ ⟨rfl,rfl,d⟩
 ·rintro v rest r a ⟨g,rfl,e⟩
  obtain⟨c,p,rfl,j⟩:=e v aZ;have f:∀y∈rest,Sf prog w a.1 y:=λy d=>e y (aY _ d);dsimp only;split
  ·exact aD ⟨rfl,rfl,f⟩
  ·refine aC (yd i ?_);refine aC (yd j ?_);refine aC (N9 i ?_);refine aC (N9 j ?_);exact aD ⟨rfl,rfl,f⟩
 ·rintro ⟨o,n⟩ a ⟨g,rfl,e⟩
  subst g;exact aD h
/-- a set's key:an int or a text (b false),or a tuple of such (b true) -/
def lL(prog:bH)(w:bV)(b:Bool)(h:Heap):NK->aG->Prop
 |.inl k,v=>b=false/\(ao prog w).is k v=true
 |.inr a,v=>b=true/\∃c,v=.ref c/\eW (ao prog w) h a c
def lL.nk{b:Bool}{h:Heap}:∀{k:NK}{v:aG},lL prog w b h k v->yb prog w h k v
 |.inl _,_,q=>q.2
 |.inr _,_,q=>q.2
def lL.tup{h:Heap}:∀{k:NK}{v:aG},lL prog w true h k v->Sf prog w h v
 |.inl _,_,q=>absurd q.1 (by decide)
 |.inr a,_,⟨_,c,e,q⟩=>⟨c,a,e,q⟩
inductive vD(prog:bH)(w:bV)(b:Bool)(h:Heap)(e:Int×aG)(k:NK):Prop
 |mk (_:e.1=bz w prog k) (_:lL prog w b h k e.2):vD prog w b h e k
def eX(prog:bH)(w:bV)(b:Bool)(h:Heap):List (Int×aG)->List NK->Prop
 |[],a=>a=[]
 |e::c,a=>Cn (vD prog w b h e) (eX prog w b h c) a
theorem eX.len:∀{es:List (Int×aG)}{a:List NK},eX prog w b h es a->es.length=a.length
 |[],a,e=>by rw[e];rfl
 |_::_,_,⟨k,r,e,_,t⟩=>by rw[e,aE,aE,t.len]
theorem eX.get:∀{es:List (Int×aG)}{f:List NK}{i:Nat}{e:Int×aG},eX prog w b h es f->es[i]?=some e->∃k,f[i]?=some k/\vD prog w b h e k
 |[],_,_,_,_,q=>by simp at q
 |_::_,_,0,e,c,q=>by obtain⟨k,r,d,g,t⟩:=c;subst d;simp at q;subst q;exact⟨k,rfl,g⟩
 |_::_,_,i+1,e,a,q=>by
  obtain⟨k,r,d,g,t⟩:=a;subst d;obtain⟨m,l,j⟩:=eX.get t (by simpa using q);exact⟨m,by simpa using l,j⟩
structure pv(prog:bH)(w:bV)(b:Bool)(h:Heap)(a:Addr)(ks:List NK)(es:Array (Int×aG))(ep:Nat)(t:cT):Prop where
 at_:h.get? a=some {cls:=.type "set",dict:=none,data:=.set es ep t}
 tab:ST.qs t (es.toList.map (·.1))
 sY:eX prog w b h es.toList ks
 nd:ks.Nodup
def zy{es:Array (Int×aG)}{t:cT}(T:ST.qw t (es.toList.map (·.1))):t.fits es.size=true:=by
 obtain⟨b,a⟩:=T.fits;unfold SetTable.fits;rw[bA];exact⟨by rw[b];simp,decide_eq_true a⟩
def pv.fits{es:Array (Int×aG)}{t:cT}(S:pv prog w b h a c es d t):t.fits es.size=true:=zy S.tab.toqw
def We{es:Array (Int×aG)}{f:Nat->Int}{t:cT}{h:Int}{p:SetTable.Probe}(a:∀i,f i=(es[i]?.map (·.1)).getD 0):t.probe f h p=t.probe (λi=>(es[i]?.map (·.1)).getD 0) h p:=by
 rw[funext a]
def Vk{t:cT}(h:ST.Mk t.mask):t.gaveWay=false:=by
 unfold SetTable.gaveWay;rcases h with e|e|e<;>rw[e]<;>rfl
end
section
variable{prog:bH}{w:bV}{A:cB}{E:aG->aI->Prop}{s:aI}{a:Addr}{u:aG}{ks:List NK}{es:Array (Int×aG)}{ep:Nat}{t:cT}{k:NK}
def J6(t:cT)(ks:List NK)(k:NK)(h:Int)(m:Nat):Prop:=∀b,b<m->∃(i:Nat) (c:NK),t.place[i]?=some (ST.fk t.mask h b)/\ks[i]?=some c/\c≠k
def pv.qH(S:pv prog w true s.1 a ks es ep t){i j:Nat}(e:t.place[i]?=some j):∃v b,es[i]?=some v/\ks[i]?=some b/\vD prog w true s.1 v b:=by
 have f:i<es.size:=by
  have:=(Array.getElem?_eq_some_iff.mp e).1;have l:=S.tab.len;simp at l
  lia
 have g:es.toList[i]?=some es[i]:=by rw[bI];exact bQ f
 obtain⟨b,d,c⟩:=S.sY.get g;exact⟨es[i],b,by rwa [<-bI],d,c⟩
def Rf(hr:A.units<cZ)(S:pv prog w true s.1 a ks es ep t)(N:lL prog w true s.1 k u){Q:SetFound->aI->Prop}(h1:k∈ks->Q (.there none) s)
  (h2:∀m,ST.fk t.mask (bz w prog k) m∉t.place.toList->J6 t ks k (bz w prog k) m->Q (.free (ST.fk t.mask (bz w prog k) m) false) s)
  (M:Nat) (hM:ST.fk t.mask (bz w prog k) M∉t.place.toList):∀(d g m:Nat)(h:Option SetTable.Probe),M - m<d->m<=M->d<=g->h.getD (t.probeStart (bz w prog k))=ST.it t.mask m (ST.rG t.mask (bz w prog k))->
   J6 t ks k (bz w prog k) m->bF (bB prog w) A (setSearchFrom a u (bz w prog k) true g h) Q E s:=by
 generalize hh:bz w prog k=p at *;intro d;induction d with
 |zero=>
  intro g m h e1
  lia
 |succ d ih=>
  intro g m h e1 e2 e3 e4 ps;obtain⟨g,rfl⟩:∃f,g=f+1:=⟨g - 1,by lia⟩;refine aC (dW S.at_ rfl S.fits ?_);dsimp only;rw[Vk S.tab.mask];rw[e4,We]
  ·obtain⟨n,q1,Y,q3⟩:=S.tab.toqw.probe (λi=>(es[i]?.map (·.1)).getD 0) p m;have mem:∀{i j:Nat},t.place[i]?=some j->j∈t.place.toList:=λe=>by
    rw[<-bI]at e;exact bR e
   have le:n<=M:=by
    rcases eO M n with z|z
    ·obtain⟨i,l,_⟩:=Y M e2 z;exact absurd (mem l) hM
    ·exact z
   have q:J6 t ks k p n:=λo L=>by
    rcases eO o m with z|z
    ·exact ps o z
    ·obtain⟨i,l,G⟩:=Y o z L;obtain⟨v,C,B,r,O,J⟩:=S.qH l;refine⟨i,C,l,r,λH=>G ?_⟩;subst H;rw[B];show v.1=p;rw[O,hh]
   obtain ⟨l,G⟩|⟨i,l,G,H⟩:=q3
   ·rw[G];exact aD (h2 n l q)
   ·rw[H];obtain⟨v,C,B,r,O,I⟩:=S.qH l;obtain⟨vh,vv⟩:=v;obtain⟨c,kc,J,_⟩:=I.tup;simp only at J;subst J;have lt:n<M:=by
     rcases eO n M with z|z
     ·exact z
     ·have:n=M:=by lia
      subst this;exact absurd (mem l) hM
    have U:=ST.D2 S.tab.rise l;have T:t.sameMemory t.moves t.mask=some true:=by unfold SetTable.sameMemory;rw[aN (beq_self_eq_true _)]
    have ts:∀y∈(es.filter λx=>x.fst==p).toList.map (λx=>x.snd),Sf prog w s.1 y:=λy hy=>by
     obtain⟨x,hx,rfl⟩:=List.mem_map.mp hy;obtain⟨i,hi⟩:=eL (show x∈es.toList by simpa using((show x∈es/\x.fst=p by simpa using hx).1));obtain⟨θ,_,_,e6⟩:=S.sY.get hi;exact e6.tup
    dsimp only;cases hl:t.led with
    |true=>
     rw[B];refine aC (cX (xt hr I.nk N.nk ?_));refine aC (dW S.at_ rfl S.fits ?_)
     by_cases ek:C=k
     ·subst ek;simp only[decide_true,Bool.and_self,if_true];exact aD (h1 (bR r))
     ·simp only[ek,decide_false,lM,Bool.false_eq_true,if_false];rw[T];simp only[if_true];rw[U];dsimp only;rw[B];refine aC (wpAny_isSame_ref_self ?_);simp only[if_true];refine aC (aD ?_);refine ih g _ _ (by lia) (by lia) (by lia) rfl λo L=>?_;rcases eO o n with z|z
      ·exact q o z
      ·have:o=n:=by lia
       subst this;exact⟨i,C,l,r,ek⟩
    |false=>
     obtain⟨b,kb,rfl,hb⟩:=N.tup;refine aC (JQ hb ts ?_);rw[B];refine aC (cX (xt hr I.nk N.nk ?_));refine aC (dW S.at_ rfl S.fits ?_)
     by_cases ek:C=k
     ·subst ek;simp only[decide_true,Bool.and_self,if_true];exact aD (h1 (bR r))
     ·simp only[ek,decide_false,lM,Bool.false_eq_true,if_false];rw[T];simp only[if_true];rw[U];dsimp only;rw[B];refine aC (wpAny_isSame_ref_self ?_);simp only[if_true];refine aC (aD ?_);refine ih g _ _ (by lia) (by lia) (by lia) rfl λo L=>?_;rcases eO o n with z|z
      ·exact q o z
      ·have:o=n:=by lia
       subst this;exact⟨i,C,l,r,ek⟩
  ·intro i;rfl
def Kw(S:pv prog w true s.1 a ks es ep t){i:Nat}{k:NK}(h:ks[i]?=some k):∃j,t.place[i]?=some j/\(j,bz w prog k)∈t.place.toList.zip (es.toList.map (·.1)):=by
 have m:=(List.getElem?_eq_some_iff.mp h).1;have g:=S.sY.len;have f:=S.tab.len;rw[aF]at f;have b:i<t.place.size:=by lia
 obtain⟨v,l,e,c,d,_⟩:=S.qH (bQ b);rw[h]at c;cases c;refine⟨t.place[i],bQ b,?_⟩;have:(t.place.toList.zip (es.toList.map (·.1)))[i]?=some (t.place[i],bz w prog k):=by
  rw[List.getElem?_zip_eq_some];refine⟨by rw[bI];exact bQ b,?_⟩;rw[bJ,bI,e];show some v.1=_;rw[d]
 exact bR this
def Xa(B:A.units<cZ)(S:pv prog w true s.1 a ks es ep t)(C:lL prog w true s.1 k u){Q:SetFound->aI->Prop}(H:k∈ks->Q (.there none) s)
  (G:k∉ks->∀m,ST.fk t.mask (bz w prog k) m∉t.place.toList->(∀b,b<m->ST.fk t.mask (bz w prog k) b∈t.place.toList)->Q (.free (ST.fk t.mask (bz w prog k) m) false) s):
  bF (bB prog w) A (setSearch a u (bz w prog k) true) Q E s:=by
 obtain⟨M,J,M2⟩:=S.tab.toqw.first _
 have:=ST.X1 S.tab.mask;refine Rf B S C H (λm c g=>?_) M M2 100000 100000 0 none (by lia) (by lia) (by lia) rfl (λb o=>by lia);have mem:∀{i j:Nat},t.place[i]?=some j->j∈t.place.toList:=λe=>by
  rw[<-bI]at e;exact bR e
 refine G (λz=>?_) m c λb o=>?_
 ·obtain⟨I,p⟩:=eL z;obtain⟨j,n,x⟩:=Kw S p;obtain⟨f,l,r⟩:=S.tab.reach _ x;have lt:f<m:=by
   rcases jQ f m with y|y|y
   ·exact y
   ·subst y;rw[l]at c;exact absurd (mem n) c
   ·exact absurd (r m y) c
  obtain⟨i,v,d,h,q⟩:=g f lt;rw[l]at d;have:=S.tab.rise.inj d n;subst this;rw[p]at h;cases h;exact q rfl
 ·obtain⟨i,v,d,_⟩:=g b o;exact mem d
end
section
variable{prog:bH}{w:bV}{A:cB}{E:aG->aI->Prop}{s:aI}{a:Addr}{ks:List NK}{es:Array (Int×aG)}{ep:Nat}{t:cT}{k:NK}{b:Bool}{u:aG}
def Rn{h g:Heap}{d:Addr}{o:Obj}{es ep i}(m:h.get? d=some o)(r:o.data=.set es ep i)(l:cQ d h g){ks:List iu}{b:Addr}(q:eW (ao prog w) h ks b):eW (ao prog w) g ks b:=by
 obtain⟨j,c,n,f,v,e,p⟩:=q;refine⟨j,c,n,(l.2 _ ?_).trans f,v,e,p⟩
 rintro rfl
 obtain rfl:=bN (f.symm.trans m);rw[r]at e;exact nomatch e
def Xf{b:Bool}{h f:Heap}{o:Obj}{es ep g}(j:h.get? d=some o)(l:o.data=.set es ep g)(i:cQ d h f):∀{k:NK}{v:aG},lL prog w b h k v->lL prog w b f k v
 |.inl k,v,e=>e
 |.inr ks,v,⟨z,c,e,q⟩=>⟨z,c,e,Rn j l i q⟩
def t8{h g:Heap}{o:Obj}{es ep i}(m:h.get? d=some o)(n:o.data=.set es ep i)(j:cQ d h g):∀{l:List (Int×aG)}{ks:List NK},eX prog w b h l ks->eX prog w b g l ks:=by
 intro c;induction c with
 |nil=>rintro _ e;exact e
 |cons _ _ f=>rintro _ ⟨k,r,e,⟨v,q⟩,p⟩;exact⟨k,r,e,⟨v,Xf m n j q⟩,f p⟩
theorem eX.app:∀{l d:List (Int×aG)}{ks c:List NK},eX prog w b h l ks->eX prog w b h d c->eX prog w b h (l++d) (ks++c)
 |[],_,ks,_,e,q=>by rwa [e]
 |_::_,_,_,_,⟨k,r,e,g,f⟩,q=>by subst e;exact⟨k,r++_,rfl,g,f.app q⟩
theorem eX.take:∀{l:List (Int×aG)}{ks:List NK}(n:Nat),eX prog w b h l ks->eX prog w b h (l.take n) (ks.take n)
 |_,_,0,_=>by simp[eX]
 |[],ks,n+1,e=>by rw[e];simp[eX]
 |_::_,_,n+1,c=>by obtain⟨k,r,e,f,d⟩:=c;subst e;exact⟨k,r.take n,rfl,f,d.take n⟩
theorem eX.drop:∀{l:List (Int×aG)}{ks:List NK}(n:Nat),eX prog w b h l ks->eX prog w b h (l.drop n) (ks.drop n)
 |_,_,0,e=>e
 |[],ks,n+1,e=>by rw[e];simp[eX]
 |_::_,_,n+1,c=>by obtain⟨k,r,e,f,d⟩:=c;subst e;exact d.drop n
theorem eX.pick{l:List (Int×aG)}{ks:List NK}(q:eX prog w b h l ks):∀(c:List Nat),(∀i∈c,i<l.length)->eX prog w b h (c.map λi=>l.getD i (0,.none)) (c.map λi=>ks.getD i (.inr []))
 |[],_=>rfl
 |i::r,d=>by
  have e:=aW (d i aZ);obtain⟨k,f,m⟩:=q.get e;refine⟨ks.getD i (.inr []),r.map _,rfl,?_,q.pick r λj g=>d j (aY _ g)⟩;show vD prog w b h (l.getD i _) _;rwa [aU,aU,e,f]
def j4{l:List α}:(aS l.length).map (λi=>l.getD i d)=l:=by
 apply jR;intro i;rw[bJ];rcases eO i l.length with h|h
 ·simp[aU,h]
 ·rw[eI (by simpa using h),eI h];rfl
def vd{l:List α}{order:List Nat}(h:order.Perm (aS l.length)):(order.map λi=>l.getD i d).Perm l:=by
 have:=h.map λi=>l.getD i d;rw[j4]at this;exact this
theorem Tt{l:List α}:∀{c:List Nat},(∀i∈c,i<l.length)->c.filterMap (λi=>l[i]?)=c.map λi=>l.getD i d
 |[],_=>rfl
 |i::r,h=>by
  have e:=h i aZ;rw[gH,aW e,aR,Tt (d:=d) λj f=>h j (aY _ f)];simp[aU,e]
def Jh{h0:Heap}(T:ST.qw t (es.toList.map (·.1)))(G:ks.Nodup)(x:es.toList.length=ks.length)(f:(t.place.size - 1) * 5<t.mask * 3)(j:t.tooFull=true)(H:es.size<=76):
  aQ>=SetTable.sizeAbove (SetTable.grown es.size)/\∃h c g e,t.relaid (es.map (·.1)) (SetTable.grown es.size)=some (h,c)/\c.filterMap (es[·]?)=e/\e.size=es.size/\c.toList.Perm (aS es.size)/\ST.qs h (e.toList.map (·.1))/\g.Nodup/\g.Perm ks/\(∀o,eX prog w b o es.toList ks->eX prog w b o e.toList g)/\h.plain=t.plain/\h.led=t.led:=by
 have y:(es.map (·.1)).toList=es.toList.map (·.1):=by simp
 have q:(es.map (·.1)).size=es.size:=by simp
 obtain⟨v,h,c,r,C,B,l,I⟩:=ST.qs.uP (by rwa [y]) f j (by rwa [q]);rw[q]at v r l;have m:∀i∈c.toList,i<es.toList.length:=λi n=>by
  have:=List.mem_range.mp (l.mem_iff.mp n);exact this
 have p:(c.filterMap (es[·]?)).toList=c.toList.map λi=>es.toList.getD i (0,.none):=by
  rw[Array.toList_filterMap];have:(λi=>es[i]?)=λ(i:Nat)=>es.toList[i]?:=by funext i;rw[bI]
  rw[this];exact Tt m
 have sz:(c.filterMap (es[·]?)).size=es.size:=by
  rw[<-aO,p,aF,l.length_eq,bZ]
 refine⟨v,h,c,c.toList.map λi=>ks.getD i (.inr []),_,r,rfl,sz,l,?_,?_,?_,λo z=>by rw[p];exact z.pick _ m,B,C⟩
 ·have:(c.filterMap (es[·]?)).toList.map (·.1)=c.toList.map λi=>(es.map (·.1)).toList.getD i 0:=by
   rw[p,bW];refine cM λi n=>?_;have:=m i n;rw[y];show(es.toList.getD i _).1=(es.toList.map _).getD i 0;rw[aU,aU,bJ,aW this];rfl
  rwa [this]
 ·exact(vd (d:=.inr []) (order:=c.toList) (by rwa [<-x,aO])).nodup_iff.mpr G
 ·exact vd (by rwa [<-x,aO])
def BH{m:Heap}(S:m.get? a=some {cls:=.type "set",dict:=none,data:=.set es ep t})(l:s.1=m)(T:ST.qw t (es.toList.map (·.1)))(y:eX prog w b m es.toList ks)(J:ks.Nodup)(f:(t.place.size - 1) * 5<t.mask * 3)(i:t.tooFull=true)(o:es.size<=76)
  (h:∀n d c p g,cQ a s.1 n->pv prog w b n a d c p g->d.Perm ks->(∀x,eX prog w b x es.toList ks->eX prog w b x c.toList d)->g.plain=t.plain->g.led=t.led->Q () {s with heap:=n}):bF (bB prog w) A (setRelay a (SetTable.grown es.size)) Q E s:=by
 subst l;obtain⟨I,g,e,d,c,H,v,sz,M,G,C,B,r,z,j⟩:=Jh (h0:=s.1) (prog:=prog) (w:=w) (b:=b) T J y.len f i o;refine aC (dW S rfl (zy T) ?_);dsimp only;rw[aK (Nat.not_lt.mpr I),H];refine aC (lC (a:=(e.filterMap (es[·]?),g)) ?_ ?_)
 ·show(if _=true then _ else _)=_;rw[aK (by rw[v,sz];simp)]
 ·rw[v];have L:c.size<=aQ:=by rw[sz,cR];lia
  refine lT S rfl ?_ L;have q:=cC s.1 a (kW c g);exact h _ _ _ _ _ q ⟨(cE _ S rfl),G,t8 S rfl q (r _ y),C⟩ B r z j
def mf{l:List α}:(l.take p++x::l.drop p).Perm (x::l):=by
 have:=List.perm_middle (a:=x) (l₁:=l.take p) (l₂:=l.drop p);rw[cI]at this;exact this
def DE(S:pv prog w b s.1 a ks es ep t)(r:ST.fk t.mask (bz w prog k) m∉t.place.toList)(q:∀j,j<m->ST.fk t.mask (bz w prog k) j∈t.place.toList):
  ∃p d c,t.put (ST.fk t.mask (bz w prog k) m)=(d,p)/\jS es p (bz w prog k,u)=c/\ST.qw d (c.toList.map (·.1))/\d.plain=t.plain/\d.led=t.led/\d.mask=t.mask/\c.size=es.size+1/\d.place.size=t.place.size+1/\
   (∀e,eX prog w b e es.toList ks->lL prog w b e k u->eX prog w b e c.toList (ks.take p++k::ks.drop p)):=by
 obtain⟨p,v,o,g,f⟩:=S.tab.toqw.put r q S.tab.uO;have x:=S.sY.len;have l:=S.tab.len;rw[aF]at l;have h:(jS es p (bz w prog k,u)).toList=es.toList.take p++(bz w prog k,u)::es.toList.drop p:=ST.fx _ _ _;have sz:(jS es p (bz w prog k,u)).size=es.size+1:=by
  rw[<-aO,h,mf.length_eq,aE,aO]
 have e:(jS es p (bz w prog k,u)).toList.map (·.1)=(es.toList.map (·.1)).take p++bz w prog k::(es.toList.map (·.1)).drop p:=by
  rw[h,cO,aR,List.map_take,List.map_drop]
 rw[<-e]at g;refine⟨p,(t.put (ST.fk t.mask (bz w prog k) m)).1,_,by rw[<-o],rfl,g,by rw[f],by rw[f],by rw[f],sz,?_,λe i n=>?_⟩
 ·have:=g.len;rw[aF,aO,sz]at this;rw[aO]at l
  lia
 ·rw[h];exact(i.take p).app ⟨k,_,rfl,⟨rfl,n⟩,i.drop p⟩
def Ji{e:cT}{c:Array Nat}{d:Array (Int×aG)}{n:Nat}(i:t.relaid (es.map (·.1)) n=some (e,c))(h:c.filterMap (es[·]?)=d)(g:c.toList.Perm (aS es.size))(f:e.fits d.size=true):relayAll t es n=(d,e,false):=by
 unfold relayAll;rw[i];dsimp only;rw[h,f];have:coversAll c es.size=true:=List.isPerm_iff.mpr g;rw[this];rfl
def Qf{d:cT}{h:Int}{x:aG}{j p:Nat}{c:Array (Int×aG)}(i:t.freeSlot h=some (j,false))(g:t.put j=(d,p))(f:jS es p (h,x)=c)(e:d.fits c.size=true):
  layNew t es h x=(c,d,false,false):=by
 unfold layNew;rw[i];dsimp only;rw[g];dsimp only;rw[f,e];unfold SetTable.orStandIn;rw[e];rfl
def Tj(p:eX prog w false s.1 es.toList ks):ElemsOf (ao prog w) es.toList/\∀k:iu,(∃e∈es.toList,(ao prog w).is k e.2=true)↔(lF k:NK)∈ks:=by
 have f:∀(l:List (Int×aG))(ks:List NK),eX prog w false s.1 l ks->ElemsOf (ao prog w) l/\∀k:iu,(∃e∈l,(ao prog w).is k e.2=true)↔(lF k:NK)∈ks:=by
  intro l;induction l with
  |nil=>intro ks e;rw[e];exact⟨λe h=>(by cases h),λk=>⟨λ⟨e,h,_⟩=>(by cases h),λh=>(by cases h)⟩⟩
  |cons e l m=>
   rintro _ ⟨g,r,rfl,⟨v,d⟩,o⟩
   obtain⟨n,j⟩:=m r o;cases g with
   |inr z=>exact absurd d.1 (by decide)
   |inl g=>
    refine⟨λx c=>?_,λk=>⟨?_,λh=>?_⟩⟩
    ·rcases List.mem_cons.mp c with rfl|c
     ·refine⟨⟨g,d.2,v⟩,?_⟩;rcases bp d.2 with ⟨i,t,_,e⟩|⟨y,t,_,e⟩<;>rw[e]<;>rfl
     ·exact n x c
    ·rintro ⟨x,c,q⟩
     rcases List.mem_cons.mp c with rfl|c
     ·rw[(ao prog w).inj _ _ _ q d.2];exact .head _
     ·exact .tail _ ((j k).mp ⟨x,c,q⟩)
    ·rcases List.mem_cons.mp h with h|h
     ·cases h;exact⟨e,.head _,d.2⟩
     ·obtain⟨x,c,q⟩:=(j k).mpr h;exact⟨x,.tail _ c,q⟩
 exact f _ _ p
def Kr{n:List Int}(T:ST.qw t n)(h:Int):∃m,t.freeSlot h=some (ST.fk t.mask h m,false)/\ST.fk t.mask h m∉t.place.toList/\∀c,c<m->ST.fk t.mask h c∈t.place.toList:=by
 obtain⟨m,p,l,j⟩:=T.probe (λ_=>h+1) h 0;obtain ⟨g,f⟩|⟨i,_,z,_⟩:=j
 ·refine⟨m,?_,g,λc o=>?_⟩
  ·unfold SetTable.freeSlot;have e:t.probe (λ_=>h+1) h (t.probeStart h)=_:=f;rw[e];rfl
  ·obtain⟨i,d,_⟩:=l c (bX _) o;rw[<-bI]at d;exact bR d
 ·lia
def CG(hr:A.units<cZ)(S:pv prog w b s.1 a ks es ep t)(I:k∉ks->ks.length<76)(few':ks.length<=76)(G:lL prog w b s.1 k u)
  (h1:k∈ks->Q false s)
  (h2:k∉ks->∀h' o n Y C,cQ a s.1 h'->pv prog w b h' a o n Y C->o.Perm (k::ks)->(∀H,eX prog w b H es.toList ks->lL prog w b H k u->eX prog w b H n.toList o)->C.plain=(t.plain && JH k)->C.led=t.led->Q true {s with heap:=h'}):
  bF (bB prog w) A (setAddHashed a u (bz w prog k)) Q E s:=by
 refine cX (aC (dW S.at_ rfl S.fits ?_));dsimp only;have l1:=S.sY.len;have fl:∀{β:Type}{l:cT}(L:l.plain=t.plain)(F:Bool->Sem β){Q':β->aI->Prop},(∀J,(l.plain && J)=(t.plain && JH k)->bF (bB prog w) A (F J) Q' E s)->bF (bB prog w) A (if l.plain=true then pU 8 u>>=F else pure true>>=F) Q' E s:=λ{β l} L F {Q'} hR=>by
  split
  ·rename_i c;exact aC (FO G.nk (hR _ (by rw[L])))
  ·rename_i c;have c:l.plain=false:=by simpa using c
   refine aC (aD (hR true ?_));rw[L]at c;rw[L,c];rfl
 have θ:∀{l:cT}{f:Array (Int×aG)}{J:Bool},(l.plain && J)=(t.plain && JH k)->ST.qw l (f.toList.map (·.1))->l.led=t.led->l.mask=t.mask->∃h,(if J=true then l else{l with plain:=false})=h/\ST.qw h (f.toList.map (·.1))/\h.plain=(t.plain && JH k)/\h.led=t.led/\h.mask=t.mask/\h.place=l.place:=λ{l f J} v q q2 q3=>by
  cases J with
  |true=>exact⟨l,aN rfl,q,by rw[<-v,Bool.and_true],q2,q3,rfl⟩
  |false=>exact⟨{l with plain:=false},aK (by decide),⟨q.mask,q.rQ,q.len,q.rise,q.le,q.room,q.reach⟩,by rw[<-v,lM],q2,q3,rfl⟩
 cases b with
 |true=>
  have bs:byScan u es=false:=by obtain⟨c,kc,rfl,_⟩:=G.tup;rfl
  rw[bs];refine aC (Xa hr S G (λz=>?_) λz m m1 m2=>?_)
  ·exact aD (h1 z)
  refine aC (dW S.at_ rfl S.fits ?_);have I:=I z;obtain⟨p,l,f,p1,p2,q,L,q2,q3,sz,ps,el⟩:=DE (u:=u) S m1 m2;rw[p1];dsimp only;rw[p2];have hz:f.size<=aQ:=by rw[sz,cR];rw[aO]at l1;lia
  refine fl L _ λJ v=>?_;obtain⟨h,U,O,r2,r3,r4,r5⟩:=θ v q q2 q3;rw[U];refine aC (lT S.at_ rfl ?_ hz);have g1:=cE (kW f h) S.at_ rfl;have N:=cC s.1 a (kW f h);have r:=t8 S.at_ rfl N (el _ S.sY G);have x:(ks.take p++k::ks.drop p).Nodup:=mf.nodup_iff.mpr (List.nodup_cons.mpr ⟨z,S.nd⟩)
  by_cases g:h.tooFull=true
  ·rw[g];rw[<-sz];refine aC (BH g1 rfl O r x (by rw[r5,ps,r4];exact S.tab.loose) g (by rw[aO]at l1;lia) λh' o n Y C ω S' pp ee e1 e2=>?_);refine aD (h2 z h' o n Y C (N.trans ω) S' (pp.trans mf) (λH z1 z2=>ee H (el H z1 z2)) (e1.trans r2) (e2.trans r3))
  ·have d:h.tooFull=false:=by simpa using g
   rw[d];have T:h.place.size * 5<h.mask * 3:=by
    rw[ST.t4 O.rQ]at d;have:=of_decide_eq_false d
    lia
   exact aD (h2 z _ _ _ _ _ N ⟨g1,⟨O,T⟩,r,x⟩ mf el r2 r3)
 |false=>
  cases B:k with
  |inr ys=>rw[B]at G;exact absurd G.1 (by decide)
  |inl k0=>
   obtain⟨σ,M⟩:=Tj S.sY;have ν:(ao prog w).is k0 u=true:=by rw[B]at G;exact G.2
   have hsc:u.scannable=true:=by rcases bp ν with ⟨i,t,_,e⟩|⟨y,t,_,e⟩<;>rw[e]<;>rfl
   rw[byScan_of (knd:=ao prog w) hsc (by unfold scanBound;rw[aO]at l1;lia) σ];simp only[↓reduceIte];refine aC (aC (eY (aC (wpAny_setScan_of (knd:=ao prog w) (k:=k0) ν S.at_ rfl S.fits σ ?_))));cases ξ:es.toList.findIdx? (λe=>(ao prog w).is k0 e.2)with
   |some j=>
    dsimp only;obtain⟨hj,hpj,_⟩:=List.findIdx?_eq_some_iff_getElem.mp ξ;refine aD (aD (h1 ?_));rw[B];exact(M k0).mp ⟨_,iV hj,hpj⟩
   |none=>
    dsimp only;have z:k∉ks:=λz=>by
     rw[B]at z;obtain⟨e,he,hp⟩:=(M k0).mpr z;have:=List.findIdx?_eq_none_iff.mp ξ e he;rw[hp]at this;cases this
    have I:=I z;obtain⟨m,f1,m1,m2⟩:=Kr S.tab.toqw (bz w prog k);obtain⟨p,l,f,p1,p2,q,L,q2,q3,sz,ps,el⟩:=DE (u:=u) S m1 m2;have ι:=Qf (es:=es) f1 p1 p2 (zy q);rw[B]at ι;rw[ι];dsimp only;refine aC (aD ?_);have hz:f.size<=aQ:=by rw[sz,cR];rw[aO]at l1;lia
    refine fl L _ λJ v=>?_;obtain⟨h,U,O,r2,r3,r4,r5⟩:=θ v q q2 q3;rw[U];refine aC (lT S.at_ rfl ?_ hz);have g1:=cE (kW f h) S.at_ rfl;have N:=cC s.1 a (kW f h);have r:=t8 S.at_ rfl N (el _ S.sY G);have x:(ks.take p++k::ks.drop p).Nodup:=mf.nodup_iff.mpr (List.nodup_cons.mpr ⟨z,S.nd⟩)
    by_cases g:h.tooFull=true
    ·rw[g];simp only[Bool.not_false,Bool.and_self,if_true];obtain⟨_,C,Ω,o,n,s2,s3,ψ,s4,s5,s6,s7,s8,s9,Γ⟩:=Jh (h0:=s.1) (prog:=prog) (w:=w) (b:=false) O x (r.len) (by rw[r5,ps,r4];exact S.tab.loose) g (by rw[aO]at l1;lia);rw[Ji s2 s3 s4 (zy s5.toqw)];dsimp only;refine aC (aD ?_);refine aC (lT g1 rfl ?_ (by rw[ψ];exact hz));have ε:=cC (s.1.update a (kW f h)) a (kW n C);refine aD (aD (h2 z _ o n _ C (N.trans ε) ⟨cE (kW n C) g1 rfl,s5,t8 g1 rfl ε (s8 _ r),s6⟩ (s7.trans mf) (λH z1 z2=>s8 H (el H z1 z2)) (s9.trans r2) (Γ.trans r3)))
    ·have d:h.tooFull=false:=by simpa using g
     rw[d];simp only[Bool.not_false,lM,Bool.false_eq_true,if_false];have T:h.place.size * 5<h.mask * 3:=by
      rw[ST.t4 O.rQ]at d;have:=of_decide_eq_false d
      lia
     exact aD (aD (h2 z _ _ _ _ _ N ⟨g1,⟨O,T⟩,r,x⟩ mf el r2 r3))
end
def xy(T:List NK)(k:NK):Bool:=T.any λx=>decide (x=k)
def wg:xy T k=true↔k∈T:=by
 unfold xy;rw[mJ];constructor
 ·rintro ⟨x,a,e⟩;rwa [<-of_decide_eq_true e]
 ·intro h;exact⟨k,h,decide_eq_true rfl⟩
def wk(T:List NK)(k:NK):List NK:=if xy T k then T else T++[k]
def tu(a:List NK):List NK:=a.foldl wk []
def Zi(T:List NK)(k:NK):T.length<=(wk T k).length:=by
 unfold wk;split
 ·exact aJ _
 ·simp
def Y6:∀(c:List NK)(T:List NK),T.length<=(c.foldl wk T).length:=by
 intro a;induction a with
 |nil=>rintro T;exact aJ _
 |cons k r b=>rintro T;exact cG (Zi T k) (b _)
section
variable{prog:bH}{w:bV}
def Xx{h f:Heap}(m:∀c o,h.get? c=some o->f.get? c=some o)(q:eW (ao prog w) h i b):eW (ao prog w) f i b:=by
 obtain⟨g,a,n,d,l,e,j⟩:=q;exact⟨g,a,n,m _ _ d,l,e,j⟩
def Ag{b:Bool}{h a:Heap}(m:∀c o,h.get? c=some o->a.get? c=some o):∀{k:NK}{v:aG},lL prog w b h k v->lL prog w b a k v
 |.inl k,v,e=>e
 |.inr d,v,⟨z,c,e,q⟩=>⟨z,c,e,Xx m q⟩
inductive rd(prog:bH)(w:bV)(b:Bool)(h0 h:Heap)(a:Addr)(T:List NK):Prop
 |mk (ks es ep t) (_:h.get? a=some {cls:=.type "set",dict:=none,data:=.set es ep t}) (_:ST.qs t (es.toList.map (·.1))) (_:eX prog w b h0 es.toList ks) (_:ks.Nodup) (_:ks.Perm T) (_:t.led=Pu.Ht w) (_:t.plain=T.all JH):rd prog w b h0 h a T
def Th{h g:Heap}(m:∀c o,h.get? c=some o->g.get? c=some o):∀{l:List (Int×aG)}{f:List NK},eX prog w b h l f->eX prog w b g l f:=by
 intro a;induction a with
 |nil=>rintro _ e;exact e
 |cons _ _ d=>rintro _ ⟨k,r,e,⟨n,j⟩,i⟩;exact⟨k,r,e,⟨n,Ag m j⟩,d i⟩
end
section
variable{prog:bH}{w:bV}{A:cB}{R:Result->aI->Prop}{I:Addr}{fp wr:List Addr}{P:Nat->aG->Prop}{St:Nat->Heap->Prop}{kz:List NK}{h0:Heap}{b:Bool}
def Rt(W:Walks prog w A.in1 I fp wr kz.length P St)(hu:A.in1.units<cZ)(a:Addr)(ha:a∉fp)(O:∀c o,h0.get? c=some o->c≠a/\c∉wr)(hP:∀i v,P i v->∃k,kz[i]?=some k/\lL prog w b h0 k v):
  ∀(rest:List NK)(i:Nat)(s:aI)(T:List NK),kz.drop i=rest->i<=kz.length->St i s.1->(∀c o,h0.get? c=some o->s.1.get? c=some o)->rd prog w b h0 s.1 a T->(rest.foldl wk T).length<=76->
   (∀h j,(∀b o,b≠a->b∉wr->s.1.get? b=some o->h.get? b=some o)->rd prog w b h0 h a (rest.foldl wk T)->R (.ok (.ret .none)) {s with heap:=h,toks:=j})->
   iE (bB prog w) A (.builtin "set.update.loop" ⟨[.ref a,.ref I],[]⟩) R s:=by
 have L:a∉wr:=λz=>ha (W.sub _ z);intro rest;induction rest with
 |nil=>
  intro i s T J hi st M hT N Q;have ε:i=kz.length:=by
   have:=congrArg dH J;rw[dE,dA]at this
   lia
  subst ε;refine eM kI ?_;refine aC (W.done s _ _ st λh j p=>?_);obtain⟨x,U,Y,t,g,q,q2,q3,q4,q5,q6⟩:=hT;exact aD (Q h j (λb o _ O e=>p b o O e) ⟨x,U,Y,t,p a _ L g,q,q2,q3,q4,q5,q6⟩)
 |cons n rest ih=>
  intro i s T J hi st M hT N Q;have l:i<kz.length:=by
   have:=congrArg dH J;rw[dE,aE]at this
   lia
  have δ:kz[i]?=some n:=by
   have:(kz.drop i)[0]?=some n:=by rw[J];rfl
   simpa using this
  have H:kz.drop (i+1)=rest:=by
   have:(kz.drop i).drop 1=rest:=by rw[J];rfl
   rw[nX]at this;exact this
  refine eM kI ?_;refine aC (W.item i s _ _ l st λv h1 Θ hv C f=>?_);obtain⟨k,e1,p⟩:=hP i v hv;rw[δ]at e1;cases e1;have d:∀c o,h0.get? c=some o->h1.get? c=some o:=λc o e=>f c o (O c o e).2 (M c o e);obtain⟨x,U,Y,t,g,so,el,nd,u,le,pl⟩:=hT;have S1:pv prog w b h1 a x U Y t:=⟨f a _ L g,so,Th d el,nd⟩;refine aC (cX ?_);refine cX (aC (Dz hu (Ag d p).nk ?_));have fl:=Y6 rest (wk T n);have η:(rest.foldl wk _).length<=76:=N
  by_cases G:n∈x
  ·have B:wk T n=T:=by unfold wk;rw[aN (wg.mpr (u.mem_iff.mp G))]
   refine CG hu S1 (λz=>absurd G z) (by rw[u.length_eq,<-B];lia) (Ag d p) (λ_=>?_) λz=>absurd G z;refine aD ⟨eV kJ _,ih _ _ _ H l C d (by rw[B];exact⟨x,U,Y,t,S1.at_,so,el,nd,u,le,pl⟩) N λh j m r=>?_⟩;exact Q h j (λc o y E e=>m c o y E (f c o E e)) r
  ·have B:wk T n=T++[n]:=by unfold wk;rw[aK (λz=>(λz=>G (u.mem_iff.mpr z)) (wg.mp z))]
   rw[B]at fl η;have θ:x.length<76:=by
    rw[u.length_eq];simp at fl
    lia
   refine CG hu S1 (λ_=>θ) (by lia) (Ag d p) (λz=>absurd z G) λ_ h2 β ι ν t' sb S2 pp ee μ κ=>?_;refine aD ⟨eV kJ _,ih _ _ _ H l (W.frame _ _ _ C λc y o e=>?_) (λc o e=>?_) ⟨β,ι,ν,t',S2.at_,S2.tab,ee h0 el p,S2.nd,?_,κ.trans le,?_⟩ N λh j m r=>?_⟩
   ·rwa [sb.2 c (λz:c=a=>ha (z▸y))]
   ·rw[sb.2 c (O c o e).1];exact d c o e
   ·rw[B];exact(pp.trans (u.cons n)).trans (List.perm_append_singleton n T).symm
   ·rw[μ,pl,B,List.all_append];simp
   ·refine Q h j (λc o y E e=>m c o y E ?_) r;rw[sb.2 c y];exact f c o E e
end
end L2
namespace Pu
open PySem PySem.Spec PyProof.Rows L2
def KeysIn(a:bH)(w:bV)(b:Bool)(h:Heap):List aG->List NK->Prop
 |[],c=>c=[]
 |v::d,c=>∃k r,c=k::r/\lL a w b h k v/\KeysIn a w b h d r
theorem KeysIn.len:∀{c:List aG}{a:List NK},KeysIn d w b h c a->c.length=a.length
 |[],a,e=>by rw[show a=[]from e];rfl
 |_::_,_,⟨k,r,e,_,t⟩=>by rw[e,aE,aE,t.len]
theorem KeysIn.get:∀{f:List aG}{g:List NK}{i:Nat}{v:aG},KeysIn a w b h f g->f[i]?=some v->∃k,g[i]?=some k/\lL a w b h k v
 |[],_,_,_,_,q=>by simp at q
 |_::_,_,0,v,d,q=>by obtain⟨k,r,e,j,t⟩:=d;subst e;simp at q;subst q;exact⟨k,rfl,j⟩
 |_::_,_,i+1,v,c,q=>by
  obtain⟨k,r,e,j,t⟩:=c;subst e;obtain⟨n,m,l⟩:=KeysIn.get (i:=i) t (by simpa using q);exact⟨n,by simpa using m,l⟩
section
variable{prog:bH}{w:bV}{A:cB}{E:aG->aI->Prop}{s:aI}
def Pc{M:Heap}{a:Array aG}(hu:A.units+12<cZ)(hh:A.handled=none)(hl:s.1.IsList l a)(hi:KeysIn prog w b M a.toList B)(hm:∀c o,M.get? c=some o->s.1.get? c=some o)(hs:(tu B).length<=76)
  (h:∀(f:Heap)(j:Nat),rd prog w b M f s.1.1.size (tu B)->(∀c o,c<s.1.1.size->s.1.get? c=some o->f.get? c=some o)->Q (.ref s.1.1.size) {s with heap:=f,toks:=j}):
  bF (bB prog w) A (call (.type "set") [.ref l]) Q E s:=by
 obtain⟨c0,φ,ρ⟩:=PySem.F.called_set.mro;have β:=PySem.F.called_set.made;have ξ:=PySem.F.called_set.sub;refine wpAny_call (codeAny_of_tree ?_);show bF _ _ (callAny (.type "set") _) _ _ _;refine aD ⟨Code.quiet_builtin _ (by decide+kernel),eM PySem.F.entry_type_call ?_⟩;rw[Around.under_plain (weight_type_call_type "set" [.ref l] []) rfl];have Δ:=PySem.F.called_set.notType;have Ψ:=PySem.F.called_set.canCreate;have Φ:=PySem.F.typeCall_set_1 (.ref l)
 repeat (any_goals (first|assumption|wp_step))
 refine jA (Z5 (.ref l) (E:=E) (Q:=λobj p=>obj=.ref s.1.1.size/\p={s with heap:=s.1.push {cls:=.type "set",dict:=none,data:=.set #[] 0 (.fresh 0 0 (Ht w))}}) ⟨rfl,rfl⟩) λr p Y=>?_;cases r with
 |error e=>exact Y
 |ok fl=>
  cases fl with
  |ret obj=>
   obtain⟨rfl,rfl⟩:=Y;generalize q:s.1.push {cls:=.type "set",dict:=none,data:=.set #[] 0 (.fresh 0 0 (Ht w))}=g;have m:g.objs.size=s.1.1.size+1:=by rw[<-q,eN]
   have U:∀c o,s.1.get? c=some o->g.get? c=some o:=λc o e=>by rw[<-q];exact aH _ e
   have hS:g.get? s.1.1.size=some {cls:=.type "set",dict:=none,data:=.set #[] 0 (.fresh 0 0 (Ht w))}:=by rw[<-q];exact aT _ rfl
   have hT:mO {s with heap:=g} (.ref s.1.1.size) "set":=⟨_,hS,rfl⟩;have Θ:=PySem.F.called_set.init.lookup;have hbi:=PySem.F.called_set.init.bind (.ref s.1.1.size)
   repeat (any_goals (first|assumption|wp_step))
   refine jA (codeAny_call_builtin (R:=wants (λr n=>r=.none/\∃f j,n={s with heap:=f,toks:=j}/\rd prog w b M f s.1.1.size (tu B)/\(∀c o,c<s.1.1.size->s.1.get? c=some o->f.get? c=some o)) E)
    PySem.F.called_set.init.plain PySem.F.entry_set_init (check_set_init_1 hT ?_)) λy n d=>?_
   ·have H:l<s.1.1.size:=by
     obtain⟨o,e,_⟩:=hl;exact aV e
    have ζ:A.in1.in1.in1.handled=none:=by simp[hh]
    have G:l≠g.objs.size:=by rw[m];exact bL (fZ H)
    have η:s.1.1.size∉[g.objs.size,l]:=by
     rw[m];simp only[dM,mK,or_false,not_or];exact⟨bL (fI _),fL H⟩
    have len:a.size=B.length:=by rw[<-aO];exact hi.len
    have κ:∀{h2:Heap}{oI:Obj},h2=g.push oI->∀(f:Heap)(j:Nat),(∀c o,c≠s.1.1.size->c∉[g.objs.size]->h2.get? c=some o->f.get? c=some o)->∀c o,c<s.1.1.size->s.1.get? c=some o->f.get? c=some o:=λ{h2 oI} e2 f j hk c o hc e=>by
     refine hk c o (bL hc) (by rw[m];simp;lia) ?_;rw[e2];exact aH _ (U c o e)
    obtain⟨ol,α,L,nl,J⟩:=hl;obtain⟨μ,O,T,N⟩:=ol;simp only at L J;subst L;subst J;have C:=U _ _ α;have q1:=PySem.F.sub_list_set;have q2:=PySem.F.sub_list_frozenset;have q3:(mD "list"==mD "dict")=false:=by decide
    have I:g.IsList l a:=⟨_,C,rfl,nl,rfl⟩;unfold Builtin.«set.__init__» noKeywords Builtin.Frozenset.updateFrom;generalize θ:pQ=PI
    wp_walk
    subst θ;refine fW I (aC (wpAny_runValue ?_));have W:=pF (prog:=prog) (w:=w) ζ g.objs.size l G a;rw[len]at W;refine Rt (h0:=M) W (show A.units+1+1+1<cZ by lia) s.1.1.size η (λc o e=>⟨bL (aV (hm c o e)),λz=>bL (fZ (aV (hm c o e))) ((List.mem_singleton.mp z).trans m)⟩) (λi v hv=>hi.get (by rw[bI];exact hv)) B 0 _ [] rfl (bX _) ⟨⟨_,aT _ rfl,rfl,rfl⟩,I.push _⟩ (λc o e=>aH _ (U c o (hm c o e))) ⟨[],#[],0,_,aH _ hS,ST.Ri _ _ _,rfl,fE,gS _,rfl,rfl⟩ hs λf j hk u=>?_;refine aD ?_;show bF _ _ (ret eK) _ _ _;exact aD ⟨rfl,f,j,rfl,u,κ rfl f j hk⟩
   ·cases y with
    |error e=>exact d
    |ok x=>
     cases x with
     |ret r=>
      obtain⟨rfl,f,j,rfl,u,δ⟩:=d
      repeat (any_goals (first|assumption|wp_step))
      exact h _ _ u δ
     |_=>exact d.elim
  |_=>exact Y.elim
end
section
variable{prog:bH}{w:bV}{A:cB}{E:aG->aI->Prop}{s:aI}
def NH{a:Source}{n:Nat}{Q:Nat->aI->Prop}(b:n≠0)(h:∀i d,i<n->Q i {s with drawn:=d}):bF (bB prog w) A (choose a n) Q E s:=λΓ p c=>by
 unfold choose;exact⟨b,h _ _ (Nat.mod_lt _ (Nat.pos_of_ne_zero b))⟩
theorem O3{α:Type}:∀(n:Nat)(xs:List α)(s:aI){Q:List α->aI->Prop},xs.length=n->(∀b d,b.Perm xs->Q b {s with drawn:=d})->bF (bB prog w) A (drawOrder n xs) Q E s
 |0,xs,s,Q,a,h=>by
  have:=List.length_eq_zero_iff.mp a;subst this;exact aD (h [] s.drawn (gS _))
 |n+1,[],s,Q,a,h=>by cases a
 |n+1,x::r,s,Q,a,h=>by
  refine aC (NH (by simp) λi d c=>?_);rw[aW c];refine aC (O3 n _ _ (by rw[List.length_eraseIdx_of_lt c,a];rfl) λb f e=>?_);exact aD (h _ f ((e.cons _).trans (kl c)))
end
def xn(h:Heap)(a:Addr)(es:Array (Int×aG))(b:Nat)(t:cT):Prop:=h.get? a=some {cls:=.type "set",dict:=none,data:=.set es b t}
def qJ(h:Heap)(I T a:Addr)(i n b:Nat):Prop:=h.get? I=some {cls:=.type "set_iterator",data:=.fields #[.ref T,eA i,.ref a,eA n,eA b]}
def Fy(h:Heap)(T:Addr)(a:List Nat):Prop:=h.get? T=some {cls:=.type "tuple",data:=.seq (a.map λ(i:Nat)=>eA i).toArray}
section
variable{prog:bH}{w:bV}{A:cB}{E:aG->aI->Prop}{s:aI}{a I T:Addr}{es:Array (Int×aG)}{ep i:Nat}{t:cT}{ys:List Nat}
def qJ.ty(h:qJ s.1 I T a i n ep):s.TypeIs (.ref I) "set_iterator":=⟨_,h,rfl⟩
def Yz(g:t.fits es.size=true)(f:xn s.1 a es ep t)(l:Fy s.1 T ys)(b:qJ s.1 I T a i es.size ep)(h:ys[i]?=some p)(j:es[p]?=some e)
  (m:∀d,qJ d I T a (i+1) es.size ep->cQ I s.1 d->Q (some e.2) {s with heap:=d}):bF (bB prog w) A (nA (.ref I)) Q E s:=by
 refine aC (gQ (dR b.ty gx (cL gx b.ty qu ?_ (qr _))));refine aC (aD ?_);refine aC (gW b rfl ?_);dsimp only[eA];refine aC (gI f rfl g ?_);rw[aK (by simp)];refine aC (eZ l rfl ?_);dsimp only;have n:((ys.map λ(i:Nat)=>eA i).toArray)[((i:Nat):Int).toNat]?=some (pW p 0):=by
  rw[dU,List.getElem?_toArray,bJ,h];rfl
 rw[n];refine aC ?_;refine aC (dW f rfl g ?_);dsimp only;rw[aK (by simp),dU,j];refine aD ?_;have c:=b;refine aC (fR c rfl (by simp) ?_);refine aD ⟨e.2,rfl,aD (m _ ?_ (cC ..))⟩;unfold qJ;rw[(cE _ c rfl)];rfl
def FX(f:A.handled=none)(g:t.fits es.size=true)(e:xn s.1 a es ep t)(h:Fy s.1 T ys)(n:ys.length=es.size)(b:qJ s.1 I T a es.size es.size ep)
  (j:∀d,pS I s.1 d->Q none {s with heap:=d}):bF (bB prog w) A (nA (.ref I)) Q E s:=by
 refine aC (gQ (dR b.ty gx (cL gx b.ty qu ?_ (qr _))));refine aC (aD ?_);refine aC (gW b rfl ?_);refine aC (gI e rfl g ?_);rw[aK (by simp)];refine aC (eZ h rfl ?_);dsimp only;have l:((ys.map λ(i:Nat)=>eA i).toArray)[((es.size:Nat):Int).toNat]?=none:=by
  rw[dU,List.getElem?_toArray,bJ,eI (by lia)];rfl
 rw[l];have c:=b;refine aC (fR c rfl (by simp) ?_);refine aC (fR (cE _ c rfl) rfl (by simp[oP]) ?_);refine aC ?_;refine aC (m:=gX _ _) (lC (by first|rfl|(simp only[gX];rfl)) ?_);refine dI ?_ (by size_fits);refine aC (oQ ?_);rw[f];refine aC (aD (pT ?_));refine aC (fH ⟨_,aT _ rfl,rfl⟩ nZ ?_);exact aD (j _ ((((cC ..).trans (cC ..)).extBut.push _).push _))
def X8(z:A.handled=none)(x:t.fits es.size=true)(j:ys.Perm (aS es.size))(l:a≠I)(m:T≠I):Walks prog w A I [I,a,T] [I] es.size (λi v=>∃p e,ys[i]?=some p/\es[p]?=some e/\v=e.2) (λi h=>qJ h I T a i es.size ep/\xn h a es ep t/\Fy h T ys) where
 sub:=λb c=>by simp at c;simp[c]
 frame:=λ_ _ _ st n=>⟨n I (by simp) _ st.1,n a (by simp) _ st.2.1,n T (by simp) _ st.2.2⟩
 item:=λi s Q E C st g=>by
  have B:ys.length=es.size:=by rw[j.length_eq,bZ]
  have u:ys[i]?=some (ys[i]'(by lia)):=aW _;have c:ys[i]'(by lia)<es.size:=List.mem_range.mp (j.mem_iff.mp (iV _));have y:es[ys[i]'(by lia)]?=some (es[ys[i]'(by lia)]'c):=bQ _;exact Yz x st.2.1 st.2.2 st.1 u y λr f d=>g _ r s.toks ⟨_,_,u,y,rfl⟩ ⟨f,(d.2 a l).trans st.2.1,(d.2 T m).trans st.2.2⟩ λb o c e=>d.extBut b o (λh=>c (by simp[h])) e
 done:=λs Q E st g=>FX z x st.2.1 st.2.2 (by rw[j.length_eq,bZ]) st.1 λr q=>g r s.toks λb o c e=>q b o (λh=>c (by simp[h])) e
 self:=λi s Q E st g=>by
  refine iI st.1.ty xf (cL xf st.1.ty Cd ?_ (Cb _));exact aD ⟨_,rfl,"set_iterator",_,st.1.ty,gx.lookup,g⟩
end
structure l0(w:bV)(es:Array (Int×aG))(t:cT):Prop where
 fits:t.fits es.size=true
 rise:ST.rL t.place
 led:t.led=Ht w
 pl:w.params.followText "set-order"=true\/(!t.plain && decide (es.size>1))=false
def l0.size{es:Array (Int×aG)}{t:cT}(N:l0 w es t):t.place.size=es.size:=by
 have:=N.fits;unfold SetTable.fits at this;rw[bA]at this;simpa using this.1
def l0.walk{es:Array (Int×aG)}{t:cT}(N:l0 w es t):oA t.place 0=0/\∀i,i<es.size->oA t.place (t.place.getD i 0+1)=i+1:=by
 have a:∀i,i<t.place.size->t.place[i]?=some (t.place.getD i 0):=λi b=>by
  simp[nW,b]
 refine⟨?_,λi b=>?_⟩
 ·obtain⟨e,c,d⟩:=ST.vt (j:=0) N.rise;refine hJ λz=>?_;have:=c 0 _ (by lia) (a 0 (by lia))
  lia
 ·rw[<-N.size]at b;obtain⟨e,c,d⟩:=ST.vt (j:=t.place.getD i 0+1) N.rise;rcases jQ (oA t.place (t.place.getD i 0+1)) (i+1)with z|z|z
  ·have:=d i _ (by lia) (a i b);lia
  ·exact z
  ·have g:=c _ _ z (a _ (by lia));have f:=N.rise.lt (fI i) (a i b) (a (i+1) (by lia))
   lia
noncomputable def mj(w:bV)(t:cT)(i:Nat):Nat:=if w.params.followText "set-order" then 0 else if i=0 then 0 else t.place.getD (i - 1) 0+1
section
variable{prog:bH}{w:bV}{A:cB}{E:aG->aI->Prop}{s:aI}{a I:Addr}{es:Array (Int×aG)}{ep i:Nat}{t:cT}
def Ol(N:l0 w es t)(m:xn s.1 a es ep t)(r:i<=es.size)
  (h:Q (((oz w a ep es)[i]?).map λe=>(e.2,mj w t (i+1))) s):bF (bB prog w) A (setNext a (mj w t i) i ep) Q E s:=by
 have n:=N.fits;refine aC (dW m rfl n ?_);refine aC (aC (iT (aD ?_)));cases b:w.params.followText "set-order" with
 |true=>
  have j:oz w a ep es=pickOrder (w.params.setOrder a ep) es:=by unfold oz;rw[aN b]
  have d:∀i,mj w t i=0:=λi=>by unfold mj;rw[aN b]
  rw[j,d]at h;rw[d];have f:(⟨(bB prog w).prog,(bB prog w).w.params⟩:Setting).params.followText "set-order"=true:=b;rw[f];simp only[if_true,bne_self_eq_false,Bool.false_eq_true,if_false];refine aC ?_;refine aC (dW m rfl n ?_);refine aC (aC (iT (aD ?_)));rw[f];refine aC (iT (aD ?_));exact aD h
 |false=>
  have j:oz w a ep es=es:=by unfold oz;rw[aK (by rw[b];decide)]
  have d:∀i,mj w t i=if i=0 then 0 else t.place.getD _ 0+1:=λi=>by unfold mj;rw[aK (by rw[b];decide)]
  have f:(⟨(bB prog w).prog,(bB prog w).w.params⟩:Setting).params.followText "set-order"=false:=b;have p:Ht w=true:=by unfold Ht;rw[b];rfl
  have bl:oA t.place (mj w t i)=i:=by
   obtain⟨u,q⟩:=N.walk;rw[d]
   by_cases z:i=0
   ·rwa [aN z,z]
   ·rw[aK z,q _ (by lia)];lia
  rw[j]at h;rw[f];simp only[Bool.false_eq_true,if_false];refine nE (λz=>?_) λ_=>?_
  ·have l:(!t.plain && decide _)=true:=z;obtain y|y:=N.pl
   ·rw[b]at y;cases y
   ·rw[y]at l;cases l
  ·refine aC ?_;have o:(!t.led && !es.isEmpty)=false:=by
    have:=N.led.trans p;rw[this];rfl
   wp_delta
   rw[o];refine aD (aD ?_);rw[bl];cases g:es[i]? with
   |none=>
    rw[g]at h;exact h
   |some e=>
    rw[g]at h;have c:i<t.place.size:=by
     have:=(Array.getElem?_eq_some_iff.mp g).1;have:=N.size
     lia
    rw[bQ c];have:mj w t (i+1)=t.place[i]+1:=by
     rw[d,aK (by lia)];simp[nW,c]
    rw[this]at h;exact h
def AH(N:l0 w es t)(f:xn s.1 a es ep t)(b:ql s.1 I a (mj w t i) i es.size ep)(g:(oz w a ep es)[i]?=some e)
  (j:∀d,ql d I a (mj w t (i+1)) (i+1) es.size ep->cQ I s.1 d->Q (some e.2) {s with heap:=d}):bF (bB prog w) A (nA (.ref I)) Q E s:=by
 have h:i<=es.size:=by
  have m:=(Array.getElem?_eq_some_iff.mp g).1;have l:=(mr w a ep es).length_eq;rw[aO,aO]at l
  lia
 refine aC (gQ (dR b.ty gx (cL gx b.ty qu ?_ (qr _))));refine aC (aD ?_);refine aC (gW b rfl ?_);dsimp only[eA];refine aC (gI f rfl N.fits ?_);rw[aK (by simp)];refine aC (Ol N f h ?_);rw[dU ep,g];have c:=b;refine aC (fR c rfl (by simp) ?_);have g1:=cE (oP (·.setIfInBounds 0 (pW ((mj w t (i+1))) 0))) c rfl;refine aC (fR g1 rfl (by simp[oP]) ?_);refine aD ⟨e.2,rfl,aD (j _ ?_ ((cC ..).trans (cC ..)))⟩;unfold ql;rw[(cE _ g1 rfl)];rfl
def HU(f:A.handled=none)(N:l0 w es t)(c:xn s.1 a es ep t)(b:ql s.1 I a (mj w t es.size) es.size es.size ep)
  (h:∀e,pS I s.1 e->Q none {s with heap:=e}):bF (bB prog w) A (nA (.ref I)) Q E s:=by
 have g:(oz w a ep es)[es.size]?=none:=by
  have d:=(mr w a ep es).length_eq;rw[aO,aO]at d;rw[<-d];simp
 refine aC (gQ (dR b.ty gx (cL gx b.ty qu ?_ (qr _))));refine aC (aD ?_);refine aC (gW b rfl ?_);refine aC (gI c rfl N.fits ?_);rw[aK (by simp)];refine aC (Ol N c (aJ _) ?_);rw[dU ep,g];refine aC (fR b rfl (by simp) ?_);refine aC ?_;refine aC (m:=gX _ _) (lC (by first|rfl|(simp only[gX];rfl)) ?_);refine dI ?_ (by size_fits);refine aC (oQ ?_);rw[f];refine aC (aD (pT ?_));refine aC (fH ⟨_,aT _ rfl,rfl⟩ nZ ?_);exact aD (h _ (((cC ..).extBut.push _).push _))
def AG(N:l0 w es t)(b:xn s.1 a es ep t)
  (g:Q (.ref s.1.1.size) {s with heap:=s.1.push {cls:=.type "set_iterator",data:=.fields #[eA (0:Nat),eA (0:Nat),.ref a,eA (es.size:Nat),eA (ep:Nat)]}}):bF (bB prog w) A (pQ (.ref a)) Q E s:=by
 have f:s.TypeIs (.ref a) "set":=⟨_,b,rfl⟩;have c:=N.fits;refine iI f jM (cL jM f Ca ?_ (PySem.F.args_set_iter_1 _));unfold Builtin.«frozenset.__iter__» Builtin.Frozenset.slot0 slotArgs;simp only[List.isEmpty_nil,Bool.not_true,Bool.false_eq_true,↓reduceIte,bind_assoc,dA,bne_self_eq_false];refine aC (aD ?_)
 try dsimp only
 refine aC (aD ?_);refine aC (aC (gI b rfl c (aD ?_)));refine aC ?_;refine aC (dW b rfl c ?_);refine aC (aC (iT (aD (aD ?_))));refine nE (λz=>?_) λ_=>?_
 ·exfalso;rw[bA]at z;have e:(!t.plain && decide _)=true:=z.2;have d:(!(w.params.followText "set-order"))=true:=z.1;obtain y|y:=N.pl
  ·rw[y]at d;cases d
  ·rw[y]at e;cases e
 ·refine aC (aD (aC (wpAny_setEpoch_of b rfl c ?_)));refine aC (dI (aD ⟨_,rfl,"set_iterator",_,⟨_,aT _ rfl,rfl⟩,gx.lookup,g⟩) (by size_fits))
def X9(q:A.handled=none)(N:l0 w es t)(j:a≠I):Walks prog w A I [I,a] [I] es.size (λi v=>∃e,(oz w a ep es)[i]?=some e/\v=e.2) (λi h=>ql h I a (mj w t i) i es.size ep/\xn h a es ep t) where
 sub:=λb c=>by simp at c;simp[c]
 frame:=λ_ _ _ st n=>⟨n I (by simp) _ st.1,n a (by simp) _ st.2⟩
 item:=λi s Q E u st g=>by
  have r:=(mr w a ep es).length_eq;rw[aO,aO]at r;have p:_[i]?=some ((oz w a ep es)[i]'(by lia)):=bQ _;exact AH N st.2 st.1 p λm f d=>g _ m s.toks ⟨_,p,rfl⟩ ⟨f,(d.2 a j).trans st.2⟩ λb o c e=>d.extBut b o (λh=>c (by simp[h])) e
 done:=λs Q E st g=>HU q N st.2 st.1 λm l=>g m s.toks λb o c e=>l b o (λh=>c (by simp[h])) e
 self:=λi s Q E st g=>by
  refine iI st.1.ty xf (cL xf st.1.ty Cd ?_ (Cb _));exact aD ⟨_,rfl,"set_iterator",_,st.1.ty,gx.lookup,g⟩
def Y0(d:t.fits es.size=true)(n:w.params.followText "set-order"=false)(j:(!t.plain && decide (es.size>1))=true)(m:es.size<=76)(c:xn s.1 a es ep t)
  (l:∀(b:List Nat) e h,b.Perm (aS es.size)->h=(s.1.push {cls:=.type "tuple",data:=.seq (b.map λ(i:Nat)=>eA i).toArray}).push {cls:=.type "set_iterator",data:=.fields #[.ref s.1.1.size,eA (0:Nat),.ref a,eA (es.size:Nat),eA (ep:Nat)]}->Q (.ref (s.1.1.size+1)) {s with heap:=h,drawn:=e}):bF (bB prog w) A (pQ (.ref a)) Q E s:=by
 have g:s.TypeIs (.ref a) "set":=⟨_,c,rfl⟩;refine iI g jM (cL jM g Ca ?_ (PySem.F.args_set_iter_1 _));unfold Builtin.«frozenset.__iter__» Builtin.Frozenset.slot0 slotArgs;simp only[List.isEmpty_nil,Bool.not_true,Bool.false_eq_true,↓reduceIte,bind_assoc,dA,bne_self_eq_false];refine aC (aD ?_)
 try dsimp only
 refine aC (aD ?_);refine aC (aC (gI c rfl d (aD ?_)));refine aC ?_;refine aC (dW c rfl d ?_);refine aC (aC (iT (aD (aD ?_))));refine nE (λ_=>?_) λz=>?_
 ·refine aC (O3 es.size _ _ (bZ) λb e f=>?_);have o:b.length<=76:=by rwa [f.length_eq,bZ]
  refine aC (wpAny_newTuple ?_ (by rw[aF,cR];lia));refine aC (wpAny_setEpoch_of (aH _ c) rfl d ?_);refine aC (dI (aD ⟨_,rfl,"set_iterator",_,⟨_,aT _ rfl,rfl⟩,gx.lookup,?_⟩) (by size_fits));rw[eN];exact l b e _ f rfl
 ·exfalso;refine z ?_;rw[bA];exact⟨by show(!(w.params.followText "set-order"))=true;rw[n];rfl,j⟩
end
section
variable{prog:bH}{w:bV}{A:cB}{E:aG->aI->Prop}{s:aI}{a L:Addr}{es:Array (Int×aG)}{ep:Nat}{t:cT}
abbrev ES(b:List Nat)(es:Array (Int×aG)):Nat->aG->Prop:=λi v=>∃p e,b[i]?=some p/\es[p]?=some e/\v=e.2
def Pn(hh:A.handled=none)(hf:t.fits es.size=true)(bt:w.params.followText "set-order"=false)(hd:(!t.plain && decide (es.size>1))=true)(Q:es.size<=76)(C:xn s.1 a es ep t)(m:L≠a)(c:aG)(c0:Nat)
  (hL:s.1.get? L=some {cls:=.type "list",data:=.seq #[] c0})
  (hR:∀j G N y h c',qB j (aS es.size)->(∀b o,b≠L->s.1.get? b=some o->N.get? b=some o)->N.get? L=some {cls:=.type "list",dict:=none,data:=.seq h c',slots:=#[]}->ItemsOf (ES j es) h es.size->R (.ok (.ret c)) {s with heap:=N,toks:=y,drawn:=G}):
  bF (bB prog w) A.in1 (Builtin.List.listExtendWith (.ref L) (.ref a) c)
   (λO B=>match O with|.done f=>R (.ok f) B|.again p=>p.quiet=true/\iE (bB prog w) A p R B) (λe B=>R (.error e) B) s:=by
 have q:=aV hL;have zn:es.size<=aQ:=by rw[cR];lia
 refine aC (kG ⟨_,C,rfl⟩ ?_);have n1:Builtin.List.listSameRef (.ref L) (.ref a)=false:=by simp[Builtin.List.listSameRef,m]
 have n2:(mD "set"==mD "list")=false:=by decide
 have n3:(mD "set"==mD "tuple")=false:=by decide
 simp only[n1,n2,n3,Bool.or_false,Bool.false_eq_true,if_false];refine aC (Y0 hf bt hd Q C λj G x hp U=>?_);have up:∀b o,s.1.get? b=some o->x.get? b=some o:=λb o e=>by
  rw[U];exact aH _ (aH _ e)
 have J:Fy x s.1.1.size j:=by
  rw[U];exact aH _ (aT _ rfl)
 have M:qJ x (s.1.1.size+1) s.1.1.size a 0 es.size ep:=by
  rw[U];have:((s.1.push {cls:=.type "tuple",data:=.seq (j.map λ(i:Nat)=>eA i).toArray}).push {cls:=.type "set_iterator",data:=.fields #[.ref s.1.1.size,eA 0,.ref a,eA _,eA _]}).get? (s.1.push {cls:=.type "tuple",data:=.seq (j.map λ(i:Nat)=>eA i).toArray}).objs.size=some {cls:=.type "set_iterator",data:=.fields #[.ref s.1.1.size,eA 0,.ref a,eA es.size,eA ep]}:=aT _ rfl;rw[eN]at this;exact this
 have r:=up _ _ C;have v:=up _ _ hL;have H:L∉[s.1.1.size+1,a,s.1.1.size]:=by
  simp only[dM,mK,or_false,not_or];exact⟨bL (fZ q),m,bL q⟩
 have run:∀(n:Heap)(p y:Nat),(qJ n (s.1.1.size+1) s.1.1.size a 0 es.size ep/\xn n a es ep t/\Fy n s.1.1.size j)->(∀b o,b≠L->s.1.get? b=some o->n.get? b=some o)->n.get? L=some {cls:=.type "list",data:=.seq #[] p}->
   iE (bB prog w) A (.builtin "list.extend.loop" ⟨[.ref L,.ref (s.1.1.size+1),c],[]⟩) R {s with heap:=n,toks:=y,drawn:=G}:=by
  intro n p y st kp g;refine codeAny_extend_loopS (X8 (w:=w) (A:=A.in1) (ep:=ep) (t:=t) (a:=a) (I:=s.1.1.size+1) (T:=s.1.1.size) (by simpa using hh) hf hp (bL (fZ (aV (C)))) (bL (fI _))).toS zn L H c es.size 0 _ #[] p rfl (bX _) st g (ItemsOf.nil _) λY h c3 mv g3 ia=>?_;rw[Moved.eq_with mv];refine hR j G Y.1 Y.toks h c3 hp (λb o l e=>mv.1 b o (λz=>?_) (kp b o l e)) g3 ia;rcases List.mem_cons.mp z with z|z
  ·exact l z
  ·have:=aV e;rw[List.mem_singleton.mp z]at this;exact cP _ (Nat.lt_of_succ_lt this)
 refine aC (cX (Jm ⟨_,(r),rfl⟩ ?_));refine aC (eY ?_);refine aC ?_;refine aC (iB v rfl ?_);have u:=cE (nT (·.push eK)) v rfl;refine iB u rfl ?_;have d:∀b o,b≠L->x.get? b=some o->((x.update L (nT (·.push eK))).update L (nT (·.pop))).get? b=some o:=λb o l e=>by
  rwa [dZ _ _ (iY l),dZ _ _ (iY l)]
 refine aD ⟨eV PySem.F.plain_extend_loop _,run _ _ _ ⟨d _ _ (λz=>H (by simp[z])) M,d _ _ (iY m) r,d _ _ (λz=>H (by simp[z])) J⟩ (λb o l e=>d b o l (up b o e)) (cE _ u rfl)⟩
end
section
variable{prog:bH}{w:bV}{A:cB}{E:aG->aI->Prop}{s:aI}{a L:Addr}{es:Array (Int×aG)}{ep:Nat}{t:cT}
def Kl(J:A.handled=none)(M:t.fits es.size=true)(Q:w.params.followText "set-order"=false)(N:(!t.plain && decide (es.size>1))=true)(C:es.size<=76)(G:xn s.1 a es ep t)
  (H:∀h j d i c,qB h (aS es.size)->(∀b o,s.1.get? b=some o->d.get? b=some o)->ItemsOf (ES h es) c es.size->R c.toList {s with heap:=d,toks:=i,drawn:=j}):bF (bB prog w) A (collect (.ref a)) R E s:=by
 have u:=aV (G);refine aC (wpAny_runValue (eM PyProof.Rows.entry_proto_collect' ?_));refine aC (dI ?_);refine aD ⟨eV PySem.F.plain_list_iadd _,eM PyProof.Rows.entry_list_iadd' ?_⟩;generalize I:s.1.push {cls:=.type "list",data:=.seq ([]).toArray}=z;have O:z.get? s.1.1.size=some {cls:=.type "list",data:=.seq #[]}:=by rw[<-I];exact aT _ rfl
 have up:∀b o,s.1.get? b=some o->z.get? b=some o:=λb o e=>by rw[<-I];exact aH _ e
 have v:=Pn (prog:=prog) (w:=w) (A:=A) (s:={s with heap:=z}) (L:=s.1.1.size) (a:=a)
  (R:=λq r=>∃h j d i c l,q=.ok _/\r={s with heap:=d,toks:=i,drawn:=j}/\qB h _/\(∀b o,s.1.get? b=some o->d.get? b=some o)/\d.get? s.1.1.size=some {cls:=.type "list",dict:=none,data:=.seq c l,slots:=#[]}/\ItemsOf (ES h es) c es.size)
  J M Q N C (up _ _ G) (fL u) (.ref s.1.1.size) 0 O λh j d i c l n p g m=>⟨h,j,d,i,c,l,rfl,rfl,n,λb o e=>p b o (bL (aV e)) (up b o e),g,m⟩
 refine cJ v (λB r x=>?_) λe r x=>?_
 ·cases B with
  |done f=>
   obtain⟨h,j,d,i,c,l,e,rfl,n,p,g,m⟩:=x;cases e;refine aC (wpAny_load g ?_);exact aD (H h j d i c n p m)
  |again U=>
   refine⟨x.1,jA x.2 λq T y=>?_⟩;obtain⟨h,j,d,i,c,l,rfl,rfl,n,p,g,m⟩:=y;refine aC (wpAny_load g ?_);exact aD (H h j d i c n p m)
 ·obtain⟨h,j,d,i,c,l,e,_⟩:=x;cases e
def IE(N:l0 w es t):PySem.W.KdlSrc prog w "set" a a es.size (λi v=>∃e,(oz w a ep es)[i]?=some e/\v=e.2) (λh=>xn h a es ep t) where
 type:=λ_ b=>⟨_,b,rfl⟩
 there:=λ_ b=>⟨aV (b),aV (b)⟩
 keep:=λ_ _ b d=>d a (.inl rfl) _ b
 notList:=by decide
 notTuple:=by decide
 hint:=λ_ _ _ _ b c=>Jm ⟨_,b,rfl⟩ c
 iter:=λA s f b=>⟨_,_,(λ_ _ c=>AG N b c),X9 f N (bL (aV (b))),⟨by
  have:mj w t 0=0:=by unfold mj;split<;>rfl
  rw[this];exact aT _ rfl,aH _ b⟩⟩
end
section
variable{prog:bH}{w:bV}{A:cB}{E:aG->aI->Prop}{s:aI}{a:Addr}
def Ti{l z:List (Int×aG)}(p:l.Perm z):∀{c:List NK},eX prog w b h l c->∃d,d.Perm c/\eX prog w b h z d:=by
 induction p with
 |nil=>intro c q;exact⟨c,gS _,q⟩
 |cons x p G=>
  rintro c ⟨k,r,e,u,o⟩
  subst e;obtain⟨v,j,i⟩:=G o;exact⟨k::v,j.cons k,k,v,rfl,u,i⟩
 |swap x y l=>
  rintro c ⟨k,r,e,u,f,g,I,o,H⟩
  subst e;subst I;exact⟨f::k::g,iU _ _ _,f,k::g,rfl,o,k,g,rfl,u,H⟩
 |trans L J n m=>
  intro c q;obtain⟨M,j,i⟩:=n q;obtain⟨f,C,B⟩:=m i;exact⟨f,C.trans j,B⟩
def Tg:∀{l:List (Int×aG)}{d:List NK},eX prog w b h l d->KeysIn prog w b h (l.map (·.2)) d:=by
 intro c;induction c with
 |nil=>rintro d e;exact e
 |cons _ _ f=>rintro _ ⟨k,r,e,⟨_,i⟩,g⟩;exact⟨k,r,e,i,f g⟩
def Jl{T:List NK}(hh:A.handled=none)(S:rd prog w b h0 s.1 a T)(κ:T.length<=76)
  (hR:∀M n q O h,(∀b o,s.1.get? b=some o->n.get? b=some o)->qB h T->KeysIn prog w b h0 O h->R O {s with heap:=n,toks:=q,drawn:=M}):bF (bB prog w) A (collect (.ref a)) R E s:=by
 obtain⟨ks,f,I,t,g,Q,el,nd,U,le,pl⟩:=S;have ln:f.size=T.length:=by rw[<-U.length_eq,<-el.len,aO]
 have hf:t.fits f.size=true:=by
  obtain⟨h1,h2⟩:=Q.toqw.fits;unfold SetTable.fits;rw[bA];exact⟨by rw[h1];simp,decide_eq_true h2⟩
 have zn:f.size<=aQ:=by rw[cR];lia
 have x:∀(l:List _),l.Perm f.toList->∃h,qB h T/\KeysIn prog w b h0 _ h:=λl y=>by
  obtain⟨C,u,r⟩:=Ti y.symm el;exact⟨C,u.trans U,Tg r⟩
 by_cases L:w.params.followText "set-order"=false/\(!t.plain && decide (f.size>1))=true
 ·refine Kl hh hf L.1 L.2 (by lia) g λB M n q c y G Y=>?_;have yl:B.length=f.size:=by rw[y.length_eq,bZ]
  have H:c.toList=(B.map λi=>f.toList.getD i (0,.none)).map (·.2):=by
   refine jR λi=>?_
   by_cases v:i<c.size
   ·have m:c.toList[i]?=some c[i]:=by rw[bI];exact bQ v
    obtain⟨p,e,J,z,e3⟩:=Y.2 i c[i] (bQ v);rw[m,bJ,bJ,J,e3];rw[<-bI]at z;simp only[pL,aU,z,Option.getD_some]
   ·rw[eI (by rw[aO];lia),eI (by rw[aF,aF,yl,<-Y.1];lia)]
  obtain⟨h,u,r⟩:=x _ (vd (order:=B) (d:=_) (by exact y));rw[H];exact hR M n q _ h G u r
 ·have N:l0 w f t:=⟨hf,Q.rise,le,by
   cases bt:w.params.followText "set-order" with
   |true=>exact .inl rfl
   |false=>
    cases e:(!t.plain && decide (f.size>1))with
    |false=>exact .inr rfl
    |true=>exact absurd ⟨bt,e⟩ L⟩
  refine PySem.W.kdu_collect (IE N) hh g zn λn q c G j=>?_;have H:c.toList=(oz w a I f).toList.map (·.2):=by
   refine jR λi=>?_
   by_cases v:i<c.size
   ·have m:c.toList[i]?=some c[i]:=by rw[bI];exact bQ v
    obtain⟨e,J,z⟩:=j.2 i c[i] (bQ v);rw[m,bJ,bI,J,z];rfl
   ·rw[eI (by rw[aO];lia),eI (by rw[aF,((mr w a I f).length_eq),aO,<-j.1];lia)]
  obtain⟨h,u,r⟩:=x _ (mr w a I f);rw[H];exact hR s.drawn n q _ h G u r
end
def Dv(x:Option HO)(o:Obj):Obj:=match x with
 |some (.tup _)=>o
 |_=>{o with data:=.freed}
def Q0(h:∀a,x≠some (.tup a)):(Dv x o).data=.freed:=by
 unfold Dv;split
 ·rename_i a;exact absurd rfl (h a)
 ·rfl
def S6(H:Hp)(h:Heap):Heap:={h with objs:=h.objs.mapIdx λi o=>Dv (H i) o}
def T3{h:Heap}{o:Obj}(e:h.objs[b]?=some o)(a:o.data≠.freed):h.get? b=some o:=by
 unfold Heap.get?;rw[e];obtain⟨c,d,f,g⟩:=o;cases f<;>first|rfl|exact absurd rfl a
def T4{h:Heap}{o:Obj}(e:h.get? b=some o):h.objs[b]?=some o/\o.data≠.freed:=by
 unfold Heap.get? at e;cases a:h.objs[b]? with
 |none=>rw[a]at e;cases e
 |some f=>
  rw[a]at e;obtain⟨c,d,g,i⟩:=f;cases g<;>first|(cases e;exact⟨rfl,λz=>nomatch z⟩)|cases e
def Yv{h:Heap}(e:h.get? b=some o)(a:H b=some (.tup f)):(S6 H h).get? b=some o:=by
 obtain⟨d,c⟩:=T4 e;refine T3 ?_ c;show(h.objs.mapIdx λi o=>Dv (H i) o)[b]?=some o;rw[Array.getElem?_mapIdx,d];rw[a];rfl
def Gd{h:Heap}(e:(S6 H h).get? b=some o):h.get? b=some o/\∃d,H b=some (.tup d):=by
 obtain⟨n,m⟩:=T4 e;have a:(h.objs.mapIdx λi o=>Dv (H i) o)[b]?=some o:=n;rw[Array.getElem?_mapIdx]at a;cases f:h.objs[b]? with
 |none=>rw[f]at a;cases a
 |some j=>
  rw[f]at a;have g:Dv (H b) j=o:=bN a
  by_cases c:∃d,H b=some (.tup d)
  ·obtain⟨d,l⟩:=c;rw[l]at g;subst g;exact⟨T3 f m,d,l⟩
  ·have:=Q0 (o:=j) λd z=>c ⟨d,z⟩;rw[g]at this;exact absurd this m
section
variable{P:bH}{w:bV}{G H:Hp}{h:Heap}{K:KA}
def M0(H:Hp):Hp:=gT (λ_=>none) H
def Zc(ok:lz P w H h):lz P w (M0 H) (S6 H h):=by
 intro a o e
 by_cases c:∃b,H a=some (.tup b)
 ·obtain⟨b,f⟩:=c;rw[show M0 H a=some _ from xw f]at e;cases e;obtain⟨z,d,r,g,j,i⟩:=(ok a _ f);exact⟨z,d,r,g,Yv j f,i⟩
 ·rw[show M0 H a=none from Ey λb z=>c ⟨b,z⟩]at e;cases e
def Zo(e:(ao P w).is k v=true)(r:RelV x v):x=kV k:=by
 rcases bp e with ⟨i,t,rfl,rfl⟩|⟨y,t,rfl,rfl⟩
 ·cases x<;>first|(obtain⟨_,z⟩:=r;cases z;rfl)|(obtain⟨_,z⟩:=r;cases z)|cases r
 ·cases x<;>first|(obtain⟨_,z⟩:=r;cases z;rfl)|(obtain⟨_,z⟩:=r;cases z)|cases r
theorem Bf:∀{b:List iu}{a:List aG}{xs:List V},ItemsAre (ao P w) b a->Vals xs a->xs=b.map kV
 |_,_,_,.nil,r=>by cases r;rfl
 |_,_,_,.cons f d,r=>by
  cases r with
  |cons e c=>rw[Zo f e,Bf d c,aR]
def Xw(ok:lz P w H h){d:List iu}(q:eW (ao P w) (S6 H h) d b):H b=some (.tup (d.map kV)):=by
 obtain⟨o,c,n,e,x,l,j⟩:=q;obtain⟨p,s,f⟩:=Gd e;obtain⟨_,i,r,u,g,m,v,a⟩:=(ok b _ f);rw[p]at g;cases g;rw[l]at a;cases a;rw[f,Bf (by simpa using j) r]
def Z6(ok:lz P w H h){k:NK}{v:aG}(q:yb P w (S6 H h) k v):∃x,RelV x v/\qd H k x:=by
 cases k with
 |inl k=>
  refine⟨kV k,?_,rfl⟩;rcases bp q with ⟨i,t,rfl,rfl⟩|⟨y,t,rfl,rfl⟩
  ·exact⟨t,rfl⟩
  ·exact⟨t,rfl⟩
 |inr a=>obtain⟨b,rfl,q⟩:=q;exact⟨.ref b,rfl,b,rfl,Xw ok q⟩
def K9{b:Bool}(l:∀k v,yb P w o k v->∃x,RelV x v/\qd H k x):∀{g:List aG}{d:List NK},KeysIn P w b o g d->∃a,Vals a g/\br K (gT G H) (d.map Lv) a:=by
 intro c;induction c with
 |nil=>rintro d e;rw[e];exact⟨[],.nil,rfl⟩
 |cons _ _ f=>
  rintro _ ⟨k,r,p,q,t⟩
  subst p;obtain⟨a,n,m⟩:=f t;obtain⟨x,j,i⟩:=l k _ q.nk;exact⟨x::a,.cons j n,⟨_,_,rfl,Gh i,m⟩⟩
def Jo:NK->Bool
 |.inl _=>false
 |.inr _=>true
def A9(a:List NK):Bool:=a.all Jo||a.all λk=> !Jo k
def Zd{c:List NK}(h:A9 c=true):∃b,∀k∈c,Jo k=b:=by
 unfold A9 at h;rcases Bool.or_eq_true_iff.mp h with h|h
 ·exact⟨true,λk a=>List.all_eq_true.mp h k a⟩
 ·exact⟨false,λk a=>by simpa using List.all_eq_true.mp h k a⟩
def Qc{b:Bool}:∀{a:List NK}{c:List aG},e8 P w h a c->(∀k∈a,Jo k=b)->KeysIn P w b h c a:=by
 intro a;induction a with
 |nil=>rintro c e _;rw[e];exact rfl
 |cons k r g=>
  rintro c ⟨v,t,rfl,q,f⟩ d
  refine⟨k,r,rfl,?_,g f λk i=>d k (.tail _ i)⟩;have:=d k (.head _);cases k with
  |inl k=>exact⟨this.symm,q⟩
  |inr j=>exact⟨this.symm,q⟩
noncomputable def vf(d:D):Option D:=match d with
 |.lst b=>(yc b).bind λa=>if A9 a=true/\(tu a).length<=76 then(ik ((tu a).map Lv)).map .lst else none
 |_=>none
def cm(d:D):Option D:=vf d
end
section
variable{X:Cx}
inductive tB(X:Cx)(H0:Hp)(p:Addr)(T:List NK)(h:Heap):Prop
 |mk (b h0) (_:rd X.prog X.w b h0 h p T) (_:∀k v,yb X.prog X.w h0 k v->∃x,RelV x v/\qd H0 k x):tB X H0 p T h
def Y3(X:Cx)(a:Hp)(p:Addr)(T:List NK):HO:=.ext (tB X a p T)
inductive rB(X:Cx)(xs:List V)(H:Hp)(Q:VK):Prop
 |mk (a vs kz) (_:xs=[.ref a]) (_:fD X.K H a vs) (_:sQ H kz vs) (_:A9 kz=true) (_:(tu kz).length<=76) (_:∀p,H p=none->Q (.ref p) (upd H p (Y3 X H p (tu kz)))):rB X xs H Q
def Kd(U:X.calm=true)(O:X.A.units+12<cZ):hW X (.type "set") (rB X):=by
 intro f s Z H xs us Q I r q;obtain⟨a,vs,kz,rfl,n,M,d,p,q⟩:=q;obtain⟨u,rfl,w⟩:=mq r;cases w;obtain⟨N,v,L,_⟩:=I.list n;obtain⟨b,Y⟩:=Zd d;refine Pc (b:=b) O (I.ok.hd U) L.isList (by simpa using Qc (qc (Zc I.ez) (M.mono λb xs e=>xw e) v) Y) (λc o e=>(Gd e).1) p λh' m i T=>?_;refine⟨.ref s.1.1.size,_,I.laid (o:=Y3 X H s.1.1.size _) (t':=m) (λb o e=>T b o (aV e) e) (aJ _) ?_,rfl,q _ (I.ez.fresh (aJ _))⟩;refine⟨⟨b,_,i,λk b z=>Z6 I.ez z⟩,?_,λh1 h2 ⟨b,h0,x,y⟩ k=>⟨b,h0,?_,y⟩⟩
 ·obtain⟨h,j,l,t,g,_⟩:=i;exact⟨_,g⟩
 ·obtain⟨h,j,l,t,g,q,J,G,E,C,B⟩:=x;exact⟨h,j,l,t,k _ g,q,J,G,E,C,B⟩
inductive qG(X:Cx)(xs:List V)(H:Hp)(Q:VK):Prop
 |mk (p T H0 G ds') (_:xs=[.ref p]) (_:H p=some (Y3 X H0 p T)) (_:(∀b ys,H0 b=some (.tup ys)->H b=some (.tup ys))) (_:bc G H) (_:T.length<=76) (_:ik (T.map Lv)=some ds') (_:∀q vs',H q=none->br (kx X) (gT G H) ds' vs'->Q (.ref q) (upd H q (.lst vs'))):qG X xs H Q
def F7(y:X.A.units+5<cZ)(J:X.calm=true):hW X (.builtin "sorted") (qG X):=by
 intro d s Z H xs Y Q I r q;obtain⟨p,T,H0,G,O,rfl,E,B,h,c,N,q⟩:=q;obtain⟨u,rfl,j⟩:=mq r;cases j;obtain⟨⟨b,h0,L,a⟩,_,_⟩:=I.ez p _ E;refine za y I (xu h).gh (λQ' E' C=>?_) q;refine Jl (I.ok.hd J) L c λU M g f kz w n o=>?_;obtain⟨e,i,dl⟩:=K9 (G:=G) (H:=H) (λk v z=>by obtain⟨x,m,l⟩:=a k v z;exact⟨x,m,l.mono B⟩) o;exact C U M g f e _ w i dl (Mm ((n.map Lv).symm) N)
end
section
variable{X:Cx}{B:Hp}{E:EK}{e:Expr}{g:En->Res}{pos p pos' p':Pos}
def Mn(n:bc G H)(O:Arg (kx X) G H y x)(w:vf y=some d)(q:∀v I C,Ext G H I C->Den (kx X) I d v->Q v C):
  rB X [x] H λx T=>qG X [x] T Q:=by
 cases y with
 |lst A=>
  have i:((yc A).bind λh=>if A9 h=true/\(tu h).length<=76 then(ik _).map D.lst else none)=some d:=w;cases o:yc A with
  |none=>rw[o]at i;cases i
  |some h=>
   rw[o]at i;have c:(if A9 h=true/\(tu h).length<=76 then(ik _).map D.lst else none)=some d:=i
   by_cases f:A9 h=true/\(tu h).length<=76
   ·rw[aN f]at c;cases r:ik _ with
    |none=>rw[r]at c;cases c
    |some s=>
     rw[r]at c;cases c;obtain⟨a,L,rfl,M,dl⟩:=O.lst n;refine⟨a,L,h,rfl,M,(Gg dl o).mono λb xs z=>n b _ z,f.1,f.2,λp u=>?_⟩;have m:=Ext.own n (Y3 X H p (tu h)) u;refine⟨p,tu h,H,G,s,rfl,ai,λb U e=>?_,m.gh,f.2,r,λY J j N=>?_⟩
     ·rwa [ag (bf e u)]
     ·have l:=xu m.gh;exact q _ _ _ (m.trans (l.trans (Ext.new l.gh _ j))) (vy l.gh j N)
   ·rw[aK f]at c;cases c
 |_=>cases w
def Q6(i:X.A.units+12<cZ)(f:X.calm=true)(l:Gl X "sorted")(j:X.mg "sorted"=none)(b:Gl X "set")(a:X.mg "set"=none)(m:k9 X B E e g)(c:bM [e] X.env=(false,eval e X.env)::bM [] X.env):
  gj X B E (.Call (.Name "sorted" p) [.Call (.Name "set" p') [e] [] pos'] [] pos) (g1 vf g):=
 PE.imp (og (F7 (by lia) f) l j PyProof.Rows.boot_sorted (ky (oh (Kd f i) b a PyProof.Rows.boot_set (ip m je c) (by decide) (by decide) c rfl) qi rfl) (by decide) (by decide) rfl rfl) λZ H Q q=>
  Yp (rr:=λxs H Q=>rB X xs H λx r=>qG X [x] r Q) (λG H x s d h o n Q q=>Mn h o n q) q
end
end Pu
namespace L2
open PySem PySem.Spec PyProof.Rows
section
variable{X:Cx}{pins:List (Addr×Obj)}{Z:St}{H:Hp}{s:aI}{h':Heap}{t':Nat}{fs:List Addr}
def Inv.rm(I:Inv X pins Z H s)(f:∀b∈fs,o1 X pins H b)(k:∀b o,b∉fs->s.1.get? b=some o->h'.get? b=some o){x y:V}{u v:aG}(j:h'.get? s.1.1.size=some {cls:=.type "tuple",data:=.seq #[u,v]})(p:RelV x u)(l:RelV y v):
  Inv X pins Z (upd H s.1.1.size (.tup [x,y])) {s with heap:=h',toks:=t'}:=by
 have old:∀{b:Addr}{o:HO},H b=some o->b∉fs:=λ{b o} q a=>by
  rw[(f b a).1]at q;cases q
 have up:∀{b:Addr}{o:HO},H b=some o->upd H s.1.1.size (.tup [x,y]) b=some o:=λq=>(ag (bf q (I.ez.fresh (aJ _)))).trans q;refine I.step (ch:=fs) (λb a=>?_) (λb o _ _ c q _=>k b o c q) (λb o _ _ c q _=>⟨o.slots,k b o c q⟩) (λb o _ q n=>?_) (λb o c q=>⟨o,k b o c q⟩)
  (λb h q=>up q) (λb o v q=>up q) (λb y q=>up q) (λm A=>?_) (λb i q=>?_) I.bare
 ·obtain⟨Q,G,O,E,C,B⟩:=f b a;exact⟨E,G,C,B⟩
 ·rwa [ag (bL (aV q))]
 ·obtain⟨o,J,L,w,r⟩:=A;exact⟨o,J,L,k _ o (λa=>(f _ a).2 rfl) w,r⟩
 ·by_cases a:b=s.1.1.size
  ·subst a;rw[ai]at q;cases q;exact⟨by rw[cR];simp,[u,v],.cons p (.cons l .nil),_,j,rfl,0,rfl⟩
  ·rw[ag a]at q;refine(I.ez b i q).qX (λd e g r=>k d e ?_ r) (λd z=>up z) (λd h z=>up z) λd N M z=>up z;obtain z|z:=g
   ·rw[z];exact old q
   ·exact old z
end
end L2
namespace Pu
open PySem PySem.Spec PyProof.Rows L2
def OL(K:aP)(a:Addr):It:=
 ⟨λi H=>∃xs x,fD K H a xs/\xs[i]?=some x,λi H v b=>∃p x,H p=none/\v=.ref p/\b=upd H p (.tup [.int (i:Int),x])/\∀xs,fD K H a xs->xs[i]?=some x,λi H=>∃xs,fD K H a xs/\xs.length<=i⟩
def RB(e it a:Addr)(i:Nat)(h:Heap):Prop:=(∃old,IsEnum h e it (i:Int) old)/\h.IsListIter it a i
def Rp{P:bH}{w:bV}{K:aP}{B:List Expr}{k1}{tp:Pos}(a e it:Addr)(m:e≠it):Turn P w K (.Tuple B k1 tp) (OL K a) [e,it] e (RB e it a) where
 mem:=by simp
 obj:=λi h st b c=>by
  obtain⟨⟨old,d⟩,o,M,U,hd⟩:=st;rcases List.mem_cons.mp c with rfl|c
  ·exact⟨_,d,λv z=>by
    cases z⟩
  ·have e:b=it:=by simpa using c
   subst e;exact⟨o,M,λv z=>by rw[hd]at z;cases z⟩
 keep:=λi h h' st k=>⟨let ⟨old,d⟩:=st.1;⟨old,k e (by simp) _ d⟩,st.2.at λo q=>k it (by simp) o q⟩
 item:=by
  intro X Y J hK U i g s Z H E I l st O;subst Y J hK;obtain⟨xs,x,A,hx⟩:=O;obtain⟨G,C,p,hz⟩:=I.list A;obtain⟨u,hu,ru⟩:=C.get hx;obtain⟨⟨old,d⟩,f⟩:=st;obtain⟨f0,f1,f2,f3,f4,f5⟩:=l e (by simp);obtain⟨g0,g1,g2,g3,g4,g5⟩:=l it (by simp);have y:=aV d;refine wpAny_pyNext_enum_item d f p.isList (by simpa using hu) m λh1 T n L ξ N=>?_;refine⟨_,rfl,wpAny_letOwnedTupleGo_enum T λh2 Q sb=>?_⟩;have j:=sb;have ch:∀b,b∉[e,it]->b≠e/\b≠it:=λb c=>by simpa using c
  have I2:Inv X g Z (upd H s.1.1.size (.tup [.int _,x])) {s with heap:=h2,toks:=s.toks+1}:=I.rm l (λb o c q=>(λb o r β q=>j.extBut b o r (N b o r β q)) b o (ch b c).1 (ch b c).2 q) (j.extBut _ _ (fL y) L) ⟨_,rfl⟩ ru;refine⟨.ref s.1.1.size,_,I2,rfl,⟨_,x,(I.ez.fresh (aJ _)),rfl,rfl,λys hy=>by rwa [I.qP hy A]⟩,⟨⟨u,?_⟩,?_⟩,λb c=>?_⟩
  ·have:((i+1:Nat):Int)=(i:Int)+1:=by push_cast;rfl
   exact Q
  ·exact n.at λo q=>j.extBut it o (iY m) q
  ·have z:=(l b c).1;have:b<s.1.1.size:=by
    rcases List.mem_cons.mp c with rfl|c
    ·exact y
    ·have z:b=it:=by simpa using c
     subst z;obtain⟨o,M,_⟩:=f;exact aV M
   rwa [ag (bL this)]
 done:=by
  intro X Y J hK U i g s Z H E I l st O;subst Y J hK;obtain⟨xs,A,hx⟩:=O;obtain⟨G,C,p,hz⟩:=I.list A;obtain⟨⟨old,d⟩,f⟩:=st;obtain⟨g0,g1,g2,g3,g4,g5⟩:=l it (by simp);have hl:=C.length;exact wpAny_pyNext_enum_end (I.ok.hd U) d f p.isList (by simp;lia) λh' eb=>⟨rfl,I.turned (λb o c e=>eb b o c e) g0 g1 g3 g4 g5⟩
 self:=λ_ _ _ _ _ st h=>let ⟨_,d⟩:=st.1;wpAny_pyIter_enum d h
def rj:Nat->List D->List D
 |_,[]=>[]
 |i,d::r=>.tup [.int (i:Int),d]::rj (i+1) r
theorem Dj:∀(i:Nat)(a:List D),(rj i a).length=a.length
 |_,[]=>rfl
 |i,d::r=>by rw[rj,aE,aE,Dj]
theorem Di:∀(i j:Nat)(a:List D),(rj i a)[j]?=(a[j]?).map λd=>.tup [.int ((i+j:Nat):Int),d]
 |_,_,[]=>by simp[rj]
 |i,0,d::r=>by simp[rj]
 |i,j+1,d::r=>by
  rw[rj,gA,gA,Di _ j r];rw[show i+1+j=i+(j+1) by lia]
section
variable{X:Cx}{B:Hp}{E:EK}{e:Expr}{g:En->Res}{pos p tp:Pos}{vG:List Expr}{k1:Nat}
def Ue{K:KA}{a:Addr}{o:Hp}{l:List D}{b:List V}{S:Hp->Hp->Prop}(h:∀G H,S G H->bc G H->fD K H a b/\bc o G)(dl:br K o l b):xm K (OL K a) (rj 0 l) S:=λi G H s f=>by
 obtain⟨q,g⟩:=h G H s f;refine⟨λd c=>?_,λr=>⟨b,q,by rw[Dj]at r;rwa [<-dl.length]⟩⟩;rw[Di,eP]at c;cases j:l[i]? with
 |none=>rw[j]at c;cases c
 |some I=>
  rw[j]at c;cases c;obtain⟨v,n,C⟩:=dl.get j;refine⟨⟨b,v,q,n⟩,λx J ⟨p,y,m,A,w,u⟩=>?_⟩;subst A w;have z:=u b q;rw[n]at z;cases z;exact⟨_,Ext.new f _ m,sj f m (br.append (br.one (d:=.int _) rfl) (br.one (C.mono g)))⟩
end
section
variable{prog:bH}{w:bV}{A:cB}{E:aG->aI->Prop}{s:aI}
def QL(b a:aG)(TI TO:Addr):Obj:={cls:=.type "zip",dict:=none,data:=.fields #[b,a,.bool false,.ref TI,.ref TO],slots:=#[]}
structure ZG(It:Heap->Nat->Nat->Nat->Prop)(h:Heap)(z TI TO i1 i2 l1 l2 k:Nat)(f0 f1:aG):Prop where
 hz:h.get? z=some (QL f0 f1 TI TO)
 hI:IsPair h TI (.ref i1) (.ref i2)
 hO:∃a b,IsPair h TO a b
 h1:It h i1 l1 k
 h2:IsTupIter h i2 l2 k
abbrev OE(h:Heap)(z TI TO d c b a k:Nat)(e:aG):Prop:=ZG IsTupIter h z TI TO d c b a k e (.bool false)
end
def ZG.at{h i:Heap}{z TI TO d c g f k:Nat}{j:aG}(Z:OE h z TI TO d c g f k j)(e:∀b∈[z,TI,TO,d,c],∀o,h.get? b=some o->i.get? b=some o):OE i z TI TO d c g f k j:=
 ⟨e z (by simp) _ Z.hz,e TI (by simp) _ Z.hI,let ⟨a,b,q⟩:=Z.hO;⟨a,b,e TO (by simp) _ q⟩,let ⟨o,q,r⟩:=Z.h1;⟨o,e d (by simp) o q,r⟩,let ⟨o,q,r⟩:=Z.h2;⟨o,e c (by simp) o q,r⟩⟩
def ZG.there{h:Heap}{z TI TO e d l j k:Nat}{r:aG}(Z:OE h z TI TO e d l j k r):∀b∈[z,TI,TO,e,d],∃o,h.get? b=some o/\∀v,o.data≠.cell v:=λb n=>by
 obtain⟨m,q,⟨a,c,p⟩,⟨x,i,_,u⟩,⟨w,g,_,s⟩⟩:=Z;have:b=z\/b=TI\/b=TO\/b=e\/b=d:=by simpa using n
 obtain rfl|rfl|rfl|rfl|rfl:=this
 ·exact⟨_,m,λv z=>by have f:=z;cases f⟩
 ·exact⟨_,q,λv z=>by cases z⟩
 ·exact⟨_,p,λv z=>by cases z⟩
 ·exact⟨_,i,λv z=>by rw[u]at z;cases z⟩
 ·exact⟨_,g,λv z=>by rw[s]at z;cases z⟩
section
variable{prog:bH}{w:bV}{A:cB}{E:aG->aI->Prop}{s:aI}{d:Addr}{es:Array oY}{ep:Nat}
def Fd(d:Addr)(b:(d==gE)=false):
  MeetsIn prog w (Builtin.«dict.items» ⟨[.ref d],[]⟩) (λ_ R s=>(∃es ep,qI s.1 d es ep)/\
   R (.ok (.ret (.ref s.1.1.size))) {s with heap:=s.1.push {cls:=.type "dict_items",data:=.fields #[.ref d]}}):=
 .of_wp<|by
  rintro A R s ⟨⟨es,ep,a⟩,h⟩
  refine aC ?_;refine aC (jL a.ty ?_);refine aD ?_;unfold mC;rw[aK (by rw[b];exact Bool.false_ne_true)];refine aC (aD ?_);exact aC (dI (aD ⟨_,rfl,h⟩))
def Mc{v:Addr}{Q:aG->aI->Prop}(c:s.1.IsItemsView v d)(h:qI s.1 d es ep)
  (j:Q (.ref s.1.1.size) {s with heap:=s.1.push {cls:=.type "dict_itemiterator",data:=.fields #[.none,.bool false,.ref d,.int 0 0,.int es.size 0,.int ep 0,.none,.none]}}):
  bF (bB prog w) A (pQ (.ref v)) Q E s:=by
 obtain⟨l,e,i,f⟩:=id c;obtain⟨o,g,m,a⟩:=id h;refine iI c.typeIs F.slot_dict_items_iter (cL F.slot_dict_items_iter c.typeIs F.entry_dict_items_iter ?_ (F.args_dict_items_iter_1 _));refine aC (aD ?_);refine aC ?_;refine aC (pV e f rfl (aD ?_));refine aC ?_;refine aC (fY g a ?_);refine aC (jK g a ?_);have b:eQ "dict_itemiterator"=true:=by decide
 simp only[b,if_true];refine dI (aD ⟨_,rfl,"dict_itemiterator",_,⟨_,aT _ rfl,rfl⟩,F.slot_dict_itemiterator_next.lookup,?_⟩)
  (by simp only[sizeOk,kS,bO,aM,aE,dA,cR];lia)
 simpa[eA,kS]using j
def Md{it:Addr}{i:Nat}{ok ov:aG}{Q:Option aG->aI->Prop}(I:kX s.1 it d i es.size ep ok ov)(hm:qI s.1 d es ep)(Y:i<es.size)
   (hQ:∀h',IsItemIterOut h' it d (i+1) es.size ep es[i].key es[i].val s.1.1.size->
   h'.get? s.1.1.size=some {cls:=.type "tuple",data:=.seq #[es[i].key,es[i].val]}->h'.objs.size=s.1.1.size+1->
   (∀b o,b≠it->s.1.get? b=some o->h'.get? b=some o)->Q (some (.ref s.1.1.size)) {s with heap:=h'}):
  bF (bB prog w) A (nA (.ref it)) Q E s:=by
 obtain⟨L,g,dr,tk,os⟩:=s;obtain⟨od,U,ι,α⟩:=id hm;have hT:mO ⟨L,g,dr,tk,os⟩ (.ref it) "dict_itemiterator":=⟨_,I,rfl⟩;refine aC (gQ (dR hT fS
  (cL fS hT mL ?_ (lY _))))
 refine aC (aD ?_);refine aC ?_;refine aC ?_
 first|refine aC (fJ hT (aD ?_))|refine aC _
 refine aC (gW I rfl ?_);have η:eQ "dict_itemiterator"=true:=by decide
 show bF _ _ _ _ _ _;refine aC (aD ?_);refine aC (fY U α ?_);rw[aK (by simp)];refine aC (aD ?_);refine aC (jK U α ?_);rw[aK (by simp)];refine aD ?_;simp only[by omega,if_false,dU,bQ Y];refine aC ?_
 first|refine aC (fJ hT (aD ?_))|refine aC _
 refine aC (lU hT ?_);show bF _ _ (setField _ 3 (eA (_+1))>>=_) _ _ ⟨L,g,dr,tk,os⟩;refine aC (jG I (by simp) λp m l=>?_);replace l:cQ it L p:=l;replace m:kX p it d (i+1) es.size ep ok ov:=by
  have e:((i+1:Nat):Int)=(i:Int)+1:=by omega
  unfold kX;simpa[eA]using m
 have H:mO ⟨p,g,dr,tk,os⟩ (.ref it) "dict_itemiterator":=⟨_,m,rfl⟩;refine aC (cX ?_);refine aC (lU H ?_);refine aC (lU H ?_);refine aC (wpAny_newTuple ?_);have j:kX (p.push {cls:=.type "tuple",data:=.seq #[es[i].key,es[i].val]}) it d _ es.size ep ok ov:=aH _ m;generalize r:p.push {cls:=.type "tuple",data:=.seq #[es[i].key,es[i].val]}=n at j;have q:=l.1;have J:=aV I;have N:n.get? L.objs.size=some {cls:=.type "tuple",data:=.seq #[es[i].key,es[i].val]}:=by rw[<-r,<-q];exact aT _ rfl
 have M:n.objs.size=L.objs.size+1:=by rw[<-r,eN,q]
 have O:∀b o,b≠it->L.get? b=some o->n.get? b=some o:=λb o T e=>by rw[<-r];exact aH _ (l.extBut b o T e)
 show bF _ _ _ _ _ ⟨n,g,dr,tk,os⟩;rw[q];refine aC ?_;refine aC (pV j rfl rfl (aD ?_));refine aC (pV j rfl rfl ?_);refine aC (pV j rfl rfl ?_);refine aC (jG j (by simp) λG y h=>?_);replace h:cQ it n G:=h;replace y:kX G it d _ es.size ep es[i].key ov:=y;refine aC (jG y (by simp) λC x f=>?_);replace f:cQ it G C:=f;replace x:kX C it d _ es.size ep es[i].key es[i].val:=x;refine aC (jG x (by simp) λB v c=>?_);replace c:cQ it C B:=c;replace v:IsItemIterOut B it d _ es.size ep es[i].key es[i].val L.objs.size:=v;refine aC (jG v (by simp) λz u a=>?_);replace a:cQ it B z:=a;replace u:IsItemIterOut z it d _ es.size ep es[i].key es[i].val L.objs.size:=u;refine aC (oM (aD (aD ⟨_,rfl,aD (hQ z u ?_ ?_ ?_)⟩)))
 ·exact a.extBut _ _ (fL J) (c.extBut _ _ (fL J) (f.extBut _ _ (fL J) (h.extBut _ _ (fL J) N)))
 ·rw[a.1,c.1,f.1,h.1,M]
 ·exact λb o T e=>a.extBut b o T (c.extBut b o T (f.extBut b o T (h.extBut b o T (O b o T e))))
def Mb{it:Addr}{ok i:aG}{Q:Option aG->aI->Prop}(l:A.handled=none)(a:kX s.1 it d es.size es.size ep ok i)(j:qI s.1 d es ep)
  (o:∀h,pS it s.1 h->Q none {s with heap:=h}):bF (bB prog w) A (nA (.ref it)) Q E s:=by
 obtain⟨od,c,n,e⟩:=id j;have f:s.TypeIs (.ref it) "dict_itemiterator":=⟨_,a,rfl⟩;refine aC (gQ (dR f fS
  (cL fS f mL ?_ (lY _))))
 refine aC (aD ?_);refine aC ?_;refine aC ?_
 first|refine aC (fJ f (aD ?_))|refine aC _
 refine aC (gW a rfl ?_);have g:eQ "dict_itemiterator"=true:=by decide
 show bF _ _ (if _=true then _ else _) _ _ s;refine aC (aD ?_);refine aC (fY c e ?_);rw[aK (by simp)];refine aC (aD ?_);refine aC (jK c e ?_);rw[aK (by simp)];refine aD ?_;simp only[by omega,if_false,dU,Array.getElem?_eq_none (aJ es.size)];refine aC ?_
 first|refine aC (fJ f (aD ?_))|refine aC _
 show bF _ _ (setField _ 2 .none>>=_) _ _ s;refine aC (fR a rfl (by simp) ?_);refine aC ?_;refine aC (m:=gX _ _) (lC (by first|rfl|(simp only[gX];rfl)) ?_);refine dI ?_ (by size_fits);refine aC (oQ ?_);rw[l];refine aC (aD (pT ?_));refine aC (fH (b:=true) ⟨_,aT _ rfl,rfl⟩ nZ ?_);exact aD (o _ (((cC ..).extBut.push _).push _))
end
inductive wU(P:bH)(w:bV)(H:Hp)(h:Heap)(a:Addr)(o:Obj)(es:List (a7×V)):Prop
 |mk (_:(a==gE)=false) (_:es.length<=aQ) (_:h.get? a=some o) (_:o.ExactDict) (xs dt ep) (_:KT H es xs) (_:o.data=.dict dt ep) (_:dt.toList=xs.map (entryOfKey (fj P w))) (_:dt.size=es.length):wU P w H h a o es
def ua{P:bH}{w:bV}{H:Hp}{h:Heap}{a:Addr}{o:Obj}{es:List (a7×V)}(ok:lz P w H h)(e:H a=some (.jo o (.dT es))):wU P w H h a o es:=by
 obtain⟨d,z,f,xs,rel,m,l,j,c,i,g,b,_⟩:=(ok a _ e);rw[d]at c;cases c;refine⟨f,z,d,i,xs,l,j,rel,g,b,?_⟩;have:=congrArg dH b;rw[aF,aO]at this;rw[this,<-kK rel]
theorem Lc{H:Hp}:∀{es:List (a7×V)}{xs:List (a7×Addr×aG)},KT H es xs->∀{i:Nat}{p:a7×V},es[i]?=some p->∃q,xs[i]?=some q/\ll H p.1 q.2.1/\RelV p.2 q.2.2
 |_,_,.nil,i,p,e=>by simp at e
 |_,_,.cons r t,0,p,e=>by simp at e;subst e;exact⟨_,rfl,r.2.1,r.2.2⟩
 |_,_,.cons r t,i+1,p,e=>by simp at e;simpa using Lc t e
def Nm{P:bH}{w:bV}{a:Array oY}{xs:List (a7×Addr×aG)}(h:a.toList=xs.map (entryOfKey (fj P w))){i:Nat}{q:a7×Addr×aG}(b:xs[i]?=some q)(c:i<a.size):a[i].key=.ref q.2.1/\a[i].val=q.2.2:=by
 have e:a.toList[i]?=some a[i]:=by rw[bI];exact bQ c
 rw[h,bJ,b]at e;rw[<-(bN e)];exact⟨rfl,rfl⟩
def OM(o:Obj)(a:Addr):It:=
 ⟨λi H=>∃c,H a=some (.jo o (.dT c))/\i<c.length,λi H x d=>d=H/\∃c p b,H a=some (.jo o (.dT c))/\c[i]?=some p/\x=.ref b/\ll H p.1 b,λi H=>∃c,H a=some (.jo o (.dT c))/\c.length<=i⟩
def Ro{P:bH}{w:bV}{K:aP}{tg:Expr}{o:Obj}{a it:Addr}{x:Array oY}{ep:Nat}(f:o.data=.dict x ep):Turn P w K tg (OM o a) [it] it (λi h=>h.IsKeyIter it a i x.size ep/\i<=x.size) where
 mem:=by simp
 obj:=λi h st b l=>by
  have e:b=it:=by simpa using l
  subst e;obtain⟨⟨o,e,c,d⟩,_⟩:=st;exact⟨o,e,λv z=>by rw[d]at z;cases z⟩
 keep:=λi h h' st k=>⟨let ⟨o,ho,r⟩:=st.1;⟨o,k it (by simp) o ho,r⟩,st.2⟩
 item:=by
  intro X hP hw hK Y i m s Z H E I p st G;obtain⟨es,u,C⟩:=G;obtain⟨Q,O,f2,N,M,L⟩:=p it (by simp);obtain⟨hd,z,J,A,xs,U,T,rel,n,h4,y⟩:=ua I.ez u;rw[f]at n;cases n;have j:i<x.size:=by rwa [y]
  refine Wz st.1 ⟨o,J,A,f⟩ j λh' g B=>?_;obtain⟨ob,e,c,dd⟩:=id g;obtain⟨q,hq,tk,_⟩:=Lc rel (aW C);obtain⟨ek,_⟩:=Nm h4 hq j;refine⟨_,rfl,Dn e c dd (by decide) ⟨.ref q.2.1,H,(I.turned (λb o l e=>(B.2 b l).trans e) Q O N M L),by rw[ek];exact rfl,⟨rfl,es,_,_,u,aW C,rfl,tk⟩,⟨g,j⟩,λb l=>(p b l).1⟩⟩
 done:=by
  intro X hP hw hK Y i m s Z H E I p st G;obtain⟨es,u,C⟩:=G;obtain⟨Q,O,f2,N,M,L⟩:=p it (by simp);obtain⟨hd,z,J,A,xs,U,T,rel,n,h4,y⟩:=ua I.ez u;rw[f]at n;cases n;have e:=pM st.2 (by rwa [y]);subst e;exact BI (I.ok.hd Y) st.1 ⟨o,J,A,f⟩ λh' eb=>⟨rfl,I.turned (λb o l e=>eb b o l e) Q O N M L⟩
 self:=λ_ _ _ _ _ st h=>wpAny_pyIter_keyiter st.1 h
def FK{K:KA}{o:Obj}{a:Addr}{r:Hp}{c:List (D×D)}{es:List (a7×V)}{S:Hp->Hp->Prop}(h:∀G H,S G H->bc G H->H a=some (.jo o (.dT es))/\bc r G)(dl:fc K r c es):xm K (OM o a) (c.map (·.1)) S:=λi G H v l=>by
 obtain⟨q,g⟩:=h G H v l;rw[Dh dl];refine⟨λd f=>?_,λu=>⟨es,q,by rwa [aF]at u⟩⟩;rw[bJ]at f;cases j:es[i]? with
 |none=>rw[j]at f;cases f
 |some p=>
  rw[j]at f;cases f;refine⟨⟨es,q,(List.getElem?_eq_some_iff.mp j).1⟩,λx A ⟨e,y,z,b,m,n,w,s⟩=>?_⟩;subst e w;rw[q]at m;cases m;rw[j]at n;cases n;exact⟨_,xu l,Tc s⟩
def OJ(o:Obj)(a:Addr):It:=
 ⟨λi H=>∃c,H a=some (.jo o (.dT c))/\i<c.length,λi H x d=>∃c p b y,H a=some (.jo o (.dT c))/\c[i]?=some p/\ll H p.1 b/\H y=none/\x=.ref y/\d=upd H y (.tup [.ref b,p.2]),λi H=>∃c,H a=some (.jo o (.dT c))/\c.length<=i⟩
def M4{P:bH}{w:bV}{K:aP}{A:List Expr}{k1}{tp:Pos}{o:Obj}{a it:Addr}{y:Array oY}{ep:Nat}(f:o.data=.dict y ep):
  Turn P w K (.Tuple A k1 tp) (OJ o a) [it] it (λi h=>(∃ok l,kX h it a i y.size ep ok l)/\i<=y.size) where
 mem:=by simp
 obj:=λi h st b c=>by
  have e:b=it:=by simpa using c
  subst e;obtain⟨⟨ok,l,e⟩,_⟩:=st;exact⟨_,e,λv z=>by cases z⟩
 keep:=λi h h' st k=>⟨let ⟨ok,l,e⟩:=st.1;⟨ok,l,k it (by simp) _ e⟩,st.2⟩
 item:=by
  intro X hP hw hK U i g s Z H E I u st J;obtain⟨N,x,r⟩:=J;obtain⟨f0,f1,f2,f3,f4,f5⟩:=u it (by simp);obtain⟨hd,z,L,G,xs,Q,O,rel,p,Y,C⟩:=ua I.ez x;rw[f]at p;cases p;have j:i<y.size:=by rwa [C]
  obtain⟨⟨ok,l,d⟩,_⟩:=st;obtain⟨q,hq,tk,rv⟩:=Lc rel (aW r);obtain⟨ek,M⟩:=Nm Y hq j;have n:=aV d;refine Md d ⟨o,L,G,f⟩ j λh1 B t1 n1 e1=>?_;refine⟨_,rfl,wpAny_letOwnedTupleGo_items B λh2 z2 sb=>?_⟩;have m:=sb;have k2:∀b o,b∉[it]->s.1.get? b=some o->h2.get? b=some o:=λb o c q=>by
   have c:b≠it:=by simpa using c
   exact m.extBut b o c (e1 b o c q)
  have T:=m.extBut _ _ (fL n) t1;rw[ek,M]at T;have I2:Inv X g Z (upd H s.1.1.size (.tup [.ref q.2.1,(N[i]'r).2])) {s with heap:=h2}:=I.rm u k2 T rfl rv;refine⟨.ref s.1.1.size,_,I2,rfl,⟨N,_,_,_,x,aW r,tk,(I.ez.fresh (aJ _)),rfl,rfl⟩,⟨⟨_,_,z2⟩,j⟩,λb c=>?_⟩;have e:b=it:=by simpa using c
  subst e;rwa [ag (bL n)]
 done:=by
  intro X hP hw hK U i g s Z H E I u st J;obtain⟨N,x,r⟩:=J;obtain⟨f0,f1,f2,f3,f4,f5⟩:=u it (by simp);obtain⟨hd,z,L,G,xs,Q,O,rel,p,Y,C⟩:=ua I.ez x;rw[f]at p;cases p;have e:=pM st.2 (by rwa [C]);subst e;obtain⟨⟨ok,l,d⟩,_⟩:=st;exact Mb (I.ok.hd U) d ⟨o,L,G,f⟩ λh' eb=>⟨rfl,I.turned (λb o c e=>eb b o c e) f0 f1 f3 f4 f5⟩
 self:=λ_ _ _ _ _ st h=>let ⟨_,_,e⟩:=st.1;PySem.W.kcp_self e h
def Be(p:D×D):D:=.tup [p.1,p.2]
theorem fc.get{K:KA}{G:Hp}:∀{a:List (D×D)}{es:List (a7×V)},fc K G a es->∀{i:Nat}{p:D×D},a[i]?=some p->∃k v,es[i]?=some (k,v)/\p.1=kT k/\Den K G p.2 v
 |[],_,_,i,p,e=>by simp at e
 |_::_,_,c,0,p,e=>by obtain⟨k,v,r,d,h,g,f⟩:=c;simp at e;subst e;subst d;exact⟨k,v,rfl,h,g⟩
 |_::_,_,b,i+1,p,e=>by
  obtain⟨k,v,r,d,h,g,f⟩:=b;subst d;simpa using fc.get f e
def FJ{K:KA}{o:Obj}{a:Addr}{u:Hp}{c:List (D×D)}{es:List (a7×V)}{S:Hp->Hp->Prop}(h:∀G H,S G H->bc G H->H a=some (.jo o (.dT es))/\bc u G)(dl:fc K u c es):xm K (OJ o a) (c.map Be) S:=λi G H B j=>by
 obtain⟨q,g⟩:=h G H B j;have A:c.length=es.length:=by have:=congrArg dH (Dh dl);simpa using this
 refine⟨λd f=>?_,λz=>⟨es,q,by rw[aF]at z;rwa [<-A]⟩⟩;rw[bJ]at f;cases l:c[i]? with
 |none=>rw[l]at f;cases f
 |some p=>
  rw[l]at f;cases f;obtain⟨k,v,r,ek,J⟩:=dl.get l;refine⟨⟨es,q,(List.getElem?_eq_some_iff.mp r).1⟩,λx M ⟨E,L,b,y,m,s,w,n,C,I⟩=>?_⟩;subst C I;rw[q]at m;cases m;rw[r]at s;cases s;have e:=(xu j).gh;refine⟨_,(xu j).trans (Ext.new e _ n),?_⟩;refine sj e n ⟨_,_,rfl,?_,_,_,rfl,J.mono (g.trans (xu j).gg),rfl⟩;rw[ek];exact Tc w
def gz(g:En->Res):En->dg:=λδ=>match g δ with
 |.ok (.ja true a)=>.ok (a.map (·.1))
 |.er c=>.er c
 |r=>aj (λ_=>r) δ
def lq(g:En->Res):En->dg:=λδ=>match g δ with
 |.ok (.ja true a)=>.ok (a.map Be)
 |.er c=>.er c
 |_=>.st
section
variable{X:Cx}{B:Hp}{E:EK}{o e tg:Expr}{g:En->Res}{ap cp tp:Pos}{vG:List Expr}{k1:Nat}
def Zk{G H:Hp}{δ:En}{P:List D->Prop}(q:eT E G H (lq g δ) P):c7 E G H (g δ) λd=>∃a,d=.ja true a/\P (a.map Be):=by
 unfold lq at q;cases e:g δ with
 |ok d=>
  rw[e]at q;split at q
  ·rename_i b;cases b;exact⟨_,rfl,q⟩
  ·rename_i b;cases b
  ·exact q.elim
 |er c=>rw[e]at q;exact q
 |st=>rw[e]at q;exact q
def V6(ha:gj X B E o g)(p:kn o=true)(U:(ap.endLine==cp.line)=true):Sd X B E (.Tuple vG k1 tp) (.Call (.Attribute o "items" ap) [] [] cp) (lq g):=by
 intro i s Z H R I ⟨G,δ,Rr,q⟩;refine wpAny_Call_method0_late (ni p) U (iq (ha i s Z H (λx f=>∃a c m,x=.ref a/\f a=some (.jo c (.dT m))/\R (OJ c a) f) I ⟨G,δ,Rr,(Zk q).mono λd _ ⟨T,ed,q⟩ v G1 f L dn=>?_⟩) λv h ⟨x,f,N,Q,a,c,m,ex,ea,q⟩=>?_)
 ·subst ed;obtain⟨a,rfl,⟨z,_⟩|⟨_,c,m,C,dl⟩⟩:=dn
  ·cases z
  ·exact⟨a,c,m,rfl,L.gh _ _ C,q _ G1 f L (FJ (λG2 H2 x O=>⟨O _ _ (x.1 _ _ C),x.1⟩) dl)⟩
 ·subst ex;cases Q;obtain⟨Y,z,l,j,xs,M,J,rel,r,h4,hz⟩:=ua N.ez ea;have A:h.TypeIs (.ref a) "dict":=⟨c,l,j.1⟩;refine⟨"dict","dict.items",iQ,PySem.F.slot_dict_items,PySem.F.type_dict_items,A,λb e2=>by cases e2;exact⟨c,l,j.2.1⟩,jC rfl (PySem.evalArgs_none ?_)⟩;refine pC PySem.F.slot_dict_items A PySem.F.entry_dict_items (PySem.F.args_dict_items_1 _) (Fd a Y) ⟨⟨M,J,c,l,j,r⟩,?_⟩;have y:∀(u:Obj) b n,h.1.get? b=some n->(h.1.push u).get? b=some n:=λu b n e=>aH _ e;have w:=N.kept (t':=h.toks) (y {cls:=.type "dict_items",data:=.fields #[.ref a]});refine Mc (es:=M) (ep:=J) ⟨_,aT _ rfl,rfl,rfl⟩ ⟨c,y _ _ _ l,j,r⟩ ?_;refine⟨_,[_],_,_,f,rfl,w.kept λb o e=>aH _ e,M4 r,⟨⟨.none,.none,aT _ rfl⟩,bX _⟩,λb p=>?_,q⟩;have e:b=(h.1.push {cls:=.type "dict_items",data:=.fields #[.ref a]}).objs.size:=by simpa using p
  subst e;exact w.qh (aJ _) (w.ez.fresh (aJ _))
def Oh(O:gj X B E e g)(L:Sd X B E tg e (aj g)):Sd X B E tg e (gz g):=by
 intro f s Z H R I ⟨G,δ,w,q⟩
 by_cases n:∃d,g δ=.ok (.ja true d)
 ·obtain⟨d,i⟩:=n;unfold gz at q;rw[i]at q;refine iq (O f s Z H (λx j=>∃a h l,x=.ref a/\j a=some (.jo h (.dT l))/\R (OM h a) j) I ⟨G,δ,w,?_⟩) λv A ⟨x,j,m,C,a,h,l,T,U,q⟩=>?_
  ·rw[i];intro v G1 j u Y;obtain⟨a,rfl,⟨z,_⟩|⟨_,h,l,r,dl⟩⟩:=Y
   ·cases z
   ·exact⟨a,h,l,rfl,u.gh _ _ r,q _ G1 j u (FK (λG2 H2 x y=>⟨y _ _ (x.1 _ _ r),x.1⟩) dl)⟩
  ·subst T;cases C;obtain⟨M,z,Q,J,xs,dt,ep,rel,p,h4,hz⟩:=ua m.ez U;refine W0 M ⟨h,Q,J,p⟩ ?_;refine⟨_,[_],_,_,j,rfl,m.kept λb o e=>aH _ e,Ro p,⟨⟨_,aT _ rfl,rfl,rfl⟩,bX _⟩,λb N=>?_,q⟩;have e:b=A.1.1.size:=by simpa using N
   subst e;exact m.qh (aJ _) (m.ez.fresh (aJ _))
 ·refine L f s Z H R I ⟨G,δ,w,?_⟩;unfold gz at q;split at q
  ·rename_i d i;exact absurd ⟨d,i⟩ n
  ·rename_i c i;unfold aj;rwa [i]
  ·exact q
end
def hG.vals{K:KA}{G:Hp}:∀{b:List (D×D)}{es:List (iu×V)},hG K G b es->br K G (b.map (·.2)) (es.map (·.2)):=by
 intro a;induction a with
 |nil=>rintro _ h;rw[show _=[]from h];exact rfl
 |cons a _ c=>obtain⟨_,_⟩:=a;rintro _ ⟨k,v,r,f,_,e,d⟩;subst f;exact⟨v,_,rfl,e,c d⟩
end Pu
namespace Pu
open PySem PySem.Spec PyProof.Rows L2 PySem.SeqAt PySem.W
section
variable{prog:bH}{w:bV}{A:cB}{R:Result->aI->Prop}{I:Addr}{fp wr:List Addr}{n:Nat}{P:Nat->aG->Prop}{St:Nat->Heap->Prop}
def JB(prog:bH)(w:bV)(A:cB)(P:Nat->aG->Prop)(St:Nat->Heap->Prop)(c:Nat->Nat->Bool):Prop:=
 ∀k i j b a (s:aI) (Q:aG->aI->Prop) (E:aG->aI->Prop),St k s.1->P i b->P j a->Q (.bool (c i j)) s->bF (bB prog w) A (richCompare .Lt b a) Q E s
def Qm(W:Walks prog w A.in1 I fp wr n P St)(M:Nat->Nat->Bool)(B:JB prog w A.in1 P St M)(S:Addr)(E:S∉fp):
  ∀(k j:Nat)(s:aI)(p:aG)(c:Nat),n - (j+1)=k->j+1<=n->St (j+1) s.1->P (nN M j) p->
  s.1.get? S=some {cls:=.type "list",dict:=none,data:=.seq #[p,p] c,slots:=#[]}->
  (∀v L H,P (nN M (n - 1)) v->(∀b o,b∉wr->b≠S->s.1.get? b=some o->L.get? b=some o)->R (.ok (.ret v)) {s with heap:=L,toks:=H})->
  iE (bB prog w) A (.builtin "min.loop" ⟨[.ref I,.none,.ref S],[]⟩) R s:=by
 have C:S∉wr:=λh=>E (W.sub _ h);have O:(toString "min"++toString ".loop":String)="min.loop":=by decide
 intro k;induction k with
 |zero=>
  intro j s p c Y hj q u G J;have z:j+1=n:=by lia
  refine eM oZ ?_;refine aC (eZ G rfl ?_);refine aC (lV (W.done s _ _ (z▸q) λL H d=>?_));have m:=d S _ C G;refine aC ?_;refine iB m rfl (aC (oM (aD ?_)));refine J p _ H (by rwa [<-z]) λb o a f e=>(dZ _ _ (iY f)).trans (d b o a e)
 |succ k Q=>
  intro j s p c Y hj q u G J;have r:j+1<n:=by lia
  refine eM oZ ?_;refine aC (eZ G rfl ?_);refine aC (lV (W.item _ s _ _ r q λv L H U i d=>?_));have m:=d S _ C G;show bF _ A.in1 (tryCatch _ _>>=_) _ _ _;refine aC (lV (cX (aC (B _ _ _ v p _ _ _ i U u ?_))));refine aC (cX (dS ?_));refine aC (oM (aD ?_));cases T:M _ _ with
  |true=>
   refine aC ?_;refine iB m rfl (aC (oM ?_));refine aD ⟨eV mM _,Q _ _ v _ (by lia) r (W.frame _ _ _ i λb β o e=>?_) (by simp only[nN,T,if_true];exact U) (cE _ m rfl) λN y g x l=>?_⟩
   ·exact(dZ _ _ (λh:S=b=>E (by rwa [h]))).trans e
   ·exact J N y g x λb o a f e=>l b o a f ((dZ _ _ (iY f)).trans (d b o a e))
  |false=>
   refine aC (oM ?_);refine aD ⟨eV mM _,Q _ _ p c (by lia) r i (by simp only[nN,T,Bool.false_eq_true,if_false];exact u) m λN y g x l=>?_⟩;exact J N y g x λb o a f e=>l b o a f (d b o a e)
end
section
variable{prog:bH}{w:bV}{A:cB}{E:aG->aI->Prop}{s:aI}
def Pa{x:aG}{Q:aG->aI->Prop}
   (h:bF (bB prog w) A.in1 (pQ x) (λit a=>∃I r wr n P St u,it=.ref I/\Walks prog w A.in1 I r wr n P St/\St 0 a.1/\(∀b∈r,b<a.1.1.size)/\0<n/\JB prog w A.in1 P St u/\
   ∀v G H,P (nN u (n - 1)) v->(∀b o,b∉wr->a.1.get? b=some o->G.get? b=some o)->Q v {a with heap:=G,toks:=H}) E s):
  bF (bB prog w) A (call (.builtin "min") [x]) Q E s:=by
 have c:(toString "min"++toString ".loop":String)="min.loop":=by decide
 refine call_function_tree F.kind_min F.plain_min F.entry_min (F.args_min1 _) ?_;refine aC (lC (rfl) ?_);refine aC (aD ?_);refine aC (cJ h (λit a g=>?_) λ_ _ e=>e);obtain⟨I,r,wr,n,P,St,u,rfl,W,y,z,J,m,O⟩:=g;refine aC (dI ?_);have d:a.1.1.size∉r:=λM=>cP _ (z _ M);rw[c];refine aD ⟨eV mM _,?_⟩;refine eM oZ ?_;refine aC (eZ (aT _ rfl) rfl ?_);refine aC (lV (W.item 0 _ _ _ J (W.frame _ _ _ y λb _ o e=>aH _ e) λv G H T i l=>?_));have q:=l a.1.1.size _ (λh=>d (W.sub _ h)) (aT _ rfl);show bF _ A.in1 (updateSeq a.1.1.size _>>=_) _ _ _;refine aC ?_;refine iB q rfl ?_;refine aD ⟨eV mM _,Qm W u m a.1.1.size d _ 0 _ v _ rfl J (W.frame _ _ _ i λb N o e=>?_) T (cE _ q rfl) λL C f B j=>?_⟩
 ·exact(dZ _ _ (λh:a.1.1.size=b=>d (by rwa [h]))).trans e
 ·exact O L C f B λb o p e=>j b o p (bL (aV e)) ((dZ _ _ (fL (aV e))).trans (l b o p (aH _ e)))
def Walks.v7{I:Addr}{j wr:List Addr}{n:Nat}{P:Nat->aG->Prop}{St:Nat->Heap->Prop}{ts:List Addr}{OK:Heap->Prop}(W:Walks prog w A I j wr n P St)(p:∀b∈ts,b∉wr)
  (g:∀h c,OK h->(∀b∈ts,∀o,h.get? b=some o->c.get? b=some o)->OK c):Walks prog w A I (j++ts) wr n P (λi h=>St i h/\OK h) where
 sub:=λb a=>dG _ (W.sub b a)
 frame:=λi h c st k=>⟨W.frame i h c st.1 λb a=>k b (dG _ a),g h c st.2 λb a=>k b (cH _ a)⟩
 item:=λi s Q E m st d=>W.item i s Q E m st.1 λv c l q f k=>d v c l q ⟨f,g _ _ st.2 λb a o e=>k b o (p b a) e⟩ k
 done:=λs Q E st d=>W.done s Q E st.1 d
 self:=λi s Q E st d=>W.self i s Q E st.1 d
end
def QA(x y:Bool×Int):Nat->Bool
 |0=>cV (.bool x.1) (.bool y.1)
 |_=>cV (.int x.2) (.int y.2)
def RZ(x y:Bool×Int):Nat->Bool
 |0=>decide (b2i x.1<b2i y.1)
 |_=>decide (x.2<y.2)
def LS(x y:Bool×Int):Bool:=wq (QA x y) (RZ x y) false [0,1]
def tf:List D->Option (List (Bool×Int))
 |[]=>some []
 |.tup [.bl b,.int i]::r=>(tf r).map ((b,i)::·)
 |_=>none
def nv:D->Option D
 | .lst b => (match tf b with
  |some a=>if a=[]then none else b[nN (λi j=>LS (a.getD i (false,0)) (a.getD j (false,0))) (a.length - 1)]?
  |none=>none)
 |_=>none
inductive qS(h:Heap)(v:aG)(p:Bool×Int):Prop
 |mk (a dd n sl t) (_:v=.ref a) (_:h.get? a=some {cls:=.type "tuple",dict:=dd,data:=.seq #[.bool p.1,.int p.2 t] n,slots:=sl}):qS h v p
def L0:∀{g:List D}{a:List (Bool×Int)},tf g=some a->g=a.map λp=>.tup [.bl p.1,.int p.2]:=by
 intro c;induction c with
 |nil=>rintro a h;cases h;rfl
 |cons d r f=>
  rintro a h
  unfold tf at h;split at h
  ·rename_i z;cases z
  ·rename_i b i j z;cases z;cases e:tf r with
   |none=>rw[e]at h;cases h
   |some l=>rw[e]at h;cases h;rw[f e];rfl
  ·cases h
def Z0{c:bH}{w:bV}{A:cB}{s:aI}{u v:aG}{x y:Bool×Int}{Q:aG->aI->Prop}{E:aG->aI->Prop}(I:A.units+5<cZ)(pu:qS s.1 u x)(C:qS s.1 v y)(q:Q (.bool (LS x y)) s):
  bF (bB c w) A (richCompare .Lt u v) Q E s:=by
 obtain⟨a,H,n,z,t,rfl,o⟩:=pu;obtain⟨b,f,G,d,g,rfl,m⟩:=C;have l:∀(B:Bool),oF s.1 _ _ []:=λB=>.bool B;have h:∀(i:Int)(k:Tok),oF s.1 _ _ []:=λi k=>.int i k;refine richCompare_meets_room ⟨_,o,rfl⟩ ⟨_,m,rfl⟩ nD oU (oH _ _) (Mz a b #[.bool x.1,.int x.2 t] #[.bool y.1,.int y.2 g] n G H f z d (QA x y) (RZ x y)) ⟨o,m,λj p r=>⟨?_,λ_=>?_⟩,?_⟩ (by lia)
 ·have e:j=0\/j=1:=by have:j<2:=p;lia
  obtain rfl|rfl:=e
  ·exact eqAt_reads _ _ _ _ _ _ _ _ (l x.1) (l y.1) rfl rfl (by simp only[fP];lia)
  ·exact eqAt_reads _ _ _ _ _ _ _ _ (h x.2 t) (h y.2 g) rfl rfl (by simp only[fP];lia)
 ·have e:j=0\/j=1:=by have:j<2:=p;lia
  obtain rfl|rfl:=e
  ·exact λc w E Q q=>(PyProof.Rows.lt_bool q)
  ·exact λc w E Q q=>(nI q)
 ·exact⟨(λx=>nomatch x),q⟩
section
variable{X:Cx}{B:Hp}{E:EK}{e:Expr}{g:En->Res}{pos p:Pos}
inductive sT(X:Cx)(xs:List V)(H:Hp)(Q:VK):Prop
 |mk (a vs G ds d) (_:xs=[.ref a]) (_:fD X.K H a vs) (_:bc G H) (_:br (kx X) G ds vs) (_:nv (.lst ds)=some d) (_:(∀v,Den (kx X) G d v->Q v H)):sT X xs H Q
def Pb(L:X.A.units+20<cZ)(hc:X.calm=true):hW X (.builtin "min") (sT X):=by
 intro η s Z H xs us Q I r q;obtain⟨a,vs,G,ds,d,rfl,sq,sg,dl,y,q⟩:=q;obtain⟨u,rfl,N⟩:=mq r;cases N;unfold nv at y;dsimp only at y;cases ep:tf ds with
 |none=>rw[ep]at y;cases y
 |some m=>
  rw[ep]at y;dsimp only at y
  by_cases x:m=[]
  ·rw[aN x]at y;cases y
  rw[aK x]at y;have T:=L0 ep;obtain⟨f,Y,pl,hz⟩:=I.list sq;have al:=aV ((pl.isList).choose_spec.1);have len:f.length=m.length:=by rw[<-Y.length,<-dl.length,T,aF]
  have get:∀(i:Nat) v,f[i]?=some v->qS s.1 v _:=λi v C=>by
   have U:i<m.length:=by rw[<-len];exact(List.getElem?_eq_some_iff.mp C).1
   have hd:ds[i]?=some (.tup [.bl (m.getD i (false,0)).1,.int (m.getD i (false,0)).2]):=by rw[T,bJ,aW U,aU,aW U];rfl
   obtain⟨w,hw,b,ws,rfl,l,v1,r1,rfl,d1,v2,r2,rfl,d2,rfl⟩:=dl.get hd;obtain⟨u,L,N⟩:=Y.get hw;rw[C]at L;cases L;cases N;obtain⟨_,Φ,z1,⟨cl,M,dt,J⟩,z3,z4,n,z5⟩:=(I.ez b _ (sg _ _ l));subst z4 z5;rw[d1,d2]at z1;cases z1 with
   |cons q1 t1=>
    cases t1 with
    |cons q2 t2=>
     cases t2;cases (q1);obtain⟨t,rfl⟩:=(q2);exact⟨b,M,n,J,t,rfl,z3⟩
  have O:∀b∈f.filterMap (λv=>match v with|.ref b=>some b|_=>none),b<s.1.1.size:=λb l=>by
   obtain⟨v,C,e⟩:=List.mem_filterMap.mp l;obtain⟨i,U⟩:=eL C;obtain⟨c,M,n,J,t,rfl,z⟩:=get i v U;cases e;exact aV z
  refine Pa (fW pl.isList ⟨_,_,_,_,_,_,(λi j=>LS (m.getD i (false,0)) (m.getD j (false,0))),rfl,Walks.v7 (ts:=f.filterMap (λv=>match v with|.ref b=>some b|_=>none)) (OK:=λh=>∀(i:Nat) v,f[i]?=some v->qS h v (m.getD i (false,0))) (pF (A:=X.A.in1) (I.ok.hd hc) _ a (bL al) f.toArray) (λb l z=>?_) (λh h' ok k i v C=>?_),⟨⟨⟨_,aT _ rfl,rfl,rfl⟩,pl.isList.push _⟩,λi v C=>?_⟩,λb l=>?_,by rw[bO,len];exact(List.length_pos_iff.mpr x),λk i j vi vj s' Q' E' st pi pj q'=>?_,λv h' tk hP hk=>?_⟩)
  ·have:b=s.1.1.size:=by simpa using z
   exact cP _ (this▸O b l)
  ·obtain⟨c,M,n,J,t,rfl,z⟩:=ok i v C;exact⟨c,M,n,J,t,rfl,k c (List.mem_filterMap.mpr ⟨_,bR C,rfl⟩) _ z⟩
  ·obtain⟨c,M,n,J,t,rfl,z⟩:=get i v C;exact⟨c,M,n,J,t,rfl,aH _ z⟩
  ·rw[eN];rcases List.mem_append.mp l with l|l
   ·rcases List.mem_cons.mp l with rfl|l
    ·exact fI _
    ·rcases List.mem_cons.mp l with rfl|l
     ·exact fZ al
     ·cases l
   ·exact fZ (O b l)
  ·exact Z0 (by show X.A.units+1+5<_;lia) (st.2 i vi (by simpa using pi)) (st.2 j vj (by simpa using pj)) q'
  ·have β:∀b o,s.1.get? b=some o->h'.get? b=some o:=λb o e=>by
    refine hk b o (λhm=>?_) (aH _ e);rcases List.mem_cons.mp hm with z|hm
    ·exact absurd (z▸aV e) (cP _)
    ·cases hm
   rw[bO,len]at hP;have δ:f[nN (λi j=>LS (m.getD i (false,0)) (m.getD j (false,0))) (m.length - 1)]?=some v:=by simpa using hP
   obtain⟨w,hw,dw⟩:=dl.get y;obtain⟨u,L,N⟩:=Y.get hw;rw[δ]at L;cases L;exact⟨w,H,I.kept β,N,q w dw⟩
def BO(i:X.A.units+20<cZ)(n:X.calm=true)(m:Gl X "min")(j:X.mg "min"=none)(o:k9 X B E e g)(b:bM [e] X.env=(false,eval e X.env)::bM [] X.env):gj X B E (.Call (.Name "min" p) [e] [] pos) (g1 nv g):=
 PE.imp (og (Pb i n) m j (by decide+kernel) (ip o je b) (by decide) (by decide) b rfl) λZ H Q q=>Yp (λG H x r d a w c Q q=>by
  cases r with
  |lst u=>
   obtain⟨l,f,rfl,h,dl⟩:=w.lst a;exact⟨l,f,G,u,d,rfl,h,a,dl,c,λv s=>q v G H (Ext.refl a) s⟩
  |_=>cases c) q
end
end Pu
namespace Pu
open PySem PySem.Spec PyProof.Rows L2
def _root_.L2.Inv.freeze{X:Cx}{f:List (Addr×Obj)}{Z:St}{H:Hp}{s:aI}{a:Addr}{es:List (a7×V)}(I:Inv X f Z H s)(e:H a=some (.dT es)):∃o,s.1.get? a=some o/\Inv X f Z (upd H a (.jo o (.dT es))) s:=by
 obtain⟨z,M,xs,rel,o,Q,O,m,N⟩:=Td I.ez e;have E:∀{b:Addr},H b=none->b≠a:=λq z=>by rw[z,e]at q;cases q
 have no:∀{b:Addr}{u:HO},H b=some u->u≠.dT es->b≠a:=λq z y=>by rw[y,e]at q;cases q;exact z rfl
 have j:∀b g,H b=some (.tup g)->upd H a (.jo o (.dT es)) b=some _:=λb g q=>by rwa [ag (no q λz=>nomatch z)]
 have i:∀b d u,H b=some (.jo d u)->upd H a (.jo o (.dT es)) b=some _:=λb d u q=>by rwa [ag (no q λz=>nomatch z)]
 have J:∀b y,H b=some (.own y)->upd H a (.jo o (.dT es)) b=some _:=λb y q=>by rwa [ag (no q λz=>nomatch z)]
 have h:∀b,H b=none->upd H a (.jo o (.dT es)) b=none:=λb q=>by rwa [ag (E q)]
 have st:∀b u,H b=some u->hV X.prog X.w _ s.1 b u:=λb u q=>(I.ez b u q).qX (λ_ _ _ z=>z) (λc z=>J c _ z) j i;refine⟨o,m,I.ok,I.os,I.bare,⟨I.base.keep,I.base.slot,λb d q n G=>h b (I.base.free b d q n G),I.base.there,λb g q=>j b g (I.base.qx b g q),λb d u q=>i b d u (I.base.jb b d u q),λb q z=>?_⟩,I.loc,I.cell,h _ I.free,λx c q=>(I.pk x c q).elim (λz=>.inl (h _ z)) (by rintro ⟨v,d,r⟩;exact .inr ⟨v,d,i _ _ _ r⟩),λp L=>?_,λb u q=>?_,I.len⟩
 ·have q:=I.base.p9 b q z;rwa [ag (no q λz=>nomatch z)]
 ·obtain⟨C,B,A⟩:=I.pin p L;exact⟨C,h _ B,A⟩
 ·by_cases l:b=a
  ·subst l;rw[ai]at q;cases q;exact⟨m,st b _ e⟩
  ·rw[ag l]at q;exact st b u q
section
variable{K:KA}{B G0 G H:Hp}
def Ext.tV{a:Addr}{o:HO}(e:Ext G0 B G H)(c:B a=none)(d:G a=none):Ext G0 B (upd G a o) (upd H a o):=by
 refine⟨e.gg.trans (bx d _),λb u q=>?_,λb u q=>?_,λb u q g z=>?_⟩
 ·rw[ag (bf q c)];exact e.hh b u q
 ·by_cases z:b=a
  ·subst z;rw[ai]at q;rwa [ai]
  ·rw[ag z]at q;rw[ag z];exact e.gh b u q
 ·rw[ag (bf q c)];exact e.fr b u q g z
end
def A6(b a:En->Res):En->Res:=λδ=>(b δ).bind λd=>(a δ).bind λc=>match bw d with
 |some j=>.ok (.ja true [(kT j,c)])
 |none=>.st
section
variable{X:Cx}{G0 B:Hp}{E:EK}{k v o:Expr}{g h f:En->Res}{pos:Pos}
def Wn(hu:X.A.units+5<cZ)(hk:gj X B E k g)(hv:gj X B E v h):gj X B E (.Dict [some k] [v] pos) (A6 g h):=by
 intro a s Z H Q I ⟨G,δ,R,q⟩;rw[arm_eval_Dict,zip_pairTrees [some k] [v] X.env pos rfl rfl,dictDisplay_pairs _ (by intro z;have:=congrArg dH z;cases this) (by show 1<17;decide)];refine aC (wpAny_standAt (aC ?_));refine aC (wpAny_alloc ?_);refine aC (cX ?_);have O:=I.ez.fresh (aJ s.1.1.size);have N:Ext G H G (upd H s.1.1.size (.dT [])):=Ext.own R.gh _ O;refine aC (pairTrees_cons_walk (iq (hk a {s with heap:=s.1.push {cls:=.type "dict",data:=.dict #[]}} Z _ (λx r=>∃m l,Ext G (upd H s.1.1.size (.dT [])) m r/\Den (kx X) m l x/\c7 E G H (h δ) λi=>∃j,bw l=some j/\∀v L C,Ext G H L C->Den (kx X) L (.ja true [(kT j,i)]) v->Q v C) (I.laid (o:=.dT []) (h':=s.1.push {cls:=.type "dict",data:=.dict #[]}) (t':=s.toks) (λ_ _ q=>aH _ q) (aJ _) (Gp s.1 I.big)) ⟨G,δ,R.ext N,?_⟩) λu s2 ⟨x,r,I2,rx,m,l,p,Y,q⟩=>?_))
 ·refine((c7.bind q).ext N).mono λl _ q x m r p Y=>⟨m,l,p,Y,(c7.bind q).mono λi _ q=>?_⟩;cases n:bw l with
  |none=>rw[n]at q;exact q.elim
  |some j=>rw[n]at q;exact⟨j,rfl,q⟩
 have e:=N.trans p;refine iq (hv a s2 Z r (λy M=>∃J i j,Ext m r J M/\Den _ J i y/\bw l=some j/\∀v L C,Ext G H L C->Den _ L _ v->Q v C) I2 ⟨m,δ,R.ext e,(q.ext e).mono λi _ ⟨j,n,q⟩ y J M d U=>⟨J,i,j,d,U,n,q⟩⟩) λuv s3 ⟨y,M,I3,ry,J,i,j,d,U,n,q⟩=>?_;refine pairTrees_nil_walk ?_;have T:=(p.trans d).hh _ _ ai;have g2:=(p.trans d).fr _ _ ai (dh R.gh O) rfl;obtain⟨b,rfl,hb⟩:=Arg.keys d.gh (.inl (Y.mono d.gg)) n;cases (rx);obtain⟨z,hd,xs,rel,dd⟩:=Td I3.ez T;cases rel;refine cX ?_;refine aC (aC (aC (wpAny_dictSet_heap (by show X.A.units+4<cZ;lia) (x4 I3.ez hb) dd (λh' α hs=>?_) (bX _))));refine aD (aD (aD (aD (aD ?_))));obtain⟨ob,es,ep,hq,g3,g4,g5,_,g6⟩:=α;have I4:Inv X a Z (upd M s.1.1.size (.dT [(j,y)])) {s3 with heap:=h',toks:=s3.toks+(fj X.prog X.w).draws j}:=by
  refine Nk I3 (by rw[T];exact mF) hs ⟨ob,hq⟩ ⟨by show 1<=16777216;decide,hd,[_],.cons ⟨rfl,hb.mono λc ys ec=>?_,ry⟩ .nil,ob,es,ep,hq,g3,g4,g5,by simp⟩;rwa [ag (DH ec T (λz=>nomatch z))]
 obtain⟨o5,_,I5⟩:=I4.freeze ai;rw[Aj]at I5;refine⟨.ref s.1.1.size,_,I5,rfl,q _ _ _ ((e.trans d).tV O g2) ⟨_,rfl,.inr ⟨rfl,o5,_,ai,j,y,[],rfl,rfl,U.mono (bx g2 _),rfl⟩⟩⟩
def A7(d k x:En->Res):En->Res:=λδ=>(d δ).bind λe=>match e with
 |.ja false a=>(k δ).bind λc=>(x δ).bind λb=>match ka c with
  |some j=>.ok ((wu a j).getD b)
  |none=>.st
 |.ja true a=>(k δ).bind λc=>(x δ).bind λb=>match bw c with
  |some j=>.ok ((i6 a j).getD b)
  |none=>.st
 |_=>.st
def BR{O N:Expr}{p n:Pos}(hu:X.A.units+5<cZ)(ho:k9 X B E o g)(hk:k9 X B E O h)(hx:gj X B E N f)(m:M2 X o "get" p O N n):
  gj X B E (.Call (.Attribute o "get" p) [O,N] [] n) (A7 g h f):=
 PE.imp (Vz hu ho hk hx m) λZ H Q ⟨G,δ,R,q⟩=>⟨G,δ,R,(c7.bind q).mono λdd _ q v G1 H1 c av=>by
  cases dd with
  |ja t s=>
   cases t with
   |true=>
    obtain⟨l,J,rfl,u,dl⟩:=Arg.u6 c.gh av;refine⟨l,rfl,.inr ⟨J,u⟩,G1,δ,R.ext c,((c7.bind q).ext c).mono λdk _ q y G2 H2 a ay=>⟨G2,δ,R.ext (c.trans a),((c7.bind q).ext (c.trans a)).mono λdx _ q z C w i Y=>?_⟩⟩;have d:=(c.trans a).trans i;cases r:bw dk with
    |none=>rw[r]at q;exact q.elim
    |some j=>
     rw[r]at q;have q:∀v I x,Ext G H I x->Den _ I _ v->Q v x:=q;obtain⟨b,rfl,hb⟩:=Arg.keys a.gh ay r;refine⟨_,.inr ⟨J,j,b,(u.elim (λz=>.inl ((a.trans i).hh _ _ z)) (by rintro ⟨ob,z⟩;exact .inr ⟨ob,(a.trans i).hh _ _ z⟩)),rfl,hb.mono λ_ _ q=>i.hh _ _ q,rfl⟩,?_⟩;obtain⟨U,T⟩:=(dl.mono (a.trans i).gg).look j;cases e:i6 s j with
     |none=>
      rw[T e];rw[e]at q;exact q _ C w d Y
     |some d'=>
      obtain⟨v',M,L⟩:=U d' e;rw[M];rw[e]at q;exact q _ C w d L
   |false=>
    obtain⟨l,J,rfl,u,dl⟩:=Arg.tX c.gh av;refine⟨l,rfl,.inl ⟨J,.inl u⟩,G1,δ,R.ext c,((c7.bind q).ext c).mono λdk _ q y G2 H2 a ay=>⟨G2,δ,R.ext (c.trans a),((c7.bind q).ext (c.trans a)).mono λdx _ q z C w i Y=>?_⟩⟩;have d:=(c.trans a).trans i;cases r:ka dk with
    |none=>rw[r]at q;exact q.elim
    |some j=>
     rw[r]at q;have q:∀v I x,Ext G H I x->Den _ I _ v->Q v x:=q;rw[zx ay r];refine⟨_,qL.k ((a.trans i).hh _ _ u),?_⟩;obtain⟨U,T⟩:=(dl.mono (a.trans i).gg).look j;cases e:wu s j with
     |none=>
      rw[T e];rw[e]at q;exact q _ C w d Y
     |some d'=>
      obtain⟨v',M,L⟩:=U d' e;rw[M];rw[e]at q;exact q _ C w d L
  |hZ=>exact q.elim
  |bl _=>exact q.elim
  |int _=>exact q.elim
  |str _=>exact q.elim
  |tup _=>exact q.elim
  |lst _=>exact q.elim
  |obj _ _=>exact q.elim
  |fn _=>exact q.elim⟩
end
end Pu
section
/-! dict(list of pairs) whose keys are tuples -/
namespace Pu
open PySem PySem.Spec PyProof.Rows L2
section
variable{prog:bH}{w:bV}
def JS{f:List iu}{b:Addr}{h g:Heap}(m:∀c o,h.get? c=some o->g.get? c=some o)(q:eW (ao prog w) h f b):eW (ao prog w) g f b:=by
 obtain⟨i,a,n,d,l,e,j⟩:=q;exact⟨i,a,n,m _ _ d,l,e,j⟩
def GR{h g:Heap}(m:∀c o,h.get? c=some o->g.get? c=some o):∀{a:a7}{d:List aG},e8 prog w h a d->e8 prog w g a d:=by
 intro a;induction a with
 |nil=>rintro _ e;exact e
 |cons k a i=>
  rintro _ ⟨v,t,e,f,j⟩
  refine⟨v,t,e,?_,i j⟩;cases k with
  |inl k=>exact f
  |inr l=>obtain⟨b,e,q⟩:=f;exact⟨b,e,JS m q⟩
def K5{f:a7}{b:Addr}{h g:Heap}(m:∀c o,h.get? c=some o->g.get? c=some o)(q:ir prog w h f b):ir prog w g f b:=by
 obtain⟨i,a,n,d,l,e,j⟩:=q;exact⟨i,a,n,m _ _ d,l,e,GR m j⟩
/-- the pair at p,of a key and a value -/
inductive qt(prog:bH)(w:bV)(h:Heap)(x:a7×Addr×aG)(v:aG):Prop
 |mk (p o n) (_:v=.ref p) (_:h.get? p=some o) (_:o.cls=.type "tuple") (_:o.data=.seq #[.ref x.2.1,x.2.2] n) (_:ir prog w h x.1 x.2.1):qt prog w h x v
def qt.up{h a:Heap}{x:a7×Addr×aG}{v:aG}(m:∀c o,h.get? c=some o->a.get? c=some o)(q:qt prog w h x v):qt prog w a x v:=by
 obtain⟨p,o,n,e,g1,g2,d,b⟩:=q;exact⟨p,o,n,e,m _ _ g1,g2,d,K5 m b⟩
def Ab(b a:List (a7×Addr×aG)):List (a7×Addr×aG):=a.foldl (λc x=>nL c x.1 x.2.1 x.2.2) b
def Ju(xs:List (a7×Addr×aG))(k:a7)(a:Addr)(v:aG):(nL xs k a v).length<=xs.length+1:=by
 unfold nL;split<;>simp
variable{A:cB}{R:Result->aI->Prop}{I:Addr}{fp wr:List Addr}{St:Nat->Heap->Prop}{ps:List (a7×Addr×aG)}{items:Array aG}{h0:Heap}
def I9(W:Walks prog w A.in1 I fp wr ps.length (λi v=>items[i]?=some v) St)(hu:(fj prog w).room A.in1)(d:Addr)(hd:d∉fp)(hz:ps.length<=aQ)(G:∀c o,h0.get? c=some o->c≠d/\c∉wr)(hP:∀(j:Nat) x v,ps[j]?=some x->items[j]?=some v->qt prog w h0 x v):
  ∀(rest:List (a7×Addr×aG))(i:Nat)(s:aI)(a:List (a7×Addr×aG)),ps.drop i=rest->i<=ps.length->St i s.1->s.1.DictOfH (fj prog w) d a->a.length<=i->(∀c o,h0.get? c=some o->s.1.get? c=some o)->(∀x∈a,ir prog w h0 x.1 x.2.1)->
   (∀r B,(∀b o,b≠d->b∉wr->s.1.get? b=some o->r.get? b=some o)->r.DictOfH (fj prog w) d (Ab a rest)->R (.ok (.ret .none)) {s with heap:=r,toks:=B})->
   iE (bB prog w) A (.builtin "dict.update.loop" ⟨[.ref d,.ref I,eA i,.none],[]⟩) R s:=by
 have H:d∉wr:=λz=>hd (W.sub _ z);intro rest;induction rest with
 |nil=>
  intro i s a g hi st hT u l J hR;have α:i=ps.length:=by
   have:=congrArg dH g;rw[dE,dA]at this
   lia
  subst α;refine eM ri ?_;rw[Around.under_plainId jc _];show bF _ A.in1 (nA (.ref I)>>=_) _ _ s;refine aC (W.done s _ _ st λr B u=>?_);show bF _ A.in1 (Builtin.Dict.addKeywords d []>>=λ_=>ret eK) _ _ _;refine aC (aD (aD (hR r B (λb o _ G e=>u b o G e) ?_)));obtain⟨o,es,ep,L,N,h3,h4,_,h6⟩:=hT;exact⟨o,es,ep,u d o H L,N,h3,h4,λx f=>K5 (λc o e=>u c o (G c o e).2 (l c o e)) (J x f),h6⟩
 |cons n rest ih=>
  intro i s a g hi st hT Γ l J hR;have E:i<ps.length:=by
   have:=congrArg dH g;rw[dE,aE]at this
   lia
  have Y:ps[i]?=some n:=by
   have:(ps.drop i)[0]?=some n:=by rw[g];rfl
   simpa using this
  have β:ps.drop (i+1)=rest:=by
   have:(ps.drop i).drop 1=rest:=by rw[g];rfl
   rw[nX]at this;exact this
  refine eM ri ?_;rw[Around.under_plainId jc _];show bF _ A.in1 (nA (.ref I)>>=_) _ _ s;refine aC (W.item i s _ _ E st λv L O hv Q h=>?_);have U:∀c o,h0.get? c=some o->L.get? c=some o:=λc o e=>h c o (G c o e).2 (l c o e);have C:=hP i n v Y hv;obtain⟨p,o,m,rfl,g1,g2,g3,g4⟩:=C.up U;have ε:L.DictOfH (fj prog w) d a:=by
   obtain⟨o,es,ep,z1,z2,z3,z4,_,z6⟩:=hT;exact⟨o,es,ep,h d o H z1,z2,z3,z4,λx f=>K5 U (J x f),z6⟩
  have γ:mO {s with heap:=L,toks:=O} (.ref p) "tuple":=⟨o,g1,g2⟩;show bF _ A.in1 (holding [fU p] _>>=_) _ _ _;refine aC (cX ?_);refine aC (lV ?_);unfold Builtin.Dict.pairItems;refine aC (kG γ ?_);rw[aN (by decide)];refine aC (eZ g1 g3 (aD ?_));show bF _ A.in1 (holding [.ref n.2.1,n.2.2] (dictSet d (.ref n.2.1) n.2.2)) _ _ _;refine cX (wpAny_dictSet_heap (hsz:=by lia) hu g4 ε λN δ T=>?_);refine aD ⟨eV jc _,?_⟩;have ei:eA ((i:Int)+1)=eA ((i+1:Nat):Int):=by push_cast;rfl
  show iE (bB prog w) A (.builtin "dict.update.loop" ⟨[.ref d,.ref I,eA ((i:Int)+1),.none],[]⟩) R _;rw[ei];refine ih (i+1) _ (nL a n.1 n.2.1 n.2.2) β E (W.frame _ _ _ Q λc M o e=>?_) δ ?_ (λc o e=>?_) (λx f=>?_) λr B u ζ=>?_
  ·rw[T.2 c (λz:c=d=>hd (z▸M))];exact e
  ·have:=Ju a n.1 n.2.1 n.2.2;lia
  ·show N.get? c=some o;rw[T.2 c (G c o e).1];exact U c o e
  ·obtain⟨_,_,_,_,_,_,_,q⟩:=C;unfold nL at f;split at f
   ·obtain⟨y,hy,rfl⟩:=List.mem_map.mp f;have:=J y hy;unfold putAt;split<;>exact this
   ·rcases List.mem_append.mp f with f|f
    ·exact J x f
    ·rw[List.mem_singleton.mp f];exact q
  ·refine hR r B (λc o M hw e=>u c o M hw ?_) ζ;show N.get? c=some o;rw[T.2 c M];exact h c o hw e
end
section
variable{prog:bH}{w:bV}{A:cB}{E:aG->aI->Prop}{s:aI}
def Kb{l:Addr}{b:Array aG}{n:Nat}{sl:Array (Option aG)}{p:List (a7×Addr×aG)}{Q:aG->aI->Prop}(hu:A.units+8<cZ)(hh:A.handled=none)(hl:s.1.get? l=some {cls:=.type "list",dict:=none,data:=.seq b n,slots:=sl})(u:b.size=p.length)(hz:p.length<=aQ)
  (hP:∀(j:Nat) x v,p[j]?=some x->b[j]?=some v->qt prog w s.1 x v)
  (h:∀B tk,B.DictOfH (fj prog w) s.1.1.size (Ab [] p)->(∀c o,s.1.get? c=some o->B.get? c=some o)->Q (.ref s.1.1.size) {s with heap:=B,toks:=tk}):
  bF (bB prog w) A (call (.type "dict") [.ref l]) Q E s:=by
 refine callType_codes (Q₁:=λobj d=>obj=.ref s.1.1.size/\d={s with heap:=s.1.push {cls:=.type "dict",data:=.dict #[]}}) F.kt_called_dict (F.kt_typeCall_dict_1 _) F.entry_dict_init (kt_code_dict_new _ ⟨rfl,rfl⟩) ?_
 rintro obj d ⟨rfl,rfl⟩
 have a:(s.1.push {cls:=.type "dict",data:=.dict #[]}).DictOfH (fj prog w) s.1.1.size []:=Heap.DictOfH.new s.1;generalize U:s.1.push {cls:=.type "dict",data:=.dict #[]}=h1 at a⊢;have I:∀c o,s.1.get? c=some o->h1.get? c=some o:=λc o e=>by rw[<-U];exact aH _ e
 have i:=I _ _ hl;have hT:mO {s with heap:=h1} (.ref l) "list":=⟨_,i,rfl⟩;refine⟨a.typeIs,F.args_dict_init_2 _ _,?_⟩;unfold Builtin.«dict.__init__»;refine aC ?_;unfold Builtin.Dict.selfAndRest;refine aC (jL a.typeIs ?_);show bF _ _ (pure (s.1.1.size,[fU l])) _ _ _;refine aD ?_;show bF _ _ (Builtin.Dict.updateFrom "dict.__init__" s.1.1.size (.ref l) [] .none) _ _ _;unfold Builtin.Dict.updateFrom;refine aC (kG hT ?_);rw[aN (by decide)];obtain⟨q,g,dr,tk,os⟩:=s;refine aC (Ff i (by simpa using hh) λm ε C=>?_);rw[aN (by rfl)];refine aC (eY ?_);have z:=C _ _ i;refine aC (fW (items:=b) ⟨_,z,rfl,n,rfl⟩ ?_);refine aD ⟨eV jc _,?_⟩;have y:m.IsList l b:=⟨_,z,rfl,n,rfl⟩;obtain⟨od,es,ep,T,O,N,M,θ,L⟩:=a;have f:=C _ _ T;have G:q.objs.size<m.objs.size:=aV f;have lt:l<q.objs.size:=aV hl;have r:l≠m.objs.size:=bL (kE lt G);have W:=pF (prog:=prog) (w:=w) (A:=A.in1.in1) hh m.objs.size l r b;rw[u]at W;show iE _ _ (.builtin "dict.update.loop" ⟨[_,_,eA ((0:Nat):Int),.none],[]⟩) _ _;refine I9 (h0:=q) W (show A.units+1+1+4<cZ by lia) q.objs.size ?_ hz (λc o e=>⟨bL (aV e),λY=>?_⟩) hP p 0 _ [] rfl (bX _) ⟨⟨_,aT _ rfl,rfl,rfl⟩,y.push _⟩ ⟨od,es,ep,aH _ f,O,N,M,λx J=>(by cases J),L⟩ (bX _) (λc o e=>aH _ (C _ _ (I _ _ e))) (λx J=>(by cases J)) λB H hk hD=>⟨rfl,h B H hD λc o e=>?_⟩
 ·simp only[dM,mK,or_false,not_or];exact⟨bL G,fL lt⟩
 ·have:c=m.objs.size:=by simpa using Y
  exact bL (kE (aV e) G) this
 ·have lc:c<q.objs.size:=aV e;refine hk c o (bL lc) (λY=>?_) (aH _ (C _ _ (I _ _ e)));have:c=m.objs.size:=by simpa using Y
  exact bL (kE lc G) this
end
def Du:D->Option (a7×D)
 |.tup [k,v]=>(bw k).map λj=>(j,v)
 |_=>none
def lg:List D->Option (List (a7×D))
 |[]=>some []
 |d::r=>match Du d,lg r with
  |some p,some l=>some (p::l)
  |_,_=>none
def va(b:List (D×D))(a:List (a7×D)):List (D×D):=a.foldl (λc p=>C8 c p.1 p.2) b
def ug:D->Option D
 |.lst a=>if a.length<=aQ then(lg a).map λl=>.ja true (va [] l)else none
 |_=>none
def Vv{d:D}{p:a7×D}(h:Du d=some p):∃k,d=.tup [k,p.2]/\bw k=some p.1:=by
 unfold Du at h;split at h
 ·rename_i k v;cases e:bw k with
  |none=>rw[e]at h;cases h
  |some j=>rw[e]at h;cases h;exact⟨k,rfl,e⟩
 ·cases h
def I8{d:D}{r:List D}{l:List (a7×D)}(h:lg (d::r)=some l):∃p t,Du d=some p/\lg r=some t/\l=p::t:=by
 unfold lg at h;cases a:Du d with
 |none=>rw[a]at h;cases h
 |some p=>
  cases b:lg r with
  |none=>rw[a,b]at h;cases h
  |some t=>rw[a,b]at h;cases h;exact⟨p,t,rfl,rfl,rfl⟩
def uB(K:KA)(G:Hp):List (a7×D)->List (a7×V)->Prop
 |[],[]=>True
 |(j,d)::r,(k,v)::q=>j=k/\Den K G d v/\uB K G r q
 |_,_=>False
def ph(b a:List (a7×V)):List (a7×V):=a.foldl (λc d=>jh c d.1 d.2) b
def Wr(a:List (a7×V))(k:a7)(v:V):(jh a k v).length<=a.length+1:=by
 unfold jh;split<;>simp
def Lo:∀(a b:List (a7×V)),(ph b a).length<=b.length+a.length:=by
 intro a;induction a with
 |nil=>intro b;exact aJ _
 |cons p a c=>
  intro b;have e:=c (jh b p.1 p.2);have d:=Wr b p.1 p.2;show(ph (jh b p.1 p.2) a).length<=_;rw[aE]
  lia
theorem uB.merge{K:KA}{G:Hp}:∀{l:List (a7×D)}{q:List (a7×V)}{kvs:List (D×D)}{es:List (a7×V)},uB K G l q->fc K G kvs es->fc K G (va kvs l) (ph es q)
 |[],[],_,_,_,h=>h
 |(j,d)::r,(k,v)::q,kvs,es,⟨e,a,t⟩,h=>by
  subst e;exact uB.merge (l:=r) (q:=q) t (fc.put a h j)
def KT.merge{H:Hp}{a:List (a7×V)}{b:List (a7×Addr×aG)}(r:KT H a b):∀{kvs:List (a7×V)}{xs:List (a7×Addr×aG)},KT H kvs xs->KT H (ph kvs a) (Ab xs b):=by
 induction r with
 |nil=>intro kvs xs q;exact q
 |@cons p q d c h t f=>
  intro kvs xs r;obtain⟨e,i,g⟩:=h;have:=f (KT.put r p.1 i g);show KT H (ph (jh kvs p.1 p.2) d) (Ab (nL xs q.1 q.2.1 q.2.2) c);rw[<-e];exact this
section
variable{X:Cx}{B:Hp}{E:EK}{e:Expr}{g:En->Res}{pos p:Pos}
def L1{u:List (Addr×Obj)}{Z:St}{G H:Hp}{s:aI}(I:Inv X u Z H s)(M:bc G H):∀{y:List D}{l:List (a7×D)}{m:List V}{a:List aG},lg y=some l->br (kx X) G y m->Vals m a->
  ∃(f:List (a7×V)) (q:List (a7×Addr×aG)),KT H f q/\uB (kx X) G l f/\q.length=a.length/\∀(j:Nat) x v,q[j]?=some x->a[j]?=some v->qt X.prog X.w s.1 x v:=by
 intro y;induction y with
 |nil=>
  intro l m a h dl r;cases h;cases (show m=[]from dl);cases r;exact⟨[],[],.nil,mF,rfl,λj N v e=>by simp at e⟩
 |cons d y ih=>
  intro l m a h dl r;obtain⟨p,t,ep,et,rfl⟩:=I8 h;obtain⟨k,rfl,ek⟩:=Vv ep;obtain⟨v0,vr,rfl,dv,dr⟩:=dl;cases r with
  |cons T U=>
   obtain⟨f,q,a1,a2,a3,a4⟩:=ih et dr U;obtain⟨b,us,rfl,hb,C⟩:=dv;obtain⟨uk,q1,rfl,dk,J,q2,rfl,du,e0⟩:=C;cases e0;obtain⟨c,rfl,L⟩:=Arg.keys M (.inl dk) ek;obtain⟨_,O,r2,o,h1,h2,n,h3⟩:=(show hV X.prog X.w H s.1 b (.tup [.ref c,J])from I.ez b _ (M _ _ hb));cases r2 with
   |cons ra rb=>
    cases rb with
    |cons rc Y=>
     cases Y;rename_i kk Q;cases ra;refine⟨(p.1,J)::f,(p.1,c,Q)::q,.cons ⟨rfl,L,rc⟩ a1,⟨rfl,du,a2⟩,by rw[aE,aE,a3],λi N w A z=>?_⟩;cases i with
     |zero=>
      simp at A z;subst A z;exact⟨b,o,n,T,h1,h2,by simpa using h3,x4 I.ez L⟩
     |succ i=>exact a4 i N w (by simpa using A) (by simpa using z)
inductive r9(X:Cx)(xs:List V)(H:Hp)(Q:VK):Prop
 |mk (a vs G ds l) (_:xs=[.ref a]) (_:fD X.K H a vs) (_:bc G H) (_:br (kx X) G ds vs) (_:ds.length<=aQ) (_:lg ds=some l) (_:∀p o kvs,H p=none->uB (kx X) G l kvs->Q (.ref p) (upd H p (.jo o (.dT (ph [] kvs))))):r9 X xs H Q
def F6(hu:X.A.units+8<cZ)(hc:X.calm=true):hW X (.type "dict") (r9 X):=by
 intro C s Z H xs us Q I r q;obtain⟨a,vs,G,ds,l,rfl,sq,sg,dl,hz,e,q⟩:=q;obtain⟨u,rfl,ru⟩:=mq r;cases ru;obtain⟨ι,y,⟨o,n,w,m,N,M⟩,_⟩:=I.list sq;obtain⟨J,h,i,f⟩:=o;simp only at m N M;subst m N M;obtain⟨d,z,U,a2,T,a4⟩:=L1 I sg e dl y;have zl:z.length<=aQ:=by rw[T,<-y.length,<-dl.length];exact hz
 have zk:(ph [] d).length<=aQ:=by
  have w:=Lo d [];have m:d.length=z.length:=kK U;rw[dA]at w
  lia
 refine Kb hu (I.ok.hd hc) w (by rw[T];simp) zl (λj x v e1 e2=>a4 j x v e1 (by simpa using e2)) λh' tk hD hk=>?_;have L:=I.ez.fresh (aJ s.1.1.size);obtain⟨ob,es,ep,g1,g2,g3,g4,_,g6⟩:=hD;have I4:=I.laid (a:=s.1.1.size) (o:=.dT (ph [] d)) (t':=tk) (λb o e=>hk b o e) (aJ _) ⟨zk,beq_eq_false_iff_ne.mpr (iY (bL I.big)),_,(KT.merge U .nil).keeps λc ys O=>(by rw[ag (bf O L)];exact O),ob,es,ep,g1,g2,g3,g4,g6⟩;obtain⟨o5,_,Y⟩:=I4.freeze ai;rw[Aj]at Y;exact⟨.ref s.1.1.size,_,Y,rfl,q _ o5 d L a2⟩
def Wm(u:X.A.units+8<cZ)(y:X.calm=true)(w:Gl X "dict")(v:X.mg "dict"=none)(z:k9 X B E e g)(n:bM [e] X.env=(false,eval e X.env)::bM [] X.env):gj X B E (.Call (.Name "dict" p) [e] [] pos) (g1 ug g):=
 PE.imp (oh (F6 u y) w v PyProof.Rows.boot_dict (ip z je n) (by decide) (by decide) n rfl) λZ H Q q=>Yp (λG H x I d c C a Q q=>by
  unfold ug at a;split at a
  ·rename_i j
   by_cases h:j.length<=aQ
   ·rw[aN h]at a;cases i:lg j with
    |none=>rw[i]at a;cases a
    |some l=>
     rw[i]at a;cases a;obtain⟨b,r,rfl,s,dl⟩:=C.lst c;refine⟨b,r,G,j,l,rfl,s,c,dl,h,i,λp o f m pd=>q _ (upd G p (.jo o (.dT (ph [] f)))) _ (Ext.new c _ m) ⟨p,rfl,.inr ⟨rfl,o,_,ai,?_⟩⟩⟩;exact fc.mono (bx (dh c m) _) (uB.merge pd (kvs:=[]) (es:=[]) rfl)
   ·rw[aK h]at a;cases a
  ·cases a) q
end
def PC:D->Option (List D)
 |.lst a=>some a
 |_=>none
def Dl(g:En->Res):En->dg:=λδ=>match g δ with
 | .ok d => (match PC d with
  |some a=>.ok (rj 0 a)
  |none=>.st)
 |.er c=>.er c
 |.st=>.st
section
variable{X:Cx}{B:Hp}{E:EK}{e:Expr}{g:En->Res}{pos p tp:Pos}{vG:List Expr}{k1:Nat}
def KJ(q:eT E G H (Dl g δ) P):c7 E G H (g δ) λd=>∃a,d=.lst a/\P (rj 0 a):=by
 unfold Dl at q;cases e:g δ with
 |ok d=>
  rw[e]at q;cases d with
  |lst a=>exact⟨a,rfl,q⟩
  |_=>exact q.elim
 |er c=>rw[e]at q;exact q
 |st=>rw[e]at q;exact q
def AJ(hg:Gl X "enumerate")(hm:X.mg "enumerate"=none)(h:JL X B E e g)(L:bM [e] X.env=(false,eval e X.env)::bM [] X.env):
  Sd X B E (.Tuple vG k1 tp) (.Call (.Name "enumerate" p) [e] [] pos) (Dl g):=by
 intro c s Z H R I ⟨G,δ,M,q⟩;refine Call_ (E6 I hg hm (by decide+kernel:lG "enumerate"=some (.type "enumerate")) (jN (iq ((ky h qi L) pos c s Z H (λi f=>∃a,i=[.ref a]/\(∃xs,fD X.K f a xs)/\R (OL X.K a) f) I ⟨G,δ,M,(KJ q).mono λd _ ⟨ds,ed,q⟩ v N f l ax=>?_⟩) λus j ⟨i,f,m,Q,a,l,r,T⟩=>?_) L rfl))
 ·subst ed;obtain ⟨a,i,rfl,s,dl⟩|⟨η,a,i,z,rfl,s,dl⟩|⟨t,Y,a,z,_⟩:=ax
  ·exact⟨a,rfl,⟨i,fD.mono l.gh s⟩,q _ N f l (Ue (by rintro G2 H2 ⟨o,C⟩ J;exact⟨fD.mono (o.trans J) s,o⟩) dl)⟩
  ·cases z;exact⟨a,rfl,⟨i,fD.mono (M.bh.trans l.hh) s⟩,q _ N f l (Ue (by rintro G2 H2 ⟨o,C⟩ J;exact⟨fD.mono C s,o⟩) dl)⟩
  ·cases z
 ·subst l;obtain⟨u,rfl,O⟩:=mq Q;cases O;have A:∀b∈[j.1.1.size+1,j.1.1.size],o1 X c f b:=λb y=>by
   rcases List.mem_cons.mp y with rfl|y
   ·exact m.qh (jW _) (m.ez.fresh (jW _))
   ·have z:b=j.1.1.size:=by simpa using y
    subst z;exact m.qh (aJ _) (m.ez.fresh (aJ _))
  obtain⟨xs,r⟩:=r;obtain⟨α,rv,U,_⟩:=m.list r;refine call_enumerate_list U.isList λh' n x β w=>?_;exact wpAny_pyIter_enum n ⟨j.1.1.size+1,[j.1.1.size+1,j.1.1.size],_,_,f,rfl,m.kept w,Rp a _ _ (Nat.succ_ne_self _),⟨⟨_,n⟩,x⟩,A,T⟩
end
noncomputable def Yl:Operator->Option (D->D->Option D)
 |.Add=>some bu
 |.Sub=>some D0
 |.Mult=>some k8
 |.Mod=>some B5
 |_=>none
def HJ(j:Yl e=some f)(d:k9 X B E a g)(c:k9 X B E b h):gj X B E (.BinOp a e b i) (g2 f g h):=by
 cases e<;>cases j
 ·exact HN d c
 ·exact IV d c
 ·exact HA d c
 ·exact HB d c
noncomputable def OY(x:Str):Option (D->Option D):=
 if x="len" then some nj else if x="list" then some fo else if x="tuple" then some jd else if x="int" then some Wu else if x="all" then some Dy else if x="any" then some w8 else if x="dict" then some ug else if x="sorted" then some mh else if x="min" then some nv else none
section
variable{X:Cx}{B:Hp}{E:EK}{e a b:Expr}{es:List Expr}{g h:En->Res}{pos p:Pos}{x:Str}
def EH(O:ki X C T m)(d:OY x=some f)(j:Gl X x)(i:i9 e=true)(l:k9 X B E e g):gj X B E (.Call (.Name x p) [e] [] pos) (g1 f g):=by
 unfold OY at d
 by_cases c:x="len"
 ·rw[aN c]at d;cases d;subst c;exact HD j (O.bl _ (by decide)) l (ak i) rfl
 rw[aK c]at d
 by_cases c:x="list"
 ·rw[aN c]at d;cases d;subst c;exact Vu (I0 O.calm j (O.bl _ (by decide)) l i) P5
 rw[aK c]at d
 by_cases c:x="tuple"
 ·rw[aN c]at d;cases d;subst c;exact Wp j (O.bl _ (by decide)) l (ak i) rfl
 rw[aK c]at d
 by_cases c:x="int"
 ·rw[aN c]at d;cases d;subst c;exact BP j (O.bl _ (by decide)) l (ak i) rfl
 rw[aK c]at d
 by_cases c:x="all"
 ·rw[aN c]at d;cases d;subst c;exact HM O.calm j (O.bl _ (by decide)) l (ak i)
 rw[aK c]at d
 by_cases c:x="any"
 ·rw[aN c]at d;cases d;subst c;exact HK O.calm j (O.bl _ (by decide)) l (ak i)
 rw[aK c]at d
 by_cases c:x="dict"
 ·rw[aN c]at d;cases d;subst c;exact Wm (by have:=O.units;lia) O.calm j (O.bl _ (by decide)) l (ak i)
 rw[aK c]at d
 by_cases c:x="sorted"
 ·rw[aN c]at d;cases d;subst c;exact Q7 (by have:=O.units;lia) O.calm j (O.bl _ (by decide)) l (ak i)
 rw[aK c]at d
 by_cases c:x="min"
 ·rw[aN c]at d;cases d;subst c;exact BO (by have:=O.units;lia) O.calm j (O.bl _ (by decide)) l (ak i)
 rw[aK c]at d;cases d
end
def Tq(C:SC)(n:Str)(a:Expr):Option (List Expr):=match a with
 | .Call f b c _ => (match f with
  |.Name y _=>if decide (y=n) && c.isEmpty && decide (slot C y=none) && FM C y && b.all i9 then some b else none
  |_=>none)
 |_=>none
noncomputable def mi(C:SC)(n:Str)(a:Expr):Option Expr:=match Tq C n a with
 |some [e]=>some e
 |_=>none
def su(e:Expr):Option (Expr×Str×List Expr):=match e with
 | .Call f a b c => (match f with
  |.Attribute o m d=>if b.isEmpty && (d.endLine==c.line)then some (o,m,a)else none
  |_=>none)
 |_=>none
def jg{e o:Expr}{m:Str}{a:List Expr}(h:su e=some (o,m,a)):∃d b,e=.Call (.Attribute o m d) a [] b/\(d.endLine==b.line)=true:=by
 unfold su at h;split at h
 ·split at h
  ·split at h
   ·rename_i f b _ o m d c;simp only[bA,List.isEmpty_iff]at c;cases h;exact⟨d,b,by rw[c.1],c.2⟩
   ·cases h
  ·cases h
 ·cases h
def U4(m:Str)(a:Expr):Option Expr:=match su a with
 |some (o,b,[])=>if decide (b=m) && kn o then some o else none
 |_=>none
def U5{m:Str}{a o:Expr}(h:U4 m a=some o):∃d b,a=.Call (.Attribute o m d) [] [] b/\kn o=true/\(d.endLine==b.line)=true:=by
 unfold U4 at h;split at h
 ·rename_i e;split at h
  ·rename_i c;cases h;simp only[bA,decide_eq_true_eq]at c;obtain⟨rfl,c⟩:=c;obtain⟨d,b,e,l⟩:=jg e;exact⟨d,b,e,c,l⟩
  ·cases h
 ·cases h
def Mr(b:Ev)(C:SC)(x:Str)(a:Expr):En->Res:=(match OY x with
   |some f=>if i9 a then g1 f (xl b C a)else j8
   |none=>j8)
noncomputable def Ms(c:Ev)(C:SC)(x:Str)(b:List Expr):En->Res:=match b with
 | [a] => (match mi C "set" a with
  |some e=>if x="sorted" then g1 cm (xl c C e)else j8
  |none=>Mr c C x a)
 |_=>j8
noncomputable def xi(T:GT)(d:Ev)(C:SC)(x:Str)(c:List Expr):En->Res:=match slot C x with
 |some _=>j8
 | none => if FM C x then (match T.fns x with
  | some s => (match c with
   |[]=>if s.ms=[]then(λ_=>s.f [])else j8
   |e::g=>if(e::g).all i9 then ah s.f (JJ d C s.ms (e::g))else j8)
  | none => if decide (x ∈ o8) then Ms d C x c else (match T.cls x with
   | some p => (match c with
    |[a,b]=>if i9 a && i9 b then ah (y8 x p.1 p.2) (JJ d C [false,false] [a,b])else j8
    |_=>j8)
   |none=>j8))else j8
section
variable{T:GT}{ev tv:Ev}{X:Cx}{C:SC}{B:Hp}{E:XK}{pos p:Pos}{x:Str}{e a:Expr}{es:List Expr}
def Tr{n:Str}{b:List Expr}(O:ki X C T E)(h:Tq C n a=some b):∃p pos,a=.Call (.Name n p) b [] pos/\Gl X n/\b.all i9=true:=by
 unfold Tq at h;split at h
 ·split at h
  ·split at h
   ·rename_i c;cases h;simp only[bA,decide_eq_true_eq,List.isEmpty_iff]at c;obtain⟨⟨⟨⟨rfl,rfl⟩,_⟩,f⟩,d⟩:=c;exact⟨_,_,rfl,(O.gl f).1,d⟩
   ·cases h
  ·cases h
 ·cases h
def oo(O:ki X C T E)(h:mi C n a=some e):∃p pos,a=.Call (.Name n p) [e] [] pos/\Gl X n/\i9 e=true:=by
 unfold mi at h;split at h
 ·rename_i e;cases h;obtain⟨p,pos,e,g,z⟩:=Tr O e;exact⟨p,pos,e,g,by simpa using z⟩
 ·cases h
def KU(h:kg T ev)(O:ki X C T E)(c:Gl X x):gj X B (ek (kx X) E) (.Call (.Name x p) [a] [] pos) (Mr ev C x a):=by
 unfold Mr;cases d:OY x with
 |none=>exact cw
 |some f=>
  dsimp only
  by_cases b:i9 a=true
  ·rw[aN b];exact EH O d c b (fw h O a)
  ·rw[aK b];exact cw
def KR(h:kg T ev)(O:ki X C T E)(f:Gl X x):gj X B (ek (kx X) E) (.Call (.Name x p) b [] pos) (Ms ev C x b):=by
 unfold Ms;split
 ·rename_i a;cases i:mi C "set" a with
  |some e=>
   dsimp only;obtain⟨l,d,rfl,c,j⟩:=oo O i
   by_cases g:x="sorted"
   ·subst g;exact Q6 (by have:=O.units;lia) O.calm f (O.bl _ (by decide)) c (O.bl _ (by decide)) (fw h O e) (ak j)
   ·rw[aK g];exact cw
  |none=>
   exact KU h O f
 ·exact cw
def Yn(h:kg T ev)(O:ki X C T E):gj X B (ek (kx X) E) (.Call (.Name x p) d [] pos) (xi T ev C x d):=by
 unfold xi;cases G:slot C x with
 |some i=>exact cw
 |none=>
  by_cases n:FM C x=true
  ·rw[aN n];obtain⟨g1,g2⟩:=O.gl n;cases ef:T.fns x with
   |none=>
    by_cases l:decide (x∈o8)=true
    ·rw[aN l];exact KR h O g1
    rw[aK l];cases z:T.cls x with
    |none=>exact cw
    |some u=>
     obtain⟨w,v⟩:=u;obtain⟨m,y⟩:=O.cls x w v z;dsimp only;split
     ·rename_i a b
      by_cases c:(i9 a && i9 b)=true
      ·rw[aN c];rw[bA]at c;exact HF y m g1 (Dd h O (by rw[cF,cF,c.1,c.2];rfl)) g2 (ak c.1) (Jp (by rw[cF,c.2];rfl))
      ·rw[aK c];exact cw
     ·exact cw
   |some s=>
    obtain⟨k,f,H,A,m,o,q,r,F⟩:=O.fns x s ef;cases d with
    |nil=>
     dsimp only
     by_cases j:s.ms=[]
     ·rw[aN j];rw[j]at F;exact Wk F m g1 o q r O.sN g2
     ·rw[aK j];exact cw
    |cons e es=>
     dsimp only
     by_cases c:(e::es).all i9=true
     ·rw[aN c];have g:=c;rw[cF,bA]at g;exact BS F m g1 o q r O.sN (Dd h O c) g2 (ak g.1) (Jp g.2)
     ·rw[aK c];exact cw
  ·rw[aK n];exact cw
end
noncomputable def Ft(b:Ev)(C:SC)(iter:Expr):En->dg:=match mi C "range" iter with
 |some a=>cy (JJ b C [true] [a])
 | none => (match iter with
  |.Attribute o m p=>gz (b C (.Attribute o m p))
  |_=>aj (xl b C iter))
def FR(a:Ev)(C:SC)(e:Expr):En->Res:=match e with
 | .Name x _ => (match slot C x with
  |some i=>wc i
  |none=>a C e)
 |_=>a C e
noncomputable def Xn(b:Ev)(C:SC)(iter:Expr):En->dg:=match mi C "range" iter with
 |some a=>cy (JJ b C [true] [a])
 | none => (match iter with
  |.Attribute o m p=>gz (b C (.Attribute o m p))
  |_=>aj (FR b C iter))
section
variable{T:GT}{ev tv:Ev}{X:Cx}{C:SC}{B:Hp}{E:XK}{pos p:Pos}{x:Str}{e a tg:Expr}{es:List Expr}
def CB(h:kg T ev)(O:ki X C T E)(e:Expr):JL X B (ek (kx X) E) e (FR ev C e):=by
 have d:=Su (h X C B E e O);cases e with
 |Name x p=>
  show JL X B _ _ (match slot C x with
   |some i=>wc i
   |none=>ev C _)
  cases es:slot C x with
  |none=>exact d
  |some i=>exact ED i (O.var es)
 |_=>exact d
def PV(h:kg T ev)(O:ki X C T E)(e:Expr):Sd X B (ek (kx X) E) tg e (Xn ev C e):=by
 unfold Xn;cases d:mi C "range" e with
 |some a=>
  obtain⟨p,q,rfl,f,c⟩:=oo O d;exact Oi f (O.bl _ (by decide)) (Dd h O (by rw[cF,c];rfl)) (ak c)
 |none=>
  dsimp only;split
  ·rename_i o m p;have b:=h X C B E (.Attribute o m p) O;exact Oh b (L5 (Su b))
  ·exact L5 (CB h O _)
def Nz:Expr->Bool
 |.Tuple _ _ _=>true
 |_=>false
def Hj{tg:Expr}(h:Nz tg=true):∃es k p,tg=.Tuple es k p:=by
 unfold Nz at h;split at h
 ·exact⟨_,_,_,rfl⟩
 ·cases h
noncomputable def Nn(C:SC)(tg iter:Expr):Option Expr:=if Nz tg then mi C "enumerate" iter else none
def Hl(tg iter:Expr):Option Expr:=if Nz tg then U4 "items" iter else none
def Hk{α:Type}{c:Bool}{x:Option α}{y:α}(h:(if c then x else none)=some y):c=true/\x=some y:=by
 cases c with
 |true=>exact⟨rfl,h⟩
 |false=>cases h
def Ci(ev:Ev)(C:SC)(tg iter:Expr):En->dg:=match Nn C tg iter with
 |some e=>Dl (FR ev C e)
 | none => (match Hl tg iter with
   |some o=>lq (ev C o)
   |none=>Xn ev C iter)
def DP(h:kg T ev)(O:ki X C T E)(e:Expr):Sd X B (ek (kx X) E) tg e (Ci ev C tg e):=by
 unfold Ci;cases c:Nn C tg e with
 |none=>
  cases b:Hl tg e with
  |none=>exact PV h O e
  |some o=>
   obtain⟨t,b⟩:=Hk b;obtain⟨_,_,_,rfl⟩:=Hj t;obtain⟨l,j,rfl,i,f⟩:=U5 b;exact V6 (h X C B E o O) i f
 |some a=>
  obtain⟨t,c⟩:=Hk c;obtain⟨_,_,_,rfl⟩:=Hj t;obtain⟨p,pos,rfl,g,d⟩:=oo O c;exact AJ g (O.bl _ (by decide)) (CB h O a) (ak d)
def DR(h:kg T ev)(O:ki X C T E)(e:Expr):O4 X B (ek (kx X) E) tg e (Ft ev C e):=by
 unfold Ft;cases d:mi C "range" e with
 |some a=>
  obtain⟨p,q,rfl,f,c⟩:=oo O d;exact V7 (Oi f (O.bl _ (by decide)) (Dd h O (by rw[cF,c];rfl)) (ak c))
 |none=>
  dsimp only;split
  ·rename_i o m p;have b:=h X C B E (.Attribute o m p) O;exact V7 (Oh b (L5 (Su b)))
  ·exact AI (fw h O _)
end
noncomputable def Ow(c:Ev)(C:SC)(o:Expr)(m:Str)(d:List Expr):En->Res:=match d with
 |[a]=>if kn o && i9 a then(if m="index" then gM g9 (xl c C o) (xl c C a)else j8)else j8
 |[a,b]=>if kn o && i9 a && i9 b then(if m="get" then A7 (xl c C o) (xl c C a) (c C b)else j8)else j8
 |_=>j8
def PN(h:kg T q)(O:ki X C T E){l j:Pos}(f:(l.endLine==j.line)=true):gj X B (ek (kx X) E) (.Call (.Attribute o m l) e [] j) (Ow q C o m e):=by
 unfold Ow;split
 ·rename_i a
  by_cases c:(kn o && i9 a)=true
  ·rw[aN c];rw[bA]at c
   by_cases d:m="index"
   ·subst d;exact Wo O.units (fw h O o) (fw h O a) c.1 c.2 f
   ·rw[aK d];exact cw
  ·rw[aK c];exact cw
 ·rename_i a b
  by_cases c:(kn o && i9 a && i9 b)=true
  ·rw[aN c];rw[bA,bA]at c;obtain⟨⟨p,i⟩,g⟩:=c
   by_cases d:m="get"
   ·subst d;have n:X.A.units+5<cZ:=by have:=O.units;lia
    exact BR n (fw h O o) (fw h O a) (h X C B E b O) ⟨ni p,by rw[ml (by rw[cF,cF,i,g];rfl)];rfl,f,Jq i g⟩
   ·rw[aK d];exact cw
  ·rw[aK c];exact cw
 ·exact cw
noncomputable def oq(d g:Ev)(C:SC)(b:Expr)(gens:List Comprehension)(a:fK):En->Res:=match gens with
 | [⟨.Name x _, iter, e, 0⟩] => if xp C a [x] && rk iter then (match slots C (ij a.names) with
  | some f => (match e with
   |[]=>az (Ft d C iter) f (gC (.bl true)) (d (El C a [x]) b)
   |[c]=>az (Ft d C iter) f (g (El C a [x]) c) (d (El C a [x]) b)
   |_=>j8)
  |none=>j8)else j8
 |_=>j8
inductive vF(X:Cx)(B:Hp)(E:EK)(elt:Expr)(gens:List Comprehension)(scope:fK)(G:En->Res):Prop
 |st (h:G=j8)
 |ok {tg iter:Expr} {ifs:List Expr} {own xs M:List Str} {ix:List Nat} {td:D->Option (List D)} {t g:En->Res} {r:En->dg} {F:En->D->TR} {E2:XK} (eg:gens=[⟨tg,iter,ifs,0⟩]) (eG:G=pf r F)
  (st:X.Ok->∃cl,gL X scope cl own xs M ix/\p7 X B E2 scope cl own xs M tg td elt ifs t g) (hA:Sg X E2) (hF:∀δ,Dc td (rf ix δ) t g (F δ)) (hE:Yc E (ek (kx X) E2) F) (hi:O4 X B E tg iter r) (hs:∀x,fV iter X.env x=pure x)
section
variable{T:GT}{ev tv:Ev}{X:Cx}{C:SC}{B:Hp}{E:XK}{pos p:Pos}{elt:Expr}
def DX(h:kg T ev)(u:Ec T tv)(O:ki X C T E):vF X B (ek (kx X) E) elt gens scope (oq ev tv C elt gens scope):=by
 unfold oq;split
 ·rename_i x v iter m
  by_cases d:(xp C scope [x] && rk iter)=true
  ·rw[aN d];rw[bA]at d;obtain⟨d,e⟩:=d;cases s:slots C _ with
   |none=>exact .st rfl
   |some q=>
    cases m with
    |nil=>
     refine .ok (ifs:=[]) (own:=B2 scope) (xs:=[x]) (M:=ij scope.names) (ix:=q) (t:=gC _) (g:=ev _ elt) (E2:=E0) rfl (G8) (λok=>?_) rfl (λδ=>Xz.tr) To (DR h O iter) (qg e);obtain⟨n,j⟩:=yq O ok d s;exact⟨n,j,Oy j,.inl ⟨rfl,rfl⟩,λl a b i f o=>h _ _ B E0 elt (Ax O d l a b i f o)⟩
    |cons c r=>
     cases r with
     |nil=>
      refine .ok (ifs:=[c]) (own:=B2 scope) (xs:=[x]) (M:=ij scope.names) (ix:=q) (t:=tv _ c) (g:=ev _ elt) (E2:=E0) rfl (G8) (λok=>?_) rfl (λδ=>Xz.tr) To (DR h O iter) (qg e);obtain⟨n,j⟩:=yq O ok d s;exact⟨n,j,Oy j,.inr ⟨c,rfl,λl a b i f=>u _ _ B E0 c (Ax O d l a b i f Al)⟩,λl a b i f o=>h _ _ B E0 elt (Ax O d l a b i f o)⟩
     |cons _ _=>exact .st rfl
  ·rw[aK d];exact .st rfl
 ·exact .st rfl
def Av(h:kg T ev)(b:Ec T tv)(O:ki X C T E):Yd X B (ek (kx X) E) (.ListComp elt gens scope pos) (oq ev tv C elt gens scope)/\IsL (oq ev tv C elt gens scope):=by
 cases DX (gens:=gens) (scope:=scope) h b O with
 |st e=>rw[e];exact⟨LA,λδ d h=>by cases h⟩
 |ok l m st j g i f c=>
  rw[m];subst l;refine⟨λa s Z H Q I q=>?_,P4⟩;obtain⟨r,n,o⟩:=st I.ok;exact Vs n O.calm j o g i f c a s Z H Q I q
end
def S5(xs:List D)(lo a:Option Int):List D:=(xs.drop (HT.Jk xs.length 0 lo)).take (HT.Jk xs.length xs.length a - HT.Jk xs.length 0 lo)
def Oq(d:D)(lo a:Option Int):Option D:=match d with
 |.lst xs=>some (.lst (S5 xs lo a))
 |_=>none
def Hd(a:Ev)(C:SC)(o:Option Expr)(δ:En):Option (Option Int):=match o with
 |none=>some none
 | some e => (match a C e δ with
  |.ok (.int i)=>some (some i)
  |_=>none)
def PY(o:Option (En->Res))(δ:En):Option (Option Int):=match o with
 |none=>some none
 | some g => (match g δ with
  |.ok (.int i)=>some (some i)
  |_=>none)
def KF(g:En->Res)(lo a:Option (En->Res)):En->Res:=λδ=>(g δ).bind λd=>match PY lo δ,PY a δ with
 |some l,some h=>Res.of (Oq d l h)
 |_,_=>.st
def Ku(b:Ev)(C:SC)(a:Expr)(lo c:Option Expr):En->Res:=KF (xl b C a) (lo.map (b C)) (c.map (b C))
def T1{o:Option Expr}:PY (o.map (a C)) δ=Hd a C o δ:=by cases o<;>rfl
def br.cut{K:KA}{G:Hp}{c:List D}{a:List V}(dl:br K G c a)(lo b:Option Int):br K G (S5 c lo b) (S7 a lo b):=by
 unfold S5 S7;rw[dl.length];exact(dl.drop _).take _
section
variable{T:GT}{ev tv:Ev}{X:Cx}{C:SC}{B:Hp}{E:XK}{pos p:Pos}{a:Expr}
def Od(h:kg T ev)(O:ki X C T E):∃t:TO,PO X o t/\∀G δ Z H l (Q:Option Int->Hp->Prop),c5 (kx X) B G H Z δ->Hd ev C o δ=some l->(∀j g,Ext G H j g->Q l g)->t Z H Q:=by
 cases o with
 |none=>
  refine⟨_,AF,λG δ Z H l Q R e q=>?_⟩;cases e;exact q G H (Ext.refl R.gh)
 |some e=>
  refine⟨_,AE (h X C B E0 e O.none),λG δ Z H l Q R b q=>?_⟩;unfold Hd at b;dsimp only at b;cases f:ev C e δ with
  |ok d=>
   rw[f]at b;cases d with
   |int i=>
    cases b;refine⟨G,δ,R,?_⟩;rw[f];exact λv j g x m=>⟨i,m,q j g x⟩
   |_=>cases b
  |er c=>rw[f]at b;cases b
  |st=>rw[f]at b;cases b
def Xg(h:kg T ev)(O:ki X C T E){lo g:Option Expr}{w:Pos}:gj X B (ek (kx X) E) (.Subscript a (.Slice lo g none w) pos) (Ku ev C a lo g):=by
 obtain⟨M,y,s⟩:=Od h O;obtain⟨N,c,u⟩:=Od h O;refine PE.imp (V4 CY (fw h O a) y c) λZ H Q ⟨G,δ,R,q⟩=>⟨G,δ,R,(c7.bind q).mono λd _ q v L I m z=>?_⟩;rw[T1,T1]at q;cases e:Hd ev C lo δ with
 |none=>rw[e]at q;exact q.elim
 |some l=>
  cases i:Hd ev C g δ with
  |none=>rw[e,i]at q;exact q.elim
  |some c=>
   rw[e,i]at q;obtain⟨U,f,q⟩:=c7.of q;refine s L δ Z I l _ (R.ext m) e λJ A j=>u J δ Z A c _ (R.ext (m.trans j)) i λG3 Y b=>?_;unfold Oq at f;split at f
   ·cases f;obtain⟨x,o,rfl,r,dl⟩:=((z.ext j).ext b).lst b.gh;exact⟨x,o,rfl,r,λp n=>q _ _ _ (((m.trans j).trans b).trans (Ext.new b.gh _ n)) (vy b.gh n (dl.cut l c))⟩
   ·cases f
end
def Ov(c:Ev)(C:SC)(a:Expr)(d:Operator)(b:Expr):En->Res:=(match Yl d with
  |some f=>g2 f (xl c C a) (xl c C b)
  |none=>j8)
def EE(h:kg T g)(O:ki X C T E):gj X B (ek (kx X) E) (.BinOp a c b d) (Ov g C a c b):=by
 have e:gj X B (ek (kx X) E) (.BinOp a c b d) (match Yl c with
  |some f=>g2 f (xl g C a) (xl g C b)
  |none=>j8):=by
  cases i:Yl c with
  |none=>exact cw
  |some f=>exact HJ i (fw h O a) (fw h O b)
 exact e
noncomputable def DC(T:GT)(d u:Ev)(C:SC)(e:Expr):En->Res:=match e with
 | .Constant c _ _ => (match c with
  |.none=>gC .hZ
  |.bool b=>gC (.bl b)
  |.int i=>gC (.int i)
  |.str x=>gC (.str x)
  |_=>j8)
 |.Name x _=>Cj T C x
 |.BinOp a n b _=>Ov d C a n b
 | .UnaryOp n a _ => (match n with
  |.Not=>Hc (d C a)
  |_=>j8)
 | .BoolOp n p _ => (match n with
  |.And=>Gz (d C) p
  |.Or=>j8)
 |.Compare l q z _=>xj d C l q z
 |.Tuple j _ _=>if j.all i9 then h8 (G9 d C j)else j8
 |.List j _=>if j.all i9 then cx (G9 d C j)else j8
 | .Subscript a i _ => (match i with
  |.Slice lo B none _=>Ku d C a lo B
  |i=>if Fj i then g2 dj (xl d C a) (xl d C i)else j8)
 |.ListComp s gens h _=>oq d u C s gens h
 | .Dict A p _ => (match A, p with
  |[some (.Tuple j y w)],[v]=>A6 (d C (.Tuple j y w)) (d C v)
  |_,_=>j8)
 |.Attribute o m _=>if kn o then fq T.cls m (xl d C o)else j8
 | .Call f g r E => (match f, r with
  |.Name x _,[]=>xi T d C x g
  |.Attribute o m G,[]=>if G.endLine==E.line then Ow d C o m g else j8
  |_,_=>j8)
 |_=>j8
def A8(g:En->Res):En->Res:=g1 (λd=>bD (Jx d)) g
noncomputable def DA(T:GT)(f g:Ev)(C:SC)(e:Expr):En->Res:=match e with
 | .UnaryOp c a _ => (match c with
  |.Not=>Hc (g C a)
  |_=>g1 (λd=>bD (Jx d)) (xl f C e))
 | .BoolOp c h _ => (match c with
  |.And=>Gz (g C) h
  |.Or=>j8)
 |.Compare l b i _=>xj f C l b i
 |e=>if Fk e then g1 (λd=>bD (Jx d)) (xl f C e)else j8
section
variable{T:GT}{ev tv:Ev}
def Xm(h:kg T ev)(z:Ec T tv):kg T (DC T ev tv):=by
 intro X C B E e O;cases e with
 |Constant c k p=>
  cases c with
  |none=>exact IZ
  |bool b=>exact MS
  |int i=>exact HE
  |str x=>exact IW
  |_=>exact cw
 |Name x p=>exact Z4 O
 |BinOp a n b p=>
  exact EE h O
 |UnaryOp n a p=>
  cases n with
  |Not=>exact IY (h X C B E a O)
  |_=>exact cw
 |BoolOp n y p=>
  cases n with
  |And=>exact Nc λe=>h X C B E e O
  |Or=>exact cw
 |Compare l A Q p=>exact(Sz h O).1
 |Tuple j k p=>
  show gj X B _ _ (if j.all i9 then h8 _ else j8)
  by_cases d:j.all i9=true
  ·rw[aN d];exact IU Aq (Em h O d)
  ·rw[aK d];exact cw
 |List j p=>
  show gj X B _ _ (if j.all i9 then cx _ else j8)
  by_cases d:j.all i9=true
  ·rw[aN d];exact HC Aq (Em h O d)
  ·rw[aK d];exact cw
 |Subscript a i p=>
  show gj X B _ _ (match i with
   |.Slice lo J none _=>Ku ev C a lo J
   |i=>if Fj i then g2 dj _ _ else j8)
  split
  ·exact Xg h O
  ·skip
   by_cases s:Fj i=true
   ·rw[aN s];exact MR (by have:=O.units;lia) (fw h O a) (fw h O i) (Q3 s)
   ·rw[aK s];exact cw
 |Dict I y p=>
  show gj X B _ _ (match I,y with
   |[some (.Tuple j N M)],[v]=>A6 _ _
   |_,_=>j8)
  split
  ·exact Wn (by have:=O.units;lia) (h X C B E _ O) (h X C B E _ O)
  ·exact cw
 |Attribute o m p=>
  show gj X B _ _ (if kn o then fq T.cls m _ else j8)
  by_cases d:kn o=true
  ·rw[aN d];exact HH (λc H G e=>(O.cls c H G e).2) (fw h O o) d
  ·rw[aK d];exact cw
 |ListComp L gens q p=>exact Vu (Av h z O).1 (Av (B:=B) (E:=E) (pos:=p) h z O).2
 |Call f g r p=>
  show gj X B _ _ (match f,r with
   |.Name x _,[]=>xi T ev C x g
   |.Attribute o m w,[]=>if w.endLine==p.line then Ow ev C o m g else j8
   |_,_=>j8)
  split
  ·exact Yn h O
  ·rename_i o m w
   by_cases u:(w.endLine==p.line)=true
   ·rw[aN u];exact PN h O u
   ·rw[aK u];exact cw
  ·exact cw
 |_=>exact cw
def Xp(h:kg T ev)(d:Ec T tv):Ec T (DA T ev tv):=by
 intro X C B E e O;have f:∀{e:Expr},Fz X B _ e (if Fk e then g1 _ _ else j8):=λ{e}=>by
  by_cases c:Fk e=true
  ·rw[aN c];exact Wi (fw h O e) (Dw c)
  ·rw[aK c];exact wz
 cases e with
 |UnaryOp b a p=>
  cases b with
  |Not=>exact BU (d X C B E a O)
  |_=>exact Wi (fw h O _) (Dw rfl)
 |BoolOp b i p=>
  cases b with
  |And=>exact PJ (Nd λe=>d X C B E e O)
  |Or=>exact wz
 |Compare l g j p=>exact(Sz h O).2
 |_=>exact f
end
def gP(T:GT):Nat->Bool->Ev
 |0,_=>λ_ _=>j8
 |n+1,false=>DC T (gP T n false) (gP T n true)
 |n+1,true=>DA T (gP T n false) (gP T n true)
def DT(T:GT):∀n,kg T (gP T n false)/\Ec T (gP T n true):=by
 intro b;induction b with
 |zero=>exact⟨λ_ _ _ _ _ _=>cw,λ_ _ _ _ _ _=>wz⟩
 |succ n a=>exact⟨Xm (a).1 (a).2,Xp (a).1 (a).2⟩
noncomputable def jo(i:Nat)(δ:En):En:=match δ[i]? with
 |some (.ow b)=>δ.set i (.pu (.lst b))
 |some (.od t a)=>δ.set i (.pu (.ja t a))
 |_=>δ
def jb(is:List Nat)(δ:En):En:=is.foldl (λδ i=>jo i δ) δ
section
variable{K:KA}{B G0 G H:Hp}{Z:St}{δ:En}
def pa.uW(e:bc G j)(h:pa K B G H s o):pa K B j H s o:=by
 cases s with
 |no=>trivial
 |pu d=>obtain⟨v,c,b⟩:=h;exact⟨v,c,b.mono e⟩
 |bo d=>obtain⟨v,c,b⟩:=h;exact⟨v,c,EJ e b⟩
 |ow l=>obtain⟨a,f,c,b,g⟩:=h;exact⟨a,f,c,b,g.mono e⟩
 |od t i=>
  cases t with
  |false=>obtain⟨a,f,c,b,g⟩:=h;exact⟨a,f,c,b,g.mono e⟩
  |true=>obtain⟨a,f,c,b,g⟩:=h;exact⟨a,f,c,b,g.mono e⟩
def Ext.tW(e:Ext G0 B G H)(d:B a=none)(c:G a=none)(h:H a=some o):Ext G0 B (upd G a o) H:=by
 refine⟨e.gg.trans (bx c _),e.hh,λb u q=>?_,λb u q g z=>?_⟩
 ·by_cases z:b=a
  ·subst z;rw[ai]at q;rwa [h]
  ·rw[ag z]at q;exact e.gh b u q
 ·rw[ag (bf q d)];exact e.fr b u q g z
def c5.sD(R:c5 K B G H Z δ){i:Nat}{s:Sl}{a:Addr}{o:HO}{d:D}(C:δ[i]?=some s)(E:s.own=true)(x:Z[i]?=some (some (V.ref a)))(Y:Den K (upd G a o) d (.ref a)):
  c5 K B (upd G a o) (upd H a o) Z (δ.set i (.pu d)):=by
 obtain⟨gn,bn⟩:=R.own i s a C E x;have A:=(List.getElem?_eq_some_iff.mp C).1;have n:bc G (upd G a o):=bx gn _;refine⟨λb u q=>?_,λb u q=>?_,by rw[dB];exact R.len,λj t q=>?_,λj t b e f p=>?_,λj k t u b e f p J N M=>?_,R.gb⟩
 ·rw[ag (bf q bn)];exact R.bh b u q
 ·by_cases z:b=a
  ·subst z;rw[ai]at q;rwa [ai]
  ·rw[ag z]at q;rw[ag z];exact R.gh b u q
 ·by_cases z:i=j
  ·subst z;rw[bK A]at q;cases q;exact⟨_,x,_,rfl,Y⟩
  ·rw[bE z]at q;obtain⟨L,I,l⟩:=R.sl j t q;have r:∀b,t.own=true->L=some _->b≠a:=λb Q eo y=>by
    subst y;exact z (R.qQ i j _ _ b C q E Q x (by rw[I,eo]))
   refine⟨L,I,?_⟩;cases t with
   |no=>trivial
   |pu d=>obtain⟨v,c,h⟩:=l;exact⟨v,c,h.mono n⟩
   |bo d=>obtain⟨v,c,h⟩:=l;exact⟨v,c,EJ n h⟩
   |ow ds=>obtain⟨b,m,c,h,w⟩:=l;exact⟨b,m,c,by rwa [ag (r b rfl c)],w.mono n⟩
   |od t O=>
    cases t with
    |false=>obtain⟨b,m,c,h,w⟩:=l;exact⟨b,m,c,by rwa [ag (r b rfl c)],w.mono n⟩
    |true=>obtain⟨b,m,c,h,w⟩:=l;exact⟨b,m,c,by rwa [ag (r b rfl c)],w.mono n⟩
 ·by_cases z:i=j
  ·subst z;rw[bK A]at e;cases e;cases f
  ·rw[bE z]at e;obtain⟨g,b'⟩:=R.own j t b e f p;refine⟨?_,b'⟩;have r:b≠a:=by
    rintro rfl
    exact z (R.qQ i j _ _ b C e E f x p)
   rwa [ag r]
 ·have U:i≠j:=by
   rintro rfl
   rw[bK A]at e;cases e;cases p
  have T:i≠k:=by
   rintro rfl
   rw[bK A]at f;cases f;cases J
  rw[bE U]at e;rw[bE T]at f;exact R.qQ j k t u b e f p J N M
def c5.sX(R:c5 K B G H Z δ){s:Sl}(g:δ[i]?=some s)(f:s.own=true)(c:Z[i]?=some (some (V.ref a)))(j:H a=some o)(h:Den K (upd G a o) d (.ref a)):
  c5 K B (upd G a o) H Z (δ.set i (.pu d)):=by
 have e:upd H a o=H:=funext λb=>by
  by_cases z:b=a
  ·subst z;rw[ai,j]
  ·exact ag z
 have:=R.sD g f c h;rwa [e]at this
def c5.jo{X:Cx}{c:List (Addr×Obj)}{s:aI}(R:c5 K B G H Z δ)(e:Ext G0 B G H)(I:Inv X c Z H s)(i:Nat):∃p n,bc G p/\c5 K B p n Z (jo i δ)/\Ext G0 B p n/\Inv X c Z n s:=by
 unfold Pu.jo;cases d:δ[i]? with
 |none=>exact⟨G,H,bc.refl G,R,e,I⟩
 |some s=>
  cases s with
  |ow w=>
   obtain⟨a,q,g,h,f,b,j⟩:=R.qO d;exact⟨_,H,bx b _,R.sX d rfl g h ⟨a,q,rfl,fD.of ai,f.mono (bx b _)⟩,e.tW j b h,I⟩
  |od t u=>
   obtain⟨o,g,h⟩:=R.sl i _ d;cases t with
   |false=>
    obtain⟨a,m,rfl,f,l⟩:=h;obtain⟨b,j⟩:=R.own i _ a d rfl g;exact⟨_,H,bx b _,R.sX d rfl g f ⟨a,rfl,.inl ⟨rfl,m,ai,l.mono (bx b _)⟩⟩,e.tW j b f,I⟩
   |true=>
    obtain⟨a,m,rfl,f,l⟩:=h;obtain⟨b,j⟩:=R.own i _ a d rfl g;obtain⟨r,_,v⟩:=I.freeze f;exact⟨_,_,bx b _,R.sD d rfl g ⟨a,rfl,.inr ⟨rfl,r,m,ai,l.mono (bx b _)⟩⟩,e.tV j b,v⟩
  |no=>exact⟨G,H,bc.refl G,R,e,I⟩
  |pu _=>exact⟨G,H,bc.refl G,R,e,I⟩
  |bo _=>exact⟨G,H,bc.refl G,R,e,I⟩
def c5.jb{X:Cx}{a:List (Addr×Obj)}{s:aI}:∀(is:List Nat){G H:Hp}{δ:En},c5 K B G H Z δ->Ext G0 B G H->Inv X a Z H s->∃f d,bc G f/\c5 K B f d Z (jb is δ)/\Ext G0 B f d/\Inv X a Z d s:=by
 intro b;induction b with
 |nil=>rintro G H δ R e I;exact⟨G,H,bc.refl G,R,e,I⟩
 |cons i is c=>
  rintro G H δ R e I
  obtain⟨u,r,h,m,l,o⟩:=R.jo e I i;obtain⟨q,p,g,R2,j,n⟩:=c m l o;exact⟨q,p,h.trans g,R2,j,n⟩
end
section
variable{X:Cx}{G0 B:Hp}{E:EK}{st:Stmt}{F:En->Out}
def MI(is:List Nat)(h:vm X G0 B E st F):vm X G0 B E st (λδ=>F (jb is δ)):=by
 rintro a s Z H D I ⟨G,δ,R,e,q⟩
 obtain⟨i,g,b,d,c,f⟩:=c5.jb is R e I;exact h a s Z g D f ⟨i,_,d,c,il.same b q⟩
end
section
variable{X:Cx}{G0 B:Hp}{E:EK}{scope:fK}{cl:List (Str×Addr)}{own xs:List Str}{y:Str}{M:List Str}{ix:List Nat}{elt iter tg:Expr}{ifs:List Expr}{pos pos' uU:Pos}{r:En->dg}{t g:En->Res}{i:Nat}{td:D->Option (List D)}{F:En->D->TR}{E':XK}
def II(O:gL X scope cl own xs M ix)(hc:X.calm=true)(hA:Sg X E')(Bk:p7 X B E' scope cl own xs M tg td elt ifs t g)(hF:∀δ,Dc td (rf ix δ) t g (F δ))(hE:Yc E (ek (kx X) E') F)(hi:O4 X B E tg iter r)(hN:X.N.Nodup)(hy:X.N[i]?=some y)(Y:L2.Sb X.env.scope y)(hf:X.fn y=true)
  (hs:∀x,fV iter X.env x=pure x)(C:kC (.ListComp elt [⟨tg,iter,ifs,0⟩] scope uU) (some (.Name y pos')) pos.line X.env=pure true):
  vm X G0 B E (.Assign [.Name y pos'] (.ListComp elt [⟨tg,iter,ifs,0⟩] scope uU) pos) (cq i (pf r F)):=by
 intro l s Z H D I ⟨G,δ,R,ex,q⟩;have q:=zd ex q;rw[exec_Assign_Name_used _ _ _ _ C,arm_evalThenUse_ListComp];refine aC (wpAny_standAt ?_);refine aC (aC ?_);refine wpAny_comprehension_free rfl hs (uq O.sO) O.kind O.names ?_;refine cJ (hi l s Z H (λJ H1=>∃w h,Ext G H w H1/\xm _ J h _/\h.length<=aQ/\eT E G H _ λys=>il _ G0 B E G _ D) I
  ⟨G,δ,R,(DY q).mono (by rintro h _ ⟨Y,q⟩ J w H1 d ok;exact⟨w,h,d,ok,Y,q⟩)⟩) (λv s1 h1=>cJ h1 (λμ f h2=>?_) λ_ _ e=>e) λ_ _ e=>e
 obtain⟨it,fp,tn,J,H1,rfl,j,T,st,α,w,h,d,ok,U,q⟩:=h2;refine Gc O hc hA Bk j T st α (R.ext d) ok U (hF δ) (λ_ _ z=>z) (((q.ext d).er (hE δ h)).mono λys _ q=>?_);intro s3 H3 G3 vs m I3 hm hC e3 g3 h3 dl;have u:f.1.1.size<=f.1.1.size+1:=jW _;have A:=j.lt;have n:∀y c,X.env.cells.lookup y=some c->c<f.1.1.size:=λy c e=>by
  obtain⟨v',q'⟩:=j.cell y c e;exact q'.lt
 refine wpAny_assign_Name (D4 (v:=.ref f.1.1.size) I3 hN hy Y rfl (λs4 I4 ⟨a,L,ha⟩=>?_) (.inl hf));have la:a<f.1.1.size:=by
  obtain z|z:=ha
  ·rwa [z]
  ·exact n _ _ z
 refine⟨m,hm.sameBut L ((ue la).symm),λh' Q=>aD (aD ⟨Z.set i (some (V.ref f.1.1.size)),H3,?_,?_⟩)⟩
 ·refine I4.turned (λb o hb e=>Q.extBut b o hb e) hC ?_ (.inr (cG j.sz u)) ?_ ?_
  ·exact(ue A).symm
  ·intro z c β;exact ue (n z c β)
  ·intro p hp z;exact absurd (bS (aV (j.pin p hp).1) (cG u (fM z.symm))) (cP _)
 ·exact q _ G3 H3 (d.trans e3).gg (R.uM (d.trans e3) (dh d.hh (j.ez.fresh (aJ _))) g3 h3 dl) (ex.trans (d.trans e3))
end
def yg(c:En->Res)(F:En->Out):Nat->En->Out
 |0,_=>.st
 |n+1,δ=>(c δ).then λd=>match d with
  | .bl true => (match F δ with
   |.nx a=>yg c F n a
   |.ct a=>yg c F n a
   |.bk a=>.nx a
   |o=>o)
  |.bl false=>.nx δ
  |_=>.st
def J4:Nat:=1000000
def MK(c:En->Res)(F:En->Out):En->Out:=yg c F J4
section
variable{X:Cx}{G0 B:Hp}{E:EK}{c:Expr}{ss:List Stmt}{g:En->Res}{F:En->Out}{pos:Pos}
def BB(r:nO (bB X.prog X.w) X.A X.env X.xe)(u:Fz X B E c g)(v:zg X G0 B E ss F):vm X G0 B E (.While c ss [] pos) (MK g F):=
 PS.imp (Wg r u v)<|by
  rintro D Z H ⟨G,δ,R,e,q⟩
  refine⟨λm Z H=>∃G δ,c5 _ B G H Z δ/\Ext G0 B G H/\il _ G0 B E G (yg g F m δ) D,⟨J4,G,δ,R,e,q⟩,λm Z H ⟨G,δ,R,e,q⟩=>⟨G,δ,R,?_⟩⟩;cases m with
  |zero=>exact q.elim
  |succ m=>
   refine(zd e q).mono λd _ q=>?_;cases d with
   |bl b=>
    refine⟨b,rfl,λo x h=>?_⟩;cases b with
    |false=>
     exact q Z o x h.gg (R.ext h) (e.trans h)
    |true=>
     refine⟨λa i=>∃p,p<m+1/\∃G δ,c5 _ B G i a δ/\Ext G0 B G i/\il _ G0 B E G _ D,λa i z=>z,o,δ,R.ext h,e.trans h,?_⟩;cases ef:F δ with
     |nx f=>
      rw[ef]at q;exact λa n i s l j=>⟨m,fI m,n,f,l,j,il.same (h.gg.trans s) q⟩
     |ct f=>
      rw[ef]at q;exact λa n i s l j=>⟨m,fI m,n,f,l,j,il.same (h.gg.trans s) q⟩
     |bk f=>
      rw[ef]at q;exact λa n i s l j=>q a n i (h.gg.trans s) l j
     |rt d=>rw[ef]at q;exact q
     |er c=>rw[ef]at q;exact q
     |st=>rw[ef]at q;exact q
   |_=>exact q.elim
end
structure qs(X:Cx)(C:SC)(T:GT)(E:XK):Prop extends ki X C T E where
 fn:∀x,x∉wo->X.fn x=true
 pass:nO (bB X.prog X.w) X.A X.env X.xe
 vP:X.stack=X.env::X.outer
 xo:X.env.frame=some X.env.locals
 xB:X.ex=[]
def m9(C:SC)(x:Str):Option Nat:=if Hi C.sc x && nt x && decide (x∉wo)then Ui x C.N 0 else none
def Bp{C:SC}(h:m9 C x=some i):C.N[i]?=some x/\Hi C.sc x=true/\x∉wo:=by
 unfold m9 at h
 by_cases e:(Hi C.sc x && nt x && decide (x∉wo))=true
 ·rw[aN e]at h;rw[bA,bA]at e;obtain⟨_,q⟩:=N1 h;exact⟨by simpa using q,e.1.1,of_decide_eq_true e.2⟩
 ·rw[aK e]at h;cases h
section
variable{X:Cx}{C:SC}{T:GT}{x:Str}{i:Nat}{pos:Pos}
def qs.tg(O:qs X C T E)(h:m9 C x=some i):PG X (.Name x pos) (sk i):=by
 obtain⟨c,b,a⟩:=Bp h;exact Og (by rw[O.n];exact O.nd) (by rwa [O.n]) (by rw[O.s];exact Bd b) (.inl (O.fn x a))
def qs.st(O:qs X C T E)(h:m9 C x=some i)(d:PE X e b)(c:kC e (some (.Name x a)) pos.line X.env=pure false):PS X (.Assign [.Name x a] e pos) (Xq b (sk i)):=by
 obtain⟨j,g,f⟩:=Bp h;exact HQ (by rw[O.n];exact O.nd) (by rwa [O.n]) (by rw[O.s];exact Bd g) d c (.inl (O.fn x f))
end
def Fl:List Nat->List D->En->Option En
 |[],[],δ=>some δ
 |i::is,d::a,δ=>Fl is a (δ.set i (.pu d))
 |_,_,_=>none
noncomputable def q0(C:SC):List Expr->Option (List Nat)
 |[]=>some []
 |e::r=>match e with
  | .Name x _ => (match m9 C x, q0 C r with
   |some i,some is=>some (i::is)
   |_,_=>none)
  |_=>none
def yt(is:List Nat):D->En->Option En:=λd δ=>match d with
 |.tup a=>Fl is a δ
 |_=>none
theorem B9:∀{is:List Nat}{ds:List D}{δ a:En},Fl is ds δ=some a->ds.length=is.length
 |[],[],_,_,_=>rfl
 |[],_::_,_,_,h=>by cases h
 |_::_,[],_,_,h=>by cases h
 |i::is,d::ds,δ,a,h=>by
  have:=B9 (ds:=ds) h;rw[aE,aE,this]
section
variable{X:Cx}{C:SC}{T:GT}{B:Hp}
def Vc(O:qs X C T E):∀{es:List Expr}{is:List Nat},q0 C es=some is->(∃t:KY,KZ X es t/\∀{G H:Hp}{Z:St}{δ a:En}{b:List D}{f:List V}{Q:St->Hp->Prop},c5 (kx X) B G H Z δ->br (kx X) G b f->Fl is b δ=some a->
  (∀c,c5 (kx X) B G H c a->Q c H)->t f Z H Q)/\(jT es X.env).length=is.length/\(jT es X.env).findIdx? (·.1)=none:=by
 intro j;induction j with
 |nil=>
  rintro is h
  cases h;refine⟨⟨_,AK,λ{G H Z δ a b f Q} R dl e q=>?_⟩,rfl,rfl⟩;cases b with
  |nil=>
   cases e;exact⟨dl,q Z R⟩
  |cons _ _=>cases e
 |cons e r m=>
  rintro is h
  unfold q0 at h;cases e with
  |Name x p=>
   dsimp only at h;cases g:m9 C x with
   |none=>rw[g]at h;cases h
   |some i=>
    cases n:q0 C r with
    |none=>rw[g,n]at h;cases h
    |some l=>
     rw[g,n]at h;cases h;obtain⟨⟨t,y,w⟩,u,s⟩:=m n;refine⟨⟨_,V5 (O.tg g) y rfl,λ{G H Z δ a b f Q} R dl e q=>?_⟩,?_,?_⟩
     ·cases b with
      |nil=>cases e
      |cons d b=>
       obtain⟨v,o,rfl,z,A⟩:=dl;exact⟨v,o,rfl,w (R.set z) A e q⟩
     ·show(jT r X.env).length+1=l.length+1;rw[u]
     ·show List.findIdx? _ (_::jT r X.env)=none;rw[List.findIdx?_cons];simp[s]
  |_=>cases h
def JU(O:qs X C T E)(h:q0 C es=some is):∃gl,sP X B (.Tuple es k p) gl (yt is):=by
 obtain⟨⟨t,l,j⟩,i,g⟩:=Vc O h;refine⟨_,HX O.calm l i g,λ{G H Z δ b d v Q} R n e q=>?_⟩;cases d with
 |tup o=>
  obtain⟨a,c,rfl,f,dl⟩:=n;have m:=B9 (e);exact⟨a,c,rfl,m3.of (R.gh _ _ f),by rw[<-dl.length,m],j R dl e q⟩
 |_=>cases e
end
noncomputable def Xt(C:SC)(tg:Expr):Option (D->En->Option En):=match tg with
 |.Name x _=>(m9 C x).map a0
 |.Tuple a _ _=>(q0 C a).map yt
 |_=>none
def CQ(O:qs X C T E)(h:Xt C tg=some f):∃gl,sP X B tg gl f:=by
 unfold Xt at h;split at h
 ·rename_i x p;cases e:m9 C x with
  |none=>rw[e]at h;cases h
  |some i=>rw[e]at h;cases h;exact⟨_,CP (O.tg e)⟩
 ·rename_i a k p;cases e:q0 C a with
  |none=>rw[e]at h;cases h
  |some is=>rw[e]at h;cases h;exact JU O e
 ·cases h
section
variable{X:Cx}{G0 B:Hp}{E:EK}{e a k:Expr}{g h:En->Res}{pos:Pos}{st:Stmt}{F F':En->Out}
def BE(c:En->Bool)(j:vm X G0 B E st F)(i:vm X G0 B E st F'):vm X G0 B E st (λδ=>if c δ then F δ else F' δ):=by
 rintro b s Z H D I ⟨G,δ,R,f,q⟩
 by_cases d:c δ=true
 ·simp only[aN d]at q;exact j b s Z H D I ⟨G,δ,R,f,q⟩
 ·simp only[aK d]at q;exact i b s Z H D I ⟨G,δ,R,f,q⟩
end
inductive wO{κ:Type}[DecidableEq κ](mk:List (κ×V)->HO)(at_:Hp->κ->V->Prop)(x:V)(xs:List V)(H:Hp)(Q:VK):Prop
 |mk (a y l es k) (_:x=.ref a) (_:xs=[y,.ref l]) (_:H a=some (mk es)) (_:at_ H k y) (_:es.length<aQ) (_:(∀v,kr es k=some v->Q v H)) (_:(kr es k=none->Q (.ref l) (upd H a (mk (jh es k (.ref l)))))):wO mk at_ x xs H Q
structure vI(X:Cx)(κ:Type)[DecidableEq κ] where
 t:Bool
 cn:κ->D
 of:D->Option κ
 sC:List (κ×V)->HO
 at_:Hp->κ->V->Prop
 qU:Hp->List (D×D)->List (κ×V)->Prop
 sA:∀j,of (cn j)=some j
 nf:∀es,PM (sC es)=true
 uT:∀es vs,sC es≠.lst vs
 ty:∀{H:Hp}{a:Addr}{es:List (κ×V)},H a=some (sC es)->QP X.K "dict" (.ref a) H
 key:∀{G H:Hp}{d:D}{y:V}{j:κ},of d=some j->Den (kx X) G d y->bc G H->at_ H j y
 mono:∀{H H':Hp}{j:κ}{y:V},at_ H j y->bc H H'->at_ H' j y
 sd:X.A.units+5<cZ->NB X "dict.setdefault" (wO sC at_)
 sE:∀{G G':Hp}{kvs:List (D×D)}{es:List (κ×V)},bc G G'->qU G kvs es->qU G' kvs es
 rG:∀{B G H:Hp}{o:Option V},pa (kx X) B G H (.od t []) o->∃a,o=some (.ref a)/\H a=some (sC [])
 nil:∀G,qU G [] []
 cons:∀{G:Hp}{j:κ}{d:D}{v:V}{kvs:List (D×D)}{es:List (κ×V)},Den (kx X) G d v->qU G kvs es->qU G ((cn j,d)::kvs) ((j,v)::es)
 fin:∀{pins:List (Addr×Obj)}{Z:St}{H:Hp}{s:aI}{a:Addr}{es:List (κ×V)},Inv X pins Z H s->H a=some (sC es)->∃o,Inv X pins Z (upd H a o) s/\∀(G:Hp)(kvs:List (D×D)),G a=some o->qU G kvs es->Den (kx X) G (.ja t kvs) (.ref a)
def RE(X:Cx):vI X a7 where
 t:=true
 cn:=kT
 of:=bw
 sC:=.dT
 at_:=λH k y=>∃b,y=.ref b/\ll H k b
 qU:=λG i c=>fc (kx X) G i c
 sA:=n8
 nf:=λ_=>rfl
 uT:=λ_ _ z=>nomatch z
 ty:=λ{H a c} h=>.inr (.inr (.inl ⟨rfl,.inr ⟨c,h⟩⟩))
 key:=λe dn s=>Arg.keys s (.inl dn) e
 mono:=λ⟨b,e,q⟩ s=>⟨b,e,q.mono λ_ _ z=>s _ _ z⟩
 sd:=λU f s Z H x xs v J Q I M N q=>by
  obtain⟨a,y,l,c,k,rfl,rfl,n,⟨b,rfl,hb⟩,Y,T,O⟩:=q;cases M;obtain⟨u1,r1,rfl,E,C⟩:∃u r,J=u::r/\RelV (.ref b) u/\Vals [.ref l] r:=by
   cases N with
   |cons h t=>exact⟨_,_,rfl,h,t⟩
  obtain⟨u2,rfl,B⟩:=mq C;cases E;cases B;exact Dg U I n hb Y (v:=.ref l) rfl (λA w L p m j=>⟨A,H,j,m,T A p⟩) λL p j=>⟨.ref l,_,j,rfl,O p⟩
 sE:=λs d=>d.mono s
 rG:=λ⟨a,c,e,h,d⟩=>⟨a,e,by rw[h,show c=[]from d]⟩
 nil:=λ_=>rfl
 cons:=λdv h=>⟨_,_,_,rfl,rfl,dv,h⟩
 fin:=λ{f Z H s a c} I n=>by
  obtain⟨o,_,j⟩:=I.freeze n;exact⟨_,j,λG i g d=>⟨a,rfl,.inr ⟨rfl,o,c,g,d⟩⟩⟩
section
variable{κ:Type}[DecidableEq κ]
def Hh(of:D->Option κ)(b:κ->D)(j:κ)(v:D):List (D×List D)->List (D×List D)
 |[]=>[(b j,[v])]
 |(k,a)::r=>if of k=some j then(k,a++[v])::r else(k,a)::Hh of b j v r
inductive p0(cn:κ->D)(K:KA)(G B H:Hp):List (κ×V)->List Addr->List (D×List D)->Prop
 |nil:p0 cn K G B H [] [] []
 |cons {j b vs ds es bs gs}:H b=some (.lst vs)->br K G ds vs->G b=none->B b=none->p0 cn K G B H es bs gs->p0 cn K G B H ((j,.ref b)::es) (b::bs) ((cn j,ds)::gs)
section
variable{of:D->Option κ}{cn:κ->D}{K:KA}{G B H G' H':Hp}{gs:List (D×List D)}{es:List (κ×V)}{bs:List Addr}{j:κ}{v z:V}{dv:D}{l:Addr}
def p0.ext(h:p0 cn K G B H es bs gs)(e:Ext G H G' H'):p0 cn K G' B H' es bs gs:=by
 induction h with
 |nil=>exact .nil
 |cons a f d c _ b=>exact .cons (e.hh _ _ a) (f.mono e.gg) (e.fr _ _ a d rfl) c b
def p0.keep(h:p0 cn K G B H es bs gs)(k:∀b∈bs,H' b=H b):p0 cn K G B H' es bs gs:=by
 induction h with
 |nil=>exact .nil
 |cons i g f e _ a=>exact .cons ((k _ aZ).trans i) g f e (a λc d=>k c (aY _ d))
def p0.old(h:p0 cn K G B H es bs gs):∀b∈bs,(∃d,H b=some (.lst d))/\G b=none/\B b=none:=by
 induction h with
 |nil=>exact λb f=>nomatch f
 |cons m n i g _ e=>
  intro c a;rcases List.mem_cons.mp a with rfl|a
  ·exact⟨⟨_,m⟩,i,g⟩
  ·exact e c a
def p0.len(h:p0 cn K G B H es bs gs):gs.length=es.length:=by
 induction h with
 |nil=>rfl
 |cons _ _ _ _ _ a=>rw[aE,aE,a]
def p0.at(C:∀j,of (cn j)=some j)(h:p0 cn K G B H es bs gs):bs.Nodup->kr es j=some v->∃b a,v=.ref b/\b∈bs/\H b=some (.lst a)/\a.length<=(gs.map λp=>p.2.length).sum/\
  ∀{G' H' dv z},p0 cn K G' B H' es bs gs->H' b=some (.lst a)->Den K G' dv z->p0 cn K G' B (upd H' b (.lst (a++[z]))) es bs (Hh of cn j dv gs):=by
 induction h with
 |nil=>intro _ e;cases e
 |@cons i b a T er U gs N M Q O _ J=>
  intro E e;obtain⟨d,u⟩:=List.nodup_cons.mp E;unfold Hh;rw[C]
  by_cases w:i=j
  ·subst w;rw[mn rfl]at e;cases e;refine⟨b,a,rfl,aZ,N,by rw[<-M.length];exact iS _ _,λg x y=>?_⟩;rw[aN rfl];cases g with
   |cons s r o n m=>
    rw[x]at s;cases s;exact .cons ai (r.append (br.one y)) o n (m.keep λc f=>ag (by rintro rfl;exact d f))
  ·rw[j6 w]at e;obtain⟨c,A,rfl,f,L,I,q⟩:=J u e;refine⟨c,A,rfl,aY _ f,L,cG I (Nat.le_add_left _ _),λg x y=>?_⟩;rw[aK λz=>w (bN z)];cases g with
   |cons s r o n m=>exact .cons (by rwa [ag (by rintro rfl;exact d f)]) r o n (q m x y)
def p0.put(c:∀j,of (cn j)=some j)(h:p0 cn K G B H es bs gs)(e:kr es j=none)(f:H l=some (.lst [z]))(gl:G l=none)(bl:B l=none)(p:Den K G dv z):p0 cn K G B H (es++[(j,.ref l)]) (bs++[l]) (Hh of cn j dv gs):=by
 induction h with
 |nil=>exact .cons f (br.one p) gl bl .nil
 |@cons i b q r er s gs o n m g _ d=>
  by_cases a:i=j
  ·rw[mn a]at e;cases e
  ·rw[j6 a]at e;unfold Hh;rw[c,aK λz=>a (bN z)];exact .cons o n m g (d e)
end
def Wq{es:List (κ×V)}{j:κ}{v:V}(h:kr es j=none):jh es j v=es++[(j,v)]:=by
 unfold jh;rw[Jz,h];rfl
end
def c5.chg{K:KA}{B G H:Hp}{Z:St}{δ:En}{c:Addr}(R:c5 K B G H Z δ)(r:G c=none)(w:B c=none)(no:∀(j:Nat) s,δ[j]?=some s->s.own=true->Z[j]?≠some (some (V.ref c)))(o:HO):c5 K B G (upd H c o) Z δ:=by
 refine⟨λb u q=>by rw[ag (bf q w)];exact R.bh b u q,λb u q=>by rw[ag (bf q r)];exact R.gh b u q,R.len,λj t q=>?_,R.own,R.qQ,R.gb⟩;obtain⟨l,i,e⟩:=R.sl j t q;have h:∀b,t.own=true->l=some _->b≠c:=λb p v y=>by
  subst y;exact no j t q p (by rw[i,v])
 refine⟨l,i,?_⟩;cases t with
 |no=>trivial
 |pu d=>exact e
 |bo d=>exact e
 |ow x=>obtain⟨b,f,a,m,g⟩:=e;exact⟨b,f,a,by rwa [ag (h b rfl a)],g⟩
 |od t n=>
  cases t with
  |false=>obtain⟨b,f,a,m,g⟩:=e;exact⟨b,f,a,by rwa [ag (h b rfl a)],g⟩
  |true=>obtain⟨b,f,a,m,g⟩:=e;exact⟨b,f,a,by rwa [ag (h b rfl a)],g⟩
def c5.drop{K:KA}{B G H:Hp}{Z:St}{δ:En}(R:c5 K B G H Z δ)(i:Nat):c5 K B G H Z (δ.set i .no):=by
 have b:∀{j:Nat}{s:Sl},(δ.set i .no)[j]?=some s->s.own=true->i≠j/\δ[j]?=some s:=λ{j s} q m=>by
  by_cases z:i=j
  ·subst z;have f:i<δ.length:=by have:=(List.getElem?_eq_some_iff.mp q).1;rwa [dB]at this
   rw[bK f]at q;cases q;cases m
  ·rw[bE z]at q;exact⟨z,q⟩
 refine⟨R.bh,R.gh,by rw[dB];exact R.len,λj s q=>?_,λj s a e d c=>R.own j s a (b e d).2 d c,λj k s t a e d c g l h=>R.qQ j k s t a (b e c).2 (b d g).2 c g l h,R.gb⟩
 by_cases z:i=j
 ·subst z;have f:i<δ.length:=by have:=(List.getElem?_eq_some_iff.mp q).1;rwa [dB]at this
  rw[bK f]at q;cases q;exact⟨Z[i]'(by rwa [R.len]),aW _,trivial⟩
 ·rw[bE z]at q;exact R.sl j s q
def yh(Z:St)(δ:En)(c:Addr):Prop:=∀(j:Nat) s,δ[j]?=some s->s.own=true->Z[j]?≠some (some (V.ref c))
def c5.give{K:KA}{B G H:Hp}{Z:St}{δ:En}{c:Addr}{o:HO}(R:c5 K B G H Z δ)(m:G c=none)(l:H c=some o)(no:yh Z δ c):c5 K B (upd G c o) H Z δ:=by
 refine⟨R.bh,λb u q=>?_,R.len,λj t q=>?_,λj s b e d a=>?_,R.qQ,R.gb⟩
 ·by_cases z:b=c
  ·subst z;rw[ai]at q;rwa [l]
  ·rw[ag z]at q;exact R.gh b u q
 ·obtain⟨i,h,f⟩:=R.sl j t q;exact⟨i,h,f.uW (bx m _)⟩
 ·obtain⟨g,n⟩:=R.own j s b e d a;refine⟨?_,n⟩;have:b≠c:=by rintro rfl;exact no j s e d a
  rwa [ag this]
def p0.give{X:Cx}{κ:Type}[DecidableEq κ](d:vI X κ){s B H G:Hp}{Z:St}{δ:En}{gs:List (D×List D)}{es:List (κ×V)}{bs:List Addr}(h:p0 d.cn (kx X) G B H es bs gs)(u:bs.Nodup)(R:c5 (kx X) B G H Z δ)(e:Ext s B G H)(no:∀c∈bs,yh Z δ c):
  ∃a,bc G a/\c5 (kx X) B a H Z δ/\Ext s B a H/\d.qU a (gs.map λp=>(p.1,.lst p.2)) es/\∀c,c∉bs->a c=G c:=by
 induction h with
 |nil=>exact⟨G,bc.refl G,R,e,d.nil G,λ_ _=>rfl⟩
 |@cons j b n I er J gs r y x w _ v=>
  obtain⟨l,i⟩:=List.nodup_cons.mp u;obtain⟨a,o,E,A,C,q⟩:=v i λc f=>no c (aY _ f);have m:=(q b l).trans x;have g:bc a (upd a b (.lst n)):=bx m _;refine⟨upd a b _,o.trans g,E.give m r (no b aZ),A.tW w m r,d.cons ⟨b,n,rfl,fD.of ai,y.mono (o.trans g)⟩ (d.sE g C),λc f=>?_⟩;rw[ag (by rintro rfl;exact f aZ)];exact q c λz=>f (aY _ z)
def DS{κ:Type}[DecidableEq κ](of:D->Option κ)(e:κ->D)(a:Nat)(c b:En->Res):List D->En->List (D×List D)->Option (En×List (D×List D))
 |[],δ,gs=>some (δ,gs)
 |d::f,δ,gs=>match c (δ.set a (.pu d)),b (δ.set a (.pu d))with
  | .ok k, .ok v => (match of k with
   |some j=>if gs.length<aQ/\(gs.map λp=>p.2.length).sum<aQ then DS of e a c b f (δ.set a (.pu d)) (Hh of e j v gs)else none
   |none=>none)
  |_,_=>none
def Os{κ:Type}[DecidableEq κ](t:Bool)(of:D->Option κ)(h:κ->D)(f a:Nat)(r:En->dg)(e d:En->Res):En->Out:=λδ=>match δ[f]? with
 | some (.od b []) => if b = t /\ a ≠ f then (match r (δ.set f .no) with
  | .ok g => (match DS of h a e d g (δ.set f .no) [] with
   |some p=>.nx (p.1.set f (.pu (.ja t (p.2.map λq=>(q.1,.lst q.2)))))
   |none=>.st)
  |.er c=>.er c
  |.st=>.st)else .st
 |_=>.st
section
variable{X:Cx}{κ:Type}[DecidableEq κ]{G0 B:Hp}{E:EK}{iter ke ve:Expr}{x y:Str}{py p ap cp lp uJ uI ep pos:Pos}{f jt:Nat}{r:En->dg}{gk gv:En->Res}
def Y4{a b:Expr}{d:Env}{c:Pos}(g:i9 a=true)(e:i9 b=true):((fF c (bM [a,b] d)).all (λx=> !x.1) && (mS c (iW [] d)).all (λx=>x.1.isSome)
   && decide (([a,b]:List Expr).length+([]:List iF).length+(if([]:List iF).isEmpty then 0 else 1)<30))=true:=by
 rw[ml (by rw[cF,cF,g,e];rfl)];rfl
def DV{a:Expr}{c:Env}{b:Pos}(d:i9 a=true):((fF b (bM [a] c)).all (λx=> !x.1) && (mS b (iW [] c)).all (λx=>x.1.isSome)
   && decide (([a]:List Expr).length+([]:List iF).length+(if([]:List iF).isEmpty then 0 else 1)<30))=true:=by
 rw[ml (by rw[cF,d];rfl)];rfl
def Xd{Z:St}{f:Nat}{o:Option V}(h:Z[f]?=some o):Z.set f o=Z:=by
 refine jR λi=>?_
 by_cases e:f=i
 ·subst e;rw[bK (List.getElem?_eq_some_iff.mp h).1,h]
 ·rw[bE e]
inductive vJ(kk:vI X κ)(G0 B G1:Hp)(f:Nat)(a:Addr)(δ2:En)(gs:List (D×List D))(σ':St)(H':Hp):Prop
 |mk {G2 es bs} (_:bc G1 G2) (_:c5 (kx X) B G2 H' σ' δ2) (_:Ext G0 B G2 H') (_:σ'[f]?=some (some (V.ref a))) (_:H' a=some (kk.sC es)) (_:G2 a=none) (_:p0 kk.cn (kx X) G2 B H' es bs gs) (_:bs.Nodup) (_:yh σ' δ2 a) (_:∀c∈bs,yh σ' δ2 c):vJ kk G0 B G1 f a δ2 gs σ' H'
def MG(d:vI X κ)(hp:nO (bB X.prog X.w) X.A X.env X.xe)(Q:X.calm=true)(hu:X.A.units+5<cZ)(hi:Sd X B E (.Name y py) iter r)(hg:PG X (.Name y py) (sk jt))(hv:PE X (.Name x p) (uj f))
  (hk:gj X B E ke gk)(hval:gj X B E ve gv)(n1:i9 ke=true)(n2:i9 ve=true)(l1:(ap.endLine==cp.line)=true)(l2:(uJ.endLine==uI.line)=true)(hs:∀x,fV iter X.env x=pure x):
  vm X G0 B E (.For (.Name y py) iter [.Expr (.Call (.Attribute (.Call (.Attribute (.Name x p) "setdefault" ap) [ke,.List [] lp] [] cp) "append" uJ) [ve] [] uI) ep] [] pos) (Os d.t d.of d.cn f jt r gk gv):=by
 rintro ν s Z H D I ⟨G,δ,R,ex,q⟩
 unfold Os at q;split at q
 case h_2=>exact q.elim
 rename_i t' ed;split at q
 case isFalse=>exact q.elim
 rename_i hc2;obtain⟨rfl,njf⟩:=hc2;obtain⟨o,q1,q2⟩:=R.sl f _ ed;obtain⟨a,rfl,ha⟩:=d.rG q2;obtain⟨ga,ba⟩:=R.own f _ a ed rfl q1;have R0:=R.drop f;generalize hδ:δ.set f .no=T at q R0;have no0:yh Z T a:=λj s' n e2 e3=>by
  rw[<-hδ]at n
  by_cases z:f=j
  ·subst z;have hl:=(List.getElem?_eq_some_iff.mp ed).1;rw[bK hl]at n;cases n;cases e2
  ·rw[bE z]at n;exact z (R.qQ f j _ _ a ed n rfl e2 q1 e3)
 have body:qN X [.Expr (.Call (.Attribute (.Call _ [ke,.List [] lp] [] cp) "append" uJ) [ve] [] uI) ep] _:=
  Af (uf (y6 eJ kN kP ud (y6 iQ jJ nF (d.sd hu) hv (ky hk (ky (V3 qi) qi rfl) (ak n1)) rfl (Y4 n1 rfl) l1 (ak n1) rfl) (ky hval qi (ak n2)) rfl (DV n2) l2 (ak n2) rfl) rfl)
 have ξ:=L8 (pos:=pos) hp Q hi hg body hs;cases er:r T with
 |st=>rw[er]at q;exact q.elim
 |er c=>
  rw[er]at q;exact iq (ξ ν s Z H {nx:=λ_ _=>False,rt:=λ_ _=>False} I ⟨G,T,R0,by rw[er];exact λG' H' e=>q G' H' (ex.trans e)⟩) λfl s' z=>by
   cases fl with
   |next=>obtain⟨_,_,_,z⟩:=z;exact z.elim
   |ret u=>obtain⟨_,_,_,_,_,z⟩:=z;exact z.elim
   |brk=>obtain⟨_,_,_,z⟩:=z;exact dY z
   |cont=>obtain⟨_,_,_,z⟩:=z;exact dY z
 |ok ds=>
  rw[er]at q;dsimp only at q;cases eg:DS d.of d.cn jt gk gv ds T []with
  |none=>rw[eg]at q;exact q.elim
  |some pr=>
   obtain⟨δe,ge⟩:=pr;rw[eg]at q;refine iq (ξ ν s Z H {nx:=vJ d G0 B G f a δe ge,rt:=λ_ _=>False} I ⟨G,T,R0,?_⟩) λfl s' z=>?_
   ·rw[er];intro J G1 H1 n ok;refine⟨λi m M H'=>m=ds.length - i/\i<=ds.length/\∃C gs,vJ d G0 B G1 f a C gs M H'/\DS d.of d.cn jt gk gv (ds.drop i) C gs=some _,
     ⟨ds.length,by simp,bX _,T,[],⟨bc.refl G1,R0.ext n,ex.trans n,q1,n.hh _ _ ha,n.fr _ _ ha ga (d.nf _),.nil,fE,no0,λc Q=>nomatch Q⟩,by exact eg⟩,?_⟩
    rintro i m σ H2 ⟨rfl,hi2,C,gs,@⟨G2,es,bs,s2,R2,x2,f2,a2,g2,β,U,O,Y⟩,g⟩
    obtain⟨okg,oks⟩:=ok i G2 H2 ⟨s2,R2.bh⟩ R2.gh
    by_cases hl:i<ds.length
    case neg=>
     have z:i=ds.length:=by lia
     subst z;rw[mH]at g;cases g;exact .inl ⟨oks (aJ _),n.gg.trans s2,R2,x2,f2,a2,g2,β,U,O,Y⟩
    obtain⟨go,yl⟩:=okg ds[i] (by simp[hl]);rw[cU hl]at g;refine .inr ⟨go,λM H'=>i+1<=ds.length/\∃C gs,vJ d G0 B G1 f a C gs M H'/\DS d.of d.cn jt gk gv _ C gs=some _,
     by rintro M H' ⟨n1,n2⟩;exact⟨ds.length - _,by lia,rfl,n1,n2⟩,λv H3 yy=>?_⟩
    obtain⟨G3,e3,dn⟩:=yl v H3 yy;have R3:=(R2.ext e3).set (i:=jt) dn;unfold DS at g;split at g
    case h_2=>cases g
    rename_i dk dv ek φ;split at g
    case h_2=>cases g
    rename_i j ej;split at g
    case isFalse=>cases g
    rename_i hsz;generalize hδ3:C.set jt _=N at R3 g ek φ;have h:∀c,yh σ C c->yh (σ.set jt (some v)) N c:=λc Q j' s' n e2 e3=>by
     rw[<-hδ3]at n
     by_cases z:jt=j'
     ·subst z;have hl:jt<C.length:=by have:=(List.getElem?_eq_some_iff.mp n).1;rwa [dB]at this
      rw[bK hl]at n;cases n;cases e2
     ·rw[bE z]at n e3;exact Q j' s' n e2 e3
    have f3:(σ.set jt (some v))[f]?=some (some (V.ref a)):=by rwa [bE njf]
    have a3:=e3.hh _ _ a2;have gr3:=β.ext e3;refine⟨.ref a,f3,d.ty a3,G3,N,R3,?_⟩;rw[ek];intro yv G4 H4 e4 dy;refine⟨bX _,λl η=>?_⟩;have e5:Ext G4 H4 G4 (upd H4 l (.lst [])):=Ext.own e4.gh _ η;have γ:=e4.trans e5;have a5:=γ.hh _ _ a3;have g5:=γ.fr _ _ a3 (e3.fr _ _ a2 g2 (d.nf _)) (d.nf _);have ι:=gr3.ext γ;have R5:=R3.ext γ;have x5:=(x2.trans e3).trans γ;have s5:=(s2.trans e3.gg).trans γ.gg;have hla:l≠a:=by rintro rfl;rw[ai]at a5;exact d.uT _ _ (bN a5).symm
    have hlb:∀b∈bs,l≠b:=λb hb z=>by
     obtain⟨⟨ws,hw⟩,_⟩:=(gr3.ext e4).old b hb;rw[<-z,η]at hw;cases hw
    have bl:=dh (R3.ext e4).bh η;refine⟨a,yv,l,es,j,rfl,rfl,a5,d.mono (d.key ej dy e4.gh) e5.hh,by rw[<-β.len];exact hsz.1,λw ew=>?_,λen=>?_⟩
    ·obtain⟨b,vs,rfl,hb,hw,lw,nx⟩:=ι.at d.sA U ew;refine⟨.inl ⟨rfl,vs,fD.of hw⟩,G4,N,R5,?_⟩;rw[φ];intro zv G7 H7 L dz;have gr7:=ι.ext L;have hw7:=L.hh _ _ hw;obtain⟨_,gb7,bb⟩:=gr7.old b hb;have hba:a≠b:=by rintro rfl;rw[a5]at hw;exact d.uT _ _ (bN hw)
     refine⟨b,vs,zv,rfl,rfl,hw7,nV lw hsz.2,hl,N,_,⟨s5.trans L.gg,(R5.ext L).chg gb7 bb (h b (Y b hb)) _,(x5.trans L).wr gb7 bb,f3,?_,L.fr _ _ a5 g5 (d.nf _),nx gr7 hw7 dz,U,h a O,λc Q=>h c (Y c Q)⟩,g⟩;rw[ag hba];exact L.hh _ _ a5
    ·have R6:=R5.chg g5 ba (h a O) (d.sC (jh es j (.ref l)));have τ:upd (upd H4 l (.lst [])) a (d.sC (jh es j (.ref l))) l=some (.lst []):=by rw[ag hla,ai]
     refine⟨.inl ⟨rfl,[],fD.of τ⟩,G4,N,R6,?_⟩;rw[φ];intro zv G7 H7 L dz;have υ:=L.fr _ _ τ (dh e4.gh η) rfl;have gr6:p0 d.cn _ G4 B (upd _ a (d.sC (jh es j (.ref l)))) es bs gs:=ι.keep λb hb=>by
      obtain⟨⟨ws,hw⟩,_⟩:=ι.old b hb;rw[ag (by rintro rfl;rw[a5]at hw;exact d.uT _ _ (bN hw))]
     have nl:yh _ N l:=λj' s' n e2 e3=>by
      obtain⟨o',z1,z2⟩:=(R3.ext e4).sl j' s' n;rw[e3]at z1;cases z1;obtain⟨a',z,u,z3,_⟩:=z2.ref e2;cases z;rw[η]at z3;cases z3
     refine⟨l,[],zv,rfl,rfl,(L.hh _ _ τ),by decide,hl,N,_,.mk (es:=jh es j (.ref l)) (bs:=bs++[l]) (s5.trans L.gg) ((R6.ext L).chg υ bl nl _) (((x5.wr g5 ba).trans L).wr υ bl) f3 ?_ (L.fr _ _ ai g5 (d.nf _)) ?_ ?_ (h a O) λc Q=>?_,g⟩
     ·rw[ag hla.symm];exact(L.hh _ _ ai)
     ·rw[Wq en];exact((gr6.ext L).keep λb hb=>by rw[ag (hlb b hb).symm]).put d.sA en ai υ bl dz
     ·rw[jP];refine⟨U,by simp,λb hb c Q=>?_⟩;have:c=l:=by simpa using Q
      subst this;exact(hlb b hb).symm
     ·rcases List.mem_append.mp Q with Q|Q
      ·exact h c (Y c Q)
      ·have:c=l:=by simpa using Q
       subst this;exact nl
   ·cases fl with
    |next=>
     obtain⟨M,H',I',@⟨G2,es,bs,s2,R2,x2,f2,a2,g2,β,U,O,Y⟩⟩:=z;obtain⟨o,I'',dn⟩:=d.fin I' a2;obtain⟨G3,s3,R3,x3,d3,k3⟩:=p0.give d β U R2 x2 Y;have μ:=(k3 a λhb=>by
      obtain⟨⟨ws,hw⟩,_⟩:=β.old a hb;rw[a2]at hw;exact d.uT _ _ (bN hw)).trans g2
     have sm:bc G3 (upd G3 a o):=bx μ _;have R5:=((R3.chg μ ba O o).give μ ai O).set (i:=f) (dn _ _ ai (d.sE sm d3));rw[Xd f2]at R5;exact⟨M,_,I'',q M _ _ ((s2.trans s3).trans sm) R5 (x3.tV ba μ)⟩
    |ret u=>obtain⟨_,_,_,_,_,z⟩:=z;exact z.elim
    |brk=>obtain⟨_,_,_,z⟩:=z;exact dY z
    |cont=>obtain⟨_,_,_,z⟩:=z;exact dY z
end
def Gx(a b:Nat)(g:En->Res):List D->En->Option En
 |[],δ=>some δ
 |d::f,δ=>match (δ.set a (.pu d))[b]?,g (δ.set a (.pu d))with
  | some (.ow xs), .ok e => (match sr e with
   |some c=>if xs.length+c.length<=aQ then Gx a b g f ((δ.set a (.pu d)).set b (.ow (xs++c)))else none
   |none=>none)
  |_,_=>none
def D1(b c d:Nat)(g:En->Res):En->Out:=λδ=>match δ[b]? with
 | some (.ow e) => if c ≠ b /\ d ≠ b then (match Gx c d g e δ with
  |some a=>.nx a
  |none=>.st)else .st
 |_=>.st
section
variable{X:Cx}{G0 B:Hp}{E:EK}{e:Expr}{x y z:Str}{px py pz ap cp ep pos:Pos}{iw jt iy:Nat}{g:En->Res}
inductive wB(X:Cx)(G0 B G:Hp)(iw jt iy:Nat)(g:En->Res)(a:Addr)(vs:List V)(ws:List D)(δe:En)(i:Nat)(σ':St)(H':Hp):Prop
 |mk {G2 δ2} (_:bc G G2) (_:c5 (kx X) B G2 H' σ' δ2) (_:Ext G0 B G2 H') (_:σ'[iw]?=some (some (V.ref a))) (_:H' a=some (.lst vs)) (_:δ2[iw]?=some (.ow ws)) (_:Gx jt iy g (ws.drop i) δ2=some δe):wB X G0 B G iw jt iy g a vs ws δe i σ' H'
def IJ(hp:nO (bB X.prog X.w) X.A X.env X.xe)(hc:X.calm=true)(hw:PE X (.Name x px) (uj iw))(hg:PG X (.Name z pz) (sk jt))(hv:PE X (.Name y py) (uj iy))
  (ha:k9 X B E e g)(L:i9 e=true)(l1:(ap.endLine==cp.line)=true):
  vm X G0 B E (.For (.Name z pz) (.Name x px) [.Expr (.Call (.Attribute (.Name y py) "extend" ap) [e] [] cp) ep] [] pos) (D1 iw jt iy g):=by
 refine PS.imp (L8 hp hc (HW hw) hg (Af (uf (y6 eJ PySem.F.slot_list_extend PySem.F.type_list_extend N7 hv (ky ha qi (ak L)) rfl (DV L) l1 (ak L) rfl) rfl)) (λ_=>rfl)) λD Z H ⟨G,δ,R,ex,q⟩=>?_;unfold D1 at q;split at q
 case h_2=>exact q.elim
 rename_i f ed;split at q
 case isFalse=>exact q.elim
 rename_i T;obtain⟨a,s,q1,q2,q3,q4,q5⟩:=R.qO ed;cases eg:Gx jt iy g f δ with
 |none=>rw[eg]at q;exact q.elim
 |some I=>
  rw[eg]at q;refine⟨.ref a,q1,a,rfl,.inl ⟨⟨s,fD.of q2⟩,?_⟩⟩;refine⟨λi m h U=>m=f.length - i/\i<=f.length/\wB X G0 B G iw jt iy g a s f I i h U,
   ⟨f.length,by simp,bX _,bc.refl G,R,ex,q1,q2,ed,eg⟩,?_⟩
  rintro i m C H2 ⟨rfl,hi2,@⟨G2,J,s2,R2,x2,f2,O,d2,c⟩⟩
  have lw:=q3.length
  by_cases hl:i<f.length
  case neg=>
   have z:i=f.length:=by lia
   subst z;rw[mH]at c;cases c;exact .inl ⟨⟨s,fD.of O,by lia⟩,q C G2 H2 s2 R2 x2⟩
  obtain⟨b,ws',e1,e2,θ,gb,bb⟩:=R2.qO d2;rw[f2]at e1;cases e1;rw[O]at e2;cases e2;obtain⟨v,ev,dv⟩:=θ.get (aW hl);refine .inr ⟨⟨s,v,fD.of O,ev⟩,λh U=>i+1<=f.length/\wB X G0 B G iw jt iy g a s f I _ h U,
   by rintro h U ⟨L,n2⟩;exact⟨f.length - _,by lia,rfl,L,n2⟩,λw H3 ⟨eH,yy⟩=>?_⟩
  cases eH;have M:=yy s (fD.of O);rw[ev]at M;cases M;rw[cU hl]at c;have Q:=R2.set (i:=jt) dv;unfold Gx at c;split at c
  case h_2=>cases c
  rename_i xs d ek N;split at c
  case h_2=>cases c
  rename_i es ei;split at c
  case isFalse=>cases c
  have d3:(J.set jt (.pu f[i]))[iw]?=some (.ow f):=by rwa [bE T.1]
  generalize σ:J.set jt _=Y at Q c ek N d3;have f3:(C.set jt (some v))[iw]?=some (some (V.ref a)):=by rwa [bE T.1]
  obtain⟨l,us,p,o,r,z4,z5⟩:=Q.qO ek;have β:l≠a:=by
   rintro rfl
   exact T.2 (Q.qQ iy iw _ _ l ek d3 rfl rfl p f3)
  refine⟨.ref l,p,.inl ⟨rfl,us,fD.of o⟩,G2,Y,Q,?_⟩;rw[N];intro u G4 H4 n av;have α:∃b j,u=.ref b/\(fD (kx X) H4 b j\/m3 (kx X) H4 b j)/\br (kx X) G4 es j:=by
   cases d with
   |lst η=>cases ei;obtain⟨b,j,p,o,r⟩:=av.lst n.gh;exact⟨b,j,p,.inl o,r⟩
   |tup η=>cases ei;obtain⟨b,j,p,o,r⟩:=av.tup n.gh;exact⟨b,j,p,.inr o,r⟩
   |_=>cases ei
  obtain⟨b,j,rfl,sq,dl⟩:=α;have l1:=r.length;have l2:=dl.length;have h4:=n.hh _ _ o;refine⟨l,b,us,j,rfl,rfl,h4,sq,by lia,hl,s2.trans n.gg,c5.wr (Q.ext n) ek p h4 ((r.mono n.gg).append dl),Ext.wr (x2.trans n) (n.fr _ _ o z4 rfl) z5,f3,?_,?_,c⟩
  ·rw[ag β.symm];exact n.hh _ _ O
  ·rwa [bE T.2]
end
section
variable{X:Cx}{G0 B:Hp}{E:EK}{g:En->Res}{pos:Pos}
def qo(c b:Nat)(g:En->Res):En->Out:=λδ=>match δ[c]?,δ[b]?,g δ with
 | some (.ow xs), some (.ow a), .ok (.int i) => (match oS i a.length with
  | some n => (match a[n]? with
   |some d=>if c≠b/\xs.length<aQ/\-(2 ^ 63)<=i/\i<2 ^ 63 then .nx ((δ.set b (.ow (a.eraseIdx n))).set c (.ow (xs++[d])))else .st
   |none=>.st)
  |none=>.st)
 |_,_,_=>.st
def W6{u s:Nat}{x y:Str}{e:Expr}{O N Y U o m:Pos}(hx:PE X (.Name x O) (uj u))(hy:PE X (.Name y N) (uj s))(he:gj X B E e g)(r:i9 e=true)(l1:(Y.endLine==U.line)=true)(l2:(o.endLine==m.line)=true):
  vm X G0 B E (.Expr (.Call (.Attribute (.Name x O) "append" Y) [.Call (.Attribute (.Name y N) "pop" o) [e] [] m] [] U) pos) (qo u s g):=by
 have h:∀{a:Expr}{j:Env}{f:Pos},i9 a=true->((fF f (bM [a] j)).all _ && (mS f (iW [] j)).all (λx=>x.1.isSome)
   && decide (([a]).length+([]:List iF).length+(if([]:List iF).isEmpty then 0 else 1)<30))=true:=λ{a j f} hn=>by
  rw[ml (by rw[cF,hn];rfl)];rfl
 refine PS.imp (uf (y6 eJ kN kP ud hx (ky (y6 eJ PySem.F.slot_list_pop PySem.F.type_list_pop U9 hy (ky he qi (ak r)) rfl (h r) l2 (ak r) rfl) qi rfl) rfl (h rfl) l1 rfl rfl) rfl) λD Z H ⟨G,δ,R,ex,q⟩=>?_;unfold qo at q;split at q
 case h_2=>exact q.elim
 rename_i xs ys i T z eg;split at q
 case h_2=>exact q.elim
 rename_i n en;split at q
 case h_2=>exact q.elim
 rename_i d ed;split at q
 case isFalse=>exact q.elim
 rename_i hc;obtain⟨Q,h2,h3,h4⟩:=hc;obtain⟨a,M,J,I,a3,a4,a5⟩:=R.qO T;obtain⟨b,L,C,p,A,b4,b5⟩:=R.qO z;have l:a≠b:=by rintro rfl;exact Q (R.qQ u s _ _ a T z rfl rfl J C)
 refine⟨.ref a,J,.inl ⟨rfl,M,fD.of I⟩,.ref b,C,.inl ⟨rfl,L,fD.of p⟩,G,δ,R,?_⟩;rw[eg];intro w G1 H1 c dw;obtain⟨v,ev,dv⟩:=A.get ed;refine⟨b,L,i,n,v,rfl,by rw[dw],c.hh _ _ p,h3,h4,by rwa [<-A.length],ev,?_⟩;have κ:=c.hh _ _ I;refine⟨a,M,v,rfl,rfl,by rwa [ag l],by rwa [<-a3.length],?_⟩;have R2:=c5.wr (c5.wr (R.ext c) z C (c.hh _ _ p) ((A.mono c.gg).eraseIdx n)) (by rwa [bE (iY Q)]) J (by rwa [ag l]) ((a3.mono c.gg).append (br.one (dv.mono c.gg)));exact q Z G1 _ c.gg R2 (((ex.trans c).wr (c.fr _ _ p b4 rfl) b5).wr (c.fr _ _ I a4 rfl) a5)
end
mutual
def J5:Nat->GT->Expr->List Str
 |0,_,_=>[]
 |n+1,T,e=>match e with
  |.Name x _=>[x]
  |.IfExp c a b _=>A0 n T c++J5 n T a++J5 n T b
  |.BoolOp _ vs _=>vs.flatMap (J5 n T)
  |e=>A0 n T e
def A0:Nat->GT->Expr->List Str
 |0,_,_=>[]
 |n+1,T,e=>match e with
  |.BinOp a _ b _=>A0 n T a++A0 n T b
  |.UnaryOp _ a _=>A0 n T a
  |.BoolOp _ vs _=>vs.flatMap (A0 n T)
  |.IfExp c a b _=>A0 n T c++J5 n T a++J5 n T b
  |.Compare l _ rs _=>A0 n T l++rs.flatMap (A0 n T)
  |.Tuple es _ _=>es.flatMap (J5 n T)
  |.List es _=>es.flatMap (J5 n T)
  |.Subscript a i _=>A0 n T a++A0 n T i
  |.ListComp elt gens _ _=>J5 n T elt++gens.flatMap λg=>A0 n T g.iter++g.ifs.flatMap (A0 n T)
  | .Call (.Name f _) args _ _ => (match T.fns f with
   |some s=>(s.ms.zip args).flatMap λp=>if p.1 then A0 n T p.2 else J5 n T p.2
   |none=>if(T.cls f).isSome then args.flatMap (J5 n T)else args.flatMap (A0 n T))
  |.Call (.Attribute o _ _) args _ _=>A0 n T o++args.flatMap (J5 n T)
  |_=>[]
end
noncomputable def RF(T:GT)(st:Stmt):List Str:=match st with
 |.Return (some e) _=>J5 30 T e
 |.Assign [.Name _ _] e _=>J5 30 T e
 |.Assign [.Subscript _ k _] e _=>J5 30 T e++A0 30 T k
 |.AugAssign _ _ e _=>A0 30 T e
 |.Expr (.Call (.Attribute (.Name _ _) m _) a _ _) _=>if m="extend" then a.flatMap (A0 30 T)else a.flatMap (J5 30 T)
 |.Expr e _=>A0 30 T e
 |.If c _ _ _=>A0 30 T c
 |.For _ (.Name x p) [.Expr (.Call (.Attribute (.Name _ _) m _) [_] _ _) _] _ _=>if m="extend" then[]else[x]
 |.For _ iter _ _ _=>J5 30 T iter
 |.Try [.Expr e _] _ _ _ _=>A0 30 T e
 |.Try [.Assign [.Name _ _] e _] _ _ _ _=>A0 30 T e
 |_=>[]
def CW(C:SC)(xs:List Str):List Nat:=xs.filterMap (slot C)
def jz:Expr->Option Str
 |.Name x _=>some x
 |_=>none
def f7{e:Expr}{x:Str}(h:jz e=some x):∃p,e=.Name x p:=by
 unfold jz at h;split at h
 ·cases h;exact⟨_,rfl⟩
 ·cases h
noncomputable def Jr(T:GT)(b:Ev)(C:SC)(e:Expr):Option (En->Res):=match mi C "list" e with
 |some a=>some (g1 fo (xl b C a))
 | none => (match e with
  |.List c _=>if c.all i9 then some (cx (G9 b C c))else none
  |_=>none)
def X2:List Expr->Option (Expr×Expr)
 |[k,v]=>some (k,v)
 |_=>none
def M6(h:X2 es=some (k,v)):es=[k,v]:=by
 cases es with
 |nil=>cases h
 |cons a r=>
  cases r with
  |nil=>cases h
  |cons b r=>
   cases r with
   |nil=>cases h;rfl
   |cons c r=>cases h
noncomputable def Fs(b:Ev)(C:SC)(e:Expr):Option (En->qC):=match su e with
 | some (o, m, a) => (match jz o, X2 a with
  |some x,some (k,v)=>if decide (m="setdefault") && i9 k && i9 v then(slot C x).map λi=>jw i (xl b C k) (b C v)else none
  |_,_=>none)
 |none=>none
section
variable{T:GT}{ev tv:Ev}{X:Cx}{C:SC}{G0 B:Hp}{E:XK}
def KI(h:kg T ev)(O:ki X C T E)(a:Fs ev C e=some f):ON X G0 B (ek (kx X) E) e f:=by
 unfold Fs at a;cases l:su e with
 |none=>rw[l]at a;cases a
 |some q=>
  obtain⟨o,m,b⟩:=q;obtain⟨w,u,rfl,n⟩:=jg l;rw[l]at a;dsimp only at a;cases j:jz o with
  |none=>rw[j]at a;cases a
  |some x=>
   obtain⟨p,rfl⟩:=f7 j;rw[j]at a;cases d:X2 b with
   |none=>rw[d]at a;cases a
   |some q=>
    obtain⟨k,v⟩:=q;cases M6 d;rw[d]at a;dsimp only at a
    by_cases c:(decide (m="setdefault") && i9 k && i9 v)=true
    ·rw[aN c]at a;simp only[bA,decide_eq_true_eq]at c;obtain⟨⟨rfl,s⟩,r⟩:=c;cases g:slot C x with
     |none=>rw[g]at a;cases a
     |some i=>
      rw[g]at a;cases a;dsimp only;exact Ko (by have:=O.units;lia) (O.var g) (fw h O k) (h X C B E v O) s r n
    ·rw[aK c]at a;cases a
end
noncomputable def Fq(T:GT)(b f:Ev)(C:SC)(x:Str)(e:Expr):En->Out:=match m9 C x with
 |none=>y9
 | some i => (match e with
  | .Dict h d _ => (match h, d with
   |[],[]=>tq i
   |_,_=>y9)
  |.ListComp c gens a _=>cq i (oq b f C c gens a)
  | e => (match Jr T b C e with
   |some g=>if vc e then cq i g else y9
   |none=>if vc e then e9 i (b C e)else y9))
noncomputable def Mt(c:Ev)(C:SC)(x m:Str)(b:List Expr):En->Out:=match slot C x,b with
 |some i,[a]=>if m="append" then(if i9 a then qm i (c C a)else y9)
  else if m="extend" then(if i9 a then vg i (xl c C a)else y9)
  else y9
 |_,_=>y9
def fz(is:List Nat)(F:En->Out):En->Out:=λδ=>F (jb is δ)
def LX(i:Nat)(δ:En):Bool:=match δ[i]? with
 |some (.ow _)=>true
 |_=>false
abbrev Bv:=SC->List Stmt->En->Out
structure uC where
 t:Bool
 f:Nat
 j:Nat
 k:Expr
 v:Expr
def Eu:List Stmt->Option Expr
 |[.Expr e _]=>some e
 |_=>none
def yr{a:List Stmt}{e:Expr}(h:Eu a=some e):∃p,a=[.Expr e p]:=by
 unfold Eu at h;split at h
 ·cases h;exact⟨_,rfl⟩
 ·cases h
def K4:List Expr->Option Expr
 |[k,.List [] _]=>some k
 |_=>none
def Hn{es:List Expr}{k:Expr}(h:K4 es=some k):∃p,es=[k,.List [] p]:=by
 unfold K4 at h;split at h
 ·cases h;exact⟨_,rfl⟩
 ·cases h
def y0:List Expr->Option Expr
 |[k]=>some k
 |_=>none
def me{es:List Expr}{k:Expr}(h:y0 es=some k):es=[k]:=by
 unfold y0 at h;split at h
 ·cases h;rfl
 ·cases h
def we(C:SC)(tg:Expr)(a:List Stmt):Option uC:=do
 let y <-jz tg;let (o,e,h) <-su (<-Eu a);let b <-y0 h;let (d,g,i) <-su o;let x <-jz d;let c <-K4 i;let f <-slot C x;let j <-m9 C y
 if decide (g="setdefault") && decide (e="append") && i9 c && i9 b then some ⟨C.td.contains x,f,j,c,b⟩else none
inductive vu(C:SC)(tg:Expr)(body:List Stmt)(q:uC):Prop
 |mk (y x:Str) (py px ap cp lp uJ uI ep:Pos) (_:tg=.Name y py) (_:body=[.Expr (.Call (.Attribute (.Call (.Attribute (.Name x px) "setdefault" ap) [q.k,.List [] lp] [] cp) "append" uJ) [q.v] [] uI) ep]) (_:slot C x=some q.f) (_:m9 C y=some q.j) (_:i9 q.k=true) (_:i9 q.v=true) (_:(ap.endLine==cp.line)=true) (_:(uJ.endLine==uI.line)=true):vu C tg body q
def C1{C:SC}{tg:Expr}{a:List Stmt}{q:uC}(b:we C tg a=some q):vu C tg a q:=by
 simp only[we,bind,lE]at b;obtain⟨y,u,Q,s,⟨o,L,T⟩,r,J,p,⟨I,M,U⟩,n,x,m,N,l,O,w,j,v,b⟩:=b;obtain⟨f,rfl⟩:=f7 u;obtain⟨h,rfl⟩:=yr s;obtain⟨e,d,rfl,A⟩:=jg r;obtain⟨H,z,rfl,B⟩:=jg n;cases me p;obtain⟨g,rfl⟩:=f7 m;obtain⟨i,rfl⟩:=Hn l;split at b
 ·rename_i c;simp only[bA,decide_eq_true_eq]at c;obtain⟨⟨⟨rfl,rfl⟩,G⟩,E⟩:=c;cases b;exact⟨y,x,f,g,H,z,i,e,d,h,rfl,rfl,w,v,G,E,B,A⟩
 ·cases b
def BG(t:Bool)(f j:Nat)(r:En->dg)(b a:En->Res):En->Out:=if t then Os true bw kT f j r b a else y9
structure uE where
 w:Nat
 j:Nat
 y:Nat
 e:Expr
def wb(C:SC)(tg iter:Expr)(b:List Stmt):Option uE:=do
 let z <-jz tg;let x <-jz iter;let (c,m,a) <-su (<-Eu b);let y <-jz c;let e <-y0 a;let w <-slot C x;let j <-m9 C z;let y <-slot C y
 if decide (m="extend") && i9 e then some ⟨w,j,y,e⟩else none
inductive vC(C:SC)(tg iter:Expr)(body:List Stmt)(q:uE):Prop
 |mk (z x y:Str) (pz px py ap cp ep:Pos) (_:tg=.Name z pz) (_:iter=.Name x px) (_:body=[.Expr (.Call (.Attribute (.Name y py) "extend" ap) [q.e] [] cp) ep]) (_:slot C x=some q.w) (_:m9 C z=some q.j) (_:slot C y=some q.y) (_:i9 q.e=true) (_:(ap.endLine==cp.line)=true):vC C tg iter body q
def C0{C:SC}{tg iter:Expr}{b:List Stmt}{q:uE}(d:wb C tg iter b=some q):vC C tg iter b q:=by
 simp only[wb,bind,lE]at d;obtain⟨z,s,x,r,L,p,⟨I,m,a⟩,o,y,n,e,l,w,A,j,v,J,u,d⟩:=d;obtain⟨f,rfl⟩:=f7 s;obtain⟨h,rfl⟩:=f7 r;obtain⟨i,rfl⟩:=yr p;obtain⟨H,B,rfl,E⟩:=jg o;obtain⟨g,rfl⟩:=f7 n;cases me l;split at d
 ·rename_i c;simp only[bA,decide_eq_true_eq]at c;obtain⟨rfl,G⟩:=c;cases d;exact⟨z,x,y,f,h,g,H,B,i,rfl,rfl,rfl,A,v,u,G,E⟩
 ·cases d
def B7(w j y:Nat)(g:En->Res)(F:En->Out):En->Out:=λδ=>if LX w δ then D1 w j y g δ else F δ
structure wh where
 x:Nat
 y:Nat
 e:Expr
def B4(C:SC)(x m:Str)(b:List Expr):Option wh:=do
 let (c,d,a) <-su (<-y0 b);let y <-jz c;let e <-y0 a;let i <-slot C x;let j <-slot C y
 if decide (m="append") && decide (d="pop") && i9 e then some ⟨i,j,e⟩else none
noncomputable def Fu(T:GT)(g n:Ev)(l:Bv)(C:SC)(st:Stmt):En->Out:=match st with
 | .Return o _ => (match o with
  |some e=>f9 (g C e)
  |none=>y9)
 | .Assign p e _ => (match y0 p with
  | some t => (match jz t with
   |some x=>Fq T g n C x e
   |none=>y9)
  |none=>y9)
 | .Expr e _ => (match su e with
  | some (o, m, h) => (match jz o with
   | some x => (match Fs g C e with
    |some f=>qp f
    | none => (match B4 C x m h with
     |some q=>qo q.x q.y (g C q.e)
     |none=>Mt g C x m h))
   |none=>y9)
  |none=>y9)
 |.If c a b _=>B8 (n C c) (l C a) (l C b)
 | .For tg iter d i _ => (match i, Xt C tg with
  | [], some f => if rk iter then (match we C tg d with
   |some q=>BG q.t q.f q.j (Ci g C tg iter) (g C q.k) (g C q.v)
   | none => (match wb C tg iter d with
    |some q=>B7 q.w q.j q.y (xl g C q.e) (ft f (Ci g C tg iter) (l C d))
    |none=>ft f (Ci g C tg iter) (l C d)))else y9
  |_,_=>y9)
 | .While c d i _ => (match i with
  |[]=>MK (n C c) (l C d)
  |_=>y9)
 |_=>y9
def DB(T:GT)(b a:Ev)(c:Bv)(C:SC)(st:Stmt):En->Out:=fz (CW C (RF T st)) (Fu T b a c C st)
def Me(f:Stmt->En->Out):List Stmt->En->Out
 |[]=>my
 |[s]=>f s
 |s::r=>bg (f s) (Me f r)
def ET(T:GT)(b:Bv):Prop:=∀X C c B (E:XK) a,qs X C T E->zg X c B (ek (kx X) E) a (b C a)
section
variable{T:GT}{ev tv:Ev}{bv:Bv}{X:Cx}{C:SC}{G0 B:Hp}{E:XK}{pos pos':Pos}
def LB(h:kg T ev)(O:ki X C T E)(b:Jr T ev C e=some g):Yd X B (ek (kx X) E) e g:=by
 unfold Jr at b;cases d:mi C "list" e with
 |some a=>
  rw[d]at b;cases b;obtain⟨p,q,rfl,f,c⟩:=oo O d;exact I0 O.calm f (O.bl _ (by decide)) (fw h O a) c
 |none=>
  rw[d]at b;dsimp only at b;split at b
  ·rename_i i _
   by_cases c:i.all i9=true
   ·rw[aN c]at b;cases b;exact Vt Aq (Em h O c)
   ·rw[aK c]at b;cases b
  ·cases b
def EI(h:kg T ev)(v:Ec T tv)(O:qs X C T E):vm X G0 B (ek (kx X) E) (.Assign [.Name x pos'] e pos) (Fq T ev tv C x e):=by
 unfold Fq;cases d:m9 C x with
 |none=>exact om
 |some i=>
  dsimp only;have o:vm X G0 B (ek (kx X) E) (.Assign [.Name x pos'] e pos) (match Jr T ev C e with
   |some g=>if vc e then cq i g else y9
   |none=>if vc e then e9 i (ev C e)else y9):=by
   cases L:Jr T ev C e with
   |none=>
    by_cases f:vc e=true
    ·rw[aN f];have l:=h X C B E e O.toki;exact ME l (O.st d l (qf f))
    ·rw[aK f];exact om
   |some g=>
    dsimp only
    by_cases f:vc e=true
    ·rw[aN f];have l:Yd X B _ e g:=LB h O.toki L;exact W9 l (O.st d l (qf f))
    ·rw[aK f];exact om
  cases e with
  |Dict A w p=>
   cases A with
   |nil=>
    cases w with
    |nil=>
     exact BC (O.st d V0 (qf rfl))
    |cons _ _=>exact om
   |cons _ _=>exact om
  |ListComp j gens a r=>
   have u:=Av (B:=B) (E:=E) (pos:=r) (elt:=j) (gens:=gens) (scope:=a) h v O.toki;have m:∃b,kC (.ListComp j gens a r) (some (.Name x pos')) pos.line X.env=pure b:=⟨_,rfl⟩;obtain⟨b,m⟩:=m;cases b with
   |false=>exact W9 u.1 (O.st d u.1 m)
   |true=>
    show vm X G0 B _ _ (cq i _);obtain⟨l1,z,y⟩:=Bp d;have J:X.N[i]?=some x:=by rwa [O.n]
    have M:L2.Sb X.env.scope x:=by rw[O.s];exact Bd z
    have U:X.N.Nodup:=by rw[O.n];exact O.nd
    cases DX (elt:=j) (gens:=gens) (scope:=a) h v O.toki with
    |st e=>rw[e];exact by rintro c s Z H D I ⟨G,δ,R,ex,q⟩;exact q.elim
    |ok eg eG st hA Y hE Q d=>
     rw[eG];subst eg;intro c s Z H D I q;obtain⟨cl,O2,Bk⟩:=st I.ok;exact II O2 O.calm hA Bk Y hE Q U J M (O.fn x y) d m c s Z H D I q
  |_=>exact o
def Nq(d:i9 a=true):((fF b (bM [a] c)).all (λx=> !x.1) && (mS b (iW [] c)).all (λx=>x.1.isSome)
   && decide (([a]:List Expr).length+([]:List iF).length+(if([]:List iF).isEmpty then 0 else 1)<30))=true:=by
 rw[ml (by rw[cF,d];rfl)];rfl
def LM(h:kg T ev)(O:qs X C T E){p j g:Pos}(f:(j.endLine==g.line)=true):vm X G0 B (ek (kx X) E) (.Expr (.Call (.Attribute (.Name x p) m j) d [] g) pos) (Mt ev C x m d):=by
 unfold Mt;split
 ·rename_i i a e
  by_cases c:m="append"
  ·subst c
   by_cases b:i9 a=true
   ·rw[aN b];exact W7 (O.var e) (h X C B E a O.toki) rfl (Nq b) f (ak b) rfl rfl
   ·rw[aK b];exact om
  ·rw[aK c]
   by_cases c:m="extend"
   ·subst c
    by_cases b:i9 a=true
    ·rw[aN b];exact W8 (O.var e) (fw h O.toki a) rfl (Nq b) f (ak b) rfl rfl
    ·rw[aK b];exact om
   ·rw[aK c];exact om
 ·exact om
def MM(h:kg T ev)(M:Ec T tv)(J:ET T bv)(O:qs X C T E){st:Stmt}:vm X G0 B (ek (kx X) E) st (Fu T ev tv bv C st):=by
 have hu:X.A.units+5<cZ:=by have:=O.units;lia
 cases st with
 |Return o p=>
  cases o with
  |none=>exact om
  |some e=>exact MF (h X C B E e O.toki)
 |Assign L e p=>
  unfold Fu;dsimp only;cases r:y0 L with
  |none=>exact om
  |some t=>
   cases me r;dsimp only;cases n:jz t with
   |some x=>
    obtain⟨_,rfl⟩:=f7 n;exact EI h M O
   |none=>exact om
 |Expr e p=>
  unfold Fu;dsimp only;cases r:su e with
  |none=>exact om
  |some q=>
   obtain⟨o,m,H⟩:=q;obtain⟨ap,cp,rfl,hl⟩:=jg r;dsimp only;cases n:jz o with
   |none=>exact om
   |some x=>
    obtain⟨_,rfl⟩:=f7 n;dsimp only;cases N:Fs ev C _ with
    |some f=>exact BD (KI h O.toki N) rfl
    |none=>
     cases l:B4 C x m H with
     |none=>exact LM h O hl
     |some q=>
      simp only[B4,bind,lE]at l;obtain⟨e0,r,⟨yo,m2,a⟩,n,y,h5,e,h6,i,w,j,u,l⟩:=l;cases me r;obtain⟨α,Q,rfl,h4⟩:=jg n;obtain⟨py,rfl⟩:=f7 h5;cases me h6;split at l
      ·rename_i c;simp only[bA,decide_eq_true_eq]at c;obtain⟨⟨rfl,rfl⟩,h3⟩:=c;cases l;exact W6 (O.var w) (O.var u) (h X C B E e O.toki) h3 hl h4
      ·cases l
 |If c a b p=>
  exact PF (M X C B E c O.toki) (J X C G0 B E a O) (J X C G0 B E b O)
 |For tg iter d g p=>
  show vm X G0 B _ _ (match g,Xt C tg with
   |[],some f=>if rk iter then _ else y9
   |_,_=>y9)
  cases g with
  |cons _ _=>exact om
  |nil=>
   cases N:Xt C tg with
   |none=>exact om
   |some f=>
    dsimp only
    by_cases I:rk iter=true
    ·rw[aN I];obtain⟨gl,G⟩:=CQ O N;have s:=MJ (pos:=p) O.pass O.calm (DP h O.toki iter) G (J X C G0 B E d O) (qg I);cases l:we C tg d with
     |some q=>
      dsimp only;obtain⟨y,x,py,px,ap,cp,lp,α,Q,pe,rfl,rfl,w,u,Y,U,c3,c4⟩:=C1 l;unfold BG;split
      ·exact MG (RE X) O.pass O.calm hu (DP h O.toki iter) (O.tg u) (O.var w) (h X C B E q.k O.toki) (h X C B E q.v O.toki) Y U c3 c4 (qg I)
      ·exact om
     |none=>
      cases hx:wb C tg iter d with
      |none=>exact s
      |some q=>
       obtain⟨z,x,y,pz,px,py,ap,cp,pe,rfl,rfl,rfl,w,u,e3,Y,U⟩:=C0 hx;exact BE _ (IJ O.pass O.calm (O.var w) (O.tg u) (O.var e3) (fw h O.toki q.e) Y U) s
    ·rw[aK I];exact om
 |While c d g p=>
  cases g with
  |cons _ _=>exact om
  |nil=>exact BB O.pass (M X C B E c O.toki) (J X C G0 B E d O)
 |_=>exact om
def Xo(h:kg T ev)(a:Ec T tv)(b:ET T bv)(O:qs X C T E){st:Stmt}:vm X G0 B (ek (kx X) E) st (DB T ev tv bv C st):=MI _ (MM h a b O)
theorem Xb{E:EK}(h:∀st,vm X G0 B E st (f st)):∀{a:List Stmt},zg X G0 B E a (Me f a)
 |[]=>ID
 |[s]=>IC (h s)
 |s::t::r=>CU (h s) (Xb h)
end
def Nl:Nat:=40
def gB(T:GT):Nat->Bv
 |0=>λ_ _=>y9
 |n+1=>λC a=>Me (DB T (gP T Nl false) (gP T Nl true) (gB T n) C) a
def MC:zg X c B E b y9:=by rintro a s Z H D I ⟨G,δ,R,x,q⟩;exact q.elim
def DU(T:GT):∀n,ET T (gB T n):=by
 intro a;induction a with
 |zero=>exact λX C d B E c O=>MC
 |succ n b=>exact λX C d B E c O=>Xb λst=>Xo (DT T Nl).1 (DT T Nl).2 (b) O
structure qR(P:bH)(w:bV)(K:aP)(mg:Str->Option aG)(base:Heap)(T:GT)(k:Nat):Prop where
 fns:∀x s,T.fns x=some s->∃f fd ps,mg x=some (.ref f)/\dP K (.ref f)=true/\Binds K fd ps []/\i0 P w K mg base (R9 P w) k f fd ps (qY ⟨K,Sn mg⟩ s.ms s.f)
 qe:∀x y,T.qe x=some y->∃t,mg x=some (.str y t)
 bl:∀x∈o8,mg x=none
 cls:∀c n1 n2,T.cls c=some (n1,n2)->1<=k/\qF P w K mg base c n1 n2
def gy.wW{A:cB}(r:gy k A):A.units+65<cZ:=by have:=r.un;lia
def qR.wD{X:Cx}{C:SC}(t:qR X.prog X.w X.K X.mg X.base T k)(a:gy k X.A)(n:X.N=C.N)(s:X.env.scope=C.sc)(i:C.N.Nodup)(calm:X.calm=true)(b:Acc X E)(top:C.wN=false->X.ex=[]/\X.stack=X.env::X.outer/\X.env.frame=some X.env.locals):ki X C T E:=
 ⟨n,s,i,calm,gy.wW a,λx s h=>by
  obtain⟨f,p,g,o,m,l,j⟩:=t.fns x s h;exact⟨k,f,p,g,a,o,m,l,j⟩,t.qe,t.bl,b,top,λc e d h=>⟨a.mono (t.cls c e d h).1,(t.cls c e d h).2⟩⟩
structure fg where
 x:Str
 st:Stmt
 ms:List Bool
 lm:Bool
def zw(st:Stmt):List Str:=(gd st).args.map (·.arg)
noncomputable def Bo(a:List Str):List (Str×gR)->List Str
 |[]=>[]
 |(n,k)::r=>if(k=.local\/k=.cell)/\n∉a then n::Bo a r else Bo a r
def Ad(st:Stmt):List Str:=zw st++Bo (zw st) (a8 st).names
def Cu(st:Stmt)(a:Bool):SC:=⟨Ad st,a8 st,Mx 20 (a6 st),a,false⟩
noncomputable def B1(d:fg):Bool:=
 decide ((a8 d.st).kind=.function) && decide ((a8 d.st).isCoroutine=false) && decide ((a8 d.st).isGenerator=false) && decide ((Ad d.st).Nodup) && decide ((Ad d.st).take (zw d.st).length=zw d.st) &&
 ((zw d.st).all λx=>decide ((a8 d.st).names.lookup x=some .local)||decide ((a8 d.st).names.lookup x=some .cell)) && ((a8 d.st).names.all λy=>decide (y.2≠.free)) && decide (d.ms.length=(zw d.st).length)
def sy{d:fg}(h:B1 d=true):kv (Ad d.st) (zw d.st) (a8 d.st)/\d.ms.length=(zw d.st).length:=by
 unfold B1 at h;simp only[bA,decide_eq_true_eq]at h;obtain⟨⟨⟨⟨⟨⟨⟨m,l⟩,j⟩,i⟩,g⟩,f⟩,e⟩,c⟩:=h;refine⟨⟨m,l,j,i,g,λx b=>?_,λy a=>?_⟩,c⟩
 ·have q:=List.all_eq_true.mp f x b;rw[iC,decide_eq_true_eq,decide_eq_true_eq]at q;exact q
 ·exact of_decide_eq_true (List.all_eq_true.mp e y a)
def D9(st:Stmt)(x:Str):Prop:=∀(kV b d:aG)(e:Option Addr)(c ct:aG)(a:List aG),a.length=(zw st).length->bindArgs (dC x x (gd st) (a6 st) (a8 st) .none kV b d e c ct) ⟨a,[]⟩=pure ((zw st).zip a)
structure rE(K:aP)(mg:Str->Option aG)(d:fg):Prop where
 ok:B1 d=true
 bd:D9 d.st d.x
 at_:∃f fd,mg d.x=some (.ref f)/\uD K d.x d.x d.st f fd
def EA{K:aP}{h:Heap}{mg:Str->Option aG}{d:fg}(X:K.In h)(G:h.Ns eB mg)(ok:B1 d=true)(m:D9 d.st d.x){f:Addr}{j kV g i b ct:aG}{od n:Option Addr}{e:Array (Option aG)}
  (a:lW K eB d.x=some (some (.ref f)))(l:K.lookup f=some ⟨j,od,.func (dC d.x d.x (gd d.st) (a6 d.st) (a8 d.st) .none kV g i n b ct),e⟩)(c:fC K b d.x=true)(k:dP K (.ref f)=true):rE K mg d:=
 ⟨ok,m,f,_,PySem.W.mg_of X G a,Tw l c k⟩
def look(a:List fg)(x:Str):Option fg:=match a with
 |[]=>none
 |d::r=>if d.x=x then some d else look r x
def Uw{d:fg}:∀{c:List fg},look c x=some d->d∈c/\d.x=x:=by
 intro a;induction a with
 |nil=>rintro h;cases h
 |cons e r b=>
  rintro h
  unfold look at h
  by_cases z:e.x=x
  ·rw[aN z]at h;cases h;exact⟨aZ,z⟩
  ·rw[aK z]at h;obtain⟨g,f⟩:=b h;exact⟨aY _ g,f⟩
def iz:Nat:=20
def ae(T:GT)(d:fg):List D->Res:=OB d.ms (Ad d.st).length (gB T iz (Cu d.st d.lm) (a6 d.st))
noncomputable def zc(a:List fg)(gs:Str->Option Str)(xs:XT):Nat->GT
 |0=>⟨λ_=>none,gs,xs,λ_=>none⟩
 |n+1=>⟨λx=>match look a x with
  |some d=>some ⟨d.ms,ae (zc a gs xs n) d⟩
  |none=>none,gs,xs,xs.cls⟩
structure tZ(K:aP)(mg:Str->Option aG)(xs:XT):Prop where
 cls:∀c n1 n2,xs.cls c=some (n1,n2)->∀P w base,qF P w K mg base c n1 n2
section
variable{P:bH}{w:bV}{K:aP}{mg:Str->Option aG}{base:Heap}{ds:List fg}{gs:Str->Option Str}{xs:XT}
def JX{d:fg}(n:Nat)(h:look ds x=some d):(zc ds gs xs (n+1)).fns x=some ⟨d.ms,ae (zc ds gs xs n) d⟩:=by
 show(match look ds x with
  |some d=>some _
  |none=>none)=_
 rw[h]
def Bm(mg:Str->Option aG)(base:Heap):Prop:=∃a o,mg "__builtins__"=some (.ref a)/\a≠nS/\a≠eB/\base.get? a=some o/\o.cls=.type "module"/\o.dict=some nS/\o.data=.plain
def JW(L:K.In base)(N:Bm mg base)(z:∀d∈ds,rE K mg d)(l:∀x y,gs x=some y->∃t,mg x=some (.str y t))(m:∀x∈o8,mg x=none)(B:tZ K mg xs):∀n,qR P w K mg base (zc ds gs xs n) n:=by
 intro a;induction a with
 |zero=>exact⟨λx s h=>(by cases h),l,m,λc j i h=>(by cases h)⟩
 |succ n g=>
  refine⟨λx s h=>?_,l,m,λc j i h=>⟨Nat.le_add_left 1 n,B.cls c j i h P w base⟩⟩;unfold zc at h;dsimp only at h;cases e:look ds x with
  |none=>rw[e]at h;cases h
  |some d=>
   rw[e]at h;cases h;obtain⟨q,p⟩:=Uw e;subst p;obtain⟨ok,I,f,C,o,F⟩:=z d q;obtain⟨S,v⟩:=sy ok;refine⟨f,C,zw d.st,o,F.kp,F.binds I,Tu F S v λG A b s H J E M u=>?_⟩;exact DU _ _ _ _ J H E _ ⟨qR.wD g u rfl rfl S.nd rfl F0 (λ_=>⟨rfl,rfl,rfl⟩),λy r=>decide_eq_true r,PassesOwn.leaving,rfl,rfl,rfl⟩
def Ou(K:aP):Sp:=λc H Q _=>tD H/\∃(a:Addr) (b:List Int),c=[.ref a]/\fD K H a (b.map V.int)/\b.length<=63/\∀d,Q (.bl true) d
def Pl{K:KA}{G:Hp}:∀a:List Int,br K G (a.map D.int) (a.map V.int):=by
 intro b;induction b with
 |nil=>exact rfl
 |cons n a c=>exact⟨.int n,a.map V.int,rfl,rfl,c⟩
def FA{d:fg}{f:Addr}{G kV i u b ct:aG}{od B:Option Addr}{o:Array (Option aG)}(ok:B1 d=true)(nl:d.lm=false)
  (a:lW K eB d.x=some (some (.ref f)))(l:K.lookup f=some ⟨G,od,.func (dC d.x d.x (gd d.st) (a6 d.st) (a8 d.st) .none kV i u B b ct),o⟩)(c:fC K b d.x=true)(k:dP K (.ref f)=true)
  (I:K.In base) (bm:Bm mg base) (U:∀d∈ds,rE K mg d) (M:∀x y,gs x=some y->∃t,mg x=some (.str y t)) (Y:∀x∈o8,mg x=none) (hX:tZ K mg xs) {n:Nat} {s:FS} (h:(zc ds gs xs n).fns "law"=some s) (j:s.ms=[false])
  (p:∀g:List Int,g.length<=63->s.f [.lst (g.map D.int)]=.ok (.bl true)) (L:look ds "law"=some d:=by rfl) (O:zw d.st=[("_law_script":Str)]:=by rfl):
  i0 P w K mg base R7 n f (dC d.x d.x (gd d.st) (a6 d.st) (a8 d.st) .none kV i u B b ct) ["_law_script"] (Ou K):=by
 cases n with
 |zero=>cases h
 |succ n=>
  unfold zc at h;dsimp only at h;rw[L]at h;cases h;obtain⟨S,r⟩:=sy ok;have F:=Tu (P:=P) (w:=w) (base:=base) (mg:=mg) (k:=n) (ms:=d.ms) (Fb:=gB _ iz _ _) (Tw l c k) S r λz A m s H G0 E hc N=>by
   exact DU _ _ _ (Cu d.st d.lm) G0 H E _ ⟨qR.wD (JW I bm U M Y hX n) N rfl rfl S.nd rfl F0 (λ_=>⟨rfl,rfl,rfl⟩),λy J=>decide_eq_true J,PassesOwn.leaving,rfl,rfl,rfl⟩
  rw[O]at F;refine F.calm.imp λvs H Q E ⟨gb,a,g,e,C,T,q⟩=>?_;subst e;have j:d.ms=[false]:=j;have e:ae _ d [.lst _]=.ok _:=p g T;show qY _ d.ms (ae _ d) _ H Q E0;refine⟨by rw[j];rfl,gb,H,[.lst _],bc.refl H,by rw[j];exact⟨_,[],_,[],rfl,rfl,⟨a,_,rfl,C,Pl g⟩,rfl,rfl⟩,?_⟩;rw[e];intro v G' H' _ dn;rw[dn];exact q H'
end
def Ck(b:Addr):Option HO:=(Xs.find? λp=>p.2.1==b).map λp=>.rO p.2.2
def Mv(h:Ck b=some o):∃p∈Xs,p.2.1=b/\o=.rO p.2.2:=by
 unfold Ck at h;cases e:Xs.find? λp=>p.2.1==b with
 |none=>cases h
 |some p=>
  rw[e]at h;cases h;exact⟨p,List.mem_of_find?_eq_some e,by simpa using List.find?_some e,rfl⟩
def Y5{f:α->Addr}:∀{l:List α}{p:α},(l.map f).Nodup->p∈l->l.find? (λq=>f q==f p)=some p:=by
 intro b;induction b with
 |nil=>rintro _ _ h;simp at h
 |cons a r d=>
  rintro p c h
  rw[aR,List.nodup_cons]at c;rw[iA]
  by_cases e:f a=f p
  ·have g:(f a==f p)=true:=by simpa using e
   rw[g];rcases List.mem_cons.mp h with rfl|h
   ·rfl
   ·exact absurd (e▸List.mem_map_of_mem h) c.1
  ·have g:(f a==f p)=false:=by simpa using e
   rw[g];rcases List.mem_cons.mp h with rfl|h
   ·exact absurd rfl e
   ·exact d c.2 h
def Rk(a:(Xs.map (·.2.1)).Nodup){p:Addr×Addr×Str}(b:p∈Xs):Ck p.2.1=some (.rO p.2.2):=by
 unfold Ck;rw[Y5 a b];rfl
def Se(h:Heap):Prop:=∀p∈Xs,PySem.W.CodeHd h p.1 p.2.1/\h.get? p.2.1=some (PySem.W.tabObj #[])
def Qe{P:bH}{w:bV}{K:aP}{mg mb:Str->Option aG}{k:Nat}{fa a:Addr}{fd:jV}{x:Str}{c:aI}{A:List aG}{I:List Int}
  (KX:K.In c.1)(nK:PySem.W.noTabs K=true)(nd:(Xs.map (·.2.1)).Nodup)(tb:Se c.1)(bm:Bm mg c.1)(M:c.1.Ns eB mg)(O:c.1.Ns nS mb)(δ:∀x:Str,x≠"__name__"->mb x=lG x)(N:c.1.NoLimit)(hg:c.gens=#[])
  (Q:c.1.get? a=some {cls:=.type "list",data:=.seq A.toArray}) (hi:IntsAre A I) (hl:I.length<=aQ) (β:I.length<=63) (hr:gy k callerA)
  (F:∀base:Heap,K.In base->base.Ns eB mg->Bm mg base->i0 P w K mg base R7 k fa fd [x] (Ou K)) (E:∀(s:aI)(u:aG),BindsTo s fd ⟨[u],[]⟩ [(x,u)]):
  iE (bB P w) callerA (.call (.ref fa) ⟨[.ref a],[]⟩) (λr j=>r=.ok (.ret (.bool true))/\OldK c.1 j.1/\j.os=c.os/\oB j.gens) c:=by
 have rv:=D7 hi;have C:∀S:Option HO,(S=none\/S=some (.jo {cls:=.type "list",data:=.seq A.toArray} (.lst (I.map V.int))))->(S≠none->K.lookup a=none)->fD K (λb=>if b=a then S else Ck b) a (I.map V.int)->
   iE (bB P w) callerA (.call (.ref fa) ⟨[.ref a],[]⟩) (λr j=>r=.ok (.ret (.bool true))/\OldK c.1 j.1/\j.os=c.os/\oB j.gens) c:=by
  intro S hS ε sq;generalize hH:(λb=>if b=a then S else Ck b)=H at sq;have Ha:H a=S:=by rw[<-hH];exact aN rfl
  have Hb:∀b,b≠a->H b=Ck b:=λb O=>by rw[<-hH];exact aK O
  have g:∀{b:Addr}{u:HO},H b=some u->(b=a/\u=.jo {cls:=.type "list",data:=.seq A.toArray} _/\K.lookup a=none)\/∃p∈Xs,p.2.1=b/\u=.rO p.2.2:=λ{b u} e=>by
   by_cases z:b=a
   ·rw[z,Ha]at e;obtain y|y:=hS
    ·rw[y]at e;cases e
    ·rw[y]at e;cases e;exact .inl ⟨z,rfl,ε (by rw[y];simp)⟩
   ·rw[Hb b z]at e;exact .inr (Mv e)
  have L:lz P w H c.1:=λb u e=>by
   rcases g e with ⟨rfl,rfl,_⟩|⟨p,i,rfl,rfl⟩
   ·exact⟨Q,by rwa [aF],A,_,rv,Q⟩
   ·exact⟨#[],(tb p i).2⟩
  have f:∀{b:Addr}{o:Obj},c.1.get? b=some o->H b=none->(Kx c.1 H).get? b=some o:=λe n=>T7 e n;have free:∀{b:Addr}{o:Obj},c.1.get? b=some o->(∀n,o.data≠.seq A.toArray n)->o≠PySem.W.tabObj #[]->H b=none:=λ{b o} e h1 U=>by
   cases q:H b with
   |none=>rfl
   |some u=>
    rcases g q with ⟨rfl,_⟩|⟨p,i,rfl,_⟩
    ·rw[Q]at e;cases e;exact absurd rfl (h1 _)
    ·rw[(tb p i).2]at e;cases e;exact absurd rfl U
  have l:∀{b:Addr}{m:Str->Option aG},c.1.Ns b m->(Kx c.1 H).Ns b m:=λ{b m} ⟨o,es,ep,e,d,r⟩=>⟨o,es,ep,f e (free e (λn z=>by rw[d]at z;cases z) λz=>by rw[z]at d;cases d),d,r⟩;have T:K.In _:=λb o e=>f (KX b o e) (by
   cases q:H b with
   |none=>rfl
   |some u=>
    rcases g q with ⟨rfl,_,z⟩|⟨p,i,rfl,_⟩
    ·rw[z]at e;cases e
    ·have J:=KX _ _ e;rw[(tb p i).2]at J;have U:=List.all_eq_true.mp nK _ (PySem.W.mem_of_lookupK e);cases J;exact absurd (U) Bool.false_ne_true)
  have θ:Bm mg (Kx c.1 H):=by
   obtain⟨m,o,b1,b2,b3,b4,b5,b6,b7⟩:=bm;exact⟨m,o,b1,b2,b3,f b4 (free b4 (λn z=>by rw[b7]at z;cases z) λz=>by rw[z]at b5;cases b5),b5,b6,b7⟩
  have gb:tD H:=λp i=>by
   have:p.2.1≠a:=λz=>by
    have:=(tb p i).2;rw[z,Q]at this;cases this
   rw[Hb _ this];exact Rk nd i
  refine jA ((F _ T (l M) θ).run callerA [] c H ⟨[.ref a],[]⟩ [.ref a] [.ref a] (λv _=>v=.bl true) E0 hr (⟨rfl,(⟨T,l M,⟨mb,l O,δ⟩,let ⟨mc,h1,U⟩:=N;⟨mc,l h1,U⟩⟩),λb o e=>AY e,fM (Px _ _),trivial,λb O=>absurd (show b∈([]:List Addr)from O) (by simp),L,.of_eq hg⟩) (E c _) (.cons rfl .nil) ⟨gb,a,I,rfl,sq,β,λ_=>rfl⟩) λr j h=>?_;cases r with
  |error e=>exact dY h
  |ok fl=>
   cases fl with
   |next=>exact dY h
   |brk=>exact dY h
   |cont=>exact dY h
   |ret u=>
    obtain⟨v,H',os,Y,un,B,r',q⟩:=h;subst q;obtain rfl:u=nR true:=r';have keep:∀b o,c.1.get? b=some o->_\/∃p∈Xs,p.2.1=b/\∃G,j.1.get? b=some (PySem.W.tabObj G):=λb o e=>by
     cases q:H b with
     |none=>exact .inl (un.keep b o e q (by intro z;exact absurd (show b∈([]:List Addr)from z) (by simp)) (by simp))
     |some u=>
      rcases g q with ⟨rfl,rfl,_⟩|⟨p,i,rfl,rfl⟩
      ·obtain⟨e1,_⟩:=L b _ q;obtain⟨J,_⟩:=B b _ (un.jb b _ _ q);rw[e]at e1;cases e1;exact .inl J
      ·obtain⟨G,J⟩:=B _ _ (un.p9 _ _ q);exact .inr ⟨p,i,rfl,G,J⟩
    refine⟨rfl,⟨λb o e=>?_,λb o e=>?_⟩,os,Y⟩
    ·rcases keep b o e with z|⟨p,i,rfl,G,z⟩
     ·exact .inl z
     ·obtain⟨c1,c2⟩:=tb p i;rw[c2]at e;cases e;exact .inr (.inl ⟨(c1.tab c2).isCodeTable,rfl,#[],G,rfl,by rwa [Array.empty_append]⟩)
    ·rcases keep b o e with z|⟨p,i,rfl,G,z⟩
     ·exact⟨_,z⟩
     ·exact⟨_,z⟩
 cases hk:K.lookup a with
 |some o=>
  have e:=KX a o hk;rw[Q]at e;cases e;exact C none (.inl rfl) (λz=>absurd rfl z) (.inr ⟨_,A.toArray,_,hk,rfl,rfl,rfl,by rwa [bO,hi.length],by simpa using rv⟩)
 |none=>exact C _ (.inr rfl) (λ_=>hk) (.inl (.inr ⟨{cls:=.type "list",data:=.seq A.toArray},aN rfl⟩))
def NI{l:PySem.W.OpenLaw}{d:DefRec}{K:Params->aP}(Q:l.most=some 63)(r:d.params.defaults=[])(O:gy k callerA)(M:(Xs.map (·.2.1)).Nodup)
  (hY:∀(w:bV)(h:Heap),I w h->(K w.params).In h)(N:∀w:bV,PySem.W.noTabs (K w.params)=true)
  (tb:∀(w:bV)(h:Heap),I w h->Se h)
  (F:∀(w:bV)(mg:Str->Option aG)(m:Addr)(h:Heap),(K w.params).In h->h.Ns eB mg->mg d.name=some (.ref m)->
   ∃v:jV,(∀(s:aI)(u:aG),BindsTo s v ⟨[u],[]⟩ [("_law_script",u)])/\∀base:Heap,(K w.params).In base->base.Ns eB mg->Bm mg base->i0 l.prog w (K w.params) mg base R7 k m v ["_law_script"] (Ou (K w.params))):
  PySem.W.WalkO q n XP I l.row.toRowW d [] (λf A=>PySem.call f A):=by
 refine Att.F4 Q r λw C B mg mb m o pm cd ε a A ns G Y ho E α p j i c U=>?_;have J:=hY w _ Y;obtain⟨v,hb,hF⟩:=F w mg m _ J G.T.g p;obtain⟨H,L,b1,b2,y,b4,b5,x⟩:=G.T.bmain;have bG:H≠eB:=λz=>by
  obtain⟨o,es,ep,e,E,_⟩:=G.T.g;rw[z,e]at y;cases y;rw[E]at x;cases x
 exact Qe J (N w) M (tb w _ Y) ⟨H,L,b1,b2,bG,y,b4,b5,x⟩ G.T.g G.T.b G.T.builtins G.T.nolimit U j i (cG c (by decide)) c O hF hb
end Pu
end
namespace LK
open PySem PySem.Spec PyProof.Rows L2 Pu
def top(i:Nat):Stmt:=PySem.Challenge.pw_askbook_k15_put_together.main.body.getD i (.Pass ⟨0,0,0,0⟩)
def ff:fg:=⟨"picked",top 2,[true,true],false⟩
def gm:fg:=⟨"places_of",top 3,[true,true],false⟩
def kj:fg:=⟨"shared_columns",top 4,[true,true],false⟩
def gq:fg:=⟨"narrowed",top 5,[false,true],false⟩
def b0:fg:=⟨"rows_by_columns",top 6,[true,true],false⟩
def ig:fg:=⟨"joined",top 7,[false,false,true],false⟩
def f6:fg:=⟨"all_joined",top 8,[true,true],false⟩
def bq:fg:=⟨"joining_cost",top 9,[true,true],false⟩
def i8:fg:=⟨"joining_order",top 10,[true,true],false⟩
def cb:fg:=⟨"joined_freely",top 11,[true,true],false⟩
def eu:fg:=⟨"lies_in",top 13,[true,true],false⟩
def c6:fg:=⟨"all_columns",top 15,[true],false⟩
def jv:fg:=⟨"widest",top 16,[true],false⟩
def d9:fg:=⟨"part_fits",top 17,[true,true],false⟩
def cj:fg:=⟨"put_together",top 18,[true,true],false⟩
def d7:fg:=⟨"_law_cell_at",top 20,[true,true],false⟩
def ar:fg:=⟨"_law_mixed",top 21,[true,true,true],false⟩
def cg:fg:=⟨"_law_columns",top 22,[true,true,true,true],false⟩
def d8:fg:=⟨"_law_parts",top 24,[true,true,true],false⟩
def di:fg:=⟨"_law_like",top 25,[true,true,true],false⟩
def b9:fg:=⟨"_law_together",top 26,[true,true,true],false⟩
def l8:fg:=⟨"law",top 27,[false],false⟩
def Gf:List fg:=[ff,gm,kj,gq,b0,ig,f6,bq,i8,cb,eu,c6,jv,d9,cj,d7,ar,cg,d8,di,b9,l8]
def xs:XT:=⟨λc=>if c="Fits" then some ("columns","rows")else none⟩
def gs(x:Str):Option Str:=none
def GP:B1 l8=true:=by decide+kernel
def Kz:Stmt:=match top 1 with
 |.ClassDef _ _ _ (st::_) _ _ _ _ _ _ _=>st
 |st=>st
def tab(n:Nat):GT:=zc Gf gs xs n
end LK
namespace Pu
open PySem PySem.Spec PyProof.Rows L2
def j9{d:fg}(h:gB T iz (Cu d.st d.lm) (a6 d.st)=F)(c:(Ad d.st).length=k)(e:d.ms=b)(a:List D):ae T d a=g7 (F (cz b a++bY (k - a.length) .no)):=by
 unfold ae OB;rw[h,c,e]
def h9(h:r δ=.ok ds):ft tg r F δ=turns tg F ds δ:=by
 unfold ft;rw[h]
def cu(h:tg d δ=some δ1):turns tg F (d::r) δ=(match F δ1 with
  |.nx a=>turns tg F r a
  |.ct a=>turns tg F r a
  |.bk a=>.nx a
  |.rt d=>.rt d
  |.er c=>.er c
  |.st=>.st):=by
 show(match tg d δ with
  |none=>Out.st
  |some δ1=>match F δ1 with
   |.nx a=>turns tg F r a
   |.ct a=>turns tg F r a
   |.bk a=>.nx a
   |.rt d=>.rt d
   |.er c=>.er c
   |.st=>.st)=_
 rw[h]
def Ph:∀{c:List D},(∀d∈c,f d=some (g d))->rg f c=some (c.filterMap g):=by
 intro a;induction a with
 |nil=>rintro _;exact rfl
 |cons d r b=>
  rintro h
  unfold rg;rw[h d aZ];rw[b λd e=>h d (aY _ e),gH];cases g d<;>rfl
def Tz{a:List D}(b:r δ=.ok a)(c:a.length<=aQ)(e:∀d∈a,ze ix t g δ d=some (h d)):az r ix t g δ=.ok (.lst (a.filterMap h)):=by
 unfold az;rw[b];dsimp only;rw[aN c,Ph e]
def X0(h:g (fe a δ (.pu d))=.ok y):ze a (gC (.bl true)) g δ d=some (some y):=by
 unfold ze gC;rw[h]
def CN(c:t (fe a δ (.pu d))=.ok (.bl b))(h:b=true->g (fe a δ (.pu d))=.ok y):ze a t g δ d=some (if b then some y else none):=by
 unfold ze;rw[c];cases b with
 |true=>rw[h rfl];rfl
 |false=>rfl
section
variable(δ:En)(d e:D)(i j:Nat)(g h k c:En->Res)(F F':En->Out)(r:En->dg)(f:D->Option D)(f2 f3:D->D->Option D)
@[simp] theorem EW(a:List Bool):cz a []=[]:=by cases a<;>rfl
@[simp] theorem JE(a:List Bool)(b:List D):cz (true::a) (d::b)=.bo d::cz a b:=rfl
@[simp] theorem JF(a:List Bool)(b:List D):cz (false::a) (d::b)=.pu d::cz a b:=rfl
@[simp] theorem fm:bg F F' δ=match F δ with
 |.nx a=>F' a
 |o=>o:=rfl
@[simp] theorem RK:my δ=.nx δ:=rfl
@[simp] theorem SS:y9 δ=.st:=rfl
@[simp] theorem t5:f9 g δ=(g δ).then .rt:=rfl
@[simp] theorem Jy:B8 c F F' δ=(c δ).then λd=>match d with
 |.bl true=>F δ
 |.bl false=>F' δ
 |_=>.st:=rfl
@[simp] theorem zf:e9 i g δ=(g δ).then λd=>.nx (δ.set i (.pu d)):=rfl
@[simp] theorem JM:cq i g δ=(g δ).then λd=>match d with
 |.lst a=>.nx (δ.set i (.ow a))
 |_=>.st:=rfl
@[simp] theorem kq(f:D->Out):(Res.ok d).then f=f d:=rfl
@[simp] theorem fb(f:D->Res):(Res.ok d).bind f=f d:=rfl
@[simp] theorem ox:Res.of (some d)=.ok d:=rfl
@[simp] theorem Cr:g7 (.rt d)=.ok d:=rfl
@[simp] theorem RH:b8 i δ=match δ[i]? with
 |some (.pu d)=>.ok d
 |_=>.st:=rfl
@[simp] theorem RU:aa i δ=match δ[i]? with
 |some (.pu d)=>.ok d
 |some (.bo d)=>.ok d
 |some (.ow b)=>.ok (.lst b)
 |some (.od t a)=>.ok (.ja t a)
 |_=>.st:=rfl
@[simp] theorem SX:wc i δ=match δ[i]? with
 |some (.pu d)=>.ok d
 |some (.bo d)=>.ok d
 |_=>.st:=rfl
@[simp] theorem SW:gC d δ=.ok d:=rfl
@[simp] theorem Da:g1 f g δ=(g δ).bind λx=>Res.of (f x):=rfl
@[simp] theorem Rv:g2 f2 g h δ=(g δ).bind λx=>(h δ).bind λy=>Res.of (f2 x y):=rfl
@[simp] theorem NO:Hc c δ=(c δ).bind λd=>match d with
 |.bl b=>.ok (.bl !b)
 |_=>.st:=rfl
@[simp] theorem EX:A5 g h δ=(g δ).bind λd=>match d with
 |.bl true=>h δ
 |.bl false=>.ok (.bl false)
 |_=>.st:=rfl
@[simp] theorem EV:A8 g δ=(g δ).bind λx=>Res.of (bD (Jx x)):=rfl
@[simp] theorem NN(b:Bool):bD (Jx (.bl b))=some (.bl b):=rfl
@[simp] theorem Cp:Pu.au g r δ=match g δ with
 | .ok d => (match r δ with
  |.ok a=>.ok (d::a)
  |.er c=>.er c
  |.st=>.st)
 |.er c=>.er c
 |.st=>.st:=rfl
@[simp] theorem JO:af δ=.ok []:=rfl
@[simp] theorem jk(fn:List D->Res):ah fn r δ=match r δ with
 |.ok a=>fn a
 |.er c=>.er c
 |.st=>.st:=rfl
@[simp] theorem RM:cx r δ=match r δ with
 |.ok a=>if a.length<=16777216 then .ok (.lst a)else .st
 |.er c=>.er c
 |.st=>.st:=rfl
@[simp] theorem NM:Pu.h8 r δ=match r δ with
 |.ok a=>if a.length<=16777216 then .ok (.tup a)else .st
 |.er c=>.er c
 |.st=>.st:=rfl
@[simp] theorem X4:aj g δ=match g δ with
 | .ok d => (match D8 d with
  |some a=>.ok a
  |none=>.st)
 |.er c=>.er c
 |.st=>.st:=rfl
@[simp] theorem NL(a:List D):D8 (.lst a)=some a:=rfl
@[simp] theorem NJ(a:List D):D8 (.tup a)=some a:=rfl
@[simp] theorem ou:fz [] F δ=F δ:=rfl
@[simp] theorem Ru(is:List Nat):fz (i::is) F δ=fz is F (jo i δ):=rfl
@[simp] theorem RP:jo i δ=match δ[i]? with
 |some (.ow b)=>δ.set i (.pu (.lst b))
 |some (.od t a)=>δ.set i (.pu (.ja t a))
 |_=>δ:=rfl
@[simp] theorem Oz:qm i g δ=match δ[i]? with
 |some (.ow a)=>(g δ).then λd=>if a.length<16777216 then .nx (δ.set i (.ow (a++[d])))else .st
 |_=>.st:=rfl
@[simp] theorem RS:vg i g δ=match δ[i]? with
 |some (.ow b)=>(g δ).then λd=>match sr d with
  |some a=>if b.length+a.length<=16777216 then .nx (δ.set i (.ow (b++a)))else .st
  |none=>.st
 |_=>.st:=rfl
@[simp] theorem JD(a:List D):sr (.lst a)=some a:=rfl
@[simp] theorem JC(a:List D):sr (.tup a)=some a:=rfl
@[simp] theorem OQ(a:List D):nj (.lst a)=some (.int a.length):=rfl
@[simp] theorem OP(a:List D):nj (.tup a)=some (.int a.length):=rfl
@[simp] theorem OT(d:D)(xs:List D):j5 d (.lst xs)=Rc d (.lst xs):=rfl
@[simp] theorem JN(d:D)(xs:List D):gw d (.lst xs)=uh d (.lst xs):=rfl
@[simp] theorem SU(a b:Int):Wv (.int a) (.int b)=some (.bl (decide (a<b))):=rfl
@[simp] theorem RT(a b:Int):gu (.int a) (.int b)=some (.bl (a==b)):=rfl
@[simp] theorem RL(a b:Int):jm (.int a) (.int b)=some (.bl (!(a==b))):=rfl
@[simp] theorem NQ(a b:Int):bu (.int a) (.int b)=some (.int (a+b)):=rfl
@[simp] theorem RJ(a b:Int):D0 (.int a) (.int b)=some (.int (a - b)):=rfl
@[simp] theorem Rw(a:List D):jd (.lst a)=some (.tup a):=rfl
@[simp] theorem SV:gM f2 g h δ=(g δ).bind λx=>match x with
 |.lst xs=>(h δ).bind λy=>Res.of (f2 (.lst xs) y)
 |_=>.st:=rfl
@[simp] theorem OS(a b:D):dj (.tup [a,b]) (.int 0)=some a:=rfl
@[simp] theorem OR(a b:D):dj (.tup [a,b]) (.int 1)=some b:=rfl
inductive uA(d:D):Prop
 |mk (p) (_:cf d=some p) (_:fT p=true) (_:p.depth<=8):uA d
inductive rJ(ds:List D):Prop
 |mk (ps) (_:c9 ds=some ps) (_:bP ps=true) (_:cN ps<=8):rJ ds
def Xj:∀{m:List D},(∀d∈m,uA d)->rJ m:=by
 intro a;induction a with
 |nil=>rintro _;exact⟨[],rfl,rfl,bX _⟩
 |cons d r b=>
  rintro h
  obtain⟨p,u,s,q⟩:=h d aZ;obtain⟨l,o,f2,f3⟩:=b λd n=>h d (aY _ n);refine⟨p::l,by unfold c9;rw[u,o],?_,Nat.max_le.mpr ⟨q,f3⟩⟩;show(fT p && bP l)=true;rw[s,f2];rfl
def qq{p:jD}(a:fT p=true)(b:p.depth<=63):bU p=true:=by
 unfold bU;rw[a,decide_eq_true (by lia)];rfl
def Es{d e:D}{p q:jD}(b:cf d=some p)(a:cf e=some q)(o:fT p=true)(n:p.depth<=63)(m:fT q=true)(l:q.depth<=63):Rz d e=some (cV p q):=by
 unfold Rz;rw[b,a];dsimp only;rw[qq o n,qq m l];rfl
def wa{ds:List D}(h:rJ ds):gu (.lst ds) (.lst [])=some (.bl ds.isEmpty)/\jm (.lst ds) (.lst [])=some (.bl (!ds.isEmpty)):=by
 obtain⟨b,a,o,s⟩:=h;have q:Rz (.lst ds) (.lst [])=some (cV (.list b) _):=Es (by unfold cf;rw[a]) rfl o (show cN b+1<=63 by lia) rfl (show 0+1<=63 by lia);have e:cV (.list b) (.list [])=ds.isEmpty:=by
  cases ds with
  |nil=>cases a;rfl
  |cons d r=>
   unfold c9 at a;cases l:cf d with
   |none=>rw[l]at a;cases a
   |some p=>
    cases m:c9 r with
    |none=>rw[l,m]at a;cases a
    |some n=>rw[l,m]at a;cases a;rfl
 unfold gu jm;rw[q,e];exact⟨rfl,rfl⟩
def O0(a b:Int)(h:0<b):B5 (.int a) (.int b)=some (.int (a % b)):=aN h
def Cq(a b:Int)(h:(-(2 ^ 64)<a/\a<2 ^ 64)\/(-(2 ^ 64)<b/\b<2 ^ 64)):k8 (.int a) (.int b)=some (.int (a * b)):=aN h
def mm(a:r δ=.ok [.int j'])(h:-(2 ^ 62)<=j'/\j'<2 ^ 62):cy r δ=.ok (ji 0 j'.toNat):=by
 unfold cy;rw[a];exact aN h
end
@[simp] theorem JP(w j y:Nat)(g:En->Res)(F:En->Out)(δ:En):B7 w j y g F δ=match δ[w]? with
 |some (.ow _)=>D1 w j y g δ
 |_=>F δ:=by
 unfold B7 LX;cases e:δ[w]? with
 |none=>rfl
 |some s=>cases s<;>rfl
@[simp] theorem RQ(cls:Str->Option (Str×Str))(f:Str)(g:En->Res)(δ:En):fq cls f g δ=(g δ).bind λd=>Res.of (Oo cls f d):=rfl
@[simp] theorem CM(g:En->Res)(δ:En):gz g δ=match g δ with
 |.ok (.ja true a)=>.ok (a.map (·.1))
 |.er c=>.er c
 |r=>aj (λ_=>r) δ:=rfl
@[simp] theorem NP(g:En->Res)(δ:En):lq g δ=match g δ with
 |.ok (.ja true a)=>.ok (a.map Be)
 |.er c=>.er c
 |_=>.st:=rfl
@[simp] theorem QN(d k x:En->Res)(δ:En):A7 d k x δ=(d δ).bind λe=>match e with
 |.ja false a=>(k δ).bind λc=>(x δ).bind λb=>match ka c with
  |some j=>.ok ((wu a j).getD b)
  |none=>.st
 |.ja true a=>(k δ).bind λc=>(x δ).bind λb=>match bw c with
  |some j=>.ok ((i6 a j).getD b)
  |none=>.st
 |_=>.st:=rfl
@[simp] theorem RN(c b a:Str)(d e:D):y8 c b a [d,e]=.ok (.obj (.Name c ⟨0,0,0,0⟩) [(b,d),(a,e)]):=rfl
end Pu
namespace LK
open PySem PySem.Spec PyProof.Rows L2 Pu
def vp(n:Nat):En->Out:=(f9 (g1 jd (az (aj (aa 1)) [0] (gC (.bl true)) (g2 dj (aa 1) (aa 0)))))
def yj(n:Nat):En->Out:=(f9 (az (aj (aa 0)) [1] (gC (.bl true)) (gM g9 (aa 1) (aa 0))))
def n5(n:Nat):En->Out:=(f9 (az (gz (fq xs.cls "columns" (aa 0))) [1] (g2 j5 (aa 0) (fq xs.cls "columns" (aa 1))) (b8 0)))
def o7(n:Nat):En->Out:=(bg (cq 2 (az (gz (fq xs.cls "columns" (aa 0))) [1] (g2 j5 (aa 0) (aa 1)) (b8 0)))
 (bg (B8 (g2 gu (aa 2) (fq xs.cls "columns" (aa 0))) (fz [0] (f9 (b8 0))) my)
 (bg (e9 3 (ah (ae (tab n) gm) (au (aa 2) (au (fq xs.cls "columns" (aa 0)) af))))
 (bg (tq 4)
 (bg (ft (yt [5,6]) (lq (fq xs.cls "rows" (aa 0))) (fz [6] (qp (jw 4 (ah (ae (tab n) ff) (au (aa 5) (au (aa 3) af))) (b8 6)))))
 (fz [2,4] (f9 (ah (y8 "Fits" "columns" "rows") (au (b8 2) (au (b8 4) af))))))))))
def Lk(n:Nat):gB (tab (n+1)) iz (Cu gq.st gq.lm) (a6 gq.st)=o7 n:=by kernel_rfl
def Lu:(Ad gq.st).length=7:=by decide+kernel
def Kn(n:Nat)(a:List D):ae (tab (n+1)) gq a=g7 (o7 n (cz [false,true] a++bY (7 - a.length) .no)):=j9 (Lk n) Lu rfl a

def jr(n:Nat):En->Out:=(bg (e9 2 (ah (ae (tab n) gm) (au (aa 1) (au (fq xs.cls "columns" (aa 0)) af))))
 (bg (tq 3)
 (bg (BG true 3 4 (gz (fq xs.cls "rows" (aa 0))) (ah (ae (tab n) ff) (au (aa 4) (au (aa 2) af))) (b8 4))
 (fz [3] (f9 (b8 3))))))
def wx(n:Nat):gB (tab (n+1)) iz (Cu b0.st b0.lm) (a6 b0.st)=jr n:=by kernel_rfl
def wy:(Ad b0.st).length=5:=by decide+kernel
def vz(n:Nat)(a:List D):ae (tab (n+1)) b0 a=g7 (jr n (cz [true,true] a++bY (5 - a.length) .no)):=j9 (wx n) wy rfl a

def Ar(n:Nat):En->Out:=(bg (e9 3 (ah (ae (tab n) kj) (au (aa 0) (au (aa 1) af))))
 (bg (fz [0] (e9 4 (ah (ae (tab n) gq) (au (b8 0) (au (g2 bu (aa 2) (aa 3)) af)))))
 (bg (fz [1] (e9 5 (ah (ae (tab n) gq) (au (b8 1) (au (g2 bu (aa 2) (aa 3)) af)))))
 (bg (e9 6 (g2 bu (fq xs.cls "columns" (aa 4)) (fq xs.cls "columns" (aa 5))))
 (bg (e9 7 (g2 bu (fq xs.cls "columns" (aa 4)) (az (gz (fq xs.cls "columns" (aa 5))) [3] (g2 gw (aa 0) (aa 1)) (b8 0))))
 (bg (cq 8 (az (aj (aa 7)) [2] (g2 j5 (aa 0) (aa 1)) (b8 0)))
 (bg (e9 9 (ah (ae (tab n) gm) (au (aa 8) (au (aa 6) af))))
 (bg (e9 10 (ah (ae (tab n) gm) (au (aa 3) (au (fq xs.cls "columns" (aa 4)) af))))
 (bg (e9 11 (ah (ae (tab n) b0) (au (aa 5) (au (aa 3) af))))
 (bg (tq 12)
 (bg (ft (yt [13,14]) (lq (fq xs.cls "rows" (aa 4))) (ft (a0 15) (aj (A7 (aa 11) (ah (ae (tab n) ff) (au (aa 13) (au (aa 10) af))) (cx af))) (qp (jw 12 (ah (ae (tab n) ff) (au (g2 bu (aa 13) (aa 15)) (au (aa 9) af))) (g2 bu (aa 14) (g2 dj (fq xs.cls "rows" (aa 5)) (aa 15)))))))
 (fz [8,12] (f9 (ah (y8 "Fits" "columns" "rows") (au (b8 8) (au (b8 12) af))))))))))))))))
def U0(n:Nat):gB (tab (n+1)) iz (Cu ig.st ig.lm) (a6 ig.st)=Ar n:=by kernel_rfl
def Va:(Ad ig.st).length=16:=by decide+kernel
def Te(n:Nat)(a:List D):ae (tab (n+1)) ig a=g7 (Ar n (cz [false,false,true] a++bY (16 - a.length) .no)):=j9 (U0 n) Va rfl a

def o4(n:Nat):En->Out:=(bg (e9 2 (ah (y8 "Fits" "columns" "rows") (au (cx af) (au (A6 (h8 af) (h8 af)) af))))
 (bg (ft (yt [3,4]) (Dl (wc 0)) (bg (cq 5 (g1 fo (aa 1)))
 (bg (ft (a0 6) (aj (KF (aa 0) (some (g2 bu (aa 3) (gC (.int 1)))) none)) (vg 5 (fq xs.cls "columns" (aa 6))))
 (fz [2,4] (e9 2 (ah (ae (tab n) ig) (au (b8 2) (au (b8 4) (au (aa 5) af)))))))))
 (fz [2] (f9 (b8 2)))))
def E9(n:Nat):gB (tab (n+1)) iz (Cu f6.st f6.lm) (a6 f6.st)=o4 n:=by kernel_rfl
def Fe:(Ad f6.st).length=7:=by decide+kernel
def Er(n:Nat)(a:List D):ae (tab (n+1)) f6 a=g7 (o4 n (cz [true,true] a++bY (7 - a.length) .no)):=j9 (E9 n) Fe rfl a

def l6(n:Nat):En->Out:=(bg (cq 2 (az (gz (fq xs.cls "columns" (aa 0))) [1] (g2 gw (aa 0) (aa 1)) (b8 0)))
 (bg (e9 3 (g2 gu (g1 nj (aa 2)) (g1 nj (fq xs.cls "columns" (aa 0)))))
 (fz [3] (f9 (h8 (au (b8 3) (au (g1 nj (aa 2)) af)))))))
def Bq(n:Nat):gB (tab (n+1)) iz (Cu bq.st bq.lm) (a6 bq.st)=l6 n:=by kernel_rfl
def Bu:(Ad bq.st).length=4:=by decide+kernel
def A1(n:Nat)(a:List D):ae (tab (n+1)) bq a=g7 (l6 n (cz [true,true] a++bY (4 - a.length) .no)):=j9 (Bq n) Bu rfl a

def q9(n:Nat):En->Out:=(bg (cq 2 (g1 fo (aa 1)))
 (bg (fz [3] (cq 4 (az (cy (au (g1 nj (aa 0)) af)) [2] (g2 gw (aa 0) (aa 1)) (b8 0))))
 (bg (fz [] (MK (A8 (aa 4)) (bg (cq 5 (cx af))
 (bg (B7 2 3 5 (fq xs.cls "columns" (g2 dj (aa 0) (aa 3))) (ft (a0 3) (aj (wc 2)) (vg 5 (fq xs.cls "columns" (g2 dj (aa 0) (aa 3))))))
 (bg (cq 6 (az (aj (aa 4)) [5,0] (gC (.bl true)) (ah (ae (tab n) bq) (au (g2 dj (aa 2) (aa 0)) (au (aa 1) af)))))
 (qo 2 4 (gM g9 (aa 6) (g1 nv (aa 6)))))))))
 (fz [2] (f9 (b8 2))))))
def q8(n:Nat):En->Out:=(f9 (ah (ae (tab n) f6) (au (az (aj (ah (ae (tab n) i8) (au (aa 0) (au (cx af) af)))) [0] (gC (.bl true)) (g2 dj (aa 1) (aa 0))) (au (aa 1) af))))
def zr(n:Nat):gB (tab (n+1)) iz (Cu cb.st cb.lm) (a6 cb.st)=q8 n:=by kernel_rfl
def zt:(Ad cb.st).length=2:=by decide+kernel
def zi(n:Nat)(a:List D):ae (tab (n+1)) cb a=g7 (q8 n (cz [true,true] a++bY (2 - a.length) .no)):=j9 (zr n) zt rfl a

def t7(n:Nat):En->Out:=(f9 (g1 Dy (az (aj (aa 0)) [1] (gC (.bl true)) (g2 j5 (aa 0) (aa 1)))))
def Qj(n:Nat):gB (tab (n+1)) iz (Cu eu.st eu.lm) (a6 eu.st)=t7 n:=by kernel_rfl
def Qp:(Ad eu.st).length=2:=by decide+kernel
def Po(n:Nat)(a:List D):ae (tab (n+1)) eu a=g7 (t7 n (cz [true,true] a++bY (2 - a.length) .no)):=j9 (Qj n) Qp rfl a

def ku(n:Nat):En->Out:=(bg (cq 1 (cx af))
 (bg (B7 0 2 1 (aa 2) (ft (a0 2) (aj (wc 0)) (vg 1 (aa 2))))
 (f9 (g1 cm (aa 1)))))
def C2(n:Nat):gB (tab (n+1)) iz (Cu c6.st c6.lm) (a6 c6.st)=ku n:=by kernel_rfl
def C5:(Ad c6.st).length=3:=by decide+kernel
def Cw(n:Nat)(a:List D):ae (tab (n+1)) c6 a=g7 (ku n (cz [true] a++bY (3 - a.length) .no)):=j9 (C2 n) C5 rfl a

def vq(n:Nat):En->Out:=(bg (e9 1 (g1 cm (aa 0)))
 (f9 (az (aj (aa 1)) [1] (Hc (A8 (g1 w8 (az (aj (aa 1)) [0] (gC (.bl true)) (A5 (g2 jm (aa 1) (aa 0)) (ah (ae (tab n) eu) (au (aa 1) (au (aa 0) af)))))))) (b8 0))))
def U1(n:Nat):gB (tab (n+1)) iz (Cu jv.st jv.lm) (a6 jv.st)=vq n:=by kernel_rfl
def Vb:(Ad jv.st).length=2:=by decide+kernel
def Tf(n:Nat)(a:List D):ae (tab (n+1)) jv a=g7 (vq n (cz [true] a++bY (2 - a.length) .no)):=j9 (U1 n) Vb rfl a

def m6(n:Nat):En->Out:=(f9 (ah (y8 "Fits" "columns" "rows") (au (g1 fo (aa 1)) (au (g1 ug (az (aj (aa 0)) [1] (gC (.bl true)) (h8 (au (ah (ae (tab n) ff) (au (aa 0) (au (aa 1) af))) (au (h8 af) af))))) af))))
def H9(n:Nat):gB (tab (n+1)) iz (Cu d9.st d9.lm) (a6 d9.st)=m6 n:=by kernel_rfl
def Ip:(Ad d9.st).length=2:=by decide+kernel
def Gu(n:Nat)(a:List D):ae (tab (n+1)) d9 a=g7 (m6 n (cz [true,true] a++bY (2 - a.length) .no)):=j9 (H9 n) Ip rfl a

def sf(n:Nat):En->Out:=(bg (e9 2 (ah (ae (tab n) c6) (au (aa 1) af)))
 (bg (e9 3 (ah (ae (tab n) cb) (au (az (aj (ah (ae (tab n) jv) (au (aa 1) af))) [0] (gC (.bl true)) (ah (ae (tab n) d9) (au (aa 1) (au (aa 0) af)))) (au (aa 2) af))))
 (bg (e9 4 (ah (ae (tab n) gm) (au (aa 2) (au (fq xs.cls "columns" (aa 3)) af))))
 (f9 (g1 mh (az (gz (fq xs.cls "rows" (aa 3))) [4] (gC (.bl true)) (ah (ae (tab n) ff) (au (aa 0) (au (aa 1) af)))))))))
def Bs(n:Nat):gB (tab (n+1)) iz (Cu cj.st cj.lm) (a6 cj.st)=sf n:=by kernel_rfl
def Bx:(Ad cj.st).length=5:=by decide+kernel
def A3(n:Nat)(a:List D):ae (tab (n+1)) cj a=g7 (sf n (cz [true,true] a++bY (5 - a.length) .no)):=j9 (Bs n) Bx rfl a

def i5(n:Nat):En->Out:=(bg (B8 (g2 Wv (aa 1) (g1 nj (aa 0))) (f9 (g2 dj (aa 0) (aa 1))) my)
 (bg (B8 (g2 gu (aa 0) (cx af)) (f9 (gC (.int 0))) my)
 (f9 (g2 bu (g2 k8 (g2 dj (aa 0) (g2 B5 (aa 1) (g1 nj (aa 0)))) (gC (.int 31))) (aa 1)))))
def C3(n:Nat):gB (tab (n+1)) iz (Cu d7.st d7.lm) (a6 d7.st)=i5 n:=by kernel_rfl
def C6:(Ad d7.st).length=2:=by decide+kernel
def Cy(n:Nat)(a:List D):ae (tab (n+1)) d7 a=g7 (i5 n (cz [true,true] a++bY (2 - a.length) .no)):=j9 (C3 n) C6 rfl a

def rq(n:Nat):En->Out:=(bg (e9 3 (g2 B5 (g2 k8 (g2 bu (g2 bu (ah (ae (tab n) d7) (au (aa 0) (au (aa 1) af))) (g2 k8 (gC (.int 7919)) (aa 1))) (gC (.int 1))) (gC (.int 48271))) (gC (.int 2147483647))))
 (f9 (g2 B5 (g2 B5 (g2 bu (g2 bu (g2 k8 (aa 3) (aa 3)) (g2 k8 (gC (.int 7)) (aa 3))) (aa 1)) (gC (.int 2147483629))) (aa 2))))
def Hz(n:Nat):gB (tab (n+1)) iz (Cu ar.st ar.lm) (a6 ar.st)=rq n:=by kernel_rfl
def Im:(Ad ar.st).length=4:=by decide+kernel
def Gr(n:Nat)(a:List D):ae (tab (n+1)) ar a=g7 (rq n (cz [true,true,true] a++bY (4 - a.length) .no)):=j9 (Hz n) Im rfl a

def nq(n:Nat):En->Out:=(f9 (g1 jd (az (cy (au (aa 2) af)) [1,0,3] (g2 gu (ah (ae (tab n) ar) (au (aa 2) (au (g2 bu (aa 1) (aa 0)) (au (aa 3) af)))) (gC (.int 0))) (b8 0))))
def C4(n:Nat):gB (tab (n+1)) iz (Cu cg.st cg.lm) (a6 cg.st)=nq n:=by kernel_rfl
def C7:(Ad cg.st).length=4:=by decide+kernel
def Cz(n:Nat)(a:List D):ae (tab (n+1)) cg a=g7 (nq n (cz [true,true,true,true] a++bY (4 - a.length) .no)):=j9 (C4 n) C7 rfl a

def mz(n:Nat):En->Out:=(bg (cq 3 (az (cy (au (g2 bu (gC (.int 1)) (ah (ae (tab n) ar) (au (aa 0) (au (g2 bu (aa 1) (gC (.int 30))) (au (gC (.int 4)) af))))) af)) [1,2,0] (gC (.bl true)) (ah (ae (tab n) cg) (au (aa 3) (au (g2 bu (aa 1) (g2 k8 (gC (.int 6)) (aa 0))) (au (aa 2) (au (gC (.int 2)) af)))))))
 (bg (cq 4 (cx af))
 (bg (ft (a0 5) (cy (au (aa 2) af)) (B8 (g2 gu (az (aj (aa 3)) [5] (g2 j5 (aa 1) (aa 0)) (b8 0)) (cx af)) (fz [5] (qm 4 (b8 5))) my))
 (bg (B8 (g2 jm (aa 4) (cx af)) (qm 3 (g1 jd (aa 4))) my)
 (fz [3] (f9 (b8 3)))))))
def H8(n:Nat):gB (tab (n+1)) iz (Cu d8.st d8.lm) (a6 d8.st)=mz n:=by kernel_rfl
def Io:(Ad d8.st).length=6:=by decide+kernel
def Gs(n:Nat)(a:List D):ae (tab (n+1)) d8 a=g7 (mz n (cz [true,true,true] a++bY (6 - a.length) .no)):=j9 (H8 n) Io rfl a

def o6(n:Nat):En->Out:=(bg (fz [0] (ft (a0 3) (aj (wc 0)) (B8 (g2 gu (az (aj (aa 1)) [3,2] (g2 jm (g2 dj (aa 1) (aa 0)) (g2 dj (aa 2) (aa 0))) (b8 0)) (cx af)) (f9 (gC (.bl true))) my)))
 (f9 (gC (.bl false))))
def Lj(n:Nat):gB (tab (n+1)) iz (Cu di.st di.lm) (a6 di.st)=o6 n:=by kernel_rfl
def Ls:(Ad di.st).length=4:=by decide+kernel
def Km(n:Nat)(a:List D):ae (tab (n+1)) di a=g7 (o6 n (cz [true,true,true] a++bY (4 - a.length) .no)):=j9 (Lj n) Ls rfl a

def jq(n:Nat):En->Out:=(bg (cq 3 (cx (au (h8 af) af)))
 (bg (ft (a0 4) (cy (au (aa 2) af)) (bg (cq 5 (cx af))
 (bg (fz [3] (ft (a0 6) (aj (wc 3)) (ft (a0 7) (aj (g1 cm (az (aj (aa 0)) [4] (gC (.bl true)) (g2 dj (aa 0) (aa 1))))) (fz [7] (qm 5 (g2 bu (aa 6) (h8 (au (b8 7) af))))))))
 (fz [5] (e9 3 (b8 5))))))
 (bg (cq 8 (cx af))
 (bg (fz [3] (ft (a0 6) (aj (wc 3)) (bg (e9 9 (gC (.bl true)))
 (bg (fz [1] (ft (a0 10) (aj (wc 1)) (fz [9] (e9 9 (A5 (b8 9) (ah (ae (tab n) di) (au (aa 0) (au (aa 10) (au (aa 6) af)))))))))
 (B8 (A8 (aa 9)) (fz [6] (qm 8 (b8 6))) my)))))
 (fz [8] (f9 (b8 8)))))))
def Br(n:Nat):gB (tab (n+1)) iz (Cu b9.st b9.lm) (a6 b9.st)=jq n:=by kernel_rfl
def Bw:(Ad b9.st).length=11:=by decide+kernel
def A2(n:Nat)(a:List D):ae (tab (n+1)) b9 a=g7 (jq n (cz [true,true,true] a++bY (11 - a.length) .no)):=j9 (Br n) Bw rfl a

def CC(n:Nat):En->Out:=(bg (e9 1 (g2 bu (gC (.int 1)) (ah (ae (tab n) ar) (au (aa 0) (au (gC (.int 0)) (au (gC (.int 5)) af))))))
 (bg (e9 2 (ah (ae (tab n) d8) (au (aa 0) (au (gC (.int 40)) (au (aa 1) af)))))
 (bg (cq 3 (cx af))
 (bg (ft (a0 4) (cy (au (ah (ae (tab n) ar) (au (aa 0) (au (gC (.int 1)) (au (gC (.int 8)) af)))) af)) (qm 3 (g1 jd (az (cy (au (aa 1) af)) [4,0] (gC (.bl true)) (g2 D0 (ah (ae (tab n) ar) (au (aa 2) (au (g2 bu (g2 bu (gC (.int 2)) (g2 k8 (gC (.int 5)) (aa 1))) (aa 0)) (au (gC (.int 4)) af)))) (gC (.int 2)))))))
 (bg (cq 5 (cx (au (g1 fo (aa 3)) (au (g1 fo (aa 2)) af))))
 (bg (e9 6 (ah (ae (tab n) cj) (au (g2 dj (aa 5) (gC (.int 0))) (au (g2 dj (aa 5) (gC (.int 1))) af))))
 (bg (fz [3,2] (B8 (g2 jm (aa 5) (cx (au (b8 3) (au (b8 2) af)))) (f9 (gC (.bl false))) my))
 (bg (B8 (g2 gu (aa 3) (cx af)) (f9 (g2 gu (aa 6) (cx af))) my)
 (f9 (g2 gu (aa 6) (ah (ae (tab n) b9) (au (aa 3) (au (aa 2) (au (aa 1) af))))))))))))))
def LQ(n:Nat):gB (tab (n+1)) iz (Cu l8.st l8.lm) (a6 l8.st)=CC n:=by kernel_rfl
def LJ:(Ad l8.st).length=7:=by decide+kernel
def KL(n:Nat)(a:List D):ae (tab (n+1)) l8 a=g7 (CC n (cz [false] a++bY (7 - a.length) .no)):=j9 (LQ n) LJ rfl a

end LK
namespace Pu
open PySem PySem.Spec PyProof.Rows
def S0:∀(l:List α),(∀a∈l,F (f a)=some (if b a then some (f' a)else none))->rg F (l.map f)=some ((l.filter b).map f'):=by
 intro d;induction d with
 |nil=>rintro _;exact rfl
 |cons a l e=>
  rintro h
  rw[aR];unfold rg;rw[h a aZ,e λc g=>h c (aY _ g),iR];cases b a<;>rfl
def Ni{l:List α}(i:r δ=.ok (l.map f))(j:l.length<=16777216)(h:∀a∈l,t (fe d δ (.pu (f a)))=.ok (.bl (b a)))(m:∀a∈l,g (fe d δ (.pu (f a)))=.ok (c a)):
  az r d t g δ=.ok (.lst ((l.filter b).map c)):=by
 unfold az;rw[i];dsimp only;rw[aN (by rw[aF];exact j),S0 (f':=c) l λa e=>by
  rw[CN (y:=c a) (h a e) λ_=>m a e]]
def d5{l:List α}(d:r δ=.ok (l.map f))(e:l.length<=16777216)(c:∀a∈l,t (fe ix δ (.pu (f a)))=.ok (.bl (b a))):
  az r ix t (b8 0) δ=.ok (.lst ((l.filter b).map f)):=Ni d e c λa _=>rfl
def ie{l:List α}(c:r δ=.ok (l.map f))(d:l.length<=16777216)(e:∀a∈l,g (fe b δ (.pu (f a)))=.ok (h a)):
  az r b (gC (.bl true)) g δ=.ok (.lst (l.map h)):=by
 have:=Ni (t:=gC (.bl true)) c d (λ_ _=>rfl) e;rwa [List.filter_eq_self.mpr (λ_ _=>rfl)]at this
def ym(b:α->Bool):∀l:List α,i7 (l.map λa=>D.bl (b a))=some (l.map b):=by
 intro c;induction c with
 |nil=>exact rfl
 |cons a l d=>
  show(i7 _).map _=_;rw[d];rfl
def Yh(b:α->Bool)(l:List α):Dy (.lst (l.map λa=>D.bl (b a)))=some (.bl (l.all b)):=by
 unfold Dy;dsimp only;rw[ym];show some (D.bl _)=_;rw[List.all_map];rfl
def tI(a:List Int):D:=.tup (a.map D.int)
end Pu
section
set_option genInjectivity true
namespace LK
open PySem PySem.Spec PyProof.Rows Pu
abbrev vk(a:List Int):D:=.lst (a.map D.int)
def Sx(a:List Int)(k:Int):Int:=if k<a.length then(a[k.toNat]?).getD 0 else if a=[]then 0 else(a[(k % a.length).toNat]?).getD 0 * 31+k
def jj:∀b:List Int,c9 (b.map D.int)=some (b.map cS):=by
 intro a;induction a with
 |nil=>exact rfl
 |cons n b c=>show(match cf (.int n)with|some p=>(match c9 _ with|some d=>some _|none=>none)|none=>none)=_;rw[c];rfl
def gp:∀c:List Int,bP (c.map cS)=true:=by
 intro a;induction a with
 |nil=>exact rfl
 |cons n c b=>show(fT _ && bP _)=true;rw[b];rfl
def o9:∀c:List Int,cN (c.map cS)<=1:=by
 intro a;induction a with
 |nil=>decide
 |cons n c b=>
  show max _ _<=1;have:=b;have h:fP (.int n)<=1:=bX _
  lia
def Jn(a:List Int):bU (.list (a.map cS))=true:=by
 unfold bU;have b:fT (.list _)=true:=gp a;have c:fP (.list (a.map cS))<=2:=by
  have:=o9 a;show cN _+1<=2
  lia
 rw[b];simp only[Bool.true_and,decide_eq_true_eq]
 lia
def Tn(a:List Int):gu (vk a) (.lst [])=some (.bl (decide (a=[]))):=by
 unfold gu Rz vk;have c:cf (.lst (a.map D.int))=some (.list (a.map cS)):=by unfold cf;rw[jj]
 have b:cf (.lst [])=some _:=rfl;rw[c,b];dsimp only;rw[Jn,show bU _=true from by decide];cases a<;>rfl
def Uk(a:List Int)(k:Int)(d:0<=k)(c:k<a.length):dj (vk a) (.int k)=some (.int ((a[k.toNat]?).getD 0)):=by
 have b:k=((k.toNat:Nat):Int):=by lia
 rw[b];refine(L2.Nf (v:=D.int _) ?_).trans (by rw[<-b]);rw[bJ,aW (by lia)];rfl
def Yq(n:Nat)(b:List Int)(k:Int)(f:0<=k):ae (tab (n+1)) d7 [vk b,.int k]=.ok (.int (Sx b k)):=by
 rw[Cy];unfold Sx
 by_cases c:k<b.length
 ·have d:=Uk b k f c;simp[i5,c,d]
 ·by_cases e:b=[]
  ·subst e;have h:=Tn [];have g:¬k<0:=by lia
   simp[i5,g,h]
  ·have i:0<b.length:=by cases b<;>simp_all
   have d:=Uk b (k % b.length) (Int.emod_nonneg _ (by lia)) (Int.emod_lt_of_pos _ (by lia));simp[i5,c,e,d,(Tn b),(O0 k b.length (by lia)),(λa=>Cq a 31 (.inr (by decide)))]
def oe(a:List Int)(k m:Int):Int:=
 let x:=(Sx a k+7919 * k+1) * 48271 % 2147483647
 (x * x+7 * x+k) % 2147483629 % m
def sv(n:Nat)(b:List Int)(k m:Int)(d:0<=k)(c:0<m):ae (tab (n+2)) ar [vk b,.int k,.int m]=.ok (.int (oe b k m)):=by
 rw[Gr];have e:∀a:Int,k8 (.int (a % 2147483647)) (.int (a % 2147483647))=some _:=λa=>Cq _ _ (.inl (by lia));simp[rq,(Yq n b k d),(Cq 7919 k (.inl (by decide))),(λa=>Cq a 48271 (.inr (by decide))),(λa=>O0 a 2147483647 (by decide)),(λa=>O0 a 2147483629 (by decide)),(λa=>O0 a m c),(λa=>Cq 7 a (.inl (by decide))),e,oe]
def qa(a:List Int)(k m:Int)(b:0<m):0<=oe a k m/\oe a k m<m:=⟨Int.emod_nonneg _ (by lia),Int.emod_lt_of_pos _ b⟩
def Ew{h:Pu.D->Option Pu.D}{f:Nat->Pu.D}:∀(l:List Nat),(∀j∈l,h (.int (0+(j:Int)))=some (f j))->(l.map λ(i:Nat)=>Pu.D.int (0+(i:Int))).filterMap h=l.map f:=by
 intro b;induction b with
 |nil=>rintro _;exact rfl
 |cons a l c=>
  rintro d
  rw[aR,gH,d a aZ];rw[c λj e=>d j (aY _ e),aR]
def zm{h:Pu.D->Option Pu.D}{f:Nat->Pu.D}(n:Nat)(b:∀j:Nat,j<n->h (.int (0+(j:Int)))=some (f j)):(ji 0 n).filterMap h=(aS n).map f:=
 Ew _ λj a=>b j (List.mem_range.mp a)
def L9(n:Nat):(ji 0 n).length=n:=by unfold ji;simp
def Ln{n:Nat}{d:Pu.D}(h:d∈ji 0 n):∃j:Nat,j<n/\d=.int (0+(j:Int)):=by
 obtain⟨j,a,e⟩:=List.mem_map.mp h;exact⟨j,List.mem_range.mp a,e.symm⟩
def Aw{r:En->dg}{a:List Nat}{g:En->Res}{δ:En}{m:Nat}{f:Nat->Pu.D}(c:r δ=.ok (ji 0 m))(l:m<=16777216)(e:∀j:Nat,j<m->g (fe a δ (.pu (.int (0+(j:Int)))))=.ok (f j)):
  az r a (gC (.bl true)) g δ=.ok (.lst ((aS m).map f)):=by
 let h:Pu.D->Option Pu.D:=λd=>match d with
  |.int k=>some (f k.toNat)
  |_=>none
 have:=Tz (ix:=a) (t:=gC _) (g:=g) (δ:=δ) (h:=h) c (by rwa [L9]) λd i=>by
  obtain⟨j,b,rfl⟩:=Ln i;rw[X0 (e j b)];show some _=some (some _);have:(0+(j:Int)).toNat=j:=by lia
  rw[this]
 rw[this,zm m];intro j b;show some _=some (f j);have:(0+(j:Int)).toNat=j:=by lia
 rw[this]
def Ae(x:Int):Bool:=true
def Cm(l:List Int):c9 (l.map Pu.D.int)=some (l.map cS):=jj l
def si{l:List Int}(h:∀x∈l,Ae x=true):bP (l.map cS)=true:=gp l
def F3(l:List Int)(x:Int):((l.map cS).any λy=>cV y (.int x))=decide (x∈l):=by
 induction l with
 |nil=>rfl
 |cons y l a=>
  rw[aR,gN,a];show((y==x)||decide _)=_
  by_cases h:y=x
  ·subst h;simp
  ·have b:¬x=y:=λz=>h z.symm;have:(y==x)=false:=by simpa using h
   rw[this];simp[b]
def Nx(l:List Int)(x:Int):xa (.int x) (.lst (l.map Pu.D.int))=some (decide (x∈l))/\xa (.int x) (.tup (l.map Pu.D.int))=some (decide (x∈l)):=by
 constructor
 ·show (match c9 _, cf _ with
   |some a,some q=>if bP a && bU q then some _ else none
   |_,_=>none)=_
  rw[jj];show(if bP _ && bU _ then some _ else none)=_;rw[gp,qq (p:=.int x) rfl (bX _),F3];rfl
 ·show (match c9 _, cf _ with
   |some a,some q=>if bP a && bU q then some _ else none
   |_,_=>none)=_
  rw[jj];show(if bP _ && bU _ then some _ else none)=_;rw[gp,qq (p:=.int x) rfl (bX _),F3];rfl
def wj{l:List Int}{x:Int}(b:∀y∈l,Ae y=true)(a:Ae x=true):Rc (.int x) (.lst (l.map Pu.D.int))=some (.bl (decide (x∈l)))/\uh (.int x) (.lst (l.map Pu.D.int))=some (.bl (!decide (x∈l))):=by
 unfold Rc uh;rw[(Nx l x).1];exact⟨rfl,rfl⟩
end LK
end
namespace LK
open PySem PySem.Spec PyProof.Rows Pu
def pick(a:List Int)(b:List Nat):List Int:=b.map λp=>a.getD p 0
def aq(a:List Nat):List Pu.D:=a.map λ(p:Nat)=>Pu.D.int (p:Int)
abbrev de(xs:List Int):Pu.D:=.lst (xs.map Pu.D.int)
def Hm(a:List Int)(p:Nat)(h:p<a.length):dj (tI a) (.int p)=some (.int (a.getD p 0)):=by
 show L2.qM _ p=_;unfold L2.qM;simp[L2.DO,h]
def oi(n:Nat)(a:List Int)(b:List Nat)(h:∀p∈b,p<a.length)(e:b.length<=1000):ae (tab (n+1)) ff [tI a,.lst (aq b)]=.ok (tI (pick a b)):=by
 have d:az (aj (aa 1)) [0] _ (g2 dj (aa 1) (aa 0)) [.bo (tI a),.bo (.lst (aq b))]=.ok (.lst (b.map λp=>Pu.D.int (a.getD p 0))):=
  ie (f:=λ(p:Nat)=>Pu.D.int (p:Int)) (by simp[aq]) (by lia) λp c=>by
   simp[fe,Hm a p (h p c)]
 show g7 (vp n [.bo _,.bo (.lst (aq b))])=_;unfold vp;rw[t5,Da,d];simp[tI,pick]
def T8(x:Int):∀(a:List Int),x∈a->A4 (a.map cS) (.int x)=some (a.idxOf x):=by
 intro b;induction b with
 |nil=>rintro h;simp at h
 |cons y r c=>
  rintro h
  unfold A4;rw[aR,List.findIdx?_cons,List.idxOf_cons];have e:cV (.int y) (.int x)=(y==x):=rfl;rw[e]
  by_cases q:y=x
  ·subst q;simp
  ·have d:(y==x)=false:=by simpa using q
   rw[d];have f:x∈r:=by
    rcases List.mem_cons.mp h with z|z
    ·exact absurd z.symm q
    ·exact z
   have:=c f;unfold A4 at this;simp[this]
def Mg{x:Int}(h:Ae x=true):bU (.int x)=true:=by
 unfold bU;simp[fT,h,fP]
def Ky{a:List Int}{x:Int}(c:∀y∈a,Ae y=true)(d:a.length<=1000)(b:x∈a):g9 (de a) (.int x)=some (.int (a.idxOf x:Nat)):=by
 unfold de g9;dsimp only;rw[Cm];show(if bP _ && bU _ && decide _ then(A4 _ _).map λj=>Pu.D.int _ else none)=_;rw[si c,Mg (c x b),decide_eq_true (by rw[aF,cR];lia),T8 x a b];rfl
def ko(n:Nat){xs a:List Int}(h:∀y∈a,Ae y=true)(g:a.length<=1000)(d:∀x∈xs,x∈a)(e:xs.length<=1000):ae (tab (n+1)) gm [de xs,de a]=.ok (.lst (aq (xs.map a.idxOf))):=by
 have c:az (aj (aa 0)) [1] _ (gM g9 (aa 1) (aa 0)) [.bo (de xs),.bo (de a)]=.ok (.lst (xs.map λx=>Pu.D.int (a.idxOf x:Nat))):=
  ie (f:=Pu.D.int) (by simp[de]) (by omega) λx b=>by
   simp[fe,(Ky h g (d x b))]
 show g7 (yj n [.bo (de xs),.bo _])=_;unfold yj;rw[t5,c];simp[aq]
abbrev g8:=List Int×List Pu.D
def rl(p:g8):Pu.D×Pu.D:=(tI p.1,.tup p.2)
def gi(b:List Int)(a:List g8):Pu.D:=.obj (.Name "Fits" ⟨0,0,0,0⟩) [("columns",de b),("rows",.ja true (a.map rl))]
@[simp] theorem QG(a:List Int)(b:List g8):Oo xs.cls "columns" (gi a b)=some (de a):=rfl
@[simp] theorem QF(b:List Int)(a:List g8):Oo xs.cls "rows" (gi b a)=some (.ja true (a.map rl)):=rfl
def E4(b:List Int)(a:List g8):y8 "Fits" "columns" "rows" [de b,.ja true (a.map rl)]=.ok (gi b a):=rfl
end LK
section
set_option genInjectivity true
namespace LK
open PySem PySem.Spec PyProof.Rows Pu
def rK(r:List Int):L2.a7:=r.map λz=>.inl (.inl z)
def Ul(r:List Int):kT (rK r)=tI r:=by
 show Pu.D.tup ((r.map λz=>lF _).map Lv)=_;rw[bW];rfl
def lu(r:List Int):bw (tI r)=some (rK r):=by rw[<-Ul];exact n8 _
theorem Wx:∀{r t:List Int},rK r=rK t->r=t
 |[],[],_=>rfl
 |[],_::_,h=>by cases h
 |_::_,[],h=>by cases h
 |i::r,j::t,h=>by
  unfold rK at h;injection h with b a
  rw[mQ (mQ b),Wx a]
def gc{r t:List Int}:bw (tI r)=some (rK t)↔r=t:=by
 rw[lu];exact⟨λh=>Wx (bN h),λh=>by rw[h]⟩
abbrev bj(a:List g8):List (List Int):=a.map (·.1)
def Qi(r:List Int):∀a:List g8,(r∉bj a->i6 (a.map rl) (rK r)=none)/\(r∈bj a->∃s,(r,s)∈a/\i6 (a.map rl) (rK r)=some (.tup s)):=by
 intro b;induction b with
 |nil=>exact⟨λ_=>rfl,λh=>by simp at h⟩
 |cons p a c=>
  obtain⟨f,d⟩:=c;show(_->(if bw _=some _ then some _ else i6 _ _)=none)/\(_->∃s,_/\(if bw _=some _ then some _ else i6 _ _)=some _)
  by_cases e:p.1=r
  ·rw[aN (gc.mpr e)];refine⟨λh=>absurd (by rw[<-e];simp) h,λ_=>⟨p.2,?_,rfl⟩⟩;rw[<-e];exact aZ
  ·rw[aK λz=>e (gc.mp z)];refine⟨λh=>f λz=>h (by simp at z⊢;exact .inr z),λh=>?_⟩;have:r∈bj a:=by
    simp only[bj,aR,dM]at h;exact h.resolve_left λz=>e z.symm
   obtain⟨s,i,g⟩:=d this;exact⟨s,aY _ i,g⟩
def j7(a:List g8)(r:List Int)(s:List Pu.D):List g8:=if r∈bj a then a else a++[(r,s)]
def vo(a:List g8)(r:List Int)(s:List Pu.D):(j7 a r s).length<=a.length+1:=by
 unfold j7;split
 ·lia
 ·simp
def Ib{a:List g8}{r x:List Int}{s:List Pu.D}:x∈bj (j7 a r s)↔x∈bj a\/x=r:=by
 unfold j7
 by_cases h:r∈bj a
 ·rw[aN h];exact⟨.inl,λq=>q.elim id λe=>e▸h⟩
 ·rw[aK h];simp[bj]
def An{c:List g8}{r:List Int}{s:List Pu.D}(h:(bj c).Nodup):(bj (j7 c r s)).Nodup:=by
 unfold j7
 by_cases e:r∈bj c
 ·rwa [aN e]
 ·rw[aK e];show((c++[(r,s)]).map _).Nodup;rw[cO,jP];refine⟨h,by simp,λa f b d=>?_⟩;have:b=r:=by simpa using d
  subst this;exact λz=>e (z▸f)
def Jf{a:List g8}{r:List Int}{s:List Pu.D}(h:r∉bj a):C8 (a.map rl) (rK r) (.tup s)=(j7 a r s).map rl:=by
 have d:xy (a.map rl) (rK r)=false:=by
  unfold xy;rw[List.any_eq_false];intro p c;obtain⟨q,b,rfl⟩:=List.mem_map.mp c;simp only[decide_eq_true_eq];intro z;exact h (List.mem_map.mpr ⟨q,b,gc.mp z⟩)
 unfold C8 j7;rw[d,aK h,aK Bool.false_ne_true,cO,Ul];rfl
def IG{δ:En}{i:Nat}{s:Sl}(h:δ[i]?=some s):δ.set i s=δ:=by
 refine jR λj=>?_
 by_cases e:i=j
 ·subst e;rw[bK (List.getElem?_eq_some_iff.mp h).1,h]
 ·rw[bE e]
def MD{δ:En}{i:Nat}{d c:En->Res}{a:List g8}{r:List Int}{s:List Pu.D}(b:δ[i]?=some (.od true (a.map rl)))(l:d δ=.ok (tI r))(j:c δ=.ok (.tup s))(m:a.length<=100000):
  qp (jw i d c) δ=.nx (δ.set i (.od true ((j7 a r s).map rl))):=by
 unfold qp jw;rw[b];rw[l];rw[j];dsimp only;rw[lu];dsimp only;rw[aN (by rw[aF,cR];lia)];obtain⟨g,f⟩:=Qi r a
 by_cases h:r∈bj a
 ·obtain⟨t,_,e⟩:=f h;rw[e];rw[show j7 a r s=a from aN h,IG b]
 ·rw[g h];rw[Jf h]
theorem Et:∀a b:List Int,iO (a.map cS) (b.map cS)=decide (a=b)
 |[],[]=>rfl
 |[],_::_=>rfl
 |_::_,[]=>rfl
 |x::a,y::b=>by
  show((x==y) && iO _ _)=_;rw[Et a b]
  by_cases h:x=y
  ·subst h;simp
  ·have:(x==y)=false:=by simpa using h
   simp[h]
def Y2{a b:List Int}(f:∀x∈a,Ae x=true)(e:∀x∈b,Ae x=true):gu (de a) (de b)=some (.bl (decide (a=b))):=by
 have t:∀l:List Int,cf (de l)=some _:=λl=>by unfold de cf;rw[Cm]
 have g:∀l:List Int,cN (l.map cS)=0:=λl=>by
  induction l with
  |nil=>rfl
  |cons x r c=>show max _ _=0;rw[c];rfl
 have d:∀l:List Int,fP (.list _)<=63:=λl=>by show cN (l.map cS)+1<=63;rw[g];decide
 unfold gu;rw[Es (t a) (t b) (si f) (d a) (si e) (d b)];exact congrArg some (congrArg Pu.D.bl (Et a b))
def GS(f:List Pu.D->Res):En->Out:=(fz [6] (qp (jw 4 (ah f (Pu.au (aa 5) (Pu.au (aa 3) af))) (b8 6))))
def zu(d:List Nat)(c b:List g8):List g8:=b.foldl (λa p=>j7 a (pick p.1 d) p.2) c
def Vd(f:List Pu.D->Res)(b:List Nat)(x:∀d:List Int,(∀q∈b,q<d.length)->f [tI d,.lst (aq b)]=.ok (tI (pick d b)))(i h g:Sl):∀(a c:List g8)(l j:Sl),(∀p∈a,∀q∈b,q<p.1.length)->c.length+a.length<=100000->
  ∃o n,turns (yt [5,6]) (GS f) (a.map λp=>Be (rl p)) [i,h,g,.pu (.lst (aq b)),.od true (c.map rl),l,j]=.nx [i,h,g,.pu (.lst (aq b)),.od true ((zu b c a).map rl),o,n]:=by
 intro m;induction m with
 |nil=>rintro c l j _ _;exact⟨l,j,rfl⟩
 |cons p a r=>
  rintro c l j s w
  rw[aE]at w;have v:=vo c (pick p.1 b) p.2;obtain⟨o,n,e⟩:=r (j7 c (pick p.1 b) p.2) _ _ (λq u=>s q (aY _ u)) (by lia);refine⟨o,n,?_⟩;rw[aR,cu (δ1:=[i,h,g,.pu _,.od true _,.pu (tI p.1),.pu (.tup p.2)]) rfl];have y:GS f [i,h,g,.pu (.lst (aq b)),.od true (c.map rl),.pu (tI p.1),.pu (.tup p.2)]=.nx [i,h,g,.pu (.lst (aq b)),.od true ((j7 c (pick p.1 b) p.2).map rl),.pu (tI p.1),.pu (.tup p.2)]:=by
   exact MD (δ:=[i,h,g,.pu _,.od true _,.pu _,.pu _]) rfl (by simp[(x p.1 (s p aZ))]) rfl (by lia)
  rwa [y]
def Iq(c:List Nat):∀(a b:List g8),(zu c b a).length<=b.length+a.length:=by
 intro d;induction d with
 |nil=>rintro b;simp[zu]
 |cons p a e=>
  rintro b
  have g:=e (j7 b (pick p.1 c) p.2);have f:=vo b (pick p.1 c) p.2;show(zu c (j7 b _ p.2) a).length<=_;rw[aE]
  lia
def Ic(d:List Nat)(x:List Int):∀(a b:List g8),x∈bj (zu d b a)↔x∈bj b\/∃r∈bj a,x=pick r d:=by
 intro c;induction c with
 |nil=>rintro b;simp[zu]
 |cons p a e=>
  rintro b
  show x∈bj (zu d _ a)↔_;rw[e,Ib];simp only[bj,aR,dM,exists_eq_or_imp,or_assoc]
def By(e:List Nat):∀(a b:List g8),(bj b).Nodup->(bj (zu e b a)).Nodup:=by
 intro c;induction c with
 |nil=>rintro b h;exact h
 |cons p a d=>rintro b h;exact d _ (An h)
theorem Bz(e:List Nat)(b:Nat):∀(a d:List g8),(∀p∈d,p.2.length<=b)->(∀p∈a,p.2.length<=b)->∀p∈zu e d a,p.2.length<=b
 |[],d,h,_=>h
 |q::a,d,h,f=>by
  refine Bz e b a _ (λp c=>?_) (λp c=>f p (aY _ c));replace c:p∈j7 d _ q.2:=c;unfold j7 at c;split at c
  ·exact h p c
  ·rcases List.mem_append.mp c with z|z
   ·exact h p z
   ·rw[List.mem_singleton.mp z];exact f q aZ
structure Rep(b:Nat)(cols:List Int)(rows:List g8)(S:(Int->Int)->Prop):Prop where
 cn:cols.Nodup
 ck:∀x∈cols,Ae x=true
 cl:cols.length<=100
 rn:(bj rows).Nodup
 mem:∀r,r∈bj rows↔∃Z,S Z/\r=cols.map Z
 vb:∀p∈rows,p.2.length<=b
def Rep.len{b:Nat}{c:List Int}{a:List g8}{S:(Int->Int)->Prop}(R:Rep b c a S){p:g8}(h:p∈a):p.1.length=c.length:=by
 obtain⟨Z,_,e⟩:=(R.mem p.1).mp (List.mem_map.mpr ⟨p,h,rfl⟩);rw[e,aF]
def j4{a xs:List Int}{Z:Int->Int}(h:∀x∈xs,x∈a):pick (a.map Z) (xs.map a.idxOf)=xs.map Z:=by
 unfold pick;rw[bW];refine cM λx b=>?_;show(a.map Z).getD _ 0=Z x;rw[aU,bJ,aW (cW (h x b))];simp
def yz(n:Nat){b:Nat}{a:List Int}{d:List g8}{S:(Int->Int)->Prop}{c:List Int}(R:Rep b a d S)(G:∀x∈c,Ae x=true)(N:c.length<=1000)(M:d.length<=10000):
  ∃f,Rep b (a.filter λx=>decide (x∈c)) f S/\f.length<=d.length/\ae (tab (n+2)) gq [gi a d,de c]=.ok (gi (a.filter λx=>decide (x∈c)) f):=by
 have I:=R.cl;have A:az (gz (fq xs.cls "columns" (aa 0))) [1] (g2 j5 (aa 0) (aa 1)) _ [.pu (gi a d),.bo (de c),.no,.no,.no,.no,.no]=.ok (.lst ((a.filter λx=>decide _).map Pu.D.int)):=
  d5 (b:=λx=>decide (x∈c)) (by simp[de]) (by lia) λx m=>by
   have e:=(wj G (R.ck x m)).1;simp[fe,e]
 have u:∀x∈a.filter λx=>decide (x∈c),Ae x=true:=λx m=>R.ck x (List.mem_filter.mp m).1;have i:=Y2 u R.ck;rw[Kn]
 by_cases o:(a.filter λx=>decide (x∈c))=a
 ·refine⟨d,by rwa [o],aJ _,?_⟩;rw[decide_eq_true o,o]at i;simp[o7,A,i,o]
 ·rw[decide_eq_false o]at i;have g:∀x∈a.filter λx=>decide (x∈c),x∈a:=λx m=>(List.mem_filter.mp m).1;have H:(a.filter λx=>decide (x∈c)).length<=a.length:=dD ..;generalize z:(a.filter λx=>decide (x∈c))=s at *;have w:∀p∈d,∀q∈s.map a.idxOf,q<p.1.length:=λp E q C=>by
   obtain⟨x,m,rfl⟩:=List.mem_map.mp C;rw[R.len E];exact cW (g x m)
  obtain⟨L,J,e⟩:=Vd _ _ (λv h=>oi n v _ h (by rw[aF];lia)) _ _ _ d [] .no .no w (by simp;lia);refine⟨zu _ [] d,⟨by rw[<-z];exact R.cn.filter _,u,by lia,By _ d [] fE,λr=>?_,Bz _ b d [] (by simp) R.vb⟩,by simpa using(Iq (s.map a.idxOf) d []),?_⟩
  ·rw[Ic];constructor
   ·rintro (h|⟨B,h,rfl⟩)
    ·simp at h
    ·obtain⟨Z,l,rfl⟩:=(R.mem B).mp h;exact⟨Z,l,j4 g⟩
   ·rintro ⟨Z,l,rfl⟩
    exact .inr ⟨a.map Z,(R.mem _).mpr ⟨Z,l,rfl⟩,(j4 g).symm⟩
  ·unfold GS at e;have y:lq (fq xs.cls "rows" (aa 0)) [.pu (gi a d),.bo (de c),.ow (s.map Pu.D.int),.pu (.lst (aq (s.map a.idxOf))),.od true (([]).map rl),.no,.no]=.ok (d.map λp=>Be (rl p)):=by simp
   have j:=(h9 y).trans e;simp only[fO]at j;simp[o7,A,i,(ko n R.ck (by lia) g (by lia)),tq,j,(E4 s _)]
abbrev Fw:=List (List Int×List (List Int))
def gD(q:List Int×List (List Int)):Pu.D×List Pu.D:=(tI q.1,q.2.map tI)
def Ba(k r:List Int):Fw->Fw
 |[]=>[(k,[r])]
 |(a,l)::gs=>if a=k then(a,l++[r])::gs else(a,l)::Ba k r gs
def x8:Fw->List Int->List (List Int)
 |[],_=>[]
 |(a,l)::gs,k=>if a=k then l else x8 gs k
def GZ(k r b:List Int):∀gs:Fw,x8 (Ba k r gs) b=if k=b then x8 gs b++[r]else x8 gs b:=by
 intro a;induction a with
 |nil=>
  unfold Ba x8
  by_cases h:k=b<;>simp[h,x8]
 |cons a gs e=>
  obtain⟨d,l⟩:=a;unfold Ba
  by_cases h:d=k
  ·subst h
   by_cases c:d=b<;>simp[x8,c]
  ·rw[aK h];unfold x8;rw[e]
   by_cases c:d=b
   ·rw[aN c,aN c,aK (λz=>h (c.trans z.symm))]
   ·rw[aK c,aK c]
def P2(k r:List Int):∀gs:Fw,Hh bw kT (rK k) (tI r) (gs.map gD)=(Ba k r gs).map gD:=by
 intro a;induction a with
 |nil=>
  show[_]=[(tI k,[tI r])];rw[Ul]
 |cons a gs b=>
  obtain⟨c,l⟩:=a;show(if bw _=some _ then _::gs.map gD else _::Hh bw kT _ _ _)=_;unfold Ba
  by_cases h:c=k
  ·rw[aN (gc.mpr h),aN h];simp[gD]
  ·rw[aK λz=>h (gc.mp z),aK h,b];rfl
def IB(gs:Fw):Nat:=(gs.map λq=>q.2.length).sum
def IA(k r:List Int):∀gs:Fw,IB (Ba k r gs)=IB gs+1/\(Ba k r gs).length<=gs.length+1:=by
 intro a;induction a with
 |nil=>simp[Ba,IB]
 |cons _ gs b=>
  obtain⟨c,d⟩:=b;unfold Ba;unfold IB at c⊢;split
  ·simp;lia
  ·simp[c];lia
def Uv(k:List Int):∀gs:Fw,(i6 ((gs.map gD).map λq=>(q.1,Pu.D.lst q.2)) (rK k)).getD (.lst [])=.lst ((x8 gs k).map tI):=by
 intro a;induction a with
 |nil=>exact rfl
 |cons a gs b=>
  obtain⟨c,l⟩:=a;show(if bw (tI c)=some _ then some _ else i6 _ _).getD _=_;unfold x8
  by_cases h:c=k
  ·rw[aN (gc.mpr h),aN h];rfl
  ·rw[aK λz=>h (gc.mp z),aK h,b]
def T6(s o:En->Res)(c:List Nat)(i g f e:Sl):∀(b:List (List Int))(d:Sl)(gs:Fw),(∀r∈b,s [i,g,f,e,.pu (tI r)]=.ok (tI (pick r c))/\o [i,g,f,e,.pu (tI r)]=.ok (tI r))->gs.length+b.length<=100000->IB gs+b.length<=100000->
  ∃l a,DS bw kT 4 s o (b.map tI) [i,g,f,e,d] (gs.map gD)=some ([i,g,f,e,l],a.map gD)/\∀k,x8 a k=x8 gs k++b.filter λr=>decide (pick r c=k):=by
 intro j;induction j with
 |nil=>rintro d gs _ _ _;exact⟨d,gs,rfl,λk=>by simp⟩
 |cons r b m=>
  rintro d gs h A z
  rw[aE]at A z;obtain⟨G,E⟩:=IA (pick r c) r gs;obtain⟨C,B⟩:=h r aZ;obtain⟨l,a,v,u⟩:=m _ (Ba (pick r c) r gs) (λx w=>h x (aY _ w)) (by lia) (by lia);refine⟨l,a,?_,λk=>?_⟩
  ·rw[aR];unfold DS;simp only[nY,List.set_cons_zero];rw[C,B];dsimp only;rw[lu];dsimp only;have y:(((gs.map gD).map λp=>p.2.length).sum)=IB gs:=by
    rw[bW]
    congr 1
    exact cM λq _=>by simp[gD]
   rw[aN (by rw[y,aF,cR];lia),P2,v]
  ·rw[u,GZ,iR]
   by_cases n:pick r c=k
   ·simp[n]
   ·simp[n]
def Ct(n:Nat){b:Nat}{d a:List Int}{c:List g8}{S:(Int->Int)->Prop}(R:Rep b d c S)(j:∀x∈a,x∈d)(u:a.length<=1000)(f:c.length<=10000):
  ∃gs:Fw,ae (tab (n+2)) b0 [gi d c,de a]=.ok (.ja true ((gs.map gD).map λq=>(q.1,.lst q.2)))/\∀k,x8 gs k=(bj c).filter λr=>decide (pick r (a.map d.idxOf)=k):=by
 have v:=R.cl;have h:∀r∈bj c,∀q∈a.map d.idxOf,q<r.length:=λr f q o=>by
  obtain⟨p,s,rfl⟩:=List.mem_map.mp f;obtain⟨x,m,rfl⟩:=List.mem_map.mp o;rw[R.len s];exact cW (j x m)
 have g:=λr f=>oi n r _ (h r f) (by rw[aF];lia);obtain⟨w,gs,i,l⟩:=T6 (ah (ae (tab (n+1)) ff) (Pu.au (aa 4) (Pu.au (aa 2) af))) (b8 4) (a.map d.idxOf) _ _ (.pu (.lst (aq (a.map d.idxOf)))) .no _ .no [] (λr f=>by
  have:=g r f;simp[this]) (by simp;lia) (by simp[IB];lia)
 refine⟨gs,?_,λk=>by rw[l];simp[x8]⟩;rw[vz];have e:c.map ((λx=>x.fst) ∘ rl)=(bj c).map tI:=by
  rw[bW];rfl
 rw[fO]at i;simp[jr,(ko n R.ck (by lia) j u),tq,BG,Os];rw[e,i];simp
def Rg(n:Nat){a c:List Int}{r1 r2:List g8}(g:∀x∈a,Ae x=true)(f:∀x∈c,Ae x=true)(h:a.length<=1000):
  ae (tab (n+1)) kj [gi a r1,gi c r2]=.ok (de (a.filter λx=>decide (x∈c))):=by
 have e:az (gz (fq xs.cls "columns" (aa 0))) [1] (g2 j5 (aa 0) (fq xs.cls "columns" (aa 1))) _ [.bo (gi a r1),.bo (gi c r2)]=.ok (.lst ((a.filter λx=>decide _).map Pu.D.int)):=
  d5 (b:=λx=>decide (x∈c)) (by simp) (by lia) λx d=>by
   simp[fe,((wj (l:=c) (x:=x) f (g x d)).1)]
 show g7 (n5 n [.bo (gi a r1),.bo _])=_;unfold n5;rw[t5,e];rfl
def um:List g8->List Int->List Pu.D
 |[],_=>[]
 |p::a,r=>if p.1=r then p.2 else um a r
def Ux{r:List Int}:∀{a:List g8},r∈bj a->i6 (a.map rl) (rK r)=some (.tup (um a r)):=by
 intro b;induction b with
 |nil=>rintro h;simp at h
 |cons p a c=>
  rintro h
  show(if bw _=some _ then some _ else i6 _ _)=_;unfold um
  by_cases e:p.1=r
  ·rw[aN (gc.mpr e),aN e]
  ·rw[aK λz=>e (gc.mp z),aK e];refine c ?_;simp only[bj,aR,dM]at h;exact h.resolve_left λz=>e z.symm
def X6{b:Nat}{r:List Int}:∀{c:List g8},(∀p∈c,p.2.length<=b)->(um c r).length<=b:=by
 intro a;induction a with
 |nil=>rintro _;simp[um]
 |cons p c d=>
  rintro h
  unfold um;split
  ·exact h p aZ
  ·exact d λq e=>h q (aY _ e)
def OW(f:List Pu.D->Res):En->Out:=(qp (jw 12 (ah f (Pu.au (g2 bu (aa 13) (aa 15)) (Pu.au (aa 9) af))) (g2 bu (aa 14) (g2 dj (fq xs.cls "rows" (aa 5)) (aa 15)))))
def PR(f:List Pu.D->Res):En->Out:=(ft (a0 15) (aj (A7 (aa 11) (ah f (Pu.au (aa 13) (Pu.au (aa 10) af))) (cx af))) (OW f))
def jE(m l j i h:Sl)(r:List Int)(o:List g8)(g f e:Sl)(p d:List Nat)(gs:Fw)(n:List g8)(c b a:Sl):En:=
 [m,l,j,i,h,.pu (gi r o),g,f,e,.pu (.lst (aq p)),.pu (.lst (aq d)),.pu (.ja true ((gs.map gD).map λq=>(q.1,.lst q.2))),.od true (n.map rl),c,b,a]
def Py(d:List Nat)(c:List g8)(p:g8)(b:List g8)(l:List (List Int)):List g8:=l.foldl (λa r=>j7 a (pick (p.1++r) d) (p.2++um c r)) b
def Sm{a b:List Int}(h:a.length+b.length<=1000):bu (tI a) (tI b)=some (tI (a++b)):=by
 show(if(a.map Pu.D.int).length+(b.map Pu.D.int).length<=aQ then some _ else none)=_;rw[aN (by rw[aF,aF,cR];lia),<-cO];rfl
def Yf{a b:List Pu.D}(h:a.length+b.length<=1000):bu (.tup a) (.tup b)=some (.tup (a++b)):=aN (by rw[cR];lia)
def Nv(c:List Nat)(b:List g8)(p:g8):∀(l:List (List Int))(a:List g8),(Py c b p a l).length<=a.length+l.length:=by
 intro d;induction d with
 |nil=>rintro a;simp[Py]
 |cons r l e=>
  rintro a
  have g:=e (j7 a (pick (p.1++r) c) (p.2++um b r));have f:=vo a (pick (p.1++r) c) (p.2++um b r);show(Py c b p (j7 a _ _) l).length<=_;rw[aE]
  lia
def Z1(c:List Nat)(e:List g8)(p:g8)(x:List Int):∀(l:List (List Int))(a:List g8),x∈bj (Py c e p a l)↔x∈bj a\/∃r∈l,x=pick (p.1++r) c:=by
 intro b;induction b with
 |nil=>rintro a;simp[Py]
 |cons r l d=>
  rintro a
  show x∈bj (Py c e p _ l)↔_;rw[d,Ib];simp only[dM,exists_eq_or_imp,or_assoc]
def Pz(e:List Nat)(d:List g8)(p:g8):∀(l:List (List Int))(a:List g8),(bj a).Nodup->(bj (Py e d p a l)).Nodup:=by
 intro b;induction b with
 |nil=>rintro a h;exact h
 |cons r l c=>rintro a h;exact c _ (An h)
theorem Nw(e:List Nat)(d:List g8)(p:g8)(b:Nat)(f:∀r,(p.2++um d r).length<=b):∀(l:List (List Int))(c:List g8),(∀q∈c,q.2.length<=b)->∀q∈Py e d p c l,q.2.length<=b
 |[],c,h=>h
 |r::l,c,h=>by
  refine Nw e d p b f l _ λq a=>?_;replace a:q∈j7 c _ _:=a;unfold j7 at a;split at a
  ·exact h q a
  ·rcases List.mem_append.mp a with z|z
   ·exact h q z
   ·rw[List.mem_singleton.mp z];exact f r
def Ze(f:List Pu.D->Res)(m:Nat)(A z y x w:Sl)(B:List Int)(c:List g8)(v u s:Sl)(d g:List Nat)(gs:Fw)(p:g8)(T:p.1.length<=100)(I:p.2.length<=400)(G:∀q∈c,q.2.length<=400)
  (M:∀o:List Int,o.length=m->f [tI o,.lst (aq d)]=.ok (tI (pick o d))):∀(l:List (List Int))(i:List g8)(j:Sl),(∀r∈l,r∈bj c/\r.length<=100/\(p.1++r).length=m)->i.length+l.length<=100000->
  ∃n,turns (a0 15) (OW f) (l.map tI) (jE A z y x w B c v u s d g gs i (.pu (tI p.1)) (.pu (.tup p.2)) j)=.nx (jE A z y x w B c v u s d g gs (Py d c p i l) (.pu (tI p.1)) (.pu (.tup p.2)) n):=by
 intro C;induction C with
 |nil=>rintro i j _ _;exact⟨j,rfl⟩
 |cons r l E=>
  rintro i j h L
  rw[aE]at L;have J:=vo i (pick (p.1++r) d) (p.2++um c r);obtain⟨n,e⟩:=E (j7 i (pick (p.1++r) d) (p.2++um c r)) _ (λq H=>h q (aY _ H)) (by lia);refine⟨n,?_⟩;obtain⟨g1,g2,O⟩:=h r aZ;rw[aR,cu (δ1:=jE A z y x w B c v u s d g gs i _ _ _) rfl];have N:OW f (jE A z y x w B c v u s d g gs i (.pu (tI p.1)) (.pu (.tup p.2)) (.pu (tI r)))=.nx (jE A z y x w B c v u s d g gs (j7 i (pick (p.1++r) d) (p.2++um c r)) (.pu (tI p.1)) (.pu (.tup p.2)) (.pu (tI r))):=by
   have Q:dj (.ja true (c.map rl)) (tI r)=some (.tup (um c r)):=by
    show(bw _).bind _=_;rw[lu];exact Ux g1
   exact MD rfl (by simp[jE,(M _ O),(Sm (a:=p.1) (b:=r) (by lia))]) (by simp[jE,Q,(Yf (a:=p.2) (b:=um c r) (by have:=X6 (r:=r) G;lia))]) (by lia)
  rwa [N]
def Vq(f c:List Nat)(e:List g8)(gs:Fw)(d b:List g8):List g8:=b.foldl (λa p=>Py f e p a (x8 gs (pick p.1 c))) d
def Z2(e b:List Nat)(g:List g8)(gs:Fw)(x:List Int):∀(a c:List g8),x∈bj (Vq e b g gs c a)↔x∈bj c\/∃p∈bj a,∃r∈x8 gs (pick p b),x=pick (p++r) e:=by
 intro d;induction d with
 |nil=>rintro c;simp[Vq]
 |cons p a f=>
  rintro c
  show x∈bj (Vq e b g gs _ a)↔_;rw[f,Z1];simp only[bj,aR,dM,exists_eq_or_imp,or_assoc]
def Qw(g d:List Nat)(f:List g8)(gs:Fw):∀(a b:List g8),(bj b).Nodup->(bj (Vq g d f gs b a)).Nodup:=by
 intro c;induction c with
 |nil=>rintro b h;exact h
 |cons p a e=>rintro b h;exact e _ (Pz g f p _ _ h)
theorem Oc(f c:List Nat)(e:List g8)(gs:Fw)(b:Nat):∀(a d:List g8),(∀p∈a,∀r,(p.2++um e r).length<=b)->(∀q∈d,q.2.length<=b)->∀q∈Vq f c e gs d a,q.2.length<=b
 |[],d,_,h=>h
 |p::a,d,g,h=>Oc f c e gs b a _ (λq i=>g q (aY _ i)) (Nw f e p b (g p aZ) _ _ h)
def AS(e b:List Nat)(d:List g8)(gs:Fw)(k:Nat)(h:∀q,(x8 gs q).length<=k):∀(a c:List g8),(Vq e b d gs c a).length<=c.length+a.length * k:=by
 intro f;induction f with
 |nil=>rintro c;simp[Vq]
 |cons p a g=>
  rintro c
  have l:=g (Py e d p c (x8 gs (pick p.1 b)));have j:=Nv e d p (x8 gs (pick p.1 b)) c;have i:=h (pick p.1 b);show(Vq e b d gs (Py e d p c _) a).length<=_;rw[aE,Nat.add_mul,Nat.one_mul]
  lia
def AR(f:List Pu.D->Res)(m L k:Nat)(H G E C B:Sl)(I:List Int)(n:List g8)(A z y:Sl)(o d:List Nat)(gs:Fw)(O:∀q∈n,q.2.length<=400)
  (hf:∀j:List Int,j.length=m->f [tI j,.lst (aq o)]=.ok (tI (pick j o)))(Q:∀j:List Int,j.length=L->f [tI j,.lst (aq d)]=.ok (tI (pick j d)))(hm:L<=100)
  (hg:∀q,∀r∈x8 gs q,r∈bj n/\r.length<=100/\L+r.length=m) (hk:∀q,(x8 gs q).length<=k):∀(i l:List g8)(u s g:Sl),(∀p∈i,p.1.length=L/\p.2.length<=400)->l.length+i.length * k<=100000->
  ∃x w v,turns (yt [13,14]) (PR f) (i.map λp=>Be (rl p)) (jE H G E C B I n A z y o d gs l u s g)=.nx (jE H G E C B I n A z y o d gs (Vq o d n gs l i) x w v):=by
 intro M;induction M with
 |nil=>rintro l u s g _ _;exact⟨u,s,g,rfl⟩
 |cons p i N=>
  rintro l u s g h hl
  rw[aE,Nat.add_mul,Nat.one_mul]at hl;have h2:=Nv o n p (x8 gs (pick p.1 d)) l;have h3:=hk (pick p.1 d);obtain⟨g1,g2⟩:=h p aZ;obtain⟨v,e1⟩:=Ze f m H G E C B I n A z y o d gs p (by lia) g2 O hf (x8 gs (pick p.1 d)) l g (λr Y=>by
   obtain⟨a,b,c⟩:=hg _ r Y;exact⟨a,b,by rwa [aM,g1]⟩) (by lia)
  obtain⟨x,w,J,e⟩:=N (Py o n p l (x8 gs (pick p.1 d))) _ _ v (λq hq=>h q (aY _ hq)) (by lia);refine⟨x,w,J,?_⟩;rw[aR,cu (δ1:=jE H G E C B I n A z y o d gs l (.pu (tI p.1)) (.pu (.tup p.2)) g) rfl];have U:aj (A7 (aa 11) (ah f (Pu.au (aa 13) (Pu.au (aa 10) af))) (cx af)) (jE H G E C B I n A z y o d gs l (.pu (tI p.1)) (.pu (.tup p.2)) g)=.ok ((x8 gs (pick p.1 d)).map tI):=by
   have T:A7 (aa 11) (ah f (Pu.au (aa 13) (Pu.au (aa 10) af))) (cx af) (jE H G E C B I n A z y o d gs l (.pu (tI p.1)) (.pu (.tup p.2)) g)=.ok (.lst ((x8 gs (pick p.1 d)).map tI)):=by
    rw[<-(Uv _ gs)];simp[jE,(Q p.1 g1),(lu _)]
   unfold aj;rw[T];rfl
  unfold PR;rwa [h9 U,e1]
def Sa(V:List Int)(S:(Int->Int)->Prop):Prop:=∀Z τ:Int->Int,(∀x∈V,Z x=τ x)->S Z->S τ
def Ao{a b:List Int}(h:a.length+b.length<=10000):bu (de a) (de b)=some (de (a++b)):=by
 show(if(a.map Pu.D.int).length+(b.map Pu.D.int).length<=aQ then some _ else none)=_;rw[aN (by rw[aF,aF,cR];lia),<-cO]
def Hf(Z:Int->Int)(l:List Int)(x:Int)(h:x∈l):(l.map Z).getD (l.idxOf x) 0=Z x:=by
 rw[aU,bJ,aW (cW h)];simp
def Jb{c d e:List Int}{b a Z:Int->Int}(l:∀x∈e,x∈c->Z x=b x)(j:∀x∈e,x∉c->x∈d/\Z x=a x):pick (c.map b++d.map a) (e.map (c++d).idxOf)=e.map Z:=by
 unfold pick;rw[bW];refine cM λx f=>?_;show(c.map b++d.map a).getD ((c++d).idxOf x) 0=Z x;rw[List.idxOf_append]
 by_cases h:x∈c
 ·rw[aN h,l x f h,<-Hf b c x h];rw[aU,cA (by rw[aF];exact(cW h)),aU]
 ·obtain⟨i,g⟩:=j x f h;rw[aK h,g,<-Hf a d x i];rw[aU,cK (by rw[aF];lia),aU,aF]
  congr 2
  lia
def P7(n:Nat){b1 b2:Nat}{o s wd:List Int}{Q O:List g8}{S1 S2:(Int->Int)->Prop}{V1 V2:List Int}(R1:Rep b1 o Q S1)(R2:Rep b2 s O S2)(hw:∀x∈wd,Ae x=true)(hwl:wd.length<=500)
  (d1:Sa V1 S1)(d2:Sa V2 S2)(s1:∀x∈o,x∈V1)(s2:∀x∈s,x∈V2)(hv:∀x∈V1,x∈V2->x∈o/\x∈s)(hc:o.length+s.length<=100)(hb1:b1<=200)(hb2:b2<=200)(l1:Q.length<=10000)(l2:O.length<=10000)(l12:Q.length * O.length<=100000):
  ∃c y,Rep (b1+b2) c y (λZ=>S1 Z/\S2 Z)/\y.length<=Q.length * O.length/\(∀x,x∈c↔x∈wd/\(x∈o\/x∈s))/\c.length<=o.length+s.length/\ae (tab (n+3)) ig [gi o Q,gi s O,de wd]=.ok (gi c y):=by
 have ε:=Rg (n+1) (r1:=Q) (r2:=O) R1.ck R2.ck (by lia);generalize I:(o.filter λx=>decide (x∈s))=f at ε;have m:∀x,x∈f↔x∈o/\x∈s:=λx=>by rw[<-I];simp
 have lsh:f.length<=o.length:=by rw[<-I];exact dD ..
 have η:∀x∈wd++f,Ae x=true:=λx d=>by
  rcases List.mem_append.mp d with z|z
  ·exact hw x z
  ·exact R1.ck x ((m x).mp z).1
 have ζ:(wd++f).length<=1000:=by rw[aM];lia
 obtain⟨N,G,l4,e4⟩:=yz n R1 η ζ l1;obtain⟨H,B,l5,e5⟩:=yz n R2 η ζ l2;have m4:∀x,x∈(o.filter λx=>decide (x∈wd++f))↔x∈o/\(x∈wd\/x∈f):=λx=>by simp
 have m5:∀x,x∈(s.filter λx=>decide (x∈wd++f))↔x∈s/\(x∈wd\/x∈f):=λx=>by simp
 have lc4:(o.filter λx=>decide (x∈wd++f)).length<=o.length:=dD ..;have lc5:(s.filter λx=>decide (x∈wd++f)).length<=s.length:=dD ..;generalize (o.filter λx=>decide (x∈wd++f))=i at *;generalize (s.filter λx=>decide (x∈wd++f))=g at *;have U:=Ao (a:=i) (b:=g.filter λx=> !decide (x∈f)) (by
  have:(g.filter λx=> !decide (x∈f)).length<=g.length:=dD ..
  lia)
 have lc7:(i++g.filter λx=> !decide (x∈f)).length<=i.length+g.length:=by
  rw[aM];have:(g.filter λx=> !decide (x∈f)).length<=g.length:=dD ..
  lia
 have m7:∀x,x∈(i++g.filter λx=> !decide (x∈f))↔x∈i\/(x∈g/\x∉f):=λx=>by simp
 have χ:(i++g.filter λx=> !decide (x∈f)).Nodup:=List.nodup_append.mpr ⟨G.cn,B.cn.filter _,λa ha b hb e=>by
  subst e;obtain⟨q1,q2⟩:=List.mem_filter.mp hb;have:=(m a).mpr ⟨((m4 a).mp ha).1,((m5 a).mp q1).1⟩;simp[this]at q2⟩
 generalize hc7:(i++g.filter λx=> !decide (x∈f))=E at *;have m8:∀x,x∈(E.filter λx=>decide (x∈wd))↔x∈wd/\(x∈o\/x∈s):=λx=>by
  rw[nH,m7,m4,m5,decide_eq_true_eq];constructor
  ·rintro ⟨(⟨a,_⟩|⟨⟨a,_⟩,_⟩),b⟩
   ·exact⟨b,.inl a⟩
   ·exact⟨b,.inr a⟩
  ·rintro ⟨b,a|a⟩
   ·exact⟨.inl ⟨a,.inl b⟩,b⟩
   ·by_cases q:x∈f
    ·exact⟨.inl ⟨((m x).mp q).1,.inl b⟩,b⟩
    ·exact⟨.inr ⟨⟨a,.inl b⟩,q⟩,b⟩
 have l:∀x∈(E.filter λx=>decide (x∈wd)),x∈i++g:=λx d=>by
  rcases(m7 x).mp (List.mem_filter.mp d).1 with z|z
  ·exact List.mem_append.mpr (.inl z)
  ·exact List.mem_append.mpr (.inr z.1)
 have φ:=χ.filter λx=>decide (x∈wd);have lc8:(E.filter λx=>decide (x∈wd)).length<=E.length:=dD ..;have Δ:∀x∈E,Ae x=true:=λx d=>by
  rcases(m7 x).mp d with z|z
  ·exact G.ck x z
  ·exact B.ck x z.1
 have ξ:∀x∈i++g,Ae x=true:=λx d=>by
  rcases List.mem_append.mp d with z|z
  ·exact G.ck x z
  ·exact B.ck x z
 have μ:∀δ:En,δ[2]?=some (.bo (de wd))->δ[7]?=some (.pu (de E))->az (aj (aa 7)) [2] (g2 j5 (aa 0) (aa 1)) _ δ=.ok (.lst ((E.filter λx=>decide _).map Pu.D.int)):=λδ e2 e7=>
  d5 (b:=λx=>decide (x∈wd)) (by simp[e7]) (by lia) λx d=>by
   have e:=(wj (x:=x) hw (Δ x d)).1;simp[fe,e2,e]
 have ν:∀δ:En,δ[3]?=some (.pu (de f))->δ[5]?=some (.pu (gi g H))->az (gz (fq xs.cls "columns" (aa 5))) [3] (g2 gw (aa 0) (aa 1)) _ δ=.ok (.lst ((g.filter λx=> !decide _).map Pu.D.int)):=λδ e3 e5=>
  d5 (b:=λx=> !decide (x∈f)) (by simp[e5]) (by lia) λx d=>by
   have e:=(wj (x:=x) (λx d=>R1.ck x ((m x).mp d).1) (B.ck x d)).2;simp[fe,e3,e]
 have j:∀x∈f,x∈i:=λx d=>(m4 x).mpr ⟨((m x).mp d).1,.inr d⟩;have u:∀x∈f,x∈g:=λx d=>(m5 x).mpr ⟨((m x).mp d).2,.inr d⟩;obtain⟨gs,κ,C⟩:=Ct n B u (by lia) (by lia);generalize hc8:(E.filter λx=>decide (x∈wd))=Y at *;have θ:∀q∈Y.map (i++g).idxOf,q<i.length+g.length:=λq w=>by
  obtain⟨x,d,rfl⟩:=List.mem_map.mp w;have:=cW (l x d);rwa [aM]at this
 have T:∀q∈f.map i.idxOf,q<i.length:=λq w=>by
  obtain⟨x,d,rfl⟩:=List.mem_map.mp w;exact cW (j x d)
 have L:∀q,(x8 gs q).length<=H.length:=λq=>by
  rw[C];exact cG (dD ..) (by simp[bj])
 have hll:=Nat.mul_le_mul l4 l5;obtain⟨w13,w14,w15,e⟩:=AR _ _ i.length H.length (.pu (gi o Q)) (.pu (gi s O)) (.bo (de wd)) (.pu (de f)) (.pu (gi i N)) g H (.pu (de (i++g))) (.pu (de E)) (.ow (Y.map Pu.D.int)) _ _ gs
  (λq w=>cG (B.vb q w) (by lia))
  (λM A=>oi _ M _ (λq w=>by rw[A];exact θ q w) (by rw[aF];lia))
  (λM A=>oi (n+1) M _ (λq w=>by rw[A];exact T q w) (by rw[aF];lia)) (by lia)
  (λq r hr=>by
   rw[C]at hr;have hk:=(List.mem_filter.mp hr).1;obtain⟨p,J,rfl⟩:=List.mem_map.mp hk;have:=B.len J;exact⟨hk,by lia,by lia⟩) L N [] .no .no .no (λp J=>⟨G.len J,cG (G.vb p J) (by lia)⟩) (by simp;lia)
 have ι:=AS (Y.map (i++g).idxOf) (f.map i.idxOf) H gs H.length L N [];refine⟨Y,Vq (Y.map (i++g).idxOf) (f.map i.idxOf) H gs [] N,⟨φ,λx d=>ξ x (l x d),by lia,Qw _ _ _ _ N [] fE,λr=>?_,?_⟩,by simp at ι;lia,m8,by lia,?_⟩
 ·rw[Z2];constructor
  ·rintro (h|⟨p,J,q,w,rfl⟩)
   ·simp at h
   ·rw[C,nH,decide_eq_true_eq]at w;obtain⟨γ,g1,rfl⟩:=(G.mem p).mp J;obtain⟨β,g2,rfl⟩:=(B.mem q).mp w.1;have ha:=w.2;rw[j4 u,j4 j]at ha;refine⟨λx=>if x∈V1 then γ x else β x,⟨d1 γ _ (λx d=>by simp[d]) g1,d2 β _ (λx d=>?_) g2⟩,?_⟩
    ·by_cases h:x∈V1
     ·simp[h];exact(λx d=>List.map_inj_left.mp ha x d) x ((m x).mpr (hv x h d))
     ·simp[h]
    ·refine Jb (λx d h=>?_) λx d h=>?_
     ·have:=s1 x ((m4 x).mp h).1;simp[this]
     ·have h5:=(List.mem_append.mp (l x d)).resolve_left h;refine⟨h5,?_⟩;have:x∉V1:=λz=>h (j x ((m x).mpr (hv x z (s2 x ((m5 x).mp h5).1))));simp[this]
  ·rintro ⟨Z,⟨g1,g2⟩,rfl⟩
   refine .inr ⟨i.map Z,(G.mem _).mpr ⟨Z,g1,rfl⟩,g.map Z,?_,(Jb (λ_ _ _=>rfl) λx d h=>⟨(List.mem_append.mp (l x d)).resolve_left h,rfl⟩).symm⟩;rw[C,nH,decide_eq_true_eq,j4 u,j4 j];exact⟨(B.mem _).mpr ⟨Z,g2,rfl⟩,rfl⟩
 ·refine Oc _ _ _ _ _ N [] (λp J r=>?_) (by simp);rw[aM];exact Nat.add_le_add (G.vb p J) (X6 B.vb)
 ·rw[Te];unfold jE PR OW at e;simp only[fO]at e;have v:=λω=>(h9 (r:=lq (fq xs.cls "rows" (aa 4))) ω).trans e;replace v:=v (by simp);simp[Ar,ε,(Ao (a:=wd) (b:=f) (by lia)),e4,e5,(Ao (a:=i) (b:=g) (by lia))];rw[ν _ rfl rfl];simp[U];rw[μ _ rfl rfl];simp only[bW]at κ v;simp[(ko (n+1) ξ (by rw[aM];lia) l (by lia)),(ko (n+1) G.ck (by lia) j (by lia)),κ,tq,v,(E4 Y (Vq (Y.map (i++g).idxOf) (f.map i.idxOf) H gs [] N))]
end LK
end
section
set_option genInjectivity true
namespace LK
open PySem PySem.Spec PyProof.Rows Pu
structure FT where
 c:List Int
 r:List g8
 S:(Int->Int)->Prop
structure FT.ok(f:FT):Prop where
 rep:Rep 1 f.c f.r f.S
 dep:Sa f.c f.S
 lr:f.r.length<=7
 lc:f.c.length<=5
def FT.D(f:FT):Pu.D:=gi f.c f.r
def fy(fs:List FT):List Int:=fs.flatMap (·.c)
def Ee(fs:List FT)(Z:Int->Int):Prop:=∀f∈fs,f.S Z
def S8(a l:List Pu.D)(d:Pu.D):S5 (a++d::l) (some ((a.length:Int)+1)) none=l:=by
 unfold S5;rw[HT.W5,show(_+1)=((a.length+1:Nat):Int) by lia,HT.BF];have b:(a++d::l).length=a.length+1+l.length:=by simp;lia
 rw[b,Nat.min_eq_left (by lia)];have:(a++d::l).drop (a.length+1)=l:=by
  simp
 rw[this];exact dJ (by lia)
def Ld(j i g d b:Sl):∀(l:List FT)(a:List Int)(m:Sl),a.length+(fy l).length<=10000->
  ∃o,turns (a0 6) (vg 5 (fq xs.cls "columns" (aa 6))) (l.map FT.D) [j,i,g,d,b,.ow (a.map Pu.D.int),m]=.nx [j,i,g,d,b,.ow ((a++fy l).map Pu.D.int),o]:=by
 intro n;induction n with
 |nil=>rintro a m _;exact⟨m,by simp[turns,fy]⟩
 |cons f l p=>
  rintro a m h
  have r:(fy (f::l)).length=f.c.length+(fy l).length:=by simp[fy]
  obtain⟨o,e⟩:=p (a++f.c) _ (by rw[aM];lia);refine⟨o,?_⟩;rw[aR,cu (δ1:=[j,i,g,d,b,.ow _,.pu f.D]) rfl];have q:vg 5 (fq xs.cls "columns" (aa 6)) [j,i,g,d,b,.ow (a.map Pu.D.int),.pu f.D]=.nx [j,i,g,d,b,.ow ((a++f.c).map Pu.D.int),.pu f.D]:=by
   have:a.length+f.c.length<=16777216:=by lia
   simp[FT.D,sr,this]
  rw[q];dsimp only;rw[e,show fy (f::l)=f.c++fy l by simp[fy],cD]
def OZ(f:List Pu.D->Res):En->Out:=(bg (cq 5 (g1 fo (aa 1)))
 (bg (ft (a0 6) (aj (KF (aa 0) (some (g2 bu (aa 3) (gC (.int 1)))) none)) (vg 5 (fq xs.cls "columns" (aa 6))))
 (fz [2,4] (e9 2 (ah f (Pu.au (b8 2) (Pu.au (b8 4) (Pu.au (aa 5) af))))))))
def V9(k:Nat)(h:k<=5):7 ^ k<=16807:=cG (Nat.pow_le_pow_right (by decide) h) (by decide)
def Pg:∀(l:List FT),(∀f∈l,f.ok)->(fy l).length<=5 * l.length:=by
 intro a;induction a with
 |nil=>rintro _;simp[fy]
 |cons f l b=>
  rintro h
  have j:=b λg d=>h g (aY _ d);have i:=(h f aZ).lc;have e:(fy (f::l)).length=f.c.length+(fy l).length:=by simp[fy]
  rw[e,aE]
  lia
def Yg(n:Nat)(j:List Int)(Y:∀x∈j,Ae x=true)(ξ:j.length<=200):∀(l d:List FT)(c:List Int)(e:List g8)(J I w q:Sl),(∀f∈d++l,f.ok)->(d++l).length<=5->Rep d.length c e (Ee d)->e.length<=7 ^ d.length->c.length<=5 * d.length->(∀x,x∈c↔x∈fy d/\(x∈j\/x∈fy l))->
  ∃s i T Q O H,Rep (d++l).length s i (Ee (d++l))/\i.length<=7 ^ (d++l).length/\s.length<=5 * (d++l).length/\(∀x,x∈s↔x∈fy (d++l)/\x∈j)/\
   turns (yt [3,4]) (OZ (ae (tab (n+3)) ig)) (rj d.length (l.map FT.D)) [.bo (.lst ((d++l).map FT.D)),.bo (de j),.pu (gi c e),J,I,w,q]=.nx [.bo (.lst ((d++l).map FT.D)),.bo (de j),.pu (gi s i),T,Q,O,H]:=by
 intro M;induction M with
 |nil=>
  rintro d c e J I w q _ _ R hr hc C
  rw[bT];exact⟨c,e,J,I,w,q,R,hr,hc,λx=>by rw[C x];simp[fy],rfl⟩
 |cons f l U=>
  rintro d c e J I w q r E R hr hc C
  have A:=r f (by simp);have σ:d.length+(l.length+1)<=5:=by simpa using E
  have θ:7 ^ d.length<=2401:=cG (Nat.pow_le_pow_right (by decide) (show d.length<=4 by lia)) (by decide);have υ:=Pg l λg v=>r g (by simp[v]);obtain⟨H,el⟩:=Ld _ _ _ _ _ l j q (by lia);have ι:=Nat.mul_le_mul hr A.lr;obtain⟨s,i,R',h1,h2,h3,ej⟩:=P7 n (wd:=j++fy l) R A.rep (λx m=>by
   rcases List.mem_append.mp m with z|z
   ·exact Y x z
   ·obtain⟨g,v,m⟩:=List.mem_flatMap.mp z;exact(r g (by simp[v])).rep.ck x m) (by rw[aM];lia) (λZ τ h g x m=>(r x (by simp[m])).dep Z τ (λy hy=>h y (List.mem_flatMap.mpr ⟨x,m,hy⟩)) (g x m)) A.dep (λx m=>((C x).mp m).1) (λx m=>m) (λx m B=>⟨(C x).mpr ⟨m,.inr (by simp[fy,B])⟩,B⟩) (by have:=A.lc;lia) (by lia) (by decide) (by lia) (by have:=A.lr;lia) (by lia)
  have ea:d++f::l=(d++[f])++l:=by simp
  have R2:Rep (d++[f]).length s i (Ee (d++[f])):=by
   have e1:(λZ=>Ee d Z/\f.S Z)=Ee (d++[f]):=by
    funext Z
    refine propext ⟨λh g v=>?_,λh=>⟨λg v=>h g (by simp[v]),h f (by simp)⟩⟩;rcases List.mem_append.mp v with z|z
    ·exact h.1 g z
    ·rw[List.mem_singleton.mp z];exact h.2
   rw[e1]at R';simpa using R'
  obtain⟨c2,u,T,Q,O,N,q1,q2,q3,q4,q5⟩:=U _ s i _ _ _ H (by rwa [<-ea]) (by rwa [<-ea]) R2 (by rw[aM,eD,pG];lia) (by have:=A.lc;simp;lia) (λx=>by
   rw[h2 x,C x];simp only[fy,List.flatMap_append,oN,List.flatMap_nil,nG,bT];constructor
   ·rintro ⟨a,b|b⟩
    ·exact⟨.inl b.1,a⟩
    ·exact⟨.inr b,a⟩
   ·rintro ⟨a|a,b⟩
    ·exact⟨b,.inl ⟨a,b.elim .inl λz=>.inr (.inr z)⟩⟩
    ·exact⟨b,.inr a⟩)
  rw[<-ea]at q1 q2 q3 q4 q5;refine⟨c2,u,T,Q,O,N,q1,q2,q3,q4,?_⟩;rw[aR,rj,cu (δ1:=[.bo _,.bo _,.pu _,.pu _,.pu f.D,w,q]) rfl];have hb:OZ (ae (tab (n+3)) ig) [.bo (.lst ((d++f::l).map FT.D)),.bo (de j),.pu (gi c e),.pu (.int d.length),.pu f.D,w,q]=.nx [.bo (.lst ((d++f::l).map FT.D)),.bo (de j),.pu (gi s i),.pu (.int d.length),.pu f.D,.ow ((j++fy l).map Pu.D.int),H]:=by
   have Y:aj (KF (aa 0) (some (g2 bu (aa 3) (gC (.int 1)))) none) [.bo (.lst ((d++f::l).map FT.D)),.bo (de j),.pu (gi c e),.pu (.int d.length),.pu f.D,.ow (j.map Pu.D.int),q]=.ok (l.map FT.D):=by
    have p:=S8 (d.map FT.D) (l.map FT.D) f.D;rw[aF]at p;rw[show d.map FT.D++f.D::l.map FT.D=(d++f::l).map FT.D by simp]at p;have hs:KF (aa 0) (some (g2 bu (aa 3) (gC (.int 1)))) none [.bo (.lst ((d++f::l).map FT.D)),.bo (de j),.pu (gi c e),.pu (.int d.length),.pu f.D,.ow (j.map Pu.D.int),q]=.ok (.lst (l.map FT.D)):=by
     show Res.of (some _)=_;rw[p];rfl
    unfold aj;rw[hs];rfl
   have o:=(h9 Y).trans el;have G:ae _ ig [gi c e,f.D,.lst _]=.ok _:=ej;unfold OZ;generalize (j++fy l).map Pu.D.int=W at o G⊢;generalize (d++f::l).map FT.D=L at o⊢;simp[fo,o,G]
  rw[hb];rw[show d.length+1=(d++[f]).length by simp];exact q5
def Cs(n:Nat){b:List Int}{fs:List FT}(s:∀x∈b,Ae x=true)(i:b.length<=200)(j:∀f∈fs,f.ok)(o:fs.length<=5):
  ∃c a,Rep fs.length c a (Ee fs)/\a.length<=16807/\c.length<=25/\(∀x,x∈c↔x∈fy fs/\x∈b)/\ae (tab (n+4)) f6 [.lst (fs.map FT.D),de b]=.ok (gi c a):=by
 obtain⟨c,a,E,C,B,A,q,y,w,p,m⟩:=Yg n b s i fs [] [] [([],[])] .no .no .no .no (by simpa using j) (by simpa using o) (⟨fE,by simp,by simp,by simp,λr=>⟨λh=>⟨λ_=>0,λ_ z=>(nomatch z),by simpa using h⟩,by rintro ⟨Z,_,e⟩;simpa using e⟩,by simp⟩) (by simp) (by simp) (by simp[fy]);rw[iD]at q y w p m;have G:=V9 fs.length o;refine⟨c,a,q,by lia,by lia,p,?_⟩;rw[Er];unfold OZ at m;have l:Dl (wc 0) [.bo (.lst (fs.map FT.D)),.bo (de b),.pu (gi [] [([],[])]),.no,.no,.no,.no]=.ok _:=rfl;have d:=(h9 l).trans m;have g:∀δ,A6 (h8 af) (h8 af) δ=.ok (.ja true ([([],[])].map rl)):=λδ=>rfl;have u:=E4 [] [([],[])];simp[o4,g];have v:(Pu.D.obj _ [("columns",.lst []),("rows",.ja true [rl _])])=gi [] [([],[])]:=rfl;rw[v,d];simp
def pD(p:Bool×Int):Pu.D:=.tup [.bl p.1,.int p.2]
def Fx(c a:List Int):Bool×Int:=(((c.filter λx=> !decide (x∈a)).length:Int)==(c.length:Int),((c.filter λx=> !decide (x∈a)).length:Nat))
def Yt(n:Nat){c a:List Int}{r:List g8}(g:∀x∈c,Ae x=true)(f:∀x∈a,Ae x=true)(i:c.length<=1000):ae (tab (n+1)) bq [gi c r,de a]=.ok (pD (Fx c a)):=by
 rw[A1];have d:az (gz (fq xs.cls "columns" (aa 0))) [1] (g2 gw (aa 0) (aa 1)) _ [.bo (gi c r),.bo (de a),.no,.no]=.ok (.lst ((c.filter λx=> !decide _).map Pu.D.int)):=
  d5 (b:=λx=> !decide (x∈a)) (by simp) (by omega) λx e=>by
   simp[fe,((wj (x:=x) f (g x e)).2)]
 have h:(c.filter λx=> !decide (x∈a)).length<=c.length:=dD ..;simp only[l6];unfold Fx;generalize (c.filter λx=> !decide (x∈a))=l at d h⊢;simp[d,(by omega),(by omega),pD]
def Qx:∀b:List (Bool×Int),tf (b.map pD)=some b:=by
 intro a;induction a with
 |nil=>exact rfl
 |cons p b c=>
  show(tf _).map _=_;rw[c];rfl
def J8(c:Nat->Nat->Bool):∀k,nN c k<=k:=by
 intro a;induction a with
 |zero=>exact aJ _
 |succ k b=>
  have:=b;unfold nN;split<;>lia
def Qn{a:List (Bool×Int)}(h:a≠[]):∃p∈a,nv (.lst (a.map pD))=some (pD p):=by
 unfold nv;dsimp only;rw[Qx];dsimp only;rw[aK h];have d:=List.length_pos_iff.mpr h;have c:=J8 (λi j=>LS (a.getD i (false,0)) (a.getD j (false,0))) (a.length - 1);generalize nN _ _=k at c;have b:k<a.length:=by lia
 exact⟨a[k],iV b,by rw[bJ,aW b];rfl⟩
def pP(p:Bool×Int):jD:=.tuple [.bool p.1,.int p.2]
def Xu:∀b:List (Bool×Int),c9 (b.map pD)=some (b.map pP):=by
 intro a;induction a with
 |nil=>exact rfl
 |cons p b c=>
  rw[aR];unfold c9;rw[c];rfl
def Pe:∀c:List (Bool×Int),bP (c.map pP)=true:=by
 intro a;induction a with
 |nil=>exact rfl
 |cons p c b=>
  show(fT _ && bP _)=true;rw[b];rfl
def FV(p:Bool×Int):cV (pP p) (pP p)=true:=by
 obtain⟨b,i⟩:=p;show((b==b) && ((i==i) && true))=true;simp
def Hg{a:List (Bool×Int)}{p:Bool×Int}(b:p∈a)(f:a.length<=1000):∃j:Nat,j<a.length/\g9 (.lst (a.map pD)) (pD p)=some (.int j):=by
 have d:cf (pD p)=some (pP p):=rfl;have c:bU (pP p)=true:=rfl;unfold g9;dsimp only;rw[Xu,d];dsimp only;rw[Pe,c,decide_eq_true (by rw[aF,cR];lia)];unfold A4;cases e:(a.map pP).findIdx? λy=>cV y _ with
 |none=>
  rw[List.findIdx?_eq_none_iff]at e;have:=e _ (List.mem_map.mpr ⟨p,b,rfl⟩);rw[FV]at this;cases this
 |some j=>
  have:=(List.findIdx?_eq_some_iff_findIdx_eq.mp e).1;rw[aF]at this;exact⟨j,this,rfl⟩
theorem kl{α:Type}:∀(l:List α)(i:Nat)(h:i<l.length),(l[i]::l.eraseIdx i).Perm l
 |[],_,h=>by simp at h
 |a::l,0,_=>by simp
 |a::l,i+1,h=>by
  exact(iU a _ _).trans ((kl l i (by simpa using h)).cons a)
theorem Dk{α β:Type}(f:α->β):∀(l:List α)(i:Nat),(l.map f).eraseIdx i=(l.eraseIdx i).map f
 |[],_=>rfl
 |_::_,0=>rfl
 |a::l,i+1=>by
  show f a::(l.map f).eraseIdx i=f a::(l.eraseIdx i).map f;rw[Dk f l i]
def Uj{fs:List FT}{i:Nat}(h:i<fs.length):dj (.lst (fs.map FT.D)) (.int (i:Int))=some (fs[i]).D:=L2.Nf (by rw[bJ,aW h];rfl)
def Tp{fs:List FT}(s:∀f∈fs,f.ok)(p o n m:Sl):∀(d:List Nat)(b:List Int)(e:Sl),(∀i∈d,i<fs.length)->(∀x∈b,Ae x=true)->b.length+5 * d.length<=1000->
  ∃(l:Sl) (a:List Int),(∀x∈a,Ae x=true)/\a.length<=b.length+5 * d.length/\Gx 3 5 (fq xs.cls "columns" (g2 dj (aa 0) (aa 3))) (aq d) [.bo (.lst (fs.map FT.D)),p,o,e,n,.ow (b.map Pu.D.int),m]=some [.bo (.lst (fs.map FT.D)),p,o,l,n,.ow (a.map Pu.D.int),m]:=by
 intro h;induction h with
 |nil=>rintro b e _ u _;exact⟨e,b,u,by simp,rfl⟩
 |cons i d q=>
  rintro b e A u H
  rw[aE]at H;have w:=A i aZ;have y:=s _ (iV w);have I:=y.lc;obtain⟨l,a,C,B,v⟩:=q _ _ (λj E=>A j (aY _ E)) (λx g=>by
   rcases List.mem_append.mp g with z|z
   ·exact u x z
   ·exact y.rep.ck x z) (by rw[aM];lia)
  refine⟨l,a,C,by rw[aM]at B;rw[aE];lia,?_⟩;have g:=Uj w;have r:b.length+(fs[i]).c.length<=aQ:=by rw[cR];lia
  show Gx 3 5 _ (.int _::aq d) _=_;unfold Gx;generalize (fs.map FT.D)=L at g v⊢;simp only[nY,List.set_cons_zero];have G:fq xs.cls "columns" (g2 dj (aa 0) (aa 3)) [.bo (.lst L),p,o,.pu (.int i),n,.ow (b.map Pu.D.int),m]=.ok (de (fs[i]).c):=by
   simp[g,FT.D]
  rw[G];simp only[gA,fX,sr];rw[aN (by rw[aF,aF];exact r),<-cO];exact v
def LG(f:List Pu.D->Res):En->Out:=(bg (cq 5 (cx af))
 (bg (B7 2 3 5 (fq xs.cls "columns" (g2 dj (aa 0) (aa 3))) (ft (a0 3) (aj (wc 2)) (vg 5 (fq xs.cls "columns" (g2 dj (aa 0) (aa 3))))))
 (bg (cq 6 (az (aj (aa 4)) [5,0] (gC (.bl true)) (ah f (Pu.au (g2 dj (aa 2) (aa 0)) (Pu.au (aa 1) af)))))
 (qo 2 4 (gM g9 (aa 6) (g1 nv (aa 6)))))))
def Ay(fs:List FT)(a:List Int)(i:Nat):Bool×Int:=match fs[i]? with
 |some f=>Fx f.c a
 |none=>(false,0)
def AZ(n:Nat){fs:List FT}(q:∀f∈fs,f.ok)(d v I l:Sl){od a:List Nat}(Q:∀i∈od,i<fs.length)(B:∀i∈a,i<fs.length)(O:od.length<=100)(hl:a.length<=100)(y:a≠[]):
  ∃e H G,∃j,∃h:j<a.length,LG (ae (tab (n+1)) bq) [.bo (.lst (fs.map FT.D)),d,.ow (aq od),v,.ow (aq a),I,l]=.nx [.bo (.lst (fs.map FT.D)),d,.ow (aq (od++[a[j]])),e,.ow (aq (a.eraseIdx j)),H,G]:=by
 obtain⟨e,b,J,k2,E⟩:=Tp q d _ _ l od [] v Q (by simp) (by simp;lia);have g:az (aj (aa 4)) [5,0] _ (ah (ae (tab (n+1)) bq) (Pu.au (g2 dj (aa 2) (aa 0)) (Pu.au (aa 1) af))) [.bo (.lst (fs.map FT.D)),d,.ow (aq od),e,.ow (aq a),.ow (b.map Pu.D.int),l]=.ok (.lst (a.map λi=>pD (Ay fs b i))):=
  ie (f:=λ(p:Nat)=>Pu.D.int (p:Int)) (by simp[aq]) (by lia) λi r=>by
   have w:=Uj (B i r);have s:=q _ (iV (B i r));have C:Ay fs b i=Fx (fs[i]'(B i r)).c b:=by unfold Ay;rw[aW]
   rw[C];generalize (fs.map FT.D)=L at w⊢;unfold FT.D at w;simp[fe,w,(Yt n s.rep.ck J (by have:=s.lc;lia))]
 have x:(a.map λi=>pD (Ay fs b i))=(a.map (Ay fs b)).map pD:=by rw[bW];rfl
 rw[x]at g;have o:(a.map (Ay fs b)).length=a.length:=aF ..;have m:a.map (Ay fs b)≠[]:=by simpa using y
 generalize a.map _=u at g o m;obtain⟨p,N,T⟩:=Qn m;obtain⟨j,z,r⟩:=Hg N (by lia);rw[o]at z;refine⟨e,.ow (b.map Pu.D.int),.ow (u.map pD),j,z,?_⟩;have Y:D1 2 3 5 (fq xs.cls "columns" (g2 dj (aa 0) (aa 3))) [.bo (.lst (fs.map FT.D)),d,.ow (aq od),v,.ow (aq a),.ow [],l]=.nx [.bo (.lst (fs.map FT.D)),d,.ow (aq od),e,.ow (aq a),.ow (b.map Pu.D.int),l]:=by
  unfold D1;simp only[gA,fX];rw[aN (by decide)];simp only[fO]at E;rw[E]
 have hA:qo 2 4 (gM g9 (aa 6) (g1 nv (aa 6))) [.bo (.lst (fs.map FT.D)),d,.ow (aq od),e,.ow (aq a),.ow (b.map Pu.D.int),.ow (u.map pD)]=.nx [.bo (.lst (fs.map FT.D)),d,.ow (aq (od++[a[j]])),e,.ow (aq (a.eraseIdx j)),.ow (b.map Pu.D.int),.ow (u.map pD)]:=by
  have A:gM g9 (aa 6) (g1 nv (aa 6)) [.bo (.lst (fs.map FT.D)),d,.ow (aq od),e,.ow (aq a),.ow (b.map Pu.D.int),.ow (u.map pD)]=.ok (.int j):=by
   simp[T,r]
  unfold qo;rw[A];simp only[gA,fX];have M:oS (j:Int) (aq a).length=some j:=by
   unfold oS aq;simp
   lia
  rw[M];dsimp only;have U:(aq a)[j]?=some (.int (a[j]:Nat)):=by
   unfold aq;rw[bJ,aW z];rfl
  rw[U];dsimp only;rw[aN ⟨by decide,by unfold aq;rw[aF,cR];lia,by lia,by lia⟩];simp[aq,Dk]
 simp[LG,Y,g,hA]
def Z9(n:Nat){fs:List FT}(A:∀f∈fs,f.ok)(p:Sl):∀(m b:Nat)(od c:List Nat)(l h g:Sl),c.length=m->m<b->(∀i∈od,i<fs.length)->(∀i∈c,i<fs.length)->od.length+c.length<=100->
  ∃d x w v,d.Perm (od++c)/\yg (A8 (aa 4)) (LG (ae (tab (n+1)) bq)) b [.bo (.lst (fs.map FT.D)),p,.ow (aq od),l,.ow (aq c),h,g]=.nx [.bo (.lst (fs.map FT.D)),p,.ow (aq d),x,.ow [],w,v]:=by
 intro u;induction u with
 |zero=>
  rintro b od c l h g q G B s M
  have:=List.length_eq_zero_iff.mp q;subst this;cases b with
  |zero=>lia
  |succ k=>
   refine⟨od,l,h,g,by simp,?_⟩;rfl
 |succ m y=>
  rintro b od c l h g q G B s M
  have o:c≠[]:=λz=>by rw[z]at q;cases q
  obtain⟨x,w,v,j,C,e⟩:=AZ n A p l h g B s (by lia) (by lia) o;have O:=List.length_eraseIdx_of_lt C;cases b with
  |zero=>lia
  |succ k=>
   obtain⟨d,J,I,H,N,Q⟩:=y k _ (c.eraseIdx j) x w v (by lia) (by lia) (λi E=>by
    rcases List.mem_append.mp E with z|z
    ·exact B i z
    ·rw[List.mem_singleton.mp z];exact s _ (iV C)) (λi E=>s i (List.mem_of_mem_eraseIdx E)) (by rw[aM,eD];lia)
   refine⟨d,J,I,H,N.trans ?_,?_⟩
   ·rw[cD];exact(List.Perm.append_left od (kl c j C))
   ·unfold yg;have L:A8 (aa 4) [.bo (.lst (fs.map FT.D)),p,.ow (aq od),l,.ow (aq c),h,g]=.ok (.bl true):=by
     obtain⟨a,r,rfl⟩:=List.exists_cons_of_ne_nil o;rfl
    rw[L];rwa [e]
def Vp(n:Nat){fs:List FT}(g:∀f∈fs,f.ok)(u:fs.length<=100):∃od,od.Perm (aS fs.length)/\ae (tab (n+2)) i8 [.lst (fs.map FT.D),.lst []]=.ok (.lst (aq od)):=by
 have a:∃od o m j,od.Perm ([]++aS fs.length)/\MK (A8 (aa 4)) (LG (ae (tab (n+1)) bq)) [.bo (.lst (fs.map FT.D)),.bo (.lst []),.ow (aq []),.no,.ow (aq (aS fs.length)),.no,.no]=.nx [.bo (.lst (fs.map FT.D)),.bo (.lst []),.ow (aq od),o,.ow [],m,j]:=by
  have q:fs.length<J4:=by unfold J4;lia
  unfold MK;generalize J4=W at q;exact Z9 n g _ fs.length W [] _ .no .no .no (by simp) q (by simp) (by simp) (by simp;lia)
 obtain⟨od,o,m,j,s,e⟩:=a;refine⟨od,by simpa using s,?_⟩;show g7 (q9 (n+1) [.bo (.lst (fs.map FT.D)),.bo (.lst []),.no,.no,.no,.no,.no])=_;have d:=mm [.bo (.lst (fs.map FT.D)),.bo (.lst []),.ow [],.no,.no,.no,.no] (Pu.au (g1 nj (aa 0)) af) (j':=fs.length) (by
  have:fs.length<=16777216:=by lia
  simp[this]) (by lia)
 rw[dU]at d;have c:ji 0 fs.length=aq (aS fs.length):=by
  refine cM λi _=>?_;rw[Int.zero_add]
 rw[c]at d;have h:az (cy (Pu.au (g1 nj (aa 0)) af)) [2] (g2 gw (aa 0) (aa 1)) (b8 0) [.bo (.lst (fs.map FT.D)),.bo (.lst []),.ow [],.no,.no,.no,.no]=.ok (.lst (aq (aS fs.length))):=by
  have:=d5 (t:=g2 gw (aa 0) (aa 1)) (ix:=[2]) (l:=aS fs.length) (f:=λp=>Pu.D.int _) (b:=λ_=>true) d (by simp;lia) λi _=>rfl;rw[List.filter_eq_self.mpr (λ_ _=>rfl)]at this;exact this
 unfold LG at e;have r:fz [3] (cq 4 (az (cy (Pu.au (g1 nj (aa 0)) af)) [2] (g2 gw (aa 0) (aa 1)) (b8 0))) [.bo (.lst (fs.map FT.D)),.bo (.lst []),.ow [],.no,.no,.no,.no]=.nx [.bo (.lst (fs.map FT.D)),.bo (.lst []),.ow [],.no,.ow (aq (aS fs.length)),.no,.no]:=by
  simp[h]
 unfold q9;rw[fm,show cq 2 _ [.bo _,.bo _,.no,.no,.no,.no,.no]=.nx [.bo _,.bo _,.ow [],.no,.no,.no,.no]from rfl];dsimp only;rw[fm,r];dsimp only;rw[fm,ou];rw[show aq []=[]from rfl]at e;rw[e];rfl
def Vo(n m:Nat)(b:m=n+2){fs:List FT}(a:∀f∈fs,f.ok)(c:fs.length<=100):∃od,od.Perm (aS fs.length)/\ae (tab m) i8 [.lst (fs.map FT.D),.lst []]=.ok (.lst (aq od)):=by
 subst b;exact Vp n a c
instance:Inhabited FT:=⟨⟨[],[],λ_=>True⟩⟩
def Ma(fs:List FT):(aS fs.length).map (λi=>fs.getD i mP)=fs:=by
 refine kF (by simp) λi b a=>?_;simp[aW a]
def Ks(F h:List Pu.D->Res){fs:List FT}{c:List Int}{od:List Nat}{d:Pu.D}(b:∀i∈od,i<fs.length)(n:od.length<=100)(l:F [.lst (fs.map FT.D),.lst []]=.ok (.lst (aq od)))
  (e:h [.lst ((od.map λi=>fs.getD i mP).map FT.D),de c]=.ok d):
  g7 (f9 (ah h (Pu.au (az (aj (ah F (Pu.au (aa 0) (Pu.au (cx af) af)))) [0] (gC (.bl true)) (g2 dj (aa 1) (aa 0))) (Pu.au (aa 1) af))) [.bo (.lst (fs.map FT.D)),.bo (de c)])=.ok d:=by
 have a:az (aj (ah F (Pu.au (aa 0) (Pu.au (cx af) af)))) [0] (gC (.bl true)) (g2 dj (aa 1) (aa 0)) [.bo (.lst (fs.map FT.D)),.bo (de c)]=.ok (.lst (od.map λi=>(fs.getD i mP).D)):=by
  refine ie (f:=λ(p:Nat)=>Pu.D.int (p:Int)) ?_ (by lia) λi g=>?_
  ·have m:ah F (Pu.au (aa 0) (Pu.au (cx af) af)) [.bo (.lst (fs.map FT.D)),.bo (de c)]=.ok (.lst (aq od)):=by
    exact l
   unfold aj;rw[m];rfl
  ·have j:fs.getD i mP=fs[i]'(b i g):=by rw[aU,aW];rfl
   rw[j];simp[fe,(Uj (b i g))]
 rw[show(od.map λi=>(fs.getD i mP).D)=(od.map λi=>fs.getD i mP).map FT.D by rw[bW];rfl]at a;generalize ((od.map λi=>fs.getD i mP).map FT.D)=L2 at a e;simp[a,e]
def Pt(n:Nat){wd:List Int}{fs:List FT}(o:∀x∈wd,Ae x=true)(j:wd.length<=200)(g:∀f∈fs,f.ok)(y:fs.length<=5):
  ∃c a,Rep fs.length c a (Ee fs)/\a.length<=16807/\c.length<=25/\(∀x,x∈c↔x∈fy fs/\x∈wd)/\ae (tab (n+5)) cb [.lst (fs.map FT.D),de wd]=.ok (gi c a):=by
 obtain⟨od,l,w⟩:=Vo (n+2) (n+4) (by lia) g (by lia);have b:(od.map λi=>fs.getD i mP).Perm fs:=by
  have:=l.map λi=>fs.getD i mP;rwa [Ma]at this
 obtain⟨c,a,R,v,u,s,e⟩:=Cs n o j (λf d=>g f (b.mem_iff.mp d)) (by rwa [b.length_eq]);have r:Ee (od.map λi=>fs.getD i mP)=Ee fs:=by
  funext Z
  exact propext ⟨λh f d=>h f (b.mem_iff.mpr d),λh f d=>h f (b.mem_iff.mp d)⟩
 rw[r,b.length_eq]at R;have m:od.length<=100:=by
  have:=l.length_eq;rw[bZ]at this
  lia
 refine⟨c,a,R,v,u,λx=>?_,?_⟩
 ·rw[s x];have:x∈fy (od.map λi=>fs.getD i mP)↔x∈fy fs:=by
   simp only[fy,List.mem_flatMap];exact⟨by rintro ⟨f,d,q⟩;exact⟨f,b.mem_iff.mp d,q⟩,by rintro ⟨f,d,q⟩;exact⟨f,b.mem_iff.mpr d,q⟩⟩
  rw[this]
 ·rw[zi];exact Ks _ _ (λi p=>List.mem_range.mp (l.mem_iff.mp p)) m w e
end LK
end
section
/-! sorted,sorted(set(..)):rows of ints,ints -/
namespace LK
open PySem PySem.Spec PyProof.Rows Pu
def P3(r:List Int):Bb (r.map Pu.D.int)=some r:=by
 induction r with
 |nil=>rfl
 |cons i r a=>rw[aR,Bb,a];rfl
def K6(P:List (List Int)):kd (P.map tI)=some P:=by
 induction P with
 |nil=>rfl
 |cons r P a=>
  have e:K3 (tI r)=some r:=P3 r;rw[aR,kd,e,a]
def K7(P:List Int):kf (P.map Pu.D.int)=some (P.map λi=>[i]):=by
 induction P with
 |nil=>rfl
 |cons r P a=>rw[aR,kf,a];rfl
section
variable{α:Type}(key:α->List Int)(f:α->Pu.D)
def P0(x:α):List α->List α
 |[]=>[x]
 |y::r=>if key x<key y then x::y::r else y::P0 x r
def Xl(l:List α):List α:=l.foldr (P0 key) []
def P1(x:α)(l:List α):(P0 key x l).Perm (x::l):=by
 induction l with
 |nil=>exact .refl _
 |cons y r a=>
  unfold P0;split
  ·exact .refl _
  ·exact(a.cons y).trans (iU x y r)
def Mj(l:List α):(Xl key l).Perm l:=by
 induction l with
 |nil=>exact .refl _
 |cons x r a=>exact(P1 key x _).trans (a.cons x)
def Ua(x:α)(l:List α):E3 (key x,f x) (l.map λa=>(key a,f a))=(P0 key x l).map λa=>(key a,f a):=by
 induction l with
 |nil=>rfl
 |cons y r b=>
  rw[aR,E3,P0]
  by_cases c:key x<key y
  ·rw[aN c,aN c];rfl
  ·rw[aK c,aK c,b];rfl
def Rj(l:List α):tw (l.map λa=>(key a,f a))=(Xl key l).map λa=>(key a,f a):=by
 induction l with
 |nil=>rfl
 |cons x r b=>
  show E3 _ (tw (r.map λa=>(key a,f a)))=_;rw[b];exact Ua key f x _
def D3{b:Bool}{l:List α}(g:jx (l.map f)=some (b,l.map key))(d:(l.map key).Nodup)(e:l.length<100000):∃G:List α,ik (l.map f)=some (G.map f)/\G.Perm l/\G.Pairwise λx y=>key x<key y:=by
 unfold ik
 by_cases c:(l.map f).length<2
 ·rw[aN c];refine⟨l,rfl,.refl _,?_⟩
  match l,c with
  |[],_=>exact iG
  |[x],_=>exact lD _ _
  |_::_::_,c=>rw[aF,aE,aE]at c;lia
 ·rw[aK c,aN (by rw[aF];exact e),g];dsimp only;rw[aN d];have h:(l.map key).zip (l.map f)=l.map λa=>(key a,f a):=by rw[List.zip_map']
  have pw:=xg (l:=l.map λa=>(key a,f a)) (by rw[bW];exact d);rw[h,Rj]at *;refine⟨Xl key l,by rw[bW];rfl,Mj key l,?_⟩;rw[iH]at pw;exact pw
end
def Cg{P:List (List Int)}(c:P.Nodup)(a:P.length<100000):∃G:List (List Int),ik (P.map tI)=some (.map tI G)/\G.Perm P/\G.Pairwise (· <·):=by
 refine D3 (b:=true) (λr=>r) tI ?_ (by rwa [List.map_id']) a;unfold jx;rw[K6,List.map_id']
def Ml{P:List Int}(d:P.Nodup)(f:P.length<100000):∃G:List Int,ik (P.map Pu.D.int)=some (G.map Pu.D.int)/\G.Perm P/\G.Pairwise (· <·):=by
 cases P with
 |nil=>exact⟨[],rfl,.refl _,iG⟩
 |cons i P=>
  obtain⟨G,g1,g2,g⟩:=D3 (b:=false) (λi=>[i]) Pu.D.int (l:=i::P) (by
   unfold jx;rw[show kd ((i::P).map Pu.D.int)=none from rfl,K7];rfl) (oO _ (λa b c e=>c (by injection e)) d) f
  refine⟨G,g1,g2,g.imp λh=>?_⟩;rcases List.cons_lt_cons_iff.mp h with h|⟨_,h⟩
  ·exact h
  ·exact absurd h (kA _)
/-! ### sorted(set(..)) -/
def iK(i:Int):L2.NK:=.inl (.inl i)
def tK(r:List Int):L2.NK:=.inr (r.map λz=>.inl z)
def Vi{α:Type}(f:α->Pu.D)(g:α->L2.NK)(h:∀a,Iv (f a)=some (g a))(l:List α):yc (l.map f)=some (l.map g):=by
 induction l with
 |nil=>rfl
 |cons a l b=>rw[aR,yc,h a,b];rfl
def La(r:List Int):n6 (r.map Pu.D.int)=some (r.map λz=>.inl z):=by
 induction r with
 |nil=>rfl
 |cons i r a=>rw[aR,n6,a];rfl
def LH(r:List Int):Iv (tI r)=some (tK r):=by
 show(n6 (r.map Pu.D.int)).map nJ=_;rw[La];rfl
def GQ(r:List Int):Lv (tK r)=tI r:=by
 show Pu.D.tup ((r.map λz=>lF z).map kD)=_;rw[bW];rfl
def JY{a b:List Int}(h:tK a=tK b):a=b:=by
 have h:=Sum.inr.inj h;induction a generalizing b with
 |nil=>cases b with
  |nil=>rfl
  |cons=>cases h
 |cons x a d=>cases b with
  |nil=>cases h
  |cons y b=>
   injection h with e c
   rw[mQ e,d (by unfold tK;rw[c]) c]
section
variable{α:Type}[DecidableEq α]
/-- each once,in the order met -/
def vn(T:List α):List α->List α
 |[]=>T
 |r::P=>vn (if r∈T then T else T++[r]) P
def Si{x:α}:∀(P T:List α),x∈vn T P↔x∈T\/x∈P:=by
 intro P;induction P with
 |nil=>intro T;unfold vn;simp
 |cons r P a=>
  intro T;unfold vn;rw[a,dM];split
  ·rename_i h;constructor
   ·rintro (z|z)
    ·exact .inl z
    ·exact .inr (.inr z)
   ·rintro (z|rfl|z)
    ·exact .inl z
    ·exact .inl h
    ·exact .inr z
  ·rw[nG,jF,or_assoc]
def J7:∀(P T:List α),T.Nodup->(vn T P).Nodup:=by
 intro P;induction P with
 |nil=>intro T h;exact h
 |cons r P d=>
  intro T h;unfold vn;refine d _ ?_;split
  ·exact h
  ·rename_i e;exact List.nodup_append.mpr ⟨h,by simp,λa f b c z=>e (by rw[jF]at c;rw[<-c,<-z];exact f)⟩
def Am:∀(P T:List α),(vn T P).length<=T.length+P.length:=by
 intro P;induction P with
 |nil=>intro T;exact aJ _
 |cons r P a=>
  intro T;unfold vn;have:=a (if r∈T then T else T++[r]);rw[aE];split at this
  ·rename_i h;rw[aN h];lia
  ·rename_i h;rw[aK h];rw[aM]at this;simp at this⊢;lia
def Xc{g:α->L2.NK}(f:∀a b,g a=g b->a=b):∀(P T:List α),(P.map g).foldl L2.wk (T.map g)=(vn T P).map g:=by
 intro P;induction P with
 |nil=>intro T;rfl
 |cons r P c=>
  intro T;rw[aR,pO];unfold vn;rw[<-c]
  congr 1
  unfold L2.wk;have e:L2.xy (T.map g) (g r)=decide (r∈T):=by
   by_cases h:r∈T
   ·rw[decide_eq_true h];exact L2.wg.mpr (List.mem_map.mpr ⟨r,h,rfl⟩)
   ·rw[decide_eq_false h];cases q:L2.xy (T.map g) (g r)with
    |false=>rfl
    |true=>
     obtain⟨x,d,e⟩:=List.mem_map.mp (L2.wg.mp q);exact absurd (f _ _ e▸d) h
  rw[e]
  by_cases h:r∈T
  ·rw[aN (decide_eq_true h),aN h]
  ·rw[aK (by simp[h]),aK h,cO];rfl
def zb{f:α->Pu.D}{g:α->L2.NK}(m:∀a b,g a=g b->a=b)(o:∀a,Iv (f a)=some (g a))(n:∀a,Lv (g a)=f a){b:Bool}(i:∀a,Jo (g a)=b){R:α->α->Prop}(l:∀P:List α,P.Nodup->P.length<100000->∃G:List α,ik (P.map f)=some (G.map f)/\G.Perm P/\G.Pairwise R){P:List α}(r:(vn [] P).length<=76):
  ∃G:List α,cm (.lst (P.map f))=some (.lst (G.map f))/\(∀x,x∈G↔x∈P)/\G.Nodup/\G.length<=P.length/\G.Pairwise R:=by
 show∃G:List α,((yc (P.map f)).bind λc=>if A9 c=true/\(L2.tu c).length<=76 then(ik ((L2.tu c).map Lv)).map Pu.D.lst else none)=_/\_;rw[Vi f g o];show∃G:List α,(if A9 (P.map g)=true/\(L2.tu (P.map g)).length<=76 then(ik ((L2.tu (P.map g)).map Lv)).map Pu.D.lst else none)=_/\_;have q:L2.tu (P.map g)=(vn [] P).map g:=Xc m P [];have j:=Am P [];rw[dA,eP]at j;have em:((vn [] P).map g).map Lv=(vn [] P).map f:=by
  rw[bW];exact cM λa _=>n a
 have d:A9 (P.map g)=true:=by
  unfold A9;cases b with
  |true=>rw[iC];exact .inl (List.all_eq_true.mpr λk e=>by obtain⟨a,_,rfl⟩:=List.mem_map.mp e;exact i a)
  |false=>rw[iC];exact .inr (List.all_eq_true.mpr λk e=>by obtain⟨a,_,rfl⟩:=List.mem_map.mp e;rw[i a];rfl)
 have h:=J7 P [] fE;rw[q,aN ⟨d,by rwa [aF]⟩,em];obtain⟨G,g1,g2,p⟩:=l _ h (by lia);exact⟨G,by rw[g1];rfl,λx=>by rw[g2.mem_iff,Si];simp,g2.nodup_iff.mpr h,by rw[g2.length_eq];exact j,p⟩
end
def Fp{P:List (List Int)}(c:P.length<=76):∃G:List (List Int),cm (.lst (P.map tI))=some (.lst (G.map tI))/\(∀x,x∈G↔x∈P)/\G.Nodup/\G.length<=P.length/\G.Pairwise (· <·):=
 zb (λa b=>JY) LH GQ (b:=true) (λ_=>rfl) (λP d c=>Cg d c) (by have:=Am P [];rw[dA]at this;lia)
def xh{P:List Int}(c:P.length<=76):∃G:List Int,cm (.lst (P.map Pu.D.int))=some (.lst (G.map Pu.D.int))/\(∀x,x∈G↔x∈P)/\G.Nodup/\G.length<=P.length/\G.Pairwise (· <·):=
 zb (g:=iK) (λa b h=>mQ (mQ h)) (λ_=>rfl) (λ_=>rfl) (b:=false) (λ_=>rfl) (λP d c=>Ml d c) (by have:=Am P [];rw[dA]at this;lia)
/-- two rising lists of the same things are the same -/
def Jj{α:Type}{R:α->α->Prop}(d:∀a,¬R a a)(tr:∀a b c,R a b->R b c->R a c):∀{A B:List α},A.Pairwise R->B.Pairwise R->(∀x,x∈A↔x∈B)->A=B:=by
 intro A B g f h;have j:A.Nodup:=lR (λ{a b}(h:R a b)(e:a=b)=>by subst e;exact d _ h) g;have i:B.Nodup:=lR (λ{a b}(h:R a b)(e:a=b)=>by subst e;exact d _ h) f;exact kR (λa b _ _ m l=>absurd (tr _ _ _ m l) (d _)) g f ((kB j i).mpr h)
end LK
end
section
/-! what the law draws:columns,parts,table -/
namespace LK
open PySem PySem.Spec PyProof.Rows Pu
abbrev tN(p:List Nat):Pu.D:=.tup (aq p)
def cc(a:List Nat):List Int:=a.map λ(c:Nat)=>(c:Int)
def Jv(p:List Nat):tN p=tI (cc p):=by
 show Pu.D.tup (aq p)=_;unfold tI cc aq;rw[bW];rfl
def Xk(r:List Int):uA (tI r):=⟨.tuple (r.map cS),by unfold tI cf;rw[jj],gp r,by
 have:=o9 r;show cN _+1<=8
 lia⟩
def Ce(L:List (List Int)):rJ (L.map tI):=Xj λd a=>by
 obtain⟨r,_,rfl⟩:=List.mem_map.mp a;exact Xk r
def Rh(P:List (List Nat)):rJ (P.map tN):=Xj λd a=>by
 obtain⟨r,_,rfl⟩:=List.mem_map.mp a;rw[Jv];exact Xk _
/-- rising columns below m -/
structure Good(m:Nat)(cs:List Nat):Prop where
 lt:∀c∈cs,c<m
 vR:cs.Pairwise (· <·)
def IQ:∀{b:List Nat}{k m:Nat},(∀c∈b,k<=c/\c<m)->b.Pairwise (· <·)->b.length<=m - k:=by
 intro b;induction b with
 |nil=>intros;exact bX _
 |cons a r g=>
  intro k m h p;obtain⟨f,e⟩:=List.pairwise_cons.mp p;have i:=h a aZ;have:=g (k:=a+1) (m:=m) (λc d=>⟨f c d,(h c (aY _ d)).2⟩) e;rw[aE];lia
def Good.len{m:Nat}{a:List Nat}(g:Good m a):a.length<=m:=by
 have:=IQ (k:=0) (λc b=>⟨bX _,g.lt c b⟩) g.vR
 lia
def Gb(b:List Int)(k:Int)(m:Nat)(a:Int):List Nat:=(aS m).filter λj=>oe b (k+(0+(j:Int))) a==0
def Kh(b:List Int)(k:Int)(m:Nat)(a:Int):Good m (Gb b k m a):=⟨λc d=>List.mem_range.mp (List.mem_filter.mp d).1,mY _ lS⟩
def Ki(n:Nat)(b:List Int)(k:Int)(m:Nat)(a:Int)(o:0<=k)(g:m<=1000)(c:0<a):ae (tab (n+3)) cg [vk b,.int k,.int (m:Int),.int a]=.ok (tN (Gb b k m a)):=by
 rw[Cz];have d:az (cy (Pu.au (aa 2) af)) [1,0,3] (g2 gu (ah (ae (tab (n+2)) ar) (Pu.au (aa 2) (Pu.au (g2 bu (aa 1) (aa 0)) (Pu.au (aa 3) af)))) (gC (.int 0))) (b8 0) [.bo (vk b),.bo (.int k),.bo (.int (m:Int)),.bo (.int a)]
   =.ok (.lst ((Gb b k m a).map λ(i:Nat)=>Pu.D.int (0+(i:Int)))):=by
  refine d5 (f:=λ(i:Nat)=>Pu.D.int (0+(i:Int))) ((mm _ _ (j':=m) (by simp) (by lia)).trans rfl) (by rw[bZ];lia) λj p=>?_;have e:=sv n b (k+(0+(j:Int))) a (by lia) c;generalize (0+(j:Int))=z at e⊢;simp[fe,e]
 have h:∀l:List Nat,(l.map λ(i:Nat)=>Pu.D.int (0+(i:Int)))=aq l:=λl=>by simp[aq]
 rw[h]at d;simp -implicitDefEqProofs [nq,d]
def DQ(c:Nat)(p:List Nat):j5 (.int (c:Int)) (tN p)=some (.bl (decide (c∈p))):=by
 have e:=(Nx (cc p) (c:Int)).2;have h:xa (.int (c:Int)) (tN p)=some (decide (c∈p)):=by
  rw[Jv];refine e.trans (congrArg some (decide_eq_decide.mpr ?_));unfold cc;rw[iJ];exact⟨λ⟨a,b,q⟩=>by rwa [<-Int.ofNat.inj q],λh=>⟨c,h,rfl⟩⟩
 show(xa (.int (c:Int)) (tN p)).map D.bl=_;rw[h];rfl
def t9{α β:Type}(l:List α)(f:α->β):(l.map f).isEmpty=decide (l=[]):=by cases l<;>rfl
/-! ### parts -/
def LU:En->Out:=(B8 (g2 gu (az (aj (aa 3)) [5] (g2 j5 (aa 1) (aa 0)) (b8 0)) (cx af)) (fz [5] (qm 4 (b8 5))) my)
def zq(P:List (List Nat))(c:Nat):Bool:=decide (P.filter (λp=>decide (c∈p))=[])
def Zz(d b a:Sl){P:List (List Nat)}(v:P.length<=1000):∀(g rest:List Nat)(h:Sl),rest.length+g.length<=1000->
  ∃j,turns (a0 5) LU (g.map λ(i:Nat)=>Pu.D.int (0+(i:Int))) [d,b,a,.ow (P.map tN),.ow (aq rest),h]=.nx [d,b,a,.ow (P.map tN),.ow (aq (rest++g.filter (zq P))),j]:=by
 intro g;induction g with
 |nil=>intro rest h _;exact⟨h,by rw[List.filter_nil,bT];rfl⟩
 |cons c g n=>
  intro rest h o;rw[aE]at o;rw[aR,Int.zero_add,cu (δ1:=[d,b,a,.ow (P.map tN),.ow (aq rest),.pu (.int (c:Int))]) rfl];have r:az (aj (aa 3)) [5] (g2 j5 (aa 1) (aa 0)) (b8 0) [d,b,a,.ow (P.map tN),.ow (aq rest),.pu (.int (c:Int))]=.ok (.lst ((P.filter λp=>decide (c∈p)).map tN)):=by
   refine d5 (f:=tN) (l:=P) rfl (by lia) λp u=>?_;have e:=DQ c p;show(g2 j5 (aa 1) (aa 0)) [.pu (tN p),.pu (.int (c:Int))]=_;show Res.of (j5 (.int (c:Int)) (tN p))=_;rw[e];rfl
  have m:=(wa (Rh (P.filter λp=>decide (c∈p)))).1;rw[t9]at m;have s:LU [d,b,a,.ow (P.map tN),.ow (aq rest),.pu (.int (c:Int))]=.nx [d,b,a,.ow (P.map tN),.ow (aq (rest++if zq P c then[c]else[])),.pu (.int (c:Int))]:=by
   unfold LU;rw[Jy,Rv,r,fb];show(Res.of (gu _ (.lst []))).then _=_;rw[m];unfold zq
   by_cases q:P.filter (λp=>decide (c∈p))=[]
   ·rw[decide_eq_true q];have:(aq rest).length+1<=16777216:=by unfold aq;rw[aF];lia
    simp[aq]at this⊢
    lia
   ·rw[decide_eq_false q];simp
  rw[s];dsimp only;obtain⟨j,e⟩:=n (rest++if zq P c then[c]else[]) (.pu (.int (c:Int))) (by rw[aM];split<;>simp<;>lia);refine⟨j,?_⟩;rw[e]
  congr 5
  rw[cD,iR];cases zq P c<;>rfl
def dq(a:List Int)(m:Nat):List (List Nat):=(aS (1+oe a 70 4).toNat).map λ(j:Nat)=>Gb a (40+6 * (0+(j:Int))) m 2
def Vw(n:Nat)(f:List Int){m:Nat}(J:m<=5):∃P:List (List Nat),(∀p∈P,Good m p)/\P≠[]/\P.length<=5/\(∀c,c<m->∃p∈P,c∈p)/\ae (tab (n+4)) d8 [vk f,.int 40,.int (m:Int)]=.ok (.lst (P.map tN)):=by
 obtain⟨N,M⟩:=qa f 70 4 (by decide);have H:=sv (n+1) f 70 4 (by decide) (by decide);have l:∀p∈dq f m,Good m p:=λp g=>by
  obtain⟨j,_,rfl⟩:=List.mem_map.mp g;exact Kh _ _ _ _
 have v:(dq f m).length=(1+oe f 70 4).toNat:=by unfold dq;rw[aF,bZ]
 have I:az (cy (Pu.au (g2 bu (gC (.int 1)) (ah (ae (tab (n+3)) ar) (Pu.au (aa 0) (Pu.au (g2 bu (aa 1) (gC (.int 30))) (Pu.au (gC (.int 4)) af))))) af)) [1,2,0] (gC (.bl true)) (ah (ae (tab (n+3)) cg) (Pu.au (aa 3) (Pu.au (g2 bu (aa 1) (g2 k8 (gC (.int 6)) (aa 0))) (Pu.au (aa 2) (Pu.au (gC (.int 2)) af))))) [.bo (vk f),.bo (.int 40),.bo (.int (m:Int)),.no,.no,.no]
   =.ok (.lst ((dq f m).map tN)):=by
  unfold dq;rw[bW];refine Aw (mm _ _ (j':=1+oe f 70 4) (by simp -implicitDefEqProofs [H]) (by lia)) (by lia) λj L=>?_;have e:=Ki n f (40+6 * (0+(j:Int))) m 2 (by lia) (by lia) (by decide);have em:=Cq 6 (0+(j:Int)) (.inl (by decide));show _=Res.ok (tN (Gb f (40+6 * (0+(j:Int))) m 2));generalize (0+(j:Int))=z at e em⊢;simp -implicitDefEqProofs [fe,e,em]
 obtain⟨o,A⟩:=Zz (.bo (vk f)) (.bo (.int 40)) (.bo (.int (m:Int))) (P:=dq f m) (by lia) (aS m) [] .no (by simp;lia);rw[iD]at A;have s:ft (a0 5) (cy (Pu.au (aa 2) af)) LU [.bo (vk f),.bo (.int 40),.bo (.int (m:Int)),.ow ((dq f m).map tN),.ow [],.no]=.nx [.bo (vk f),.bo (.int 40),.bo (.int (m:Int)),.ow ((dq f m).map tN),.ow (aq ((aS m).filter (zq (dq f m)))),o]:=by
  rw[h9 ((mm _ _ (j':=m) (by simp) (by lia)).trans rfl)];exact A
 have u:dq f m≠[]:=λz=>by rw[z,dA]at v;lia
 have w:∀c,zq (dq f m) c=false->∃p∈dq f m,c∈p:=λc h=>by
  unfold zq at h;obtain⟨p,g⟩:=List.exists_mem_of_ne_nil _ (of_decide_eq_false h);obtain⟨a,b⟩:=List.mem_filter.mp g;exact⟨p,a,of_decide_eq_true b⟩
 have y:Good m ((aS m).filter (zq (dq f m))):=⟨λc i=>List.mem_range.mp (List.mem_filter.mp i).1,mY _ lS⟩;generalize x:(aS m).filter (zq (dq f m))=rest at s y;have r:=(wa (ds:=aq rest) (Xj λd G=>by
  obtain⟨c,_,rfl⟩:=List.mem_map.mp G;exact⟨.int c,rfl,rfl,bX _⟩)).2
 unfold aq at r;rw[t9]at r;have run:∀P:List (List Nat),B8 (g2 jm (aa 4) (cx af)) (qm 3 (g1 jd (aa 4))) my [.bo (vk f),.bo (.int 40),.bo (.int (m:Int)),.ow ((dq f m).map tN),.ow (aq rest),o]=.nx [.bo (vk f),.bo (.int 40),.bo (.int (m:Int)),.ow (P.map tN),.ow (aq rest),o]->
   ae (tab (n+4)) d8 [vk f,.int 40,.int (m:Int)]=.ok (.lst (P.map tN)):=λP h=>by
  rw[Gs (n+3)];show g7 (mz (n+3) [.bo (vk f),.bo (.int 40),.bo (.int (m:Int)),.no,.no,.no])=_;unfold mz;unfold LU at s;have E:cq 3 (az (cy (Pu.au (g2 bu (gC (.int 1)) (ah (ae (tab (n+3)) ar) (Pu.au (aa 0) (Pu.au (g2 bu (aa 1) (gC (.int 30))) (Pu.au (gC (.int 4)) af))))) af)) [1,2,0] (gC (.bl true)) (ah (ae (tab (n+3)) cg) (Pu.au (aa 3) (Pu.au (g2 bu (aa 1) (g2 k8 (gC (.int 6)) (aa 0))) (Pu.au (aa 2) (Pu.au (gC (.int 2)) af)))))) [.bo (vk f),.bo (.int 40),.bo (.int (m:Int)),.no,.no,.no]=.nx [.bo (vk f),.bo (.int 40),.bo (.int (m:Int)),.ow ((dq f m).map tN),.no,.no]:=by
   rw[JM,I,kq];rfl
  have C:cq 4 (cx af) [.bo (vk f),.bo (.int 40),.bo (.int (m:Int)),.ow ((dq f m).map tN),.no,.no]=.nx [.bo (vk f),.bo (.int 40),.bo (.int (m:Int)),.ow ((dq f m).map tN),.ow [],.no]:=rfl;have B:fz [3] (f9 (b8 3)) [.bo (vk f),.bo (.int 40),.bo (.int (m:Int)),.ow (P.map tN),.ow (aq rest),o]=.rt (.lst (P.map tN)):=rfl;rw[fm,E];dsimp only;rw[fm,C];dsimp only;rw[fm,s];dsimp only;rw[fm,h];dsimp only;rw[B,Cr]
 by_cases q:rest=[]
 ·refine⟨dq f m,l,u,by lia,λc i=>w c ?_,run _ ?_⟩
  ·cases e:zq (dq f m) c with
   |false=>rfl
   |true=>
    have:c∈rest:=by rw[<-x];exact List.mem_filter.mpr ⟨List.mem_range.mpr i,e⟩
    rw[q]at this;cases this
  ·rw[Jy,Rv];show(Res.of (jm (.lst (aq rest)) (.lst []))).then _=_;unfold aq;rw[r,decide_eq_true q];rfl
 ·refine⟨dq f m++[rest],λp g=>?_,by simp,by rw[aM,eD];lia,λc i=>?_,run _ ?_⟩
  ·rcases List.mem_append.mp g with g|g
   ·exact l p g
   ·rw[List.mem_singleton.mp g];exact y
  ·cases e:zq (dq f m) c with
   |false=>
    obtain⟨p,a,b⟩:=w c e;exact⟨p,dG _ a,b⟩
   |true=>exact⟨rest,cH _ (.head _),by rw[<-x];exact List.mem_filter.mpr ⟨List.mem_range.mpr i,e⟩⟩
  ·rw[Jy,Rv];show(Res.of (jm (.lst (aq rest)) (.lst []))).then _=_;unfold aq;rw[r,decide_eq_false q];have:((dq f m).map tN).length<16777216:=by rw[aF];lia
   rw[ox,kq];show qm 3 (g1 jd (aa 4)) _=_;rw[Oz];show(if((dq f m).map tN).length<16777216 then _ else _)=_;rw[aN this,cO];rfl
end LK
end
section
/-! the drawn table;all columns;the widest parts -/
namespace LK
open PySem PySem.Spec PyProof.Rows Pu
def lj(a:List Int)(m k:Nat):List Int:=(aS m).map λ(j:Nat)=>oe a (2+5 * (0+(k:Int))+(0+(j:Int))) 4 - 2
def W2(a:List Int)(m k:Nat):(lj a m k).length=m/\∀x∈lj a m k,-2<=x/\x<2:=by
 unfold lj;refine⟨by rw[aF,bZ],λx b=>?_⟩;obtain⟨j,_,rfl⟩:=List.mem_map.mp b;have:=qa a (2+5 * (0+(k:Int))+(0+(j:Int))) 4 (by decide)
 lia
def JV(F:List Pu.D->Res):En->Out:=(qm 3 (g1 jd (az (cy (Pu.au (aa 1) af)) [4,0] (gC (.bl true)) (g2 D0 (ah F (Pu.au (aa 2) (Pu.au (g2 bu (g2 bu (gC (.int 2)) (g2 k8 (gC (.int 5)) (aa 1))) (aa 0)) (Pu.au (gC (.int 4)) af)))) (gC (.int 2))))))
def NR(n:Nat)(a:List Int){m:Nat}(h:m<=5)(k:Nat)(d c b:Sl)(L:List Pu.D)(f:L.length<16777216):JV (ae (tab (n+2)) ar) [.pu (vk a),.pu (.int (m:Int)),d,.ow L,.pu (.int (0+(k:Int))),c,b]=.nx [.pu (vk a),.pu (.int (m:Int)),d,.ow (L++[tI (lj a m k)]),.pu (.int (0+(k:Int))),c,b]:=by
 have g:az (cy (Pu.au (aa 1) af)) [4,0] (gC (.bl true)) (g2 D0 (ah (ae (tab (n+2)) ar) (Pu.au (aa 2) (Pu.au (g2 bu (g2 bu (gC (.int 2)) (g2 k8 (gC (.int 5)) (aa 1))) (aa 0)) (Pu.au (gC (.int 4)) af)))) (gC (.int 2))) [.pu (vk a),.pu (.int (m:Int)),d,.ow L,.pu (.int (0+(k:Int))),c,b]=.ok (.lst ((lj a m k).map Pu.D.int)):=by
  unfold lj;rw[bW];refine Aw (mm _ _ (j':=m) rfl (by lia)) (by lia) λj i=>?_;have e:=sv n a (2+5 * (0+(k:Int))+(0+(j:Int))) 4 (by lia) (by decide);have em:=Cq 5 (0+(k:Int)) (.inl (by decide));show _=Res.ok (Pu.D.int (oe a (2+5 * (0+(k:Int))+(0+(j:Int))) 4 - 2));generalize (0+(k:Int))=z at e em⊢;generalize (0+(j:Int))=y at e⊢;simp -implicitDefEqProofs [fe,e,em]
 unfold JV;rw[Oz];show(g1 jd _ _).then _=_;rw[Da,g,fb,Rw,ox,kq,aN f];rfl
def CS(n:Nat)(a:List Int){m:Nat}(o:m<=5)(h f d:Sl):∀(b:List Nat)(T:List (List Int))(g:Sl),T.length+b.length<=1000->
  ∃j,turns (a0 4) (JV (ae (tab (n+2)) ar)) (b.map λ(i:Nat)=>Pu.D.int (0+(i:Int))) [.pu (vk a),.pu (.int (m:Int)),h,.ow (T.map tI),g,f,d]=.nx [.pu (vk a),.pu (.int (m:Int)),h,.ow ((T++b.map (lj a m)).map tI),j,f,d]:=by
 intro b;induction b with
 |nil=>intro T g _;exact⟨g,by rw[fO,fO,bT];rfl⟩
 |cons c b l=>
  intro T g p;rw[aE]at p;obtain⟨j,e⟩:=l (T++[lj a m c]) (.pu (.int (0+(c:Int)))) (by rw[aM,eD];lia);refine⟨j,?_⟩;rw[aR,cu (δ1:=[.pu (vk a),.pu (.int (m:Int)),h,.ow (T.map tI),.pu (.int (0+(c:Int))),f,d]) rfl,NR n a o c h f d _ (by rw[aF];lia)];dsimp only;rw[cO]at e;rw[aR,show T++lj a m c::b.map (lj a m)=T++[lj a m c]++b.map (lj a m) by simp];exact e
/-! ### all columns -/
def Ve(a b:List Nat):aq (a++b)=aq a++aq b:=by unfold aq;rw[cO]
def Iu(a:List Nat):(aq a).length=a.length:=by unfold aq;rw[aF]
def Ir(a:List Nat):aq a=(cc a).map Pu.D.int:=by unfold aq cc;rw[bW];rfl
def Ye(a:Sl):∀(P:List (List Nat))(C:List Nat)(b:Sl),(∀p∈P,p.length<=100)->C.length+100 * P.length<=100000->∃c,turns (a0 2) (vg 1 (aa 2)) (P.map tN) [a,.ow (aq C),b]=.nx [a,.ow (aq (C++P.flatten)),c]:=by
 intro P;induction P with
 |nil=>intro C b _ _;exact⟨b,by rw[List.flatten_nil,bT];rfl⟩
 |cons p P d=>
  intro C b h f;rw[aE]at f;have g:=h p aZ;have x:vg 1 (aa 2) [a,.ow (aq C),.pu (tN p)]=if(aq C).length+(aq p).length<=16777216 then Out.nx [a,.ow (aq C++aq p),.pu (tN p)]else .st:=rfl
  rw[aR,cu (δ1:=[a,.ow (aq C),.pu (tN p)]) rfl,x,aN (by rw[Iu,Iu];lia),<-Ve];obtain⟨c,q⟩:=d (C++p) (.pu (tN p)) (λq e=>h q (aY _ e)) (by rw[aM];lia);refine⟨c,?_⟩;rw[lP,<-cD];exact q
def Yi(n:Nat){m:Nat}{P:List (List Nat)}(g:∀p∈P,Good m p)(w:m<=5)(y:P.length<=5)(i:∀c,c<m->∃p∈P,c∈p):ae (tab (n+1)) c6 [.lst (P.map tN)]=.ok (de (cc (aS m))):=by
 have f:∀p∈P,p.length<=5:=λp d=>by have:=(g p d).len;lia
 have B:P.flatten.length<=25:=by
  have:∀P:List (List Nat),(∀p∈P,p.length<=5)->P.flatten.length<=5 * P.length:=by
   intro P;induction P with
   |nil=>intro _;exact aJ _
   |cons p P r=>
    intro h;have A:=r λp d=>h p (.tail _ d);have z:=h p (.head _);rw[lP,aM,aE]
    lia
  have:=this P f
  lia
 obtain⟨G,g1,g2,_,_,u⟩:=xh (P:=cc P.flatten) (by unfold cc;rw[aF];lia);have v:G=cc (aS m):=by
  refine Jj (R:=(· <·)) (λa=>Int.lt_irrefl a) (λa b c=>Int.lt_trans) u ?_ λx=>?_
  ·unfold cc;rw[iH];exact List.pairwise_lt_range.imp λh=>Int.ofNat_lt.mpr h
  ·rw[g2];unfold cc;rw[iJ,iJ];constructor
   ·rintro ⟨c,f,rfl⟩
    obtain⟨p,d,e⟩:=List.mem_flatten.mp f;exact⟨c,List.mem_range.mpr ((g p d).lt c e),rfl⟩
   ·rintro ⟨c,f,rfl⟩
    obtain⟨p,d,e⟩:=i c (List.mem_range.mp f);exact⟨c,List.mem_flatten.mpr ⟨p,d,e⟩,rfl⟩
 rw[Cw n];obtain⟨j,q⟩:=Ye (.bo (.lst (P.map tN))) P [] .no (λp d=>by have:=f p d;lia) (by simp;lia);have l:B7 0 2 1 (aa 2) (ft (a0 2) (aj (wc 0)) (vg 1 (aa 2))) [.bo (.lst (P.map tN)),.ow [],.no]=.nx [.bo (.lst (P.map tN)),.ow (aq P.flatten),j]:=by
  rw[JP];show ft (a0 2) (aj (wc 0)) (vg 1 (aa 2)) _=_;rw[h9 (ds:=P.map tN) rfl];exact q
 have o:cq 1 (cx af) [.bo (.lst (P.map tN)),.no,.no]=.nx [.bo (.lst (P.map tN)),.ow [],.no]:=rfl;have s:aa 1 [.bo (.lst (P.map tN)),.ow (aq P.flatten),j]=.ok (.lst (aq P.flatten)):=rfl;show g7 (ku n [.bo (.lst (P.map tN)),.no,.no])=_;unfold ku;rw[fm,o];dsimp only;rw[fm,l];dsimp only;rw[t5,Da,s,fb,Ir,g1,v];rfl
/-! ### widest -/
def sub(b a:List Nat):Bool:=b.all λc=>decide (c∈a)
def Ox{d b:List Nat}:sub d b=true↔∀c∈d,c∈b:=by
 unfold sub;rw[List.all_eq_true];exact⟨λh c a=>of_decide_eq_true (h c a),λh c a=>decide_eq_true (h c a)⟩
def Uu(n:Nat)(b a:List Nat)(h:b.length<=1000):ae (tab (n+1)) eu [tN b,tN a]=.ok (.bl (sub b a)):=by
 rw[Po];have d:az (aj (aa 0)) [1] (gC (.bl true)) (g2 j5 (aa 0) (aa 1)) [.bo (tN b),.bo (tN a)]=.ok (.lst (b.map λc=>Pu.D.bl (decide (c∈a)))):=
  ie (f:=λ(c:Nat)=>Pu.D.int (c:Int)) rfl (by lia) λc d=>by
   have e:=DQ c a;show Res.of (j5 (.int (c:Int)) (tN a))=_;rw[e];rfl
 have g:=Yh (λc=>decide (c∈a)) b;show g7 (t7 n [.bo (tN b),.bo (tN a)])=_;unfold t7;rw[t5,Da,d,fb,g];rfl
def Au{a b:List Nat}(h:cc a=cc b):a=b:=by
 have:=congrArg (λl=>l.map Int.toNat) h;unfold cc at this;simpa[bW,oJ]using this
def LI(p q:List Nat):jm (tN p) (tN q)=some (.bl (!decide (p=q))):=by
 have t:∀p:List Nat,cf (tN p)=some (.tuple ((cc p).map cS)):=λp=>by rw[Jv];unfold tI cf;rw[jj]
 have d:∀p:List Nat,fP (.tuple ((cc p).map cS))<=63:=λp=>by
  have:=o9 (cc p);show cN _+1<=63
  lia
 unfold jm;rw[Es (t p) (t q) (gp _) (d p) (gp _) (d q)];have:cV (.tuple ((cc p).map cS)) (.tuple ((cc q).map cS))=decide (p=q):=by
  rw[show cV (.tuple ((cc p).map cS)) (.tuple ((cc q).map cS))=iO ((cc p).map cS) ((cc q).map cS)from rfl,Et];exact decide_eq_decide.mpr ⟨Au,λh=>by rw[h]⟩
 rw[this];rfl
def Yj{α:Type}(f:α->Bool)(l:List α):w8 (.lst (l.map λa=>Pu.D.bl (f a)))=some (.bl (l.any f)):=by
 unfold w8;have:i7 (l.map λa=>Pu.D.bl (f a))=some (l.map f):=ym f l;simp[this]
def M7(G:List (List Nat))(p:List Nat):Bool:= !(G.any λq=> !decide (p=q) && sub p q)
def W1:∀{q p:List Nat},p.Pairwise (· <·)->q.Pairwise (· <·)->(∀c∈p,c∈q)->p.length<=q.length/\(p.length=q.length->p=q):=by
 intro q;induction q with
 |nil=>
  intro p _ _ h;cases p with
  |nil=>exact⟨aJ _,λ_=>rfl⟩
  |cons a p=>exact absurd (h a (.head _)) (by simp)
 |cons b q i=>
  intro p l r h;cases p with
  |nil=>exact⟨bX _,λe=>by cases e⟩
  |cons a p=>
   obtain⟨g,n⟩:=List.pairwise_cons.mp l;obtain⟨m,f⟩:=List.pairwise_cons.mp r
   by_cases e:a=b
   ·subst e;obtain⟨j,o⟩:=i n f λc d=>by
     rcases List.mem_cons.mp (h c (.tail _ d))with z|z
     ·have:=g c d;lia
     ·exact z
    rw[aE,aE];exact⟨by lia,λe=>by rw[o (by lia)]⟩
   ·have s:a∈q:=(List.mem_cons.mp (h a (.head _))).resolve_left e;have u:=m a s;obtain⟨j,_⟩:=i l f λc d=>by
     rcases List.mem_cons.mp (h c d)with z|z
     ·rcases List.mem_cons.mp d with y|y
      ·lia
      ·have:=g c y;lia
     ·exact z
    rw[aE]at j⊢;rw[aE];exact⟨by lia,λe=>by lia⟩
def M8{G:List (List Nat)}(g:∀p∈G,p.Pairwise (· <·))(m:∀p∈G,p.length<=100):∀(k:Nat)(p:List Nat),p∈G->100 - p.length<k->∃w∈G.filter (M7 G),∀c∈p,c∈w:=by
 intro k;induction k with
 |zero=>intro p d n;lia
 |succ k j=>
  intro p d n;cases a:M7 G p with
  |true=>exact⟨p,List.mem_filter.mpr ⟨d,a⟩,λc f=>f⟩
  |false=>
   unfold M7 at a;rw[Bool.not_eq_false',mJ]at a;obtain⟨q,b,h⟩:=a;rw[bA,lN,decide_eq_false_iff_not]at h;obtain⟨o,i⟩:=W1 (g p d) (g q b) (Ox.mp h.2);have s:=m q b;have r:p.length≠q.length:=λe=>h.1 (i e);obtain⟨w,a,l⟩:=j q b (by lia);exact⟨w,a,λc f=>l c (Ox.mp h.2 c f)⟩
def Rx(n:Nat){m:Nat}{P:List (List Nat)}(g:∀p∈P,Good m p)(I:m<=5)(J:P.length<=5):
  ∃W:List (List Nat),(∀w∈W,w∈P)/\(∀p∈P,∃w∈W,∀c∈p,c∈w)/\W.length<=P.length/\ae (tab (n+2)) jv [.lst (P.map tN)]=.ok (.lst (W.map tN)):=by
 have x:∀p∈P,p.length<=5:=λp i=>by have:=(g p i).len;lia
 obtain⟨v,u,s,_,o,_⟩:=Fp (P:=P.map cc) (by rw[aF];lia);obtain⟨G,rfl⟩:∃G:List (List Nat),v=G.map cc:=by
  refine⟨v.map λr=>r.map Int.toNat,?_⟩;rw[bW]
  conv=>lhs;rw[<-List.map_id v]
  refine cM λr C=>?_;obtain⟨p,_,rfl⟩:=List.mem_map.mp ((s r).mp C);show cc p=cc ((cc p).map Int.toNat)
  congr 1
  unfold cc;rw[bW]
  conv=>lhs;rw[<-List.map_id p]
  exact cM λc _=>rfl
 have mem:∀p,p∈G↔p∈P:=λp=>by
  have:=s (cc p);rw[iJ,iJ]at this;constructor
  ·intro h;obtain⟨q,j,e⟩:=this.mp ⟨p,h,rfl⟩;rwa [<-Au e]
  ·intro h;obtain⟨q,j,e⟩:=this.mpr ⟨p,h,rfl⟩;rwa [<-Au e]
 rw[aF,aF]at o;have y:∀L:List (List Nat),(L.map cc).map tI=L.map tN:=λL=>by
  rw[bW];exact cM λp _=>(Jv p).symm
 rw[y,y]at u;refine⟨G.filter (M7 G),λw B=>(mem w).mp (List.mem_filter.mp B).1,λp i=>M8 (λq j=>(g q ((mem q).mp j)).vR) (λq j=>by have:=x q ((mem q).mp j);lia) 200 p ((mem p).mpr i) (by lia),cG (dD _ _) o,?_⟩;rw[Tf (n+1)];show g7 (vq (n+1) [.bo (.lst (P.map tN)),.no])=_;have A:e9 1 (g1 cm (aa 0)) [.bo (.lst (P.map tN)),.no]=.nx [.bo (.lst (P.map tN)),.pu (.lst (G.map tN))]:=by
  rw[zf,Da];show(Res.of (cm (.lst (P.map tN)))).then _=_;rw[u];rfl
 have d:∀p∈G,az (aj (aa 1)) [0] (gC (.bl true)) (A5 (g2 jm (aa 1) (aa 0)) (ah (ae (tab (n+1)) eu) (Pu.au (aa 1) (Pu.au (aa 0) af)))) [.pu (tN p),.pu (.lst (G.map tN))]=.ok (.lst (G.map λq=>Pu.D.bl (!decide (p=q) && sub p q))):=λp i=>by
  refine ie (f:=tN) (l:=G) rfl (by lia) λq j=>?_;have z:g2 jm (aa 1) (aa 0) [.pu (tN q),.pu (tN p)]=.ok (.bl (!decide (p=q))):=by
   show Res.of (jm (tN p) (tN q))=_;rw[LI];rfl
  have E:ah (ae (tab (n+1)) eu) (Pu.au (aa 1) (Pu.au (aa 0) af)) [.pu (tN q),.pu (tN p)]=.ok (.bl (sub p q)):=by
   rw[jk];exact Uu n p q (by have:=x p ((mem p).mp i);lia)
  show A5 (g2 jm (aa 1) (aa 0)) (ah (ae (tab (n+1)) eu) (Pu.au (aa 1) (Pu.au (aa 0) af))) [.pu (tN q),.pu (tN p)]=_;generalize decide (p=q)=H at z⊢;rw[EX,z,fb];cases H
  ·exact E
  ·rfl
 have a:az (aj (aa 1)) [1] (Hc (A8 (g1 w8 (az (aj (aa 1)) [0] (gC (.bl true)) (A5 (g2 jm (aa 1) (aa 0)) (ah (ae (tab (n+1)) eu) (Pu.au (aa 1) (Pu.au (aa 0) af)))))))) (b8 0) [.bo (.lst (P.map tN)),.pu (.lst (G.map tN))]=.ok (.lst ((G.filter (M7 G)).map tN)):=by
  refine d5 (l:=G) (f:=tN) (b:=M7 G) rfl (by lia) λp i=>?_;have e:g1 w8 (az (aj (aa 1)) [0] (gC (.bl true)) (A5 (g2 jm (aa 1) (aa 0)) (ah (ae (tab (n+1)) eu) (Pu.au (aa 1) (Pu.au (aa 0) af))))) [.pu (tN p),.pu (.lst (G.map tN))]=.ok (.bl (G.any λq=> !decide (p=q) && sub p q)):=by
   rw[Da,d p i,fb,Yj];rfl
  show Hc (A8 (g1 w8 _)) [.pu (tN p),.pu (.lst (G.map tN))]=_;rw[NO,EV,e];unfold M7;cases G.any λq=> !decide (p=q) && sub p q<;>rfl
 unfold vq;rw[fm,A];dsimp only;rw[t5,a];rfl
end LK
end
section
/-! part_fits,put_together -/
namespace LK
open PySem PySem.Spec PyProof.Rows Pu
def L6(n:Nat)(a:List Int)(b:List Nat)(h:∀p∈b,p<a.length)(e:b.length<=1000):ae (tab (n+1)) ff [tI a,tN b]=.ok (tI (pick a b)):=by
 have d:az (aj (aa 1)) [0] (gC (.bl true)) (g2 dj (aa 1) (aa 0)) [.bo (tI a),.bo (tN b)]=.ok (.lst (b.map λp=>Pu.D.int (a.getD p 0))):=
  ie (f:=λ(p:Nat)=>Pu.D.int (p:Int)) rfl (by lia) λp c=>by
   show Res.of (dj (tI a) (.int (p:Int)))=_;rw[Hm a p (h p c)];rfl
 show g7 (vp n [.bo (tI a),.bo (tN b)])=_;unfold vp;rw[t5,Da,d];simp[tI,pick]
def xc(T:List (List Int))(p:List Nat):List g8:=zu p [] (T.map λt=>(t,[]))
def Ws{a:List g8}(h:∀q∈a,q.2=[])(r:List Int):C8 (a.map rl) (rK r) (.tup [])=(j7 a r []).map rl:=by
 by_cases b:r∈bj a
 ·have d:xy (a.map rl) (rK r)=true:=by
   unfold xy;rw[mJ];obtain⟨q,c,e⟩:=List.mem_map.mp b;exact⟨rl q,List.mem_map.mpr ⟨q,c,rfl⟩,decide_eq_true (gc.mpr e)⟩
  unfold C8 j7;rw[aN d,aN b,bW];refine cM λq c=>?_;show(if _ then((rl q).1,Pu.D.tup [])else rl q)=rl q;split
  ·unfold rl;rw[h q c]
  ·rfl
 ·exact Jf b
def Sj{b:List g8}(h:∀q∈b,q.2=[])(r:List Int):∀q∈j7 b r [],q.2=[]:=by
 intro q a;unfold j7 at a;split at a
 ·exact h q a
 ·rcases List.mem_append.mp a with a|a
  ·exact h q a
  ·rw[List.mem_singleton.mp a]
def Lp(p:List Nat):∀(T:List (List Int))(a:List g8),(∀q∈a,q.2=[])->va (a.map rl) (T.map λt=>(rK (pick t p),Pu.D.tup []))=(zu p a (T.map λt=>(t,[]))).map rl:=by
 intro T;induction T with
 |nil=>intro a _;rfl
 |cons t T b=>
  intro a h;show va (C8 (a.map rl) (rK (pick t p)) (.tup [])) _=_;rw[Ws h,b _ (Sj h _)];rfl
def L3(p:List Nat)(T:List (List Int)):lg (T.map λt=>Pu.D.tup [tI (pick t p),.tup []])=some (T.map λt=>(rK (pick t p),Pu.D.tup [])):=by
 induction T with
 |nil=>rfl
 |cons t T a=>
  have e:Du (Pu.D.tup [tI (pick t p),.tup []])=some (rK (pick t p),Pu.D.tup []):=by
   show(bw (tI (pick t p))).map _=_;rw[lu];rfl
  rw[aR,lg,e,a];rfl
def Fh(n:Nat){m:Nat}{T:List (List Int)}{p:List Nat}(j:∀t∈T,t.length=m)(g:Good m p)(r:m<=5)(s:T.length<=7):ae (tab (n+2)) d9 [.lst (T.map tI),tN p]=.ok (gi (cc p) (xc T p)):=by
 have gl:=g.len;have a:az (aj (aa 0)) [1] (gC (.bl true)) (Pu.h8 (Pu.au (ah (ae (tab (n+1)) ff) (Pu.au (aa 0) (Pu.au (aa 1) af))) (Pu.au (Pu.h8 af) af))) [.bo (.lst (T.map tI)),.bo (tN p)]=.ok (.lst (T.map λt=>Pu.D.tup [tI (pick t p),.tup []])):=by
  refine ie (f:=tI) (l:=T) rfl (by lia) λt b=>?_;have e:=L6 n t p (λc a=>by rw[j t b];exact g.lt c a) (by lia);have k:ah (ae (tab (n+1)) ff) (Pu.au (aa 0) (Pu.au (aa 1) af)) [.pu (tI t),.bo (tN p)]=.ok (tI (pick t p)):=by
   rw[jk];exact e
  show Pu.h8 (Pu.au (ah (ae (tab (n+1)) ff) (Pu.au (aa 0) (Pu.au (aa 1) af))) (Pu.au (Pu.h8 af) af)) [.pu (tI t),.bo (tN p)]=_;rw[NM,Cp,k];rfl
 have i:ug (.lst (T.map λt=>Pu.D.tup [tI (pick t p),.tup []]))=some (.ja true ((xc T p).map rl)):=by
  show(if(T.map λt=>Pu.D.tup [tI (pick t p),.tup []]).length<=aQ then(lg (T.map λt=>Pu.D.tup [tI (pick t p),.tup []])).map _ else none)=_;rw[aN (by rw[aF,cR];lia),L3];show some (Pu.D.ja true (va [] _))=_;rw[show va [] (T.map λt=>(rK (pick t p),Pu.D.tup []))=va (([]:List g8).map rl) (T.map λt=>(rK (pick t p),Pu.D.tup []))from rfl,Lp p T [] (λq d=>by cases d)];rfl
 have h:g1 ug (az (aj (aa 0)) [1] (gC (.bl true)) (Pu.h8 (Pu.au (ah (ae (tab (n+1)) ff) (Pu.au (aa 0) (Pu.au (aa 1) af))) (Pu.au (Pu.h8 af) af)))) [.bo (.lst (T.map tI)),.bo (tN p)]=.ok (.ja true ((xc T p).map rl)):=by
  rw[Da,a,fb,i];rfl
 have o:g1 fo (aa 1) [.bo (.lst (T.map tI)),.bo (tN p)]=.ok (de (cc p)):=by
  show Res.of (some (Pu.D.lst (aq p)))=_;rw[Ir];rfl
 rw[Gu (n+1)];show g7 (m6 (n+1) [.bo (.lst (T.map tI)),.bo (tN p)])=_;unfold m6;rw[t5,jk,Cp,o];dsimp only;rw[Cp,h];dsimp only;rw[JO];rfl
/-- the rows of a part -/
def DM(T:List (List Int))(p:List Nat)(Z:Int->Int):Prop:=∃t∈T,∀c∈p,Z (c:Int)=t.getD c 0
def Kt(T:List (List Int))(p:List Nat):FT:=⟨cc p,xc T p,DM T p⟩
def vw(p:List Nat)(Z:Int->Int):(cc p).map Z=p.map λ(c:Nat)=>Z (c:Int):=by unfold cc;rw[bW];rfl
def Qk{T:List (List Int)}{p:List Nat}{r:List Int}:r∈bj (xc T p)↔∃t∈T,r=pick t p:=by
 unfold xc;rw[Ic];constructor
 ·rintro (h|⟨t,a,e⟩)
  ·cases h
  ·obtain⟨q,c,rfl⟩:=List.mem_map.mp a;obtain⟨u,b,rfl⟩:=List.mem_map.mp c;exact⟨u,b,e⟩
 ·rintro ⟨t,a,e⟩
  exact .inr ⟨t,List.mem_map.mpr ⟨(t,[]),List.mem_map.mpr ⟨t,a,rfl⟩,rfl⟩,e⟩
def KG{m:Nat}{T:List (List Int)}{p:List Nat}(g:Good m p)(j:m<=5)(l:T.length<=7):(Kt T p).ok:=by
 have gl:=g.len;have n:(cc p).length=p.length:=by unfold cc;rw[aF]
 refine⟨⟨?_,λ_ _=>rfl,by show(cc p).length<=100;lia,By _ _ _ fE,λr=>?_,Bz _ 1 _ _ (λq i=>by cases i) λq i=>?_⟩,?_,?_,by show(cc p).length<=5;lia⟩
 ·show(cc p).Nodup;unfold cc;exact oO _ (λa b (h:a<b) e=>by have:=Int.ofNat.inj e;lia) g.vR
 ·show r∈bj (xc T p)↔∃Z,DM T p Z/\r=(cc p).map Z;rw[Qk];constructor
  ·rintro ⟨t,d,rfl⟩
   refine⟨λx=>t.getD x.toNat 0,⟨t,d,λc _=>rfl⟩,?_⟩;rw[vw];rfl
  ·rintro ⟨Z,⟨t,d,e⟩,rfl⟩
   refine⟨t,d,?_⟩;rw[vw];exact cM λc f=>e c f
 ·obtain⟨t,_,rfl⟩:=List.mem_map.mp i;exact bX _
 ·rintro Z τ h ⟨t,d,e⟩
  refine⟨t,d,λc f=>?_⟩;rw[<-h (c:Int) (by show(c:Int)∈cc p;exact List.mem_map.mpr ⟨c,f,rfl⟩)];exact e c f
 ·have:=Iq p (T.map λt=>(t,[])) [];rw[dA,aF]at this;show(xc T p).length<=7;unfold xc
  lia
/-- Lg a row of the table,in the part -/
def Lg(T:List (List Int))(p:List Nat)(r:List Int):Prop:=∃t∈T,∀c∈p,r.getD c 0=t.getD c 0
def ux(m:Nat)(Z:Int->Int){c:Nat}(h:c<m):((cc (aS m)).map Z).getD c 0=Z (c:Int):=by
 rw[vw,aU,bJ,kH h];rfl
end LK
end
section
/-! put_together -/
namespace LK
open PySem PySem.Spec PyProof.Rows Pu
def Fv(A B C D E:List Pu.D->Res){T P a:Pu.D}{c:List Int}{rows:List g8}{W:List (List Nat)}{F:List Nat->FT}{b:List Nat}{R:List (List Int)}
  (s:A [P]=.ok a)(hB:B [P]=.ok (.lst (W.map tN)))(q:∀w∈W,C [T,tN w]=.ok (F w).D)(x:W.length<=1000)
  (hD:D [.lst (W.map λw=>(F w).D),a]=.ok (gi c rows)) (p:E [a,de c]=.ok (.lst (aq b))) (g:rows.length<=1000000) (G:List Pu.D->Res) (o:∀r∈bj rows,G [tI r,.lst (aq b)]=.ok (tI (pick r b))) (n:mh (.lst ((bj rows).map λr=>tI (pick r b)))=some (.lst (R.map tI))):
  g7 ((bg (e9 2 (ah A (Pu.au (aa 1) af)))
 (bg (e9 3 (ah D (Pu.au (az (aj (ah B (Pu.au (aa 1) af))) [0] (gC (.bl true)) (ah C (Pu.au (aa 1) (Pu.au (aa 0) af)))) (Pu.au (aa 2) af))))
 (bg (e9 4 (ah E (Pu.au (aa 2) (Pu.au (fq xs.cls "columns" (aa 3)) af))))
 (f9 (g1 mh (az (gz (fq xs.cls "rows" (aa 3))) [4] (gC (.bl true)) (ah G (Pu.au (aa 0) (Pu.au (aa 1) af))))))))) [.bo T,.bo P,.no,.no,.no])=.ok (.lst (R.map tI)):=by
 have j:e9 2 (ah A (Pu.au (aa 1) af)) [.bo T,.bo P,.no,.no,.no]=.nx [.bo T,.bo P,.pu a,.no,.no]:=by
  rw[zf,jk];show(A [P]).then _=_;rw[s];rfl
 have v:az (aj (ah B (Pu.au (aa 1) af))) [0] (gC (.bl true)) (ah C (Pu.au (aa 1) (Pu.au (aa 0) af))) [.bo T,.bo P,.pu a,.no,.no]=.ok (.lst (W.map λw=>(F w).D)):=by
  have m:aj (ah B (Pu.au (aa 1) af)) [.bo T,.bo P,.pu a,.no,.no]=.ok (W.map tN):=by
   rw[X4,jk];show(match B [P]with|.ok d=>_|.er c=>_|.st=>_)=_;rw[hB];rfl
  refine ie (f:=tN) (l:=W) m (by lia) λw e=>?_;show ah C (Pu.au (aa 1) (Pu.au (aa 0) af)) [.pu (tN w),.bo T]=_;rw[jk];exact q w e
 have i:e9 3 (ah D (Pu.au (az (aj (ah B (Pu.au (aa 1) af))) [0] (gC (.bl true)) (ah C (Pu.au (aa 1) (Pu.au (aa 0) af)))) (Pu.au (aa 2) af))) [.bo T,.bo P,.pu a,.no,.no]=.nx [.bo T,.bo P,.pu a,.pu (gi c rows),.no]:=by
  rw[zf,jk,Cp,v];show(D [.lst (W.map λw=>(F w).D),a]).then _=_;rw[hD];rfl
 have h:e9 4 (ah E (Pu.au (aa 2) (Pu.au (fq xs.cls "columns" (aa 3)) af))) [.bo T,.bo P,.pu a,.pu (gi c rows),.no]=.nx [.bo T,.bo P,.pu a,.pu (gi c rows),.pu (.lst (aq b))]:=by
  rw[zf,jk];show(E [a,de c]).then _=_;rw[p];rfl
 have u:az (gz (fq xs.cls "rows" (aa 3))) [4] (gC (.bl true)) (ah G (Pu.au (aa 0) (Pu.au (aa 1) af))) [.bo T,.bo P,.pu a,.pu (gi c rows),.pu (.lst (aq b))]=.ok (.lst ((bj rows).map λr=>tI (pick r b))):=by
  refine ie (f:=tI) (l:=bj rows) ?_ (by rw[aF];lia) λr g=>?_
  ·rw[CM];show dg.ok _=_;rw[bW,bW];rfl
  ·show ah G (Pu.au (aa 0) (Pu.au (aa 1) af)) [.pu (tI r),.pu (.lst (aq b))]=_;rw[jk];exact o r g
 rw[fm,j];dsimp only;rw[fm,i];dsimp only;rw[fm,h];dsimp only;rw[t5,Da,u,fb,n];rfl
def IS(n:Nat){m:Nat}{T:List (List Int)}{P:List (List Nat)}(hT:∀t∈T,t.length=m)(g:∀p∈P,Good m p)(C:m<=5)(z:T.length<=7)(E:P.length<=5)(u:∀c,c<m->∃p∈P,c∈p):
  ∃R:List (List Int),R.Pairwise (· <·)/\(∀r,r∈R↔r.length=m/\∀p∈P,Lg T p r)/\R.length<=16807/\ae (tab (n+6)) cj [.lst (T.map tI),.lst (P.map tN)]=.ok (.lst (R.map tI)):=by
 obtain⟨W,G,Y,w3,w4⟩:=Rx (n+3) g C E;have M:∀f∈W.map (Kt T),f.ok:=λf N=>by
  obtain⟨w,o,rfl⟩:=List.mem_map.mp N;exact KG (g w (G w o)) C z
 have cl:(cc (aS m)).length=m:=by unfold cc;rw[aF,bZ]
 obtain⟨c,d,v,r1,r2,r3,r4⟩:=Pt n (wd:=cc (aS m)) (fs:=W.map (Kt T)) (λ_ _=>rfl) (by lia) M (by rw[aF];lia);have mc:∀x,x∈c↔x∈cc (aS m):=λx=>by
  rw[r3];refine⟨λh=>h.2,λh=>⟨?_,h⟩⟩;obtain⟨k,s,rfl⟩:=List.mem_map.mp h;obtain⟨p,B,hc⟩:=u k (List.mem_range.mp s);obtain⟨w,o,J⟩:=Y p B;exact List.mem_flatMap.mpr ⟨Kt T w,List.mem_map.mpr ⟨w,o,rfl⟩,List.mem_map.mpr ⟨k,J k hc,rfl⟩⟩
 have j:∀x∈cc (aS m),x∈c:=λx y=>(mc x).mpr y;have A:∀Z:Int->Int,pick (c.map Z) ((cc (aS m)).map c.idxOf)=(cc (aS m)).map Z:=λZ=>j4 j;have nd:((bj d).map λr=>pick r ((cc (aS m)).map c.idxOf)).Nodup:=by
  refine oO _ ?_ (List.Pairwise.and_mem.mp v.rn)
  rintro a b ⟨Q,hb,O⟩ e
  obtain⟨Z,_,rfl⟩:=(v.mem a).mp Q;obtain⟨τ,_,rfl⟩:=(v.mem b).mp hb;rw[A,A]at e;refine O (cM λx y=>?_);obtain⟨k,s,rfl⟩:=List.mem_map.mp ((mc x).mp y);have:=congrArg (λl=>List.getD l k 0) e;simp only[ux m Z (List.mem_range.mp s),ux m τ (List.mem_range.mp s)]at this;exact this
 obtain⟨R,s1,s2,s3⟩:=Cg nd (by rw[aF,aF];lia);refine⟨R,s3,λr=>?_,by rw[s2.length_eq,aF,aF];exact r1,?_⟩
 ·rw[s2.mem_iff,iJ];constructor
  ·rintro ⟨a,Q,rfl⟩
   obtain⟨Z,H,rfl⟩:=(v.mem a).mp Q;rw[A];refine⟨by rw[aF,cl],λp B=>?_⟩;obtain⟨w,o,J⟩:=Y p B;obtain⟨t,I,e⟩:=H (Kt T w) (List.mem_map.mpr ⟨w,o,rfl⟩);refine⟨t,I,λk s=>?_⟩;rw[ux m Z ((g p B).lt k s)];exact e k (J k s)
  ·rintro ⟨E,L⟩
   refine⟨c.map λx=>r.getD x.toNat 0,(v.mem _).mpr ⟨λx=>r.getD x.toNat 0,λf N=>?_,rfl⟩,?_⟩
   ·obtain⟨w,o,rfl⟩:=List.mem_map.mp N;obtain⟨t,I,e⟩:=L w (G w o);exact⟨t,I,λk s=>e k s⟩
   ·rw[A,vw];apply kF
    ·rw[aF,bZ,E]
    ·intro i h1 h2;simp[aU,h2]
 ·rw[A3 (n+5)];have hS:mh (.lst ((bj d).map λr=>tI (pick r ((cc (aS m)).map c.idxOf))))=some (.lst (R.map tI)):=by
   rw[bW]at s1;show(ik ((bj d).map λr=>tI (pick r ((cc (aS m)).map c.idxOf)))).map _=_;rw[show((bj d).map λr=>tI (pick r ((cc (aS m)).map c.idxOf)))=(bj d).map (tI ∘ λr=>pick r ((cc (aS m)).map c.idxOf))from rfl,s1];rfl
  have U:∀w∈W,ae (tab (n+5)) d9 [.lst (T.map tI),tN w]=.ok (Kt T w).D:=λw o=>Fh (n+3) hT (g w (G w o)) C z;refine Fv (ae (tab (n+5)) c6) (ae (tab (n+5)) jv) (ae (tab (n+5)) d9) (ae (tab (n+5)) cb) (ae (tab (n+5)) gm) (c:=c) (rows:=d) (W:=W) (F:=Kt T) (Yi (n+4) g C E u) w4 U (by lia) (by rw[bW]at r4;exact r4) (ko (n+4) (λ_ _=>rfl) (by have:=v.cl;lia) j (by lia)) (by lia) (ae (tab (n+5)) ff) (λr L=>oi (n+4) r _ (λq hq=>?_) (by rw[aF];lia)) hS;obtain⟨x,y,rfl⟩:=List.mem_map.mp hq;obtain⟨Z,_,rfl⟩:=(v.mem r).mp L;rw[aF];exact cW (j x y)
end LK
end
section
/-! the law's own:Lg,the product of the columns -/
namespace LK
open PySem PySem.Spec PyProof.Rows Pu
def Bn(t:List Int)(p:List Nat)(r:List Int):Bool:=p.all λc=>t.getD c 0==r.getD c 0
def ur(T:List (List Int))(p:List Nat)(r:List Int):Bool:=T.any λt=>Bn t p r
def Dt{T:List (List Int)}{p:List Nat}{r:List Int}:ur T p r=true↔Lg T p r:=by
 unfold ur Bn Lg;rw[mJ];constructor
 ·rintro ⟨t,a,h⟩
  exact⟨t,a,λc b=>(eU (List.all_eq_true.mp h c b)).symm⟩
 ·rintro ⟨t,a,h⟩
  exact⟨t,a,List.all_eq_true.mpr λc b=>beq_iff_eq.mpr (h c b).symm⟩
def Yb:En->Out:=(B8 (g2 gu (az (aj (aa 1)) [3,2] (g2 jm (g2 dj (aa 1) (aa 0)) (g2 dj (aa 2) (aa 0))) (b8 0)) (cx af)) (f9 (gC (.bl true))) my)
def LV{m:Nat}{t r:List Int}{p:List Nat}(b:Sl)(q:t.length=m)(s:r.length=m)(g:Good m p)(u:m<=5):Yb [b,.bo (tN p),.bo (tI r),.pu (tI t)]=if Bn t p r then .rt (.bl true)else .nx [b,.bo (tN p),.bo (tI r),.pu (tI t)]:=by
 have gl:=g.len;have a:az (aj (aa 1)) [3,2] (g2 jm (g2 dj (aa 1) (aa 0)) (g2 dj (aa 2) (aa 0))) (b8 0) [b,.bo (tN p),.bo (tI r),.pu (tI t)]=.ok (.lst (aq (p.filter λc=> !(t.getD c 0==r.getD c 0)))):=by
  refine d5 (f:=λ(c:Nat)=>Pu.D.int (c:Int)) (l:=p) rfl (by lia) λc a=>?_;have v:=g.lt c a;have o:=Hm t c (by lia);have n:=Hm r c (by lia);show((Res.of (dj (tI t) (.int (c:Int)))).bind λx=>(Res.of (dj (tI r) (.int (c:Int)))).bind λy=>Res.of (jm x y))=_;rw[o,n];rfl
 have e:=(wa (ds:=aq (p.filter λc=> !(t.getD c 0==r.getD c 0))) (Xj λd j=>by
  obtain⟨c,_,rfl⟩:=List.mem_map.mp j;exact⟨.int c,rfl,rfl,bX _⟩)).1
 have i:(aq (p.filter λc=> !(t.getD c 0==r.getD c 0))).isEmpty=Bn t p r:=by
  unfold aq;rw[t9];unfold Bn;cases h:p.all λc=>t.getD c 0==r.getD c 0 with
  |true=>
   refine decide_eq_true (List.filter_eq_nil_iff.mpr λc a=>?_);rw[List.all_eq_true.mp h c a]
   decide
  |false=>
   refine decide_eq_false λz=>?_;rw[List.filter_eq_nil_iff]at z;have:(p.all λc=>t.getD c 0==r.getD c 0)=true:=List.all_eq_true.mpr λc a=>by simpa using z c a
   rw[h]at this;cases this
 rw[i]at e;unfold Yb;rw[Jy,Rv,a,fb];show(Res.of (gu _ (.lst []))).then _=_;rw[e];cases Bn t p r<;>rfl
def Zy(n:Nat){m:Nat}{T:List (List Int)}{r:List Int}{p:List Nat}(s:∀t∈T,t.length=m)(o:r.length=m)(g:Good m p)(q:m<=5):ae (tab (n+1)) di [.lst (T.map tI),tN p,tI r]=.ok (.bl (ur T p r)):=by
 have i:∀(U:List (List Int))(a b:Sl),(∀t∈U,t.length=m)->(ur U p r=true/\turns (a0 3) Yb (U.map tI) [a,.bo (tN p),.bo (tI r),b]=.rt (.bl true))\/(ur U p r=false/\∃e,turns (a0 3) Yb (U.map tI) [a,.bo (tN p),.bo (tI r),b]=.nx [a,.bo (tN p),.bo (tI r),e]):=by
  intro U;induction U with
  |nil=>intro a b _;exact .inr ⟨rfl,b,rfl⟩
  |cons t U j=>
   intro a b h;rw[aR,cu (δ1:=[a,.bo (tN p),.bo (tI r),.pu (tI t)]) rfl,LV a (h t (.head _)) o g q];unfold ur;rw[gN];cases u:Bn t p r with
   |true=>exact .inl ⟨rfl,rfl⟩
   |false=>exact j a _ λt l=>h t (.tail _ l)
 rw[Km];show g7 (o6 n [.bo (.lst (T.map tI)),.bo (tN p),.bo (tI r),.no])=_;have f:fz [0] (ft (a0 3) (aj (wc 0)) Yb) [.bo (.lst (T.map tI)),.bo (tN p),.bo (tI r),.no]=turns (a0 3) Yb (T.map tI) [.bo (.lst (T.map tI)),.bo (tN p),.bo (tI r),.no]:=by
  rw[Ru,ou];show ft (a0 3) (aj (wc 0)) Yb [.bo (.lst (T.map tI)),.bo (tN p),.bo (tI r),.no]=_;exact h9 rfl
 unfold Yb at f;unfold o6;rw[fm,f];rcases i T (.bo (.lst (T.map tI))) .no s with ⟨d,c⟩|⟨d,e,c⟩
 ·unfold Yb at c;rw[c,d];rfl
 ·unfold Yb at c;rw[c,d];rfl
/-! ### the product -/
def ot(V:Nat->List Int)(L:List (List Int))(c:Nat):List (List Int):=L.flatMap λr=>(V c).map λv=>r++[v]
def k7(V:Nat->List Int):List Nat->List (List Int)->List (List Int)
 |[],L=>L
 |c::a,L=>k7 V a (ot V L c)
def eE(T P m:Pu.D)(h g f e d c b a:Sl):En:=[.bo T,.bo P,.bo m,h,g,f,e,d,c,b,a]
def LZ:En->Out:=(fz [7] (qm 5 (g2 bu (aa 6) (Pu.h8 (Pu.au (b8 7) af)))))
def T9(T P m:Pu.D)(h g f d b:Sl)(r:List Int)(q:r.length<=100):∀(c:List Int)(a:List (List Int))(i:Sl),a.length+c.length<=1000000->
  ∃j,turns (a0 7) LZ (c.map Pu.D.int) (eE T P m h g (.ow (a.map tI)) (.pu (tI r)) i f d b)=.nx (eE T P m h g (.ow ((a++c.map λv=>r++[v]).map tI)) (.pu (tI r)) j f d b):=by
 intro c;induction c with
 |nil=>intro a i _;exact⟨i,by rw[fO,fO,bT];rfl⟩
 |cons v c l=>
  intro a i n;rw[aE]at n;obtain⟨j,e⟩:=l (a++[r++[v]]) (.pu (.int v)) (by rw[aM,eD];lia);refine⟨j,?_⟩;rw[aR,cu (δ1:=eE T P m h g (.ow (a.map tI)) (.pu (tI r)) (.pu (.int v)) f d b) rfl];have p:bu (tI r) (tI [v])=some (tI (r++[v])):=Sm (by simp;lia);have o:LZ (eE T P m h g (.ow (a.map tI)) (.pu (tI r)) (.pu (.int v)) f d b)=.nx (eE T P m h g (.ow ((a++[r++[v]]).map tI)) (.pu (tI r)) (.pu (.int v)) f d b):=by
   unfold LZ;rw[Ru,ou];show qm 5 _ (eE T P m h g (.ow (a.map tI)) (.pu (tI r)) (.pu (.int v)) f d b)=_;rw[Oz];show(Res.of (bu (tI r) (tI [v]))).then _=_;rw[p,ox,kq,aN (by rw[aF];lia),cO];rfl
  rw[o];dsimp only;rw[aR,show a++(r++[v])::c.map (λv=>r++[v])=a++[r++[v]]++c.map λv=>r++[v] by simp];exact e
def DG:En->Out:=(ft (a0 7) (aj (g1 cm (az (aj (aa 0)) [4] (gC (.bl true)) (g2 dj (aa 0) (aa 1))))) LZ)
def Vr(P:Pu.D){m c:Nat}{T:List (List Int)}(G:∀t∈T,t.length=m)(z:c<m)(E:T.length<=7){V:List Int}(C:cm (.lst ((T.map λt=>t.getD c 0).map Pu.D.int))=some (.lst (V.map Pu.D.int)))(B:V.length<=7)(h g e b:Sl):∀(L a:List (List Int))(j d:Sl),(∀r∈L,r.length<=100)->a.length+7 * L.length<=1000000->
  ∃o i,turns (a0 6) DG (L.map tI) (eE (.lst (T.map tI)) P (.int (m:Int)) h (.pu (.int (c:Int))) (.ow (a.map tI)) j d g e b)=.nx (eE (.lst (T.map tI)) P (.int (m:Int)) h (.pu (.int (c:Int))) (.ow ((a++L.flatMap λr=>V.map λv=>r++[v]).map tI)) o i g e b):=by
 intro L;induction L with
 |nil=>intro a j d _ _;exact⟨j,d,by rw[fO,List.flatMap_nil,bT];rfl⟩
 |cons r L u=>
  intro a j d s y;rw[aE]at y;rw[aR,cu (δ1:=eE (.lst (T.map tI)) P (.int (m:Int)) h (.pu (.int (c:Int))) (.ow (a.map tI)) (.pu (tI r)) d g e b) rfl];have q:az (aj (aa 0)) [4] (gC (.bl true)) (g2 dj (aa 0) (aa 1)) (eE (.lst (T.map tI)) P (.int (m:Int)) h (.pu (.int (c:Int))) (.ow (a.map tI)) (.pu (tI r)) d g e b)=.ok (.lst ((T.map λt=>t.getD c 0).map Pu.D.int)):=by
   rw[bW];refine ie (f:=tI) (l:=T) rfl (by lia) λt x=>?_;show Res.of (dj (tI t) (.int (c:Int)))=_;rw[Hm t c (by rw[G t x];exact z)];rfl
  have w:aj (g1 cm (az (aj (aa 0)) [4] (gC (.bl true)) (g2 dj (aa 0) (aa 1)))) (eE (.lst (T.map tI)) P (.int (m:Int)) h (.pu (.int (c:Int))) (.ow (a.map tI)) (.pu (tI r)) d g e b)=.ok (V.map Pu.D.int):=by
   rw[X4,Da,q,fb,C];rfl
  obtain⟨i,I⟩:=T9 (.lst (T.map tI)) P (.int (m:Int)) h (.pu (.int (c:Int))) g e b r (s r (.head _)) V a d (by lia);have A:DG (eE (.lst (T.map tI)) P (.int (m:Int)) h (.pu (.int (c:Int))) (.ow (a.map tI)) (.pu (tI r)) d g e b)=.nx (eE (.lst (T.map tI)) P (.int (m:Int)) h (.pu (.int (c:Int))) (.ow ((a++V.map λv=>r++[v]).map tI)) (.pu (tI r)) i g e b):=by
   unfold DG;rw[h9 w];exact I
  rw[A];dsimp only;obtain⟨o,n,H⟩:=u (a++V.map λv=>r++[v]) (.pu (tI r)) i (λr p=>s r (.tail _ p)) (by rw[aM,aF];lia);refine⟨o,n,?_⟩;rw[oN,<-cD];exact H
def PU(s:Sl)(L:List (List Int)):Prop:=s=.ow (L.map tI)\/s=.pu (.lst (L.map tI))
def Js{V:Nat->List Int}{k:Nat}(a:∀c,(V c).length<=k)(L:List (List Int))(c:Nat):(ot V L c).length<=k * L.length:=by
 unfold ot;induction L with
 |nil=>exact bX _
 |cons r L b=>
  have:=a c;rw[oN,aM,aF,aE,Nat.mul_succ]
  lia
def Ie{V:Nat->List Int}{L:List (List Int)}{c:Nat}{r:List Int}:r∈ot V L c↔∃q∈L,∃v∈V c,r=q++[v]:=by
 unfold ot;rw[List.mem_flatMap];constructor
 ·rintro ⟨q,b,h⟩
  obtain⟨v,a,rfl⟩:=List.mem_map.mp h;exact⟨q,b,v,a,rfl⟩
 ·rintro ⟨q,b,v,a,rfl⟩
  exact⟨q,b,List.mem_map.mpr ⟨v,a,rfl⟩⟩
def KP:En->Out:=(bg (cq 5 (cx af))
 (bg (fz [3] (ft (a0 6) (aj (wc 3)) DG))
 (fz [5] (e9 3 (b8 5)))))
def KO(P:Pu.D){m c:Nat}{T:List (List Int)}(x:∀t∈T,t.length=m)(v:c<m)(o:T.length<=7){V:Nat->List Int}(w:cm (.lst ((T.map λt=>t.getD c 0).map Pu.D.int))=some (.lst ((V c).map Pu.D.int)))(n:(V c).length<=7){j:Sl}{L:List (List Int)}(z:PU j L)(y:∀r∈L,r.length<=100)(B:L.length<=20000)(p g f d b a:Sl):
  ∃q i h,KP (eE (.lst (T.map tI)) P (.int (m:Int)) j (.pu (.int (c:Int))) p g f d b a)=.nx (eE (.lst (T.map tI)) P (.int (m:Int)) (.pu (.lst ((ot V L c).map tI))) (.pu (.int (c:Int))) q i h d b a):=by
 obtain⟨i,h,e⟩:=Vr P x v o w n (.pu (.lst (L.map tI))) d b a L [] g f y (by simp;lia);refine⟨.pu (.lst ((ot V L c).map tI)),i,h,?_⟩;have u:cq 5 (cx af) (eE (.lst (T.map tI)) P (.int (m:Int)) j (.pu (.int (c:Int))) p g f d b a)=.nx (eE (.lst (T.map tI)) P (.int (m:Int)) j (.pu (.int (c:Int))) (.ow []) g f d b a):=rfl;have s:fz [3] (ft (a0 6) (aj (wc 3)) DG) (eE (.lst (T.map tI)) P (.int (m:Int)) j (.pu (.int (c:Int))) (.ow []) g f d b a)=.nx (eE (.lst (T.map tI)) P (.int (m:Int)) (.pu (.lst (L.map tI))) (.pu (.int (c:Int))) (.ow ((ot V L c).map tI)) i h d b a):=by
  have A:fz [3] (ft (a0 6) (aj (wc 3)) DG) (eE (.lst (T.map tI)) P (.int (m:Int)) j (.pu (.int (c:Int))) (.ow []) g f d b a)=ft (a0 6) (aj (wc 3)) DG (eE (.lst (T.map tI)) P (.int (m:Int)) (.pu (.lst (L.map tI))) (.pu (.int (c:Int))) (.ow []) g f d b a):=by
   rcases z with rfl|rfl<;>rfl
  rw[A,h9 (ds:=L.map tI) rfl];exact e
 have l:fz [5] (e9 3 (b8 5)) (eE (.lst (T.map tI)) P (.int (m:Int)) (.pu (.lst (L.map tI))) (.pu (.int (c:Int))) (.ow ((ot V L c).map tI)) i h d b a)=.nx (eE (.lst (T.map tI)) P (.int (m:Int)) (.pu (.lst ((ot V L c).map tI))) (.pu (.int (c:Int))) (.pu (.lst ((ot V L c).map tI))) i h d b a):=rfl;unfold KP;rw[fm,u];dsimp only;rw[fm,s];dsimp only;exact l
def Yr(P:Pu.D){m:Nat}{T:List (List Int)}(O:m<=5)(N:∀t∈T,t.length=m)(w:T.length<=7){V:Nat->List Int}(M:∀c,c<m->cm (.lst ((T.map λt=>t.getD c 0).map Pu.D.int))=some (.lst ((V c).map Pu.D.int)))(l:∀c,(V c).length<=7)(o n b:Sl):∀(a:List Nat)(L:List (List Int))(j p g f d:Sl),PU j L->(∀c∈a,c<m)->(∀r∈L,r.length+a.length<=100)->L.length * 7 ^ a.length<=16807->
  ∃B E A z y,PU B (k7 V a L)/\turns (a0 4) KP (a.map λ(i:Nat)=>Pu.D.int (0+(i:Int))) (eE (.lst (T.map tI)) P (.int (m:Int)) j p g f d o n b)=.nx (eE (.lst (T.map tI)) P (.int (m:Int)) B E A z y o n b):=by
 intro a;induction a with
 |nil=>intro L j p g f d h _ _ _;exact⟨j,p,g,f,d,h,rfl⟩
 |cons c a G=>
  intro L j p g f d h u C J;rw[aE,pG]at J;have U:1<=7 ^ a.length:=Nat.one_le_pow _ _ (by decide);have Q:L.length<=16807:=by
   have:L.length * 1<=L.length * (7 ^ a.length * 7):=Nat.mul_le_mul_left _ (by lia)
   lia
  rw[aR,Int.zero_add,cu (δ1:=eE (.lst (T.map tI)) P (.int (m:Int)) j (.pu (.int (c:Int))) g f d o n b) rfl];obtain⟨A,z,y,e⟩:=KO P N (u c (.head _)) w (M c (u c (.head _))) (l c) h (λr s=>by have:=C r s;rw[aE]at this;lia) (by lia) g f d o n b;rw[e];dsimp only;refine G _ _ _ _ _ _ (.inr rfl) (λx H=>u x (.tail _ H)) (λr s=>?_) ?_
  ·obtain⟨q,I,v,_,rfl⟩:=Ie.mp s;have:=C q I;rw[aE]at this;rw[aM,eD]
   lia
  ·have:=Nat.mul_le_mul_right (7 ^ a.length) (Js l L c);have Y:7 * L.length * 7 ^ a.length=L.length * (7 ^ a.length * 7):=by
    rw[Nat.mul_comm 7,Nat.mul_assoc,Nat.mul_comm 7]
   lia
/-! ### those that are Lg -/
def DF(F:List Pu.D->Res):En->Out:=(fz [9] (e9 9 (A5 (b8 9) (ah F (Pu.au (aa 0) (Pu.au (aa 10) (Pu.au (aa 6) af)))))))
def AO(F:List Pu.D->Res)(T n m:Pu.D)(b:List Nat->Bool)(r:List Int)(l j i g f:Sl):∀(P:List (List Nat))(a:Bool)(c:Sl),(∀p∈P,F [T,tN p,tI r]=.ok (.bl (b p)))->
  ∃d,turns (a0 10) (DF F) (P.map tN) (eE T n m l j i (.pu (tI r)) g f (.pu (.bl a)) c)=.nx (eE T n m l j i (.pu (tI r)) g f (.pu (.bl (a && P.all b))) d):=by
 intro P;induction P with
 |nil=>intro a c _;exact⟨c,by rw[List.all_nil,Bool.and_true];rfl⟩
 |cons p P o=>
  intro a c h;obtain⟨d,e⟩:=o (a && b p) (.pu (tN p)) λq s=>h q (.tail _ s);refine⟨d,?_⟩;rw[aR,cu (δ1:=eE T n m l j i (.pu (tI r)) g f (.pu (.bl a)) (.pu (tN p))) rfl];have u:DF F (eE T n m l j i (.pu (tI r)) g f (.pu (.bl a)) (.pu (tN p)))=.nx (eE T n m l j i (.pu (tI r)) g f (.pu (.bl (a && b p))) (.pu (tN p))):=by
   have k:ah F (Pu.au (aa 0) (Pu.au (aa 10) (Pu.au (aa 6) af))) (eE T n m l j i (.pu (tI r)) g f (.pu (.bl a)) (.pu (tN p)))=.ok (.bl (b p)):=by
    rw[jk];exact h p (.head _)
   unfold DF;rw[Ru,ou];show e9 9 _ (eE T n m l j i (.pu (tI r)) g f (.pu (.bl a)) (.pu (tN p)))=_;rw[zf,EX];show(match Pu.D.bl a with|.bl true=>_|.bl false=>_|_=>_:Res).then _=_;cases a with
   |true=>dsimp only;rw[k];rfl
   |false=>rfl
  rw[u];dsimp only;rw[cF,<-Bool.and_assoc];exact e
def FQ(F:List Pu.D->Res):En->Out:=(bg (e9 9 (gC (.bl true)))
 (bg (fz [1] (ft (a0 10) (aj (wc 1)) (DF F)))
 (B8 (A8 (aa 9)) (fz [6] (qm 8 (b8 6))) my)))
def Za(F:List Pu.D->Res)(T m:Pu.D){P:List (List Nat)}(b:List Int->List Nat->Bool)(j i g f:Sl):∀(L a:List (List Int))(o l c:Sl),(∀r∈L,∀p∈P,F [T,tN p,tI r]=.ok (.bl (b r p)))->a.length+L.length<=1000000->
  ∃u s d,turns (a0 6) (FQ F) (L.map tI) (eE T (.lst (P.map tN)) m j i g o f (.ow (a.map tI)) l c)=.nx (eE T (.lst (P.map tN)) m j i g u f (.ow ((a++L.filter λr=>P.all (b r)).map tI)) s d):=by
 intro L;induction L with
 |nil=>intro a o l c _ _;exact⟨o,l,c,by rw[List.filter_nil,bT];rfl⟩
 |cons r L z=>
  intro a o l c h B;rw[aE]at B;rw[aR,cu (δ1:=eE T (.lst (P.map tN)) m j i g (.pu (tI r)) f (.ow (a.map tI)) l c) rfl];have y:e9 9 (gC (.bl true)) (eE T (.lst (P.map tN)) m j i g (.pu (tI r)) f (.ow (a.map tI)) l c)=.nx (eE T (.lst (P.map tN)) m j i g (.pu (tI r)) f (.ow (a.map tI)) (.pu (.bl true)) c):=rfl;obtain⟨d,w⟩:=AO F T (.lst (P.map tN)) m (b r) r j i g f (.ow (a.map tI)) P true c (h r (.head _));rw[Bool.true_and]at w;have x:fz [1] (ft (a0 10) (aj (wc 1)) (DF F)) (eE T (.lst (P.map tN)) m j i g (.pu (tI r)) f (.ow (a.map tI)) (.pu (.bl true)) c)=.nx (eE T (.lst (P.map tN)) m j i g (.pu (tI r)) f (.ow (a.map tI)) (.pu (.bl (P.all (b r)))) d):=by
   have E:fz [1] (ft (a0 10) (aj (wc 1)) (DF F)) (eE T (.lst (P.map tN)) m j i g (.pu (tI r)) f (.ow (a.map tI)) (.pu (.bl true)) c)=ft (a0 10) (aj (wc 1)) (DF F) (eE T (.lst (P.map tN)) m j i g (.pu (tI r)) f (.ow (a.map tI)) (.pu (.bl true)) c):=rfl;rw[E,h9 (ds:=P.map tN) rfl];exact w
  have v:B8 (A8 (aa 9)) (fz [6] (qm 8 (b8 6))) my (eE T (.lst (P.map tN)) m j i g (.pu (tI r)) f (.ow (a.map tI)) (.pu (.bl (P.all (b r)))) d)=.nx (eE T (.lst (P.map tN)) m j i g (.pu (tI r)) f (.ow ((a++if P.all (b r)then[r]else[]).map tI)) (.pu (.bl (P.all (b r)))) d):=by
   rw[Jy,EV];show(Res.ok (Pu.D.bl (P.all (b r)))).then _=_;rw[kq];cases G:P.all (b r)with
   |false=>
    rw[show(a++if(false:Bool)=true then[r]else[])=a by simp];rfl
   |true=>
    show fz [6] (qm 8 (b8 6)) (eE T (.lst (P.map tN)) m j i g (.pu (tI r)) f (.ow (a.map tI)) (.pu (.bl true)) d)=_;rw[Ru,ou];show qm 8 (b8 6) (eE T (.lst (P.map tN)) m j i g (.pu (tI r)) f (.ow (a.map tI)) (.pu (.bl true)) d)=_;rw[Oz];show(if(a.map tI).length<16777216 then _ else _)=_;rw[aN (by rw[aF];lia),aN rfl,cO];rfl
  have C:FQ F (eE T (.lst (P.map tN)) m j i g (.pu (tI r)) f (.ow (a.map tI)) l c)=.nx (eE T (.lst (P.map tN)) m j i g (.pu (tI r)) f (.ow ((a++if P.all (b r)then[r]else[]).map tI)) (.pu (.bl (P.all (b r)))) d):=by
   unfold FQ;rw[fm,y];dsimp only;rw[fm,x];dsimp only;exact v
  rw[C];dsimp only;obtain⟨u,s,n,e⟩:=z (a++if P.all (b r)then[r]else[]) (.pu (tI r)) (.pu (.bl (P.all (b r)))) d (λq A=>h q (.tail _ A)) (by rw[aM];split<;>simp<;>lia);refine⟨u,s,n,?_⟩;rw[e,iR,cD];cases P.all (b r)<;>rfl
def Dx(V:Nat->List Int)(c:Nat):∀(b:List Nat)(L:List (List Int)),k7 V (b++[c]) L=ot V (k7 V b L) c:=by
 intro b;induction b with
 |nil=>intro L;rfl
 |cons a b d=>intro L;exact d _
def GY:∀{q c:List Int}(s d:List Int),q.length=c.length->q<c->q++s<c++d:=by
 intro q;induction q with
 |nil=>
  intro c s d e h;cases c with
  |nil=>exact absurd h (kA _)
  |cons=>cases e
 |cons a q f=>
  intro c s d e h;cases c with
  |nil=>cases e
  |cons b c=>
   rw[cY,cY];rcases List.cons_lt_cons_iff.mp h with h|⟨i,g⟩
   ·exact List.cons_lt_cons_iff.mpr (.inl h)
   ·exact List.cons_lt_cons_iff.mpr (.inr ⟨i,f s d (by simpa using e) g⟩)
def GX(q:List Int){v b:Int}(h:v<b):q++[v]<q++[b]:=by
 induction q with
 |nil=>exact List.cons_lt_cons_iff.mpr (.inl h)
 |cons a q c=>rw[cY,cY];exact List.cons_lt_cons_iff.mpr (.inr ⟨rfl,c⟩)
def BY{V:Nat->List Int}(z:∀c,(V c).Pairwise (· <·)):∀k,(k7 V (aS k) [[]]).Pairwise (· <·)/\∀r,r∈k7 V (aS k) [[]]↔r.length=k/\∀c,c<k->r.getD c 0∈V c:=by
 intro k;induction k with
 |zero=>
  refine⟨lD _ _,λr=>?_⟩;show r∈[[]]↔_;rw[jF];exact⟨λh=>by rw[h];exact⟨rfl,λc g=>by lia⟩,λh=>List.length_eq_zero_iff.mp h.1⟩
 |succ k l=>
  obtain⟨m,d⟩:=l;rw[List.range_succ,Dx];constructor
  ·unfold ot;rw[List.pairwise_flatMap];constructor
   ·intro q _;rw[iH];exact(z k).imp λh=>GX q h
   ·refine(List.Pairwise.and_mem.mp m).imp ?_
    rintro a b ⟨w,u,i⟩ x o y n
    obtain⟨v,_,rfl⟩:=List.mem_map.mp o;obtain⟨A,_,rfl⟩:=List.mem_map.mp n;exact GY _ _ (by rw[((d a).mp w).1,((d b).mp u).1]) i
  ·intro r;rw[Ie];constructor
   ·rintro ⟨q,s,v,p,rfl⟩
    obtain⟨j,f⟩:=(d q).mp s;refine⟨by rw[aM,eD,j],λc g=>?_⟩;rw[aU]
    by_cases e:c<k
    ·rw[cA (by lia),<-aU];exact f c e
    ·obtain rfl:c=k:=by lia
     rw[cK (by lia),j,Nat.sub_self];exact p
   ·rintro ⟨j,f⟩
    refine⟨r.take k,(d _).mpr ⟨by rw[dQ];lia,λc g=>?_⟩,r.getD k 0,f k (by lia),?_⟩
    ·rw[aU,List.getElem?_take,aN g,<-aU];exact f c (by lia)
    ·rw[aU,aW (by lia)];have:=cI k r;rw[cU (by lia),gK (by lia)]at this;exact this.symm
def Jw(n:Nat){m:Nat}{T:List (List Int)}{P:List (List Nat)}(I:∀t∈T,t.length=m)(g:∀p∈P,Good m p)(v:m<=5)(y:T.length<=7)(l:∀c,c<m->∃p∈P,c∈p):
  ∃R:List (List Int),R.Pairwise (· <·)/\(∀r,r∈R↔r.length=m/\∀p∈P,Lg T p r)/\ae (tab (n+2)) b9 [.lst (T.map tI),.lst (P.map tN),.int (m:Int)]=.ok (.lst (R.map tI)):=by
 obtain⟨V,q⟩:=Classical.axiomOfChoice λc:Nat=>xh (P:=T.map λt=>t.getD c 0) (by rw[aF];lia);have o:∀c,(V c).length<=7:=λc=>by
  have:=(q c).2.2.2.1;rw[aF]at this
  lia
 obtain⟨O,H⟩:=BY (V:=V) (λc=>(q c).2.2.2.2) m;have Q:∀r∈k7 V (aS m) [[]],∀p∈P,ae (tab (n+1)) di [.lst (T.map tI),tN p,tI r]=.ok (.bl (ur T p r)):=λr u p h=>Zy n I ((H r).mp u).1 (g p h) v;have Y:7 ^ m<=16807:=V9 m v;obtain⟨j,d,b,f,a,e1,e2⟩:=Yr (.lst (P.map tN)) v I y (λc _=>(q c).1) o .no .no .no (aS m) [[]] (.ow [tI []]) .no .no .no .no (.inl rfl) (λc x=>List.mem_range.mp x) (λr u=>by rw[List.mem_singleton.mp u,bZ];simp;lia) (by rw[bZ];simpa using Y);have N:∀k,(k7 V (aS k) [[]]).length<=7 ^ k:=λk=>by
  induction k with
  |zero=>exact aJ _
  |succ k ih=>
   rw[List.range_succ,Dx,pG];have:=Js o (k7 V (aS k) [[]]) k
   lia
 obtain⟨C,B,i,A⟩:=Za (ae (tab (n+1)) di) (.lst (T.map tI)) (.int (m:Int)) (P:=P) (λr p=>ur T p r) (.pu (.lst ((k7 V (aS m) [[]]).map tI))) d b a (k7 V (aS m) [[]]) [] f .no .no Q (by have:=N m;simp;lia);rw[iD]at A;refine⟨(k7 V (aS m) [[]]).filter λr=>P.all λp=>ur T p r,mY _ O,λr=>?_,?_⟩
 ·rw[nH,H,List.all_eq_true];constructor
  ·rintro ⟨⟨z,_⟩,s⟩
   exact⟨z,λp h=>Dt.mp (s p h)⟩
  ·rintro ⟨z,s⟩
   refine⟨⟨z,λc x=>?_⟩,λp h=>Dt.mpr (s p h)⟩;obtain⟨p,h,w⟩:=l c x;obtain⟨t,U,e⟩:=s p h;exact((q c).2.1 _).mpr (List.mem_map.mpr ⟨t,U,(e c w).symm⟩)
 ·have M:cq 3 (cx (Pu.au (Pu.h8 af) af)) [.bo (.lst (T.map tI)),.bo (.lst (P.map tN)),.bo (.int (m:Int)),.no,.no,.no,.no,.no,.no,.no,.no]=.nx (eE (.lst (T.map tI)) (.lst (P.map tN)) (.int (m:Int)) (.ow [tI []]) .no .no .no .no .no .no .no):=rfl;have G:ft (a0 4) (cy (Pu.au (aa 2) af)) KP (eE (.lst (T.map tI)) (.lst (P.map tN)) (.int (m:Int)) (.ow [tI []]) .no .no .no .no .no .no .no)=.nx (eE (.lst (T.map tI)) (.lst (P.map tN)) (.int (m:Int)) j d b f a .no .no .no):=by
   rw[h9 ((mm _ _ (j':=m) rfl (by lia)).trans rfl)];exact e2
  have L:cq 8 (cx af) (eE (.lst (T.map tI)) (.lst (P.map tN)) (.int (m:Int)) j d b f a .no .no .no)=.nx (eE (.lst (T.map tI)) (.lst (P.map tN)) (.int (m:Int)) j d b f a (.ow []) .no .no):=rfl;have E:fz [3] (ft (a0 6) (aj (wc 3)) (FQ (ae (tab (n+1)) di))) (eE (.lst (T.map tI)) (.lst (P.map tN)) (.int (m:Int)) j d b f a (.ow []) .no .no)=.nx (eE (.lst (T.map tI)) (.lst (P.map tN)) (.int (m:Int)) (.pu (.lst ((k7 V (aS m) [[]]).map tI))) d b C a (.ow (((k7 V (aS m) [[]]).filter λr=>P.all λp=>ur T p r).map tI)) B i):=by
   generalize ae (tab (n+1)) di=F at A⊢;have fr:fz [3] (ft (a0 6) (aj (wc 3)) (FQ F)) (eE (.lst (T.map tI)) (.lst (P.map tN)) (.int (m:Int)) j d b f a (.ow []) .no .no)=ft (a0 6) (aj (wc 3)) (FQ F) (eE (.lst (T.map tI)) (.lst (P.map tN)) (.int (m:Int)) (.pu (.lst ((k7 V (aS m) [[]]).map tI))) d b f a (.ow []) .no .no):=by
    rcases e1 with rfl|rfl<;>rfl
   rw[fr,h9 (ds:=(k7 V (aS m) [[]]).map tI) rfl];exact A
  have J:∀R:List Pu.D,fz [8] (f9 (b8 8)) (eE (.lst (T.map tI)) (.lst (P.map tN)) (.int (m:Int)) (.pu (.lst ((k7 V (aS m) [[]]).map tI))) d b C a (.ow R) B i)=.rt (.lst R):=λR=>rfl;rw[A2 (n+1)];show g7 (jq (n+1) [.bo (.lst (T.map tI)),.bo (.lst (P.map tN)),.bo (.int (m:Int)),.no,.no,.no,.no,.no,.no,.no,.no])=_;unfold KP DG LZ at G;unfold FQ DF at E;unfold jq;rw[fm,M];dsimp only;rw[fm,G];dsimp only;rw[fm,L];dsimp only;rw[fm,E];dsimp only;rw[J,Cr]
end LK
end
section
/-! the law -/
namespace LK
open PySem PySem.Spec PyProof.Rows Pu
def Np{d:Pu.D}(h:uA d):gu d d=some (.bl true)/\jm d d=some (.bl false):=by
 obtain⟨p,b,a,c⟩:=h;have e:Rz d d=some true:=by
  rw[Es b b a (by lia) a (by lia),PySem.SeqAt.eqv_refl p a]
 unfold gu jm;rw[e];exact⟨rfl,rfl⟩
def Ot{b:List Pu.D}(h:rJ b)(k:∀a,c9 b=some a->cN a<=7):uA (.lst b):=by
 obtain⟨a,c,d,_⟩:=h;exact⟨.list a,by unfold cf;rw[c],d,by have:=k a c;show cN a+1<=8;lia⟩
def Gi:∀{ds:List Pu.D}(k:Nat),(∀d∈ds,∀p,cf d=some p->p.depth<=k)->∀a,c9 ds=some a->cN a<=k:=by
 intro ds k;induction ds with
 |nil=>intro _ a h;cases h;exact bX _
 |cons d ds f=>
  intro h a e;unfold c9 at e;cases b:cf d with
  |none=>rw[b]at e;cases e
  |some p=>
   cases c:c9 ds with
   |none=>rw[b,c]at e;cases e
   |some q=>
    rw[b,c]at e;cases e;exact Nat.max_le.mpr ⟨h d (.head _) p b,f (λd g=>h d (.tail _ g)) q c⟩
def FY(r:List Int)(p:jD)(h:cf (tI r)=some p):p.depth<=2:=by
 have:cf (tI r)=some (.tuple (r.map cS)):=by unfold tI cf;rw[jj]
 rw[this]at h;cases h;have:=o9 r;show cN _+1<=2
 lia
def Gj(L:List (List Int)):∀a,c9 (L.map tI)=some a->cN a<=2:=Gi 2 λd c p b=>by
 obtain⟨r,_,rfl⟩:=List.mem_map.mp c;exact FY r p b
def L4(P:List (List Nat)):P.map tN=(P.map cc).map tI:=by
 rw[bW];exact cM λp _=>Jv p
def yf(L:List (List Int)):uA (.lst (L.map tI)):=Ot (Ce L) λa h=>by have:=Gj L a h;lia
def CV(A B:List (List Int)):uA (.lst [.lst (A.map tI),.lst (B.map tI)]):=by
 have b:∀L:List (List Int),∀p,cf (.lst (L.map tI))=some p->p.depth<=3:=λL p h=>by
  unfold cf at h;cases e:c9 (L.map tI)with
  |none=>rw[e]at h;cases h
  |some a=>
   rw[e]at h;cases h;have:=Gj L a e;show cN a+1<=3
   lia
 refine Ot (Xj λd hd=>?_) (λa h=>?_)
 ·rcases List.mem_cons.mp hd with rfl|hd
  ·exact yf A
  ·rw[List.mem_singleton.mp hd];exact yf B
 ·have:=Gi 3 (ds:=[.lst (A.map tI),.lst (B.map tI)]) (λd hd=>by
   rcases List.mem_cons.mp hd with rfl|hd
   ·exact b A
   ·rw[List.mem_singleton.mp hd];exact b B) a h
  lia
def Zx(M Q X Y:List Pu.D->Res){S:Pu.D}{m:Nat}{a:Int}(p:1+a=(m:Int)){T R:List (List Int)}{P:List (List Nat)}{k:Int}{b:Sl}(v:M [S,.int 0,.int 5]=.ok (.int a))(u:Q [S,.int 40,.int (m:Int)]=.ok (.lst (P.map tN)))(o:ft (a0 4) (cy (Pu.au (ah M (Pu.au (aa 0) (Pu.au (gC (.int 1)) (Pu.au (gC (.int 8)) af)))) af)) (JV M) [.pu S,.pu (.int (m:Int)),.pu (.lst (P.map tN)),.ow [],.no,.no,.no]=.nx [.pu S,.pu (.int (m:Int)),.pu (.lst (P.map tN)),.ow (T.map tI),b,.no,.no])
  (r:X [.lst (T.map tI),.lst (P.map tN)]=.ok (.lst (R.map tI)))(q:T≠[]->Y [.lst (T.map tI),.lst (P.map tN),.int (m:Int)]=.ok (.lst (R.map tI)))(s:T=[]->R=[]):
  g7 ((bg (e9 1 (g2 bu (gC (.int 1)) (ah M (Pu.au (aa 0) (Pu.au (gC (.int 0)) (Pu.au (gC (.int 5)) af))))))
 (bg (e9 2 (ah Q (Pu.au (aa 0) (Pu.au (gC (.int 40)) (Pu.au (aa 1) af)))))
 (bg (cq 3 (cx af))
 (bg (ft (a0 4) (cy (Pu.au (ah M (Pu.au (aa 0) (Pu.au (gC (.int 1)) (Pu.au (gC (.int 8)) af)))) af)) (JV M))
 (bg (cq 5 (cx (Pu.au (g1 fo (aa 3)) (Pu.au (g1 fo (aa 2)) af))))
 (bg (e9 6 (ah X (Pu.au (g2 dj (aa 5) (gC (.int 0))) (Pu.au (g2 dj (aa 5) (gC (.int 1))) af))))
 (bg (fz [3,2] (B8 (g2 jm (aa 5) (cx (Pu.au (b8 3) (Pu.au (b8 2) af)))) (f9 (gC (.bl false))) my))
 (bg (B8 (g2 gu (aa 3) (cx af)) (f9 (g2 gu (aa 6) (cx af))) my)
 (f9 (g2 gu (aa 6) (ah Y (Pu.au (aa 3) (Pu.au (aa 2) (Pu.au (aa 1) af)))))))))))))) [.pu S,.no,.no,.no,.no,.no,.no])=.ok (.bl true):=by
 have n:e9 1 (g2 bu (gC (.int 1)) (ah M (Pu.au (aa 0) (Pu.au (gC (.int 0)) (Pu.au (gC (.int 5)) af))))) [.pu S,.no,.no,.no,.no,.no,.no]=.nx [.pu S,.pu (.int (m:Int)),.no,.no,.no,.no,.no]:=by
  rw[zf,Rv,SW,fb,jk];show((M [S,.int 0,.int 5]).bind _).then _=_;rw[v,fb,NQ,p];rfl
 have l:e9 2 (ah Q (Pu.au (aa 0) (Pu.au (gC (.int 40)) (Pu.au (aa 1) af)))) [.pu S,.pu (.int (m:Int)),.no,.no,.no,.no,.no]=.nx [.pu S,.pu (.int (m:Int)),.pu (.lst (P.map tN)),.no,.no,.no,.no]:=by
  rw[zf,jk];show(Q [S,.int 40,.int (m:Int)]).then _=_;rw[u];rfl
 have j:cq 3 (cx af) [.pu S,.pu (.int (m:Int)),.pu (.lst (P.map tN)),.no,.no,.no,.no]=.nx [.pu S,.pu (.int (m:Int)),.pu (.lst (P.map tN)),.ow [],.no,.no,.no]:=rfl;have i:cq 5 (cx (Pu.au (g1 fo (aa 3)) (Pu.au (g1 fo (aa 2)) af))) [.pu S,.pu (.int (m:Int)),.pu (.lst (P.map tN)),.ow (T.map tI),b,.no,.no]=.nx [.pu S,.pu (.int (m:Int)),.pu (.lst (P.map tN)),.ow (T.map tI),b,.ow [.lst (T.map tI),.lst (P.map tN)],.no]:=rfl;have h:e9 6 (ah X (Pu.au (g2 dj (aa 5) (gC (.int 0))) (Pu.au (g2 dj (aa 5) (gC (.int 1))) af))) [.pu S,.pu (.int (m:Int)),.pu (.lst (P.map tN)),.ow (T.map tI),b,.ow [.lst (T.map tI),.lst (P.map tN)],.no]=.nx [.pu S,.pu (.int (m:Int)),.pu (.lst (P.map tN)),.ow (T.map tI),b,.ow [.lst (T.map tI),.lst (P.map tN)],.pu (.lst (R.map tI))]:=by
  rw[zf,jk];show(X [.lst (T.map tI),.lst (P.map tN)]).then _=_;rw[r];rfl
 have ne:jm (.lst [.lst (T.map tI),.lst (P.map tN)]) (.lst [.lst (T.map tI),.lst (P.map tN)])=some (.bl false):=by
  rw[L4];exact(Np (CV T (P.map cc))).2
 have g:fz [3,2] (B8 (g2 jm (aa 5) (cx (Pu.au (b8 3) (Pu.au (b8 2) af)))) (f9 (gC (.bl false))) my) [.pu S,.pu (.int (m:Int)),.pu (.lst (P.map tN)),.ow (T.map tI),b,.ow [.lst (T.map tI),.lst (P.map tN)],.pu (.lst (R.map tI))]=.nx [.pu S,.pu (.int (m:Int)),.pu (.lst (P.map tN)),.pu (.lst (T.map tI)),b,.ow [.lst (T.map tI),.lst (P.map tN)],.pu (.lst (R.map tI))]:=by
  rw[Ru,Ru,ou];show B8 _ _ _ [.pu S,.pu (.int (m:Int)),.pu (.lst (P.map tN)),.pu (.lst (T.map tI)),b,.ow [.lst (T.map tI),.lst (P.map tN)],.pu (.lst (R.map tI))]=_;rw[Jy];show(Res.of (jm (.lst [.lst (T.map tI),.lst (P.map tN)]) (.lst [.lst (T.map tI),.lst (P.map tN)]))).then _=_;rw[ne];rfl
 have e:=(wa (Ce T)).1;rw[t9]at e;rw[fm,n];dsimp only;rw[fm,l];dsimp only;rw[fm,j];dsimp only;rw[fm,o];dsimp only;rw[fm,i];dsimp only;rw[fm,h];dsimp only;rw[fm,g];dsimp only
 by_cases c:T=[]
 ·have d:B8 (g2 gu (aa 3) (cx af)) (f9 (g2 gu (aa 6) (cx af))) my [.pu S,.pu (.int (m:Int)),.pu (.lst (P.map tN)),.pu (.lst (T.map tI)),b,.ow [.lst (T.map tI),.lst (P.map tN)],.pu (.lst (R.map tI))]=.rt (.bl true):=by
   rw[Jy];show(Res.of (gu (.lst (T.map tI)) (.lst []))).then _=_;rw[e,decide_eq_true c,ox,kq];show f9 _ _=_;rw[t5];show(Res.of (gu (.lst (R.map tI)) (.lst []))).then _=_;rw[s c,(wa (Ce [])).1];rfl
  rw[fm,d];rfl
 ·have d:B8 (g2 gu (aa 3) (cx af)) (f9 (g2 gu (aa 6) (cx af))) my [.pu S,.pu (.int (m:Int)),.pu (.lst (P.map tN)),.pu (.lst (T.map tI)),b,.ow [.lst (T.map tI),.lst (P.map tN)],.pu (.lst (R.map tI))]=.nx [.pu S,.pu (.int (m:Int)),.pu (.lst (P.map tN)),.pu (.lst (T.map tI)),b,.ow [.lst (T.map tI),.lst (P.map tN)],.pu (.lst (R.map tI))]:=by
   rw[Jy];show(Res.of (gu (.lst (T.map tI)) (.lst []))).then _=_;rw[e,decide_eq_false c,ox,kq];rfl
  have f:f9 (g2 gu (aa 6) (ah Y (Pu.au (aa 3) (Pu.au (aa 2) (Pu.au (aa 1) af))))) [.pu S,.pu (.int (m:Int)),.pu (.lst (P.map tN)),.pu (.lst (T.map tI)),b,.ow [.lst (T.map tI),.lst (P.map tN)],.pu (.lst (R.map tI))]=.rt (.bl true):=by
   rw[t5,Rv];show((ah Y _ _).bind λy=>Res.of (gu (.lst (R.map tI)) y)).then _=_;rw[jk];show((Y [.lst (T.map tI),.lst (P.map tN),.int (m:Int)]).bind λy=>Res.of (gu (.lst (R.map tI)) y)).then _=_;rw[q c,fb,(Np (yf R)).1];rfl
  rw[fm,d];dsimp only;rw[f,Cr]
def Zw(n:Nat)(d:List Int):ae (tab (n+7)) l8 [.lst (d.map D.int)]=.ok (.bl true):=by
 obtain⟨h0,Y⟩:=qa d 0 5 (by decide);obtain⟨U,Q⟩:=qa d 1 8 (by decide);obtain⟨m,L⟩:∃m:Nat,1+oe d 0 5=(m:Int):=⟨(1+oe d 0 5).toNat,by lia⟩;have e:m<=5:=by lia
 obtain⟨P,q,G,E,o,C⟩:=Vw (n+2) d e;obtain⟨v,u⟩:=CS (n+4) d e (.pu (.lst (P.map tN))) .no .no (aS (oe d 1 8).toNat) [] .no (by simp;lia);rw[iD]at u;have g:((aS (oe d 1 8).toNat).map (lj d m)).length<=7:=by rw[aF,bZ];lia
 have j:∀t∈(aS (oe d 1 8).toNat).map (lj d m),t.length=m:=λt i=>by
  obtain⟨k,_,rfl⟩:=List.mem_map.mp i;exact(W2 d m k).1
 have s:ft (a0 4) (cy (Pu.au (ah (ae (tab (n+6)) ar) (Pu.au (aa 0) (Pu.au (gC (.int 1)) (Pu.au (gC (.int 8)) af)))) af)) (JV (ae (tab (n+6)) ar)) [.pu (vk d),.pu (.int (m:Int)),.pu (.lst (P.map tN)),.ow [],.no,.no,.no]=.nx [.pu (vk d),.pu (.int (m:Int)),.pu (.lst (P.map tN)),.ow (((aS (oe d 1 8).toNat).map (lj d m)).map tI),v,.no,.no]:=by
  have em:=sv (n+4) d 1 8 (by decide) (by decide);have I:cy (Pu.au (ah (ae (tab (n+6)) ar) (Pu.au (aa 0) (Pu.au (gC (.int 1)) (Pu.au (gC (.int 8)) af)))) af) [.pu (vk d),.pu (.int (m:Int)),.pu (.lst (P.map tN)),.ow [],.no,.no,.no]=.ok (ji 0 (oe d 1 8).toNat):=by
   have H:ah (ae (tab (n+6)) ar) (Pu.au (aa 0) (Pu.au (gC (.int 1)) (Pu.au (gC (.int 8)) af))) [.pu (vk d),.pu (.int (m:Int)),.pu (.lst (P.map tN)),.ow [],.no,.no,.no]=.ok (.int (oe d 1 8)):=by
    rw[jk];exact em
   refine mm _ _ (j':=oe d 1 8) ?_ (by lia);rw[Cp,H];rfl
  rw[h9 (I.trans rfl)];exact u
 generalize (aS (oe d 1 8).toNat).map (lj d m)=T at g j s;obtain⟨R,y,l,O,w⟩:=IS n j q e g E o;have M:T≠[]->ae (tab (n+6)) b9 [.lst (T.map tI),.lst (P.map tN),.int (m:Int)]=.ok (.lst (R.map tI)):=λ_=>by
  obtain⟨R',B,A,z⟩:=Jw (n+4) j q e g o;rw[Jj (R:=λa b:List Int=>a<b) (λa=>kA a) (λa b c=>kQ) y B λx=>(l x).trans (A x).symm];exact z
 have N:T=[]->R=[]:=λh=>by
  cases R with
  |nil=>rfl
  |cons r R=>
   obtain⟨p,J⟩:=List.exists_mem_of_ne_nil _ G;obtain⟨t,i,_⟩:=((l r).mp (.head _)).2 p J;rw[h]at i;cases i
 have f:=Zx (ae (tab (n+6)) ar) (ae (tab (n+6)) d8) (ae (tab (n+6)) cj) (ae (tab (n+6)) b9) L (k:=0) (sv (n+4) d 0 5 (by decide) (by decide)) C s w M N;unfold JV at f;rw[KL (n+6)];exact f
def Ut(a:List Int)(b:a.length<=63):ae (tab 29) l8 [.lst (a.map D.int)]=.ok (.bl true):=Zw 22 a
end LK
end
section
namespace LK
open PySem PySem.Spec PyProof.Rows L2 Pu
def RW{b:List aG}(h:b.length=1):∃a,b=[a]:=List.length_eq_one_iff.mp h
def RV{c:List aG}(h:c.length=2):∃a b,c=[a,b]:=by
 obtain _|⟨a,c⟩:=c
 ·cases h
 ·obtain⟨b,rfl⟩:=RW (Nat.succ.inj h);exact⟨a,b,rfl⟩
def QO{d:List aG}(h:d.length=3):∃a b c,d=[a,b,c]:=by
 obtain _|⟨a,d⟩:=d
 ·cases h
 ·obtain⟨b,c,rfl⟩:=RV (Nat.succ.inj h);exact⟨a,b,c,rfl⟩
def SY{e:List aG}(h:e.length=4):∃a b c d,e=[a,b,c,d]:=by
 obtain _|⟨a,e⟩:=e
 ·cases h
 ·obtain⟨b,c,d,rfl⟩:=QO (Nat.succ.inj h);exact⟨a,b,c,d,rfl⟩
def QK(K:aP)(d:fg):Prop:=∃f e kV g c a ct od h b,lW K eB d.x=some (some (.ref f))/\K.lookup f=some ⟨e,od,.func (dC d.x d.x (gd d.st) (a6 d.st) (a8 d.st) .none kV g c h a ct),b⟩/\fC K a d.x=true/\dP K (.ref f)=true
def RG{K:aP}{d:fg}{f h kV i g b ct od j e}(a:lW K eB d.x=some (some (.ref f)))(l:K.lookup f=some ⟨h,od,.func (dC d.x d.x (gd d.st) (a6 d.st) (a8 d.st) .none kV i g j b ct),e⟩)(c:fC K b d.x=true)(k:dP K (.ref f)=true):QK K d:=⟨_,_,_,_,_,_,_,_,_,_,a,l,c,k⟩
def Zf{K:aP}(kV c a:aG)(e:Option Addr)(d ct:aG):Binds K (dC "__init__" "Fits.__init__" (gd Kz) (a6 Kz) (a8 Kz) .none kV c a e d ct) ["self","columns","rows"] []:=by
 refine .all λf b=>?_;obtain⟨_,_,_,rfl⟩:=QO b;rfl
def LF:∀d∈Gf,B1 d=true/\d.lm=false:=by decide+kernel
def KS:∀d∈Gf,D9 d.st d.x:=by
 intro d b;simp only[Gf,dM,mK,or_false]at b;obtain rfl|rfl|rfl|rfl|rfl|rfl|rfl|rfl|rfl|rfl|rfl|rfl|rfl|rfl|rfl|rfl|rfl|rfl|rfl|rfl|rfl|rfl:=b
 all_goals (intro _ _ _ _ _ _ c a;first|(obtain⟨_,rfl⟩:=RW a;rfl)|(obtain⟨_,_,rfl⟩:=RV a;rfl)|(obtain⟨_,_,_,rfl⟩:=QO a;rfl)|(obtain⟨_,_,_,_,rfl⟩:=SY a;rfl))
def EM{l:PySem.W.OpenLaw}{w:bV}{K:aP}{h:Heap}{mg:Str->Option aG}{J:Addr}{n:Nat}{s:FS}(X:K.In h)(G:h.Ns eB mg)(E:mg "law"=some (.ref J))(T:(tab n).fns "law"=some s)(Q:s.ms=[false])(C:∀H:List Int,H.length<=63->s.f [.lst (H.map D.int)]=.ok (.bl true))
  {b g:Addr} {p q z m i A:aG} {o B:Option Addr} {j:Array (Option aG)}
  (hD:∀d∈Gf,QK K d)
  (hB:∀x∈o8,lW K eB x=some none)
  (fc0_0:lW K eB "Fits"=some (some (.ref b)))
  (fc0_1:mE K b Str.empty=true)
  (fc0_2:lH K b=true)
  (fc0_3:oC K b=true)
  (fc0_4:fA K (.ref b) "__setattr__"=some (some (.builtin "object.__setattr__")))
  (fc0_5:fA K (.ref b) "columns"=some none)
  (fc0_6:fA K (.ref b) "rows"=some none)
  (fc0_7:pJ K b=true)
  (fc0_8:fA K (.ref b) "__init__"=some (some (.ref g)))
  (fc0_9:PySem.W.isFn K (.ref g)=true)
  (fc0_10:dP K (.ref b)=true)
  (fc0_11:K.lookup g=some ⟨p,o,.func (dC "__init__" "Fits.__init__" (gd Kz) (a6 Kz) (a8 Kz) .none q z m B i A),j⟩)
  (fc0_12:fC K i "Fits.__init__"=true):
  ∃I:jV,(∀(s:aI)(v:aG),BindsTo s I ⟨[v],[]⟩ [("_law_script",v)])/\∀base:Heap,K.In base->base.Ns eB mg->Bm mg base->i0 l.prog w K mg base R7 n J I ["_law_script"] (Ou K):=by
 obtain⟨_,_,kV,dc,L,cd,ct,_,an,_,a,l,c,k⟩:=hD l8 (by simp only[Gf,dM,true_or,or_true]);cases E.symm.trans (PySem.W.mg_of X G a);have r:∀d∈Gf,rE K mg d:=by
  intro d r;obtain⟨_,_,_,_,_,_,_,_,_,_,a,l,c,k⟩:=hD d r;exact EA X G (LF d r).1 (KS d r) a l c k
 have O:∀x y,gs x=some y->∃t,mg x=some (.str y t):=by
  intro x y e;cases e
 have U:∀x∈o8,mg x=none:=λx N=>PySem.W.mg_none_of X G (hB x N);have Y:tZ K mg xs:=by
  refine⟨λc n1 n2 h=>?_⟩
  ·by_cases u:c="Fits"
   ·subst u;cases h;refine λP w base=>⟨b,g,_,PySem.W.mg_of X G fc0_0,⟨fc0_1,fc0_2,fc0_3,fc0_4⟩,fc0_5,fc0_6,by decide,⟨fc0_7,fc0_8,fc0_9,fc0_10⟩,Zf _ _ _ _ _ _,Zg fc0_11 fc0_12 (sy (d:=⟨"__init__",Kz,[false,false,false],false⟩) (by decide+kernel)).1 rfl (by decide) (by decide+kernel) ⟨fc0_1,fc0_2,fc0_3,fc0_4⟩ fc0_5 fc0_6⟩
   ·simp only[xs,aK u]at h;cases h
 refine⟨dC l8.x l8.x (gd l8.st) (a6 l8.st) (a8 l8.st) .none kV dc L an cd ct,λs v=>.of_eq rfl,λbase M _ bm=>?_⟩;exact FA GP rfl a l c k M bm r O U Y T Q C
end LK
namespace PySem.W.Fast
def tw14229193603846279528:Nat:=0
def tw596871987473953779:Nat:=0
def tw9270967257869487771:Nat:=0
def tw13434527403346776045:Nat:=0
def tw11134765151456295470:Nat:=0
def tw16228057345307001828:Nat:=0
def tw5536903948793255422:Nat:=0
def tw14318437699117303889:Nat:=0
def tw526383142035699224:Nat:=0
def tw9858634489405635363:Nat:=0
def tw16877550356492161790:Nat:=0
def tw10079484759968930588:Nat:=0
def tw4029493592829410302:Nat:=0
def tw1922294641659178640:Nat:=0
def tw12109120728490990231:Nat:=0
def tw13830680651754886992:Nat:=0
def tw8187416503270216241:Nat:=0
def tw7189673146586669445:Nat:=0
def tw3529865746416340186:Nat:=0
def tw16211294646984845105:Nat:=0
def tw4656447075801968468:Nat:=0
def tw5519659880539076881:Nat:=0
def tw8506031232452217770:Nat:=0
def tw11875116954918578436:Nat:=0
def tw10412336757724941652:Nat:=0
def tw1641894721311336267:Nat:=0
def tw15581737896405797423:Nat:=0
def tw8215573119013934355:Nat:=0
def tw18364706726362495012:Nat:=0
def tw7217439289633750307:Nat:=0
def tw5040741450340498972:Nat:=0
def tw8535130910471449114:Nat:=0
def tw5739010814757922299:Nat:=0
def tw842944394996798860:Nat:=0
def tw17198924641252290371:Nat:=0
def tw460413273407809065:Nat:=0
def tw14826650402573703616:Nat:=0
def tw9346436602185722192:Nat:=0
def tw6491831860232000542:Nat:=0
def tw7990033944126441176:Nat:=0
def tw14162234428520636464:Nat:=0
def tw8844286462834839846:Nat:=0
def tw1746361534410745383:Nat:=0
def tw15755840601910779925:Nat:=0
def tw12369826900781293957:Nat:=0
def tw9751014851340218672:Nat:=0
def tw8310850728028543481:Nat:=0
def tw11586914387991377848:Nat:=0
def tw4666131574042518858:Nat:=0
def tw3040008937654316540:Nat:=0
def tw6548394110817185:Nat:=0
def tw11081017473084251577:Nat:=0
def tw10432623685603143469:Nat:=0
def tw8176381859947202565:Nat:=0
def tw947040975913898406:Nat:=0
def tw18117535756934568413:Nat:=0
def tw6535789777123706880:Nat:=0
def tw6207934649644464779:Nat:=0
def tw12208805667845875018:Nat:=0
def tw17291530832824992340:Nat:=0
def tw2556271387675001099:Nat:=0
def tw1018014283069187149:Nat:=0
end PySem.W.Fast
open PySem PySem.W PyProof.Rows
set_option maxRecDepth 100000 in
set_option maxHeartbeats 0 in
theorem PySem.Challenge.cw_askbook_k15_put_together_holds : PySem.Challenge.rw_askbook_k15_put_together.Holds := by
 w_on;o_law;k_head;(case hw=>w_witness2)
 k_fill
 refine Pu.NI (l:=PySem.Challenge.rw_askbook_k15_put_together) (k:=30) rfl rfl ⟨rfl,by decide,by decide⟩ (by decide) (λw h Y=>PySem.W.kIn_of Y) ?hNt ?hTb ?hFn
 case hNt=>intro w;kernel_rfl
 case hTb=>intro w h Y p g;cases g
 case hFn=>
  intro w mg j h i G b
  refine' LK.EM (n:=30) i G b (Pu.JX 29 rfl) rfl LK.Ut ?hD ?hB ?fc0_0 ?fc0_1 ?fc0_2 ?fc0_3 ?fc0_4 ?fc0_5 ?fc0_6 ?fc0_7 ?fc0_8 ?fc0_9 ?fc0_10 ?fc0_11 ?fc0_12
  case hD=>
   intro d f
   simp only[LK.Gf,List.mem_cons,List.not_mem_nil,or_false]at f
   rcases f with rfl|rfl|rfl|rfl|rfl|rfl|rfl|rfl|rfl|rfl|rfl|rfl|rfl|rfl|rfl|rfl|rfl|rfl|rfl|rfl|rfl|rfl
   all_goals (refine' LK.RG ?a ?l ?c ?k;(case a=>k_is);(case l=>k_is);(case c=>k_is);(case k=>k_is))
  case hB=>
   intro x e
   simp only[Pu.o8,List.mem_cons,List.not_mem_nil,or_false]at e
   rcases e with rfl|rfl|rfl|rfl|rfl|rfl|rfl|rfl|rfl|rfl|rfl|rfl|rfl|rfl|rfl|rfl|rfl|rfl|rfl|rfl
   all_goals k_is
  (case fc0_0=>k_is)
  (case fc0_1=>k_is)
  (case fc0_2=>k_is)
  (case fc0_3=>k_is)
  (case fc0_4=>k_is)
  (case fc0_5=>k_is)
  (case fc0_6=>k_is)
  (case fc0_7=>k_is)
  (case fc0_8=>k_is)
  (case fc0_9=>k_is)
  (case fc0_10=>k_is)
  (case fc0_11=>k_is)
  (case fc0_12=>k_is)
end
