import PyProof.Rows.All
import Wide.All
import OpenK.AllK
import Wide.FinOn
import Lean
import PyProof.EqAt
import PyProof.EqKinds
import PyProof.TupleCall
import KE.KTryMore
import KE.KDictLaws
import KE.KDictList
import KE.KDictOf
import PyProof.AttrMiss
import PyProof.SetScanFacts
import PyProof.SetKind
import PyProof.ZipIter
import PyProof.WalkInts
import KE.KMinKey
import KE.KIntText
import PyProof.Draws
import PySem.Challenge.RW_askbook_k03_answers
import KE.RegKTryMore
set_option Elab.async false
set_option linter.all false
set_option maxRecDepth 100000
set_option maxHeartbeats 4000000
open PySem renaming wpAny_bind→fB,wpAny_pure→fE,Value→fG,Shared→fP,sizeLine→fR,wpAny→gK,starEach→gQ,model→gR,Program→gX,wpAny_call_entry→iH,World→iI,wpAny_callSpecial?_slot→iM,wpAny_mono→iP,Around→iR,wpAny_seqItems→iS,sizeLine_eq→iT,wpAny_holding→iX,compareOp→jF,wpAny_field→jG,wpAny_newObj_type→jJ,wpAny_setField_rec→jL,rawInt→jR,cLine→jS,SetTable→jV,wpAny_truthy_bool→kB,wpAny_setState_of→kE,mainGlobals→kF,codeAny_builtin→kJ,wpAny_forIn_list→kR,plainId_quiet→kW,wpAny_attempt→kX,wpAny_setField→kY,sysModules→lF,wpAny_isInstance→lH,backTo→lJ,firstArgMember→lR,wpAny_typeNameOfWhole_itemiter→lX,Scope→lY,bootBuiltins→lZ,wpAny_typeNameOfWhole_keyiter→mE,swapsWith→mG,foldedSetIterable→mH,wpAny_dictEntries→mI,NameKind→mQ,wpAny_setEntries_of→mR,Keyword→mS,PyData→mT,attributeBase→mY,wpAny_Call_Name_kw→nE,wpAny_fieldsOf→nG,wpAny_specialOf→nN,wpAny_passesOwn→nO,wpAny_updateSeq→nQ,codeAny→nR,keywordEach→nS,wpAny_pyIter_list→nT,wpAny_pyIter_slot→nV,ofAClassStatement→nW,mem_of_lookup→nY,binaryOp→nZ,wpAny_askSetting→oB,wpAny_of_eq→oE,IsTupleKey→oF,wpAny_rule→oG,codeAny_mono→oK,wpAny_dictEpoch→oN,wpAny_notOrdered_dict→oQ,assignEach→oX,FuncData→oZ,wpAny_letGo→pI,cellsFrom→pJ,wpAny_typeOf→pL,pyNext→pQ,behindInMarks→pU,IsItemIter→qE,sliceBounds→qI,backToKw→qO,call_meetsIn→qP,wpAny_newTuple→qT,atKey_none_of_get→qU,isSubtype_stop→qV,wpAny_nextOf_list_item→qW,wpAny_isOneOf_itemiter→qY,wpAny_tryCatch→qZ,isSubtype_tuple_tuple→rC,wpAny_handled→rT,ZipApart→rX,wpAny_updateSeq_pair→rY,wpAny_execs_nil→sC,wpAny_ite_split→sH,argBest→sM,PassesOwn→sN,wpAny_tupleItemsOf→sO,builtinsNs→sQ,wpAny_Call_method→tB,relabel→tE,wpAny_throw→tG,hashByValue→tJ,wpAny_onRaise→tN,noFill_tuple_add→tQ,seqIndex?→tR,DictEntry→tU,wpAny_pyIter_zip→tX,concat_meets→uB,call_meets→uC,notedBy→uD,letOwnedTupleGo→uE,atKey→uH,codeAny_of_tree→uJ,pyIter→uL,eqIsQuiet→uO,lastMarks→uP,pushCells→uQ
open PySem.Heap renaming get?_push_of_some→fC,get?_push_size→fO,lt_size→fS,SameBut→iJ,size_push→iN,get?_update_self→iV,get?_update_other→kI,ExtBut→pG
open List renaming length_map→fF,mem_cons_of_mem→fH,length_cons→fI,map_cons→fL,mem_cons_self→fN,getElem?_eq_getElem→gF,length_append→gI,replicate→gJ,getElem?_map→gO,getElem?_set_ne→gU,getD_eq_getElem?_getD→gW,getElem?_set_self→gY,range→hJ,map_map→hV,size_toArray→hW,map_congr_left→iA,mem_of_getElem?→iE,all_cons→iF,mem_cons→iK,length_filter_le→iW,getElem?_append_right→iY,getElem?_append_left→jB,getElem?_eq_none→jD,length_range→jI,map_append→jK,length_nil→jM,length_set→jN,getElem?_cons_zero→jP,getElem?_cons_succ→jQ,append_nil→jT,lookup_cons→jU,idxOf_lt_length_of_mem→jW,mem_append_right→jX,length_replicate→jY,drop_eq_getElem_cons→kG,cons_lt_cons_iff→kK,getElem?_of_mem→kQ,map_nil→lA,mem_append→lC,nodup_nil→lQ,length→lT,not_mem_nil→lW,any_cons→mB,mem_append_left→mD,ext_getElem?→mK,filterMap_cons→mP,length_drop→nA,filter_cons→nB,getElem_mem→nD,mem_singleton→nF,set_cons_succ→nH,set_cons_zero→nI,find?_cons→nP,pairwise_map→nU,length_take→oA,foldl_cons→oO,mem_filter→oP,append_assoc→oT,nodup_append→oU,lookup→oY,lt_irrefl→pF,perm_ext_iff_of_nodup→pH,ext_getElem→pK,mem_map→pM,nil_append→qB,flatMap_cons→rA,length_singleton→rE,take_append_drop→rH,drop_length→rL,cons_append→rN,lt_trans→rS,of_mem_zip→sE,getElem?_range→sI,map_fst_zip→tT,isEmpty_nil→tV,mem_flatMap→tZ,Perm→uR
open Nat renaming le_refl→fQ,ne_of_lt→hU,lt_of_lt_of_le→iD,zero_le→iO,le_trans→iU,lt_irrefl→jA,ne_of_gt→jH,zero_add→lS,lt_succ_self→lV,lt_succ_of_lt→mJ,lt_or_ge→mV,le_add_right→nC,le_of_eq→oJ,lt_trichotomy→oV,le_succ→pA,pow_le_pow_right→sA,lt_of_le_of_lt→sT,le_of_not_lt→tS,le_antisymm→uI,add_mul→uM,one_mul→uN
open PySem.W renaming Frag→gA,fnOf→jO,keepIn→kA,findIn→lK,emptyDict→lM,codeIn→lO,instObj→mL,kia_one→mM,kitOne→pC,nsIn→pN,hasDictIn→qL,cellsFrom_some→qM,plainGet→rJ,kdu_collect→sJ,callWith_K→sR,plainOver→sY,mg_of→tO,takerIn→uF,makesIn→uG
open PySem.PyData renaming canLayAll0→gE,strOk→gH,depthAll→iC,eqv→iG,canLay0→jC,depth→jZ,eqvAll→kC,int→kL,str→qF
open Bool renaming and_eq_true→gG,or_eq_true→qA,and_false→qR,not_eq_true'→tF
open Array renaming length_toList→gN,getElem?_eq_getElem→gS,getElem?_toList→gZ,forIn_toList→lU,getD→sU
open Option.some renaming inj→gV
open PySem.SeqAt renaming shaped→iB,canLay_of_shaped→mU
open PySem.Heap.SameBut renaming update→iQ
open Int renaming toNat_natCast→iZ,ofNat→kU
open False renaming elim→kH
open PyProof.Rows renaming callWith_type1→kM,IsTup→pO,slot_tupleiter_next→pT,boot_tuple→qJ,room_in_shaped→qQ,AllBare→sX,IsTupIter→tW,envOfC→uA
open PySem.Value renaming ref→kN,none→lD,type→oH,bool→sP,int→tP
open PySem.F renaming plainAttrs_list→kP,slot_dict_setdefault→kZ,plainAttrs_dict→lI,slot_dict_itemiterator_next→mF,slot_dict_keyiterator_next→mN,slot_zip_next→mO,type_dict_setdefault→oM,slot_set_iter→oR,args_tuple_add_2→pV,slot_list_append→pX,type_list_append→pY,entry_tuple_add→qH,slot_tuple_add→qN,args_zip_next_1→qX,args_dict_itemiterator_next_1→rB,slot_dict_get→rF,args_dict_setdefault_3→rM,args_dict_keyiterator_next_1→rO,entry_zip_next→rP,entry_dict_itemiterator_next→rQ,plain_min_loop→rR,entry_dict_setdefault→rV,entry_dict_keyiterator_next→rW,entry_min_loop→tY
open Ne renaming symm→kS
open PySem.Builtin.Dict_items renaming ownsTuple→lB,ownedTupleFields→pZ
open PySem.Calls renaming spliced_cons→lG,callWith_builtin→lP,spliced_nil→oS,evalArgs_plain→pB
open True renaming intro→lN
open PySem.NameKind renaming cell→mC,free→mZ
open PySem.Paired renaming length→mW
open PySem.Builtin.Tuple renaming tupleHashOf→nJ
open Classical renaming byContradiction→nL
open PySem.Builtin.SmallTypes renaming nextOf→nM
open PySem.AutoSeq1 renaming wpAny_loadPart'→nX
open List.Perm renaming refl→oC,swap→pE
open PySem.SetTable renaming insertAt→oW,below→sV,fits→tL
open PyProof.Rows.F renaming entry_set_update_loop→pR,plain_set_update_loop→pS
open PySem.Builtin.List renaming listTooLong→pW
open Std renaming lt_of_le_of_ne→qC
open PySem.Obj renaming data_mapFields→qD,mapSeq→sS,mapFields→tK
open PySem.Builtin.Str renaming occurrences→qG
open Option renaming bind_eq_some_iff→qK,map_some→sG,isSome_map→sZ
open Function renaming comp_def→qS
open PySem.Builtin.Dict renaming showsAll→rG
open Inhabited renaming default→rU
open PySem.Around renaming under_plainId→rZ
open ForInStep renaming yield→sF
open Sum renaming inl→sL,inr→sW
open List.Pairwise renaming nil→tD,imp→tH
open PySem.Shared renaming TypeIs→tM
open Sum.inl renaming inj→uK
abbrev fJ.{u}:=@if_neg.{u}
abbrev fM.{u}:=@if_pos.{u}
set_option bootstrap.genMatcherCode false
set_option compiler.extract_closed false
noncomputable section
set_option genInjectivity false
set_option genSizeOf false
namespace L2
open PySem
def zc:List Str:=["many"]
end L2
namespace L2
open PySem PySem.Spec PyProof.Rows
abbrev gd:=Sum Int Str
def Dl:gd->fG->Bool
 |.inl k,v=>Value.isInt k v
 |.inr x,v=>Value.isStrOf x v
def bB(w:iI):gd->Int
 |.inl k=>hashInt k
 |.inr x=>hashStr w x
def cc:∀{k:gd}{v:fG},Dl k v=true->(∃i t,k=sL i/\v=tP i t)\/(∃x t,k=sW x/\v=Value.str x t)
 |.inl i,v,h=>by
  obtain⟨t,e⟩:=Value.isInt_shape h;exact .inl ⟨i,t,rfl,e⟩
 |.inr x,v,h=>by
  obtain⟨t,e⟩:=Value.isStrOf_shape h;exact .inr ⟨x,t,rfl,e⟩
def Uc(i:Int)(t:Tok):Dl (.inl i) (.int i t)=true:=by simp[Dl,Value.isInt]
def Ud(x:Str)(t:Tok):Dl (.inr x) (.str x t)=true:=by simp[Dl,Value.isStrOf]
def QR(a b:Int):decide ((sL a:gd)=sL b)=(a==b):=by
 by_cases e:a=b
 ·subst e;simp
 ·rw[decide_eq_false (λq=>e (uK q))];exact(beq_eq_false_iff_ne.mpr e).symm
def QN(a b:Str):decide ((sW a:gd)=sW b)=decide (a=b):=by
 by_cases e:a=b
 ·simp
 ·rw[decide_eq_false (λq=>e (Sum.inr.inj q)),decide_eq_false e]
def QQ(a:Int)(b:Str):decide ((sL a:gd)=sW b)=false:=decide_eq_false (λq=>nomatch q)
def QO(a:Str)(b:Int):decide ((sW a:gd)=sL b)=false:=decide_eq_false (λq=>nomatch q)
def a0(c:gX)(w:iI):PySem.KeyKind c w gd where
 is:=Dl
 hash:=bB w
 inj:=λv a b m g=>by
  rcases cc m with ⟨i,t,rfl,rfl⟩|⟨x,t,rfl,rfl⟩
  ·rcases cc g with ⟨j,u,rfl,e⟩|⟨y,u,rfl,e⟩
   ·injection e with d _;rw[d]
   ·exact nomatch e
  ·rcases cc g with ⟨j,u,rfl,e⟩|⟨y,u,rfl,e⟩
   ·exact nomatch e
   ·injection e with d _;rw[d]
 byValue:=λk v h=>by
  rcases cc h with ⟨i,t,rfl,rfl⟩|⟨x,t,rfl,rfl⟩<;>rfl
 pyHash:=λf h=>by
  rcases cc f with ⟨i,t,rfl,rfl⟩|⟨x,t,rfl,rfl⟩
  ·exact wpAny_pyHash_int h
  ·exact wpAny_pyHash_str h
 eqBool:=λl f h=>by
  rcases cc l with ⟨i,t,rfl,rfl⟩|⟨x,t,rfl,rfl⟩
  ·rcases cc f with ⟨j,u,rfl,rfl⟩|⟨y,u,rfl,rfl⟩
   ·rw[QR]at h;exact wpAny_eqBool_int h
   ·rw[QQ]at h;exact SeqAt.EqAt.int_str i t y u _ _ _ _ h
  ·rcases cc f with ⟨j,u,rfl,rfl⟩|⟨y,u,rfl,rfl⟩
   ·rw[QO]at h;exact SeqAt.EqAt.str_int x t j u _ _ _ _ h
   ·rw[QN]at h;exact wpAny_eqBool_str h
 «strs»:=λk x t v h=>by
  rcases cc h with ⟨i,u,rfl,e⟩|⟨y,u,rfl,e⟩
  ·exact nomatch e
  ·injection e with d _
   subst d;cases v<;>rfl
def K0(a:gX)(w:iI)(i:Int)(t:Tok):(a0 a w).is (.inl i) (.int i t)=true:=Uc i t
def K1(a:gX)(w:iI)(x:Str)(t:Tok):(a0 a w).is (.inr x) (.str x t)=true:=Ud x t
abbrev NK:=Sum gd (List gd)
abbrev aq:=List NK
def Bu(a:gX)(w:iI)(h:Heap):NK->fG->Prop
 |.inl k,v=>(a0 a w).is k v=true
 |.inr c,v=>∃b,v=.ref b/\oF (a0 a w) h c b
inductive Cn{α:Type}(P:α->Prop)(Q:List α->Prop)(vs:List α):Prop
 |mk (v t) (_:vs=v::t) (_:P v) (_:Q t):Cn P Q vs
def gL(a:gX)(w:iI)(h:Heap):aq->List fG->Prop
 |[],b=>b=[]
 |k::r,b=>Cn (Bu a w h k) (gL a w h r) b
inductive eT(prog:gX)(w:iI)(h:Heap)(ks:aq)(a:Addr):Prop
 |mk (o items n) (_:h.get? a=some o) (_:o.cls=.type "tuple") (_:o.data=.seq items n) (_:gL prog w h ks items.toList):eT prog w h ks a
section
variable{prog:gX}{w:iI}
def Zt:∀{x y:NK}{v:fG},Bu prog w h x v->Bu prog w h y v->x=y
 |.inl a,.inl b,v,m,l=>by rw[(a0 prog w).inj v a b m l]
 |.inl a,.inr n,v,m,j=>by obtain⟨b,e,_⟩:=j;subst e;exact absurd ((a0 prog w).byValue _ _ m) (by intro z;cases z)
 |.inr xs,.inl b,v,g,l=>by obtain⟨c,e,_⟩:=g;subst e;exact absurd ((a0 prog w).byValue _ _ l) (by intro z;cases z)
 |.inr xs,.inr n,v,f,d=>by obtain⟨b,e,q⟩:=f;obtain⟨c,p,o⟩:=d;subst e;cases p;rw[q.inj o]
theorem gL.inj:∀{x y:aq}{c:List fG},gL prog w h x c->gL prog w h y c->x=y
 |[],[],_,_,_=>rfl
 |[],_::_,c,o,j=>by obtain⟨v,t,e,_⟩:=j;rw[o]at e;cases e
 |_::_,[],c,g,m=>by obtain⟨v,t,e,_⟩:=g;rw[m]at e;cases e
 |a::x,b::y,c,f,d=>by
  obtain⟨v,t,e,o,m⟩:=f;obtain⟨q,r,p,n,l⟩:=d;subst e;cases p;rw[Zt o n,gL.inj m l]
def Oj{h c:Heap}{o:Obj}{es l}(g:h.get? d=some o)(j:o.data=.dict es l)(f:iJ d h c):∀{k:NK}{v:fG},Bu prog w h k v->Bu prog w c k v
 |.inl k,v,e=>e
 |.inr m,v,a=>by obtain⟨b,e,q⟩:=a;exact⟨b,e,q.keeps g j f⟩
def gL.keeps{h g:Heap}{o:Obj}{es q}(l:h.get? d=some o)(m:o.data=.dict es q)(j:iJ d h g):∀{f:aq}{c:List fG},gL prog w h f c->gL prog w g f c:=by
 intro a;induction a with
 |nil=>rintro _ e;exact e
 |cons _ _ b=>rintro _ ⟨v,t,e,p,n⟩;exact⟨v,t,e,Oj l m j p,b n⟩
def Ap(w:iI)(prog:gX):NK->Int
 |.inl k=>(a0 prog w).hash k
 |.inr a=>tupleKeyHash (a0 prog w) a
def Q2:NK->Nat
 |.inl _=>1
 |.inr a=>a.length+1
def Ca(k:aq):Nat:=(k.map Q2).sum
variable{A:iR}{E:fG->fP->Prop}{s:fP}
def Vl(c:A.units<jS)(a:Bu prog w s.1 k v)(h:Q (Ap w prog k) {s with toks:=s.toks+Q2 k}):gK (gR prog w) A (pyHash v) Q E s:=by
 cases k with
 |inl k=>exact(a0 prog w).pyHash a h
 |inr d=>obtain⟨b,rfl,q⟩:=a;exact wpAny_pyHash_tuple c q h
def Vm{d:aq}(G:A.units+4<jS)(u:eT prog w s.1 d a)(h:Q (reduceHash (nJ (d.map (Ap w prog)))) {s with toks:=s.toks+(Ca d+1)}):
  gK (gR prog w) A (pyHash (.ref a)) Q E s:=by
 obtain⟨o,m,n,r,B,z,y⟩:=u;have j:s.TypeIs (.ref a) "tuple":=⟨o,r,B⟩
 first|unfold pyHashByItsType|skip
 first|refine fB (wpAny_cRoomFor_or (.inr (by lia)) ?_)|skip
 refine fB (nN j F.slot_tuple_hash.lookup ?_);refine fB (nN j F.slot_tuple_hash.lookup ?_);refine fB (wpAny_callSpecialIfBoundUnlessNone?_slot j F.slot_tuple_hash (iH F.slot_tuple_hash j F.entry_tuple_hash ?_ (F.args_tuple_hash_1 _)));show gK _ _ (Builtin.Tuple.tupleItemsOf _>>=_) _ _ s;refine fB (sO r z ?_);refine fB ?_;rw[<-lU];refine kR _
  (λrest b l=>∃done left,d=done++left/\gL prog w s.1 left rest/\b.toList=done.map (Ap w prog)/\l={s with toks:=s.toks+Ca done})
  _ ?_ ?_ _ _ ⟨[],d,rfl,y,rfl,rfl⟩
 ·rintro x rest b l ⟨done,left,rfl,g,q,rfl⟩
  cases left with
  |nil=>cases (g)
  |cons k c=>
   obtain⟨v,t,e,C,p⟩:=g;cases e;refine fB (Vl (by show A.units+_<jS;lia) C ?_)
   first
    |exact fE ⟨done++[k],c,by simp,p,by simp[q],by simp[Ca,Nat.add_assoc]⟩
    |exact fB _
 ·rintro b l ⟨done,left,rfl,g,q,rfl⟩
  cases left with
  |cons k c=>obtain⟨v,t,e,_⟩:=g;cases e
  |nil=>
  rw[jT]at h;show gK _ _ (retInt _) _ _ _;rw[q];refine wpAny_ret_mkInt ?_;show gK _ _ (if _=true then _ else _) Q E _;unfold reduceHash at h
  by_cases f:(decide (-2 ^ 63<=nJ (done.map (Ap w prog))) && decide (nJ (done.map (Ap w prog))<2 ^ 63))=true
  ·rw[fM f];rw[fM f]at h;exact fE (by simpa[Nat.add_assoc]using h)
  ·rw[fJ f];rw[fJ f]at h;exact fB (oG (fE (by simpa[Nat.add_assoc]using h)))
def Vp(g:oF (a0 prog w) s.1 y a)(h:Q true s):gK (gR prog w) A (uO (n+1) (.ref a)) Q E s:=by
 have j:=g.typeIs;obtain⟨o,d,n,l,_,p,m⟩:=g;unfold uO;refine fB (nN j F.slot_tuple_eq.lookup ?_);refine fB (lH j rC ?_);refine fB (iS l p ?_);refine fB ?_;rw[<-lU];refine kR _ (λrest r c=>r.1=none/\c=s/\∀v∈rest,carriedByValue v=true) _ ?_ ?_ _ _ ⟨rfl,rfl,m.byValue⟩
 ·rintro v rest r c ⟨f,rfl,b⟩
  rw[eqIsQuiet_byValue _ (b v fN)];refine fB (fE ?_);exact fE ⟨rfl,rfl,λu e=>b u (fH _ e)⟩
 ·rintro ⟨x,q⟩ c ⟨f,rfl,_⟩
  subst f;exact fE h
def D2(z:eT prog w s.1 y a)(h:Q true s):gK (gR prog w) A (uO 8 (.ref a)) Q E s:=by
 obtain⟨o,g,n,m,G,C,B⟩:=z;have u:s.TypeIs (.ref a) "tuple":=⟨o,m,G⟩;unfold uO;refine fB (nN u F.slot_tuple_eq.lookup ?_);refine fB (lH u rC ?_);refine fB (iS m C ?_);refine fB ?_;rw[<-lU];refine kR _ (λrest r d=>r.1=none/\d=s/\∃left,gL prog w s.1 left rest) _ ?_ ?_ _ _ ⟨rfl,rfl,y,B⟩
 ·rintro v rest r d ⟨l,rfl,left,p⟩
  cases left with
  |nil=>cases (p)
  |cons k f=>
   obtain⟨M,t,e,x,j⟩:=p;cases e;refine fB ?_;have H:gK (gR prog w) A (uO 7 v) (λb c=>b=true/\c=d) E d:=by
    cases k with
    |inl k=>rw[eqIsQuiet_byValue _ ((a0 prog w).byValue _ _ x)];exact fE ⟨rfl,rfl⟩
    |inr L=>obtain⟨b,rfl,q⟩:=x;exact Vp q ⟨rfl,rfl⟩
   refine iP H (λb c ⟨J,I⟩=>?_) λ_ _ q=>q;subst J I;exact fE ⟨rfl,rfl,f,j⟩
 ·rintro ⟨O,N⟩ d ⟨l,rfl,_⟩
  subst l;exact fE h
def F4(a:A.units<jS)(e:Dl k v=true)(c:s.1.IsTuple b d)(h:Q false s):gK (gR prog w) A (eqBool v (.ref b)) Q E s/\gK (gR prog w) A (eqBool (.ref b) v) Q E s:=by
 rcases cc e with ⟨i,t,rfl,rfl⟩|⟨x,t,rfl,rfl⟩
 ·exact⟨SeqAt.EqAt.int_tuple i t c a _ _ _ _ h,SeqAt.EqAt.tuple_int i t c a _ _ _ _ h⟩
 ·exact⟨SeqAt.EqAt.str_tuple x t c a _ _ _ _ h,SeqAt.EqAt.tuple_str x t c a _ _ _ _ h⟩
def Tq(l:A.units<jS)(g:Bu prog w s.1 x u)(f:Bu prog w s.1 y v)(h:Q (decide (x=y)) s):gK (gR prog w) A (eqBool u v) Q E s:=by
 cases x with
 |inl a=>
  cases y with
  |inl b=>exact(a0 prog w).eqBool g f (by
    have e:decide (a=b)=decide ((sL a:NK)=sL b):=by by_cases q:a=b<;>simp[q]
    rwa [e])
  |inr d=>
   obtain⟨b,rfl,o,j,n,r,p,m,_⟩:=f;exact(F4 l g ⟨o,r,p,n,m⟩ h).1
 |inr xs=>
  cases y with
  |inl b=>
   obtain⟨c,rfl,o,j,n,r,p,m,_⟩:=g;exact(F4 l f ⟨o,r,p,n,m⟩ h).2
  |inr d=>
   obtain⟨b,rfl,q⟩:=g;obtain⟨c,rfl,z⟩:=f;exact wpAny_eqBool_tuple l q z (by
    have e:decide (xs=d)=decide ((sW xs:NK)=sW d):=by by_cases q:xs=d<;>simp[q]
    rwa [e])
def gL.length:∀{x:aq}{b:List fG},gL prog w h x b->x.length=b.length:=by
 intro a;induction a with
 |nil=>rintro b e;rw[e];rfl
 |cons _ _ c=>rintro _ ⟨v,t,e,_,d⟩;rw[e,fI,fI,c d]
def Pp(hu:A.units+2<jS)(hx:eT prog w s.1 x a)(hy:eT prog w s.1 y b)(h:P (.done (.ret (.bool (decide (x=y))))) s):
  gK (gR prog w) A (Builtin.«tuple.__eq__» ⟨[.ref a,.ref b],[]⟩) P E s:=by
 obtain⟨oa,xs,na,M,θ,U,Q⟩:=hx;obtain⟨ob,L,nb,H,Y,T,O⟩:=hy;show gK _ _ (isInstance _ _>>=_) _ _ s;refine fB (lH (⟨ob,H,Y⟩) rC ?_);refine fB (sO M U ?_);refine fB (sO H T ?_);refine fB ?_;refine kR _
  (λrest r J=>r.1=none/\J=s/\∃n l e d,rest=List.zip e d/\gL prog w s.1 n e/\gL prog w s.1 l d/\decide (n=l)=decide _/\(e.length==d.length)=(xs.size==L.size))
  _ ?_ ?_ _ _ ⟨rfl,rfl,x,y,xs.toList,L.toList,rfl,Q,O,rfl,by simp⟩
 ·rintro ⟨u,v⟩ rest r J ⟨hr,rfl,n,l,e,d,m,g,f,c,j⟩
  cases n with
  |nil=>rw[g]at m;simp at m
  |cons k1 z=>
   cases l with
   |nil=>rw[f]at m;simp at m
   |cons k2 p=>
    obtain⟨u',q,rfl,h1,G⟩:=g;obtain⟨v',o,rfl,h2,B⟩:=f;obtain⟨⟨rfl,rfl⟩,rfl⟩:=m;refine fB (Tq (by lia) h1 h2 ?_)
    by_cases N:k1=k2
    ·subst N;rw[decide_eq_true rfl];refine fE ⟨rfl,rfl,z,p,q,o,rfl,G,B,?_,by simpa using j⟩;rw[<-c]
     by_cases C:z=p
     ·simp[C]
     ·simp[C]
    ·rw[decide_eq_false N];have hf:decide (x=y)=false:=by rw[<-c];simp[N]
     rw[hf]at h;exact fB (fE (fE (fE h)))
 ·rintro ⟨r1,r2⟩ J ⟨hr,rfl,n,l,e,d,m,g,f,c,j⟩
  subst hr;refine fE ?_;have I:(xs.size==L.size)=decide (x=y):=by
   rw[<-c,<-j,<-g.length,<-f.length];cases n with
   |nil=>
    cases l with
    |nil=>simp
    |cons _ _=>simp
   |cons _ _=>
    cases l with
    |nil=>simp
    |cons _ _=>
     obtain⟨_,_,rfl,_⟩:=g;obtain⟨_,_,rfl,_⟩:=f;simp at m
  show P (.done (.ret (.bool _))) J;rwa [I]
def Tr(H:A.units+4<jS)(m:eT prog w s.1 x a)(l:eT prog w s.1 y b)(h:Q (decide (x=y)) s):
  gK (gR prog w) A (eqBool (.ref a) (.ref b)) Q E s:=by
 have u:s.TypeIs (.ref a) "tuple":=let ⟨o,_,_,f,r,_,_⟩:=m;⟨o,f,r⟩;have ty:s.TypeIs (.ref b) "tuple":=let ⟨o,_,_,f,r,_,_⟩:=l;⟨o,f,r⟩;unfold eqBool
 try with_reducible refine iX ?_
 by_cases c:(kN a==kN b)=true
 ·rw[fM c];have e:a=b:=by have:=eq_of_beq c;injection this
  subst e;obtain⟨o,j,n,z,_,C,B⟩:=m;obtain⟨v,g,G,p,_,d,q⟩:=l;obtain rfl:o=v:=gV (z.symm.trans p);rw[C]at d;injection d with f _
  subst f;obtain rfl:=B.inj q;exact fB (oG (fE (by simpa using h)))
 ·rw[fJ c];exact fB (wpAny_richCompare_same_room u ty F.slot_tuple_eq
   (iH F.slot_tuple_eq u F.entry_tuple_eq (Pp (by show A.units+1+2<jS;lia) m l ⟨_,rfl,(λe=>nomatch e),kB h⟩) (F.args_tuple_eq_2 _ _)) (by lia))
end
noncomputable def ar(b:gX)(w:iI):HeapKind b w aq where
 is:=eT b w
 hash:=λk=>reduceHash (nJ (k.map (Ap w b)))
 draws:=λk=>Ca k+1
 room:=λA=>A.units+4<jS
 inj:=λm l=>by
  obtain⟨o,c,n,f,_,g,u⟩:=m;obtain⟨j,e,B,d,_,a,r⟩:=l;obtain rfl:o=j:=gV (f.symm.trans d);rw[g]at a;injection a with z _
  subst z;exact u.inj r
 keeps:=λx f g v=>by
  obtain⟨j,c,n,d,y,a,u⟩:=x;refine⟨j,c,n,(v.2 _ ?_).trans d,y,a,u.keeps f g v⟩
  rintro rfl
  obtain rfl:=gV (d.symm.trans f);rw[g]at a;exact nomatch a
 pyHash:=λp q h=>Vm p q h
 eqBool:=λp m l h=>Tr p m l h
 quiet:=λq h=>D2 q h
def e8{A:iR}(h:A.units+5<jS):(ar a w).room A.in1:=by show A.units+1+4<jS;lia
inductive V where
 |g8|bl (b:Bool)|int (i:Int)|str (x:Str)|w4 (b:Array UInt8)|y4 (b:UInt64)|ref (a:Addr)|ty (n:String)
 deriving DecidableEq
def RelV:V->fG->Prop
 |.g8,u=>u=lD
 |.bl b,u=>u=sP b
 |.int i,u=>∃t,u=tP i t
 |.str x,u=>∃t,u=Value.str x t
 |.w4 b,u=>∃t,u=Value.bytes b t
 |.y4 b,u=>∃t,u=Value.float b t
 |.ref a,u=>u=kN a
 |.ty n,u=>u=oH n
abbrev Vals:List V->List fG->Prop:=Paired RelV
def Vals.length{xs:List V}{a:List fG}(r:Vals xs a):xs.length=a.length:=mW r
theorem Vals.get:∀{xs:List V}{a:List fG}{i:Nat}{x:V},Vals xs a->xs[i]?=some x->∃u,a[i]?=some u/\RelV x u
 |_,_,_,_,.nil,e=>by simp at e
 |_,_,0,_,.cons r _,e=>by simp at e;subst e;exact⟨_,rfl,r⟩
 |_,_,i+1,x,.cons _ t,e=>by
  obtain⟨u,c,b⟩:=Vals.get t (by simpa using e);exact⟨u,by simpa using c,b⟩
theorem Vals.append:∀{xs a:List V}{c b:List fG},Vals xs c->Vals a b->Vals (xs++a) (c++b)
 |_,_,_,_,.nil,s=>s
 |_,_,_,_,.cons r t,s=>.cons r (Vals.append t s)
theorem Vals.take:∀{xs:List V}{a:List fG}(n:Nat),Vals xs a->Vals (xs.take n) (a.take n)
 |_,_,0,_=>.nil
 |_,_,_+1,.nil=>.nil
 |_,_,n+1,.cons r t=>.cons r (Vals.take n t)
theorem Vals.drop:∀{xs:List V}{a:List fG}(n:Nat),Vals xs a->Vals (xs.drop n) (a.drop n)
 |_,_,0,r=>r
 |_,_,_+1,.nil=>.nil
 |_,_,n+1,.cons _ t=>Vals.drop n t
def pa:Option V->Option fG->Prop
 |some v,some u=>RelV v u
 |none,none=>True
 |_,_=>False
def KV:List (κ×V)->List (κ×fG)->Prop:=Paired λ(p:κ×V)(q:κ×fG)=>p.1=q.1/\RelV p.2 q.2
def kV:gd->V
 |.inl i=>.int i
 |.inr x=>.str x
inductive HO where
 |lst (xs:List V)
 |tup (xs:List V)
 |dK (kvs:List (gd×V))|dT (kvs:List (aq×V))
 |set (S:Int->Bool) (n:Nat)
 |ins (C dx:Addr) (fs:List (Str×V))
 |own (x:Addr)
 |xd (fs:List (Str×V))
 |met (f x:Addr)
 |zK (lo hi:Int)
 |nk (o:Obj) (u:HO)
 |vQ (q:Str)
 |ext (φ:Heap->Prop)
abbrev Hp:=Addr->Option HO
def upd(H:Hp)(a:Addr)(o:HO):Hp:=λb=>if b=a then some o else H b
def ai:upd H a o a=some o:=by unfold upd;rw[fM rfl]
def ag(h:b≠a):upd H a o b=H b:=by unfold upd;rw[fJ h]
def Iu:upd (upd H a o) a u=upd H a u:=by
 funext b;unfold upd;split<;>rfl
def Zp{H:Hp}{a b:Addr}{o u:HO}(h:H a=some o)(c:H b=some u)(d:o≠u):a≠b:=by
 intro e;subst e;rw[h]at c;exact d (gV c)
def bj{H:Hp}{a b:Addr}{o:HO}(h:H a=some o)(c:H b=none):a≠b:=by
 intro e;subst e;rw[h]at c;cases c
def u0(H:Hp):NK->V->Prop
 |.inl k,v=>v=kV k
 |.inr a,v=>∃b,v=.ref b/\H b=some (.tup (a.map kV))
def wL(H:Hp):aq->List V->Prop
 |[],a=>a=[]
 |k::r,a=>Cn (u0 H k) (wL H r) a
inductive lz(H:Hp)(k:aq)(b:Addr):Prop
 |mk (vs) (_:H b=some (.tup vs)) (_:wL H k vs):lz H k b
def u0.mono(c:∀b xs,H b=some (.tup xs)->d b=some (.tup xs)):∀{k:NK}{v:V},u0 H k v->u0 d k v
 |.inl _,_,e=>e
 |.inr _,_,a=>by obtain⟨b,e,q⟩:=a;exact⟨b,e,c _ _ q⟩
def wL.mono(f:∀b xs,H b=some (.tup xs)->g b=some (.tup xs)):∀{k:aq}{d:List V},wL H k d->wL g k d:=by
 intro a;induction a with
 |nil=>rintro _ e;exact e
 |cons _ _ c=>rintro _ ⟨v,t,e,q,r⟩;exact⟨v,t,e,u0.mono f q,c r⟩
def lz.mono(a:∀b xs,H b=some (.tup xs)->f b=some (.tup xs))(h:lz H k b):lz f k b:=
 let ⟨c,e,d⟩:=h
 ⟨c,a _ _ e,d.mono a⟩
section
variable(P:gX)(w:iI)
def kb(H:Hp)(h:Heap)(a:Addr):HO->Prop
 |.lst xs=>xs.length<=fR/\∃(c:List fG) (n:Nat),Vals xs c/\h.get? a=some {cls:=.type "list",data:=.seq c.toArray n}
 |.tup xs=>xs.length<=fR/\∃c:List fG,Vals xs c/\pO h a c.toArray
 |.dK b=>b.length<=fR/\(a==lF)=false/\∃g,KV b g/\h.DictOf (a0 P w) a g
 |.dT b=>b.length<=fR/\(a==lF)=false/\∃xs:List (aq×Addr×fG),
   Paired (λ(p:aq×V)(q:aq×Addr×fG)=>p.1=q.1/\lz H p.1 q.2.1/\RelV p.2 q.2.2) b xs/\
   ∃o m z,h.get? a=some o/\o.ExactDict/\o.data=.dict m z/\m.toList=xs.map (entryOfKey (ar P w))/\(xs.map (·.1)).Nodup
 |.set S n=>h.SetOf (intKind P w) a S n
 |.ins C e fs=>H e=some (.own a)/\fs.length<=1000/\e≠a/\h.get? a=some (mL C e)/\
   ∃d,h.Ns1 e d/\(∀f,pa (fs.lookup f) (d f))/\PySem.Within d (fs.map (·.1))
 |.own _=>∃o,h.get? a=some o
 |.xd fs=>∃d,h.Ns1 a d/\∀f,pa (fs.lookup f) (d f)
 |.zK lo y=>∃t u v,h.get? a=some {cls:=.type "range",data:=.fields #[.int lo t,.int y u,.int 1 v]}
 |.nk o u=>h.get? a=some o/\kb H h a u
 |.vQ q=>∃r:Array fG,h.get? a=some {cls:=.none,data:=.fields r}
 |.met f x=>h.get? a=some (PySem.W.methodObj (.ref f) (.ref x))
 |.ext φ=>φ h/\(∃o,h.get? a=some o)/\∀l j:Heap,φ l->(∀o,l.get? a=some o->j.get? a=some o)->φ j
def n0(H:Hp)(h:Heap):Prop:=∀a o,H a=some o->kb P w H h a o
end
section
variable{P:gX}{w:iI}{H H':Hp}{h h':Heap}{a:Addr}{o:HO}
def kb.lt(x:kb P w H h a o):a<h.objs.size:=by
 cases o with
 |lst xs=>obtain⟨_,_,_,_,e⟩:=x;exact fS e
 |tup xs=>obtain⟨_,_,_,p⟩:=x;exact p.lt
 |dK b=>obtain⟨_,_,_,_,o,_,_,e,_⟩:=x;exact fS e
 |dT b=>obtain⟨_,_,_,_,o,_,_,e,_⟩:=x;exact fS e
 |set S n=>obtain⟨o,_,_,_,e,_⟩:=x;exact fS e
 |ins C j fs=>obtain⟨_,_,_,e,_⟩:=x;exact fS e
 |own y=>obtain⟨_,e⟩:=x;exact fS e
 |xd fs=>obtain⟨_,⟨_,_,_,e,_⟩,_⟩:=x;exact fS e
 |zK lo g=>obtain⟨_,_,_,e⟩:=x;exact fS e
 |nk d u=>obtain⟨e,_⟩:=x;exact fS e
 |vQ q=>obtain⟨c,e⟩:=x;exact fS e
 |met f y=>exact fS (x)
 |ext φ=>obtain⟨_,⟨_,e⟩,_⟩:=x;exact fS e
theorem Paired.xK:∀{d:List α}{c:List β},Paired F d c->(∀a b,F a b->G a b)->Paired G d c
 |_,_,.nil,_=>.nil
 |_,_,.cons r t,f=>.cons (f _ _ r) (Paired.xK t f)
def kb.uX(x:kb P w H h a o)(k:∀b u,(b=a\/H b=some (.own a))->h.get? b=some u->h'.get? b=some u)
  (L:∀b,H b=some (.own a)->H' b=some (.own a))(J:∀b xs,H b=some (.tup xs)->H' b=some (.tup xs))(N:∀b o u,H b=some (.nk o u)->H' b=some (.nk o u):=by exact λ_ _ _ q=>q):kb P w H' h' a o:=by
 induction o with
 |lst xs=>obtain⟨z,m,n,r,e⟩:=x;exact⟨z,m,n,r,k _ _ (.inl rfl) e⟩
 |tup xs=>obtain⟨z,m,r,g,e,c⟩:=x;exact⟨z,m,r,g,k _ _ (.inl rfl) e,c⟩
 |dK B=>obtain⟨z,y,E,r,g,j,l,e,c⟩:=x;exact⟨z,y,E,r,g,j,l,k _ _ (.inl rfl) e,c⟩
 |dT B=>
  obtain⟨z,y,xs,r,g,j,l,e,c⟩:=x;exact⟨z,y,xs,Paired.xK r λp q z=>⟨z.1,z.2.1.mono J,z.2.2⟩,g,j,l,k _ _ (.inl rfl) e,c⟩
 |set S n=>obtain⟨g,j,l,t,e,c⟩:=x;exact⟨g,j,l,t,k _ _ (.inl rfl) e,c⟩
 |ins C Q fs=>
  obtain⟨d,z,ne,e,A,⟨od,j,l,M,c⟩,r⟩:=x;exact⟨L _ d,z,ne,k _ _ (.inl rfl) e,A,⟨od,j,l,k _ _ (.inr d) M,c⟩,r⟩
 |own y=>obtain⟨g,e⟩:=x;exact⟨g,k _ _ (.inl rfl) e⟩
 |xd fs=>obtain⟨A,⟨od,j,l,e,c⟩,r⟩:=x;exact⟨A,⟨od,j,l,k _ _ (.inl rfl) e,c⟩,r⟩
 |zK lo O=>obtain⟨t,u,v,e⟩:=x;exact⟨t,u,v,k _ _ (.inl rfl) e⟩
 |nk g u I=>obtain⟨e,q⟩:=x;exact⟨k _ _ (.inl rfl) e,I q⟩
 |vQ q=>
  obtain⟨G,e⟩:=x;exact⟨G,k a _ (.inl rfl) e⟩
 |met f y=>
  have e:=x;exact k a _ (.inl rfl) e
 |ext φ=>obtain⟨p,⟨o,e⟩,st⟩:=x;exact⟨st _ _ p λo q=>k _ _ (.inl rfl) q,⟨o,k _ _ (.inl rfl) e⟩,st⟩
def n0.lt(x:n0 P w H h)(e:H a=some o):a<h.objs.size:=(x a o e).lt
def n0.fresh(x:n0 P w H h)(e:h.objs.size<=a):H a=none:=by
 cases q:H a with
 |none=>rfl
 |some u=>exact absurd (iD (x.lt q) e) (jA _)
def n0.kept(x:n0 P w H h)(k:∀b u,h.get? b=some u->h'.get? b=some u):n0 P w H h':=λa o e=>
 (x a o e).uX (λb u _ q=>k b u q) (λ_ q=>q) λ_ _ q=>q
def n0.laid(x:n0 P w H h)(k:∀b u,h.get? b=some u->h'.get? b=some u)(g:h.objs.size<=a)(new:kb P w (upd H a o) h' a o):n0 P w (upd H a o) h':=λb u e=>by
 have d:=x.fresh g
 by_cases f:b=a
 ·subst f;rw[ai]at e;cases e;exact new
 ·rw[ag f]at e;exact(x b u e).uX (λc v _ q=>k c v q) (λc q=>by rwa [ag (bj q d)]) (λc xs q=>by rwa [ag (bj q d)]) λc j u q=>by rwa [ag (bj q d)]
end
def Rd(H:Hp)(a:Addr)(u:HO):Prop:=H a=some u\/∃o,H a=some (.nk o u)
def Rd.ok(r:Rd H a u)(x:n0 P w H h):kb P w H h a u:=by
 obtain r|⟨o,r⟩:=r
 ·exact x a u r
 ·obtain⟨_,q⟩:=x a _ r;exact q
def VS:Option HO->Prop
 |some (.lst _)=>True
 |some (.dK _)=>True
 |some (.dT _)=>True
 |some (.set _ _)=>True
 |some (.ins _ _ _)=>True
 |some (.ext _)=>True
 |_=>False
section
variable{P:gX}{w:iI}{H:Hp}{h h':Heap}{x e:Addr}{o':HO}
def n0.write(ok:n0 P w H h)(f:VS (H x))(A:e=x\/H e=some (.own x))(k:∀b u,b≠e->h.get? b=some u->h'.get? b=some u)(o:∃u,h'.get? e=some u)
  (new:kb P w (upd H x o') h' x o'):n0 P w (upd H x o') h':=λb u q=>by
 have d:∀c y,H c=some (.own y)->c≠x:=λc y r z=>by subst z;rw[r]at f;exact f
 have g:∀c xs,H c=some (.tup xs)->c≠x:=λc xs r z=>by subst z;rw[r]at f;exact f
 have j:∀c l v,H c=some (.nk l v)->c≠x:=λc l v r z=>by subst z;rw[r]at f;exact f
 by_cases n:b=x
 ·subst n;rw[ai]at q;cases q;exact new
 ·rw[ag n]at q
  by_cases a:b=e
  ·have p:H b=some (.own x):=by
    obtain z|z:=A
    ·exact absurd (a.trans z) n
    ·rwa [a]
   rw[q]at p;cases p;obtain⟨v,B⟩:=o;exact⟨v,by rwa [a]⟩
  ·refine(ok b u q).uX (λc v m r=>k c v ?_ r) (λc r=>by rwa [ag (d c b r)]) (λc xs r=>by rwa [ag (g c xs r)]) λc l v r=>by rwa [ag (j c l v r)]
   obtain rfl|m:=m
   ·exact a
   ·rintro rfl
    obtain z|z:=A
    ·exact d c b m z
    ·rw[m]at z;cases z;exact n rfl
end
structure Un(fs ex:List Addr)(H H':Hp)(h h':Heap):Prop where
 keep:∀b o,h.get? b=some o->H b=none->b∉fs->b∉ex->h'.get? b=some o
 slot:∀b o,h.get? b=some o->H b=none->b∈fs->b∉ex->∃sl,h'.get? b=some {o with slots:=sl}
 free:∀b o,h.get? b=some o->H b=none->b∉ex->H' b=none
 there:∀b o,h.get? b=some o->b∉ex->∃o',h'.get? b=some o'
 q0:∀b xs,H b=some (.tup xs)->H' b=some (.tup xs)
 mu:∀b o u,H b=some (.nk o u)->H' b=some (.nk o u)
 qh:∀b q,H b=some (.vQ q)->H' b=some (.vQ q)
section
variable{fs K' ex P':List Addr}{H H1 H2:Hp}{h h1 h2 h':Heap}{a x e:Addr}{o:HO}
def Un.any(u:Un fs ex H H1 h h1)(q:h.get? b=some c)(n:H b=none)(d:b∉ex):∃g,h1.get? b=some {c with slots:=g}:=by
 by_cases f:b∈fs
 ·exact u.slot b c q n f d
 ·exact⟨c.slots,u.keep b c q n f d⟩
def Un.trans(a:Un fs ex H H1 h h1)(b:Un fs ex H1 H2 h1 h2):Un fs ex H H2 h h2 where
 keep:=λc d q n g f=>b.keep c d (a.keep c d q n g f) (a.free c d q n f) g f
 slot:=λc d q n g f=>by
  obtain⟨u,j⟩:=a.slot c d q n g f;obtain⟨l,r⟩:=b.slot c _ j (a.free c d q n f) g f;exact⟨l,r⟩
 free:=λc d q n f=>by
  obtain⟨m,j⟩:=a.there c d q f;exact b.free c m j (a.free c d q n f) f
 there:=λc d q f=>by
  obtain⟨m,j⟩:=a.there c d q f;exact b.there c m j f
 q0:=λc xs q=>b.q0 c xs (a.q0 c xs q)
 mu:=λc d xs q=>b.mu c d xs (a.mu c d xs q)
 qh:=λp q z=>b.qh p q (a.qh p q z)
def Un.kept(k:∀b u,h.get? b=some u->h'.get? b=some u):Un fs ex H H h h':=
 ⟨λb c q _ _ _=>k b c q,λb c q _ _ _=>⟨c.slots,k b c q⟩,λ_ _ _ n _=>n,λb c q _=>⟨c,k b c q⟩,λ_ _ q=>q,λ_ _ _ q=>q,λ_ _ q=>q⟩
def Un.refl:Un fs ex H H h h:=Un.kept λ_ _ q=>q
def Un.laid(k:∀b u,h.get? b=some u->h'.get? b=some u)(d:h.objs.size<=a)(c:H a=none):Un fs ex H (upd H a o) h h' where
 keep:=λb u q _ _ _=>k b u q
 slot:=λb u q _ _ _=>⟨u.slots,k b u q⟩
 free:=λb u q n _=>by rwa [ag (hU (iD (fS q) d))]
 there:=λb u q _=>⟨u,k b u q⟩
 q0:=λb xs q=>by rwa [ag (bj q c)]
 mu:=λb u xs q=>by rwa [ag (bj q c)]
 qh:=λb _ q=>by rwa [ag (bj q c)]
def Un.write(d:VS (H x))(p:e=x\/H e=some (.own x))(k:∀b u,b≠e->h.get? b=some u->h'.get? b=some u)(g:∃u,h'.get? e=some u):Un fs ex H (upd H x o) h h':=by
 have j:∀b,H b=none->b≠x:=λb n z=>by subst z;rw[n]at d;exact d
 have l:∀b,H b=none->b≠e:=λb n z=>by
  subst z;obtain r|r:=p
  ·exact j b n r
  ·rw[n]at r;cases r
 have f:∀b u,H b=some u->¬VS (some u)->b≠x:=λb u q m z=>by subst z;rw[q]at d;exact m d
 refine⟨λb u q n _ _=>k b u (l b n) q,λb u q n _ _=>⟨u.slots,k b u (l b n) q⟩,λb u q n _=>by rwa [ag (j b n)],λb u q _=>?_,
  λb xs q=>by rwa [ag (f b _ q λz=>z)],λb u xs q=>by rwa [ag (f b _ q λz=>z)],λb _ q=>by rwa [ag (f b _ q λz=>z)]⟩
 by_cases c:b=e
 ·subst c;exact g
 ·exact⟨u,k b u c q⟩
end
def eD(h:Heap)(H:Hp):List Addr:=(hJ h.objs.size).filter λa=>(H a).isSome
def Np(h:Heap)(H:Hp):Heap:=PySem.W.hideAll h (eD h H)
def T1(h:Heap)(H:Hp):(Np h H).objs.size=h.objs.size:=PySem.W.hideAll_size _ _
def Yi{h:Heap}(e:h.get? b=some o)(n:H b=none):(Np h H).get? b=some o:=
 PySem.W.hideAll_get _ e λa=>by
  have q:=(List.mem_filter.mp a).2;rw[n]at q;simp at q
def IF{h:Heap}(e:(Np h H).get? b=some o):h.get? b=some o/\H b=none:=by
 have a:=PySem.W.of_hideAll _ e;refine⟨a,?_⟩;cases q:H b with
 |none=>rfl
 |some x=>
  have z:(Np h H).get? b=none:=PySem.W.hideAll_none _ (List.mem_filter.mpr ⟨List.mem_range.mpr (fS a),by simp[q]⟩);rw[z]at e;cases e
structure Mod(K:gA)(mg:Str->Option fG)(base:Heap):Prop where
 x4:K.In base
 glob:base.Ns kF mg
 blt:∃mb,base.Ns sQ mb/\∀x:Str,x≠"__name__"->mb x=lZ x
 nolimit:base.NoLimit
structure Cx where
 prog:gX
 w:iI
 K:gA
 mg:Str->Option fG
 base:Heap
 A:iR
 N:List Str
 kO:fP
 pq:Hp
 env:Env
 outer:List Env
 stack:List Env
 ex:List Addr
 fn:Str->Bool
 calm:Bool
 pn:List (Addr×Obj)
 xe:fG->fP->Prop
def X8(l:List Env):List Addr:=l.filterMap (·.frame)
abbrev Cx.fs(X:Cx):List Addr:=X8 X.outer
def VP(a:lY)(x:Str):Prop:=a.names.lookup x=some .local\/a.names.lookup x=some .cell\/a.names.lookup x=some .free
def Wp(a:lY)(x:Str):Prop:=a.names.lookup x=some .local\/a.names.lookup x=some .cell
def bS(a:Env)(h:Heap)(m:Str->Option fG)(x:Str)(u:fG):Prop:=
 (a.kindOf x=some .local/\m x=some u)\/((a.kindOf x=some .cell\/a.kindOf x=some .free)/\∃c,a.cells.lookup x=some c/\h.IsCell c (some u))
structure Cx.Ok(X:Cx):Prop where
 mod:Mod X.K X.mg X.base
 kind:X.env.scope.kind=.function
 glob:X.env.globals=kF
 blt:X.env.builtins=sQ
 above:X.kO.1.1.size<=X.env.locals
 inj:∀x y c,X.env.cells.lookup x=some c->X.env.cells.lookup y=some c->x=y
 has:∀x,(X.env.kindOf x=some .cell\/X.env.kindOf x=some .free)->∃c,X.env.cells.lookup x=some c
 zT:∀x c,X.fn x=true->X.env.cells.lookup x=some c->X.kO.1.1.size<=c
 hd:X.calm=true->X.A.handled=none
 frames:X.A.frames=some X.stack
 zG:X.stack=X.outer\/(X.stack=X.env::X.outer/\X.env.frame=some X.env.locals)
 N':∀b∈X.ex,b≠X.env.locals/\∀x c,X.env.cells.lookup x=some c->c≠b
 bs:∀b o,X.base.get? b=some o->X.kO.1.get? b=some o/\X.pq b=none
 xR:X.base.objs.size<=X.kO.1.1.size
 xJ:∀b o,X.base.get? b=some o->b∉X.ex
 yP:∀b∈X.ex,b∉X.fs
 rd:X.kO.1.FunFrames X.base X.outer
 yO:∀b∈X.fs,X.pq b=none
structure Inv(X:Cx)(pins:List (Addr×Obj))(σ:List (Option V))(H:Hp)(s:fP):Prop where
 ok:X.Ok
 os:s.os=X.kO.os
 bare:sX s.gens
 base:Un X.fs X.ex X.pq H X.kO.1 s.1
 loc:∃m,s.1.Ns X.env.locals m/\∀(i:Nat)(x:Str)(v:V),X.N[i]?=some x->σ[i]?=some (some v)->VP X.env.scope x->∃u,RelV v u/\bS X.env s.1 m x u
 cell:∀x c,X.env.cells.lookup x=some c->∃v,s.1.IsCell c v
 free:H X.env.locals=none
 p7:∀x c,X.env.cells.lookup x=some c->H c=none\/(X.fn x=false/\∃o,H c=some (.nk o (.own 0)))
 pin:∀p∈X.pn++pins,s.1.get? p.1=some p.2/\H p.1=none/\p.1≠X.env.locals/\p.1∉X.fs/\∀v,p.2.data≠.cell v
 fg:n0 X.prog X.w H s.1
 len:σ.length=X.N.length
section
variable{X:Cx}{pins:List (Addr×Obj)}{σ:List (Option V)}{H H':Hp}{s:fP}{h':Heap}
def Cx.Ok.zP(ok:X.Ok)(e:X.base.get? b=some o):b∉X.fs:=λa=>by
 have:=(ok.rd.mem a).1;rw[e]at this;cases this
def Inv.bs(I:Inv X pins σ H s):∀b o,X.base.get? b=some o->s.1.get? b=some o/\H b=none:=λb o e=>
 ⟨I.base.keep b o (I.ok.bs b o e).1 (I.ok.bs b o e).2 (I.ok.zP e) (I.ok.xJ b o e),I.base.free b o (I.ok.bs b o e).1 (I.ok.bs b o e).2 (I.ok.xJ b o e)⟩
def Inv.bk(I:Inv X pins σ H s):∀b o,X.base.get? b=some o->s.1.get? b=some o:=λb o e=>(I.bs b o e).1
def Inv.mod(I:Inv X pins σ H s):Mod X.K X.mg X.base:=I.ok.mod
def Inv.q7(I:Inv X pins σ H s):X.K.In s.1:=I.ok.mod.x4.keeps I.bk
def Inv.lt(I:Inv X pins σ H s):X.env.locals<s.1.1.size:=let ⟨_,a,_⟩:=I.loc;a.lt
def Inv.sz(I:Inv X pins σ H s):X.kO.1.1.size<=s.1.1.size:=iU I.ok.above (Nat.le_of_lt I.lt)
def Inv.zO(I:Inv X pins σ H s)(h:s.1.1.size<=a):a∉X.fs:=λc=>by
 obtain⟨_,o,b,_⟩:=I.ok.rd.mem c;exact absurd (iD (fS b) (iU I.sz h)) (jA _)
def Inv.wB(I:Inv X pins σ H s):∀x c,X.env.cells.lookup x=some c->c≠X.env.locals:=λx c e z=>by
 obtain⟨v,o,d,f⟩:=I.cell x c e;obtain⟨m,⟨g,h,j,a,b,_⟩,_⟩:=I.loc;rw[z,a]at d;cases d;rw[b]at f;cases f
def Inv.rd(I:Inv X pins σ H s):s.1.FunFrames X.base X.outer:=by
 have all:∀(l:List Env),(∀b∈X8 l,b∈X.fs)->X.kO.1.FunFrames X.base l->s.1.FunFrames X.base l:=by
  intro l;induction l with
  |nil=>intro _ _;trivial
  |cons u r g=>
   intro f n;obtain⟨p,⟨L,o,a,m,j,q⟩,h⟩:=n;have d:=f L (by unfold X8;rw[mP,a];exact fN);obtain⟨v,e⟩:=I.base.slot L o j (I.ok.yO L d) d λz=>I.ok.yP L z d;exact⟨p,⟨L,_,a,m,e,q⟩,g (λb c=>f b (by unfold X8;rw[mP,a];exact fH _ c)) h⟩
 exact all X.outer (λ_ c=>c) I.ok.rd
def Inv.stack(I:Inv X pins σ H s):s.1.FunFrames X.base X.stack:=by
 obtain e|⟨e,b⟩:=I.ok.zG
 ·rw[e];exact I.rd
 ·rw[e];obtain⟨m,a,_⟩:=I.loc;refine .cons (by rw[I.ok.kind];decide) b a ?_ I.rd;exact Heap.get?_none_of_le (iU I.ok.xR I.ok.above)
def Inv.ql(I:Inv X pins σ H s):∀b∈X8 X.stack,b∈X.env.locals::X.fs:=λb a=>by
 obtain e|⟨e,c⟩:=I.ok.zG
 ·rw[e]at a;exact fH _ a
 ·rw[e]at a;unfold X8 at a;rw[mP,c]at a;exact a
def Inv.vE(I:Inv X pins σ H s):∀b∈X8 X.stack,H b=none:=λb a=>by
 rcases List.mem_cons.mp (I.ql b a)with e|a
 ·rw[e];exact I.free
 ·obtain⟨_,o,c,_⟩:=I.ok.rd.mem a;exact I.base.free b o c (I.ok.yO b a) λz=>I.ok.yP b z a
def Inv.step{g':Array GenState}{t':Nat}{d':Drawn}{ch:List Addr}(I:Inv X pins σ H s)
  (g:∀b∈ch,(b∈X.ex\/X.kO.1.1.size<=b)/\b≠X.env.locals/\(∀x c,X.env.cells.lookup x=some c->c≠b)/\∀p∈X.pn++pins,p.1≠b)
  (keep:∀b o,b≠X.env.locals->b∉X.fs->b∉ch->s.1.get? b=some o->H b=none->h'.get? b=some o)
  (slot:∀b o,b≠X.env.locals->b∈X.fs->b∉ch->s.1.get? b=some o->H b=none->∃T,h'.get? b=some {o with slots:=T}) (free:∀b o,b∉ch->s.1.get? b=some o->H b=none->H' b=none)
  (there:∀b o,b∉ch->s.1.get? b=some o->∃J,h'.get? b=some J)
  (E:∀b xs,H b=some (.tup xs)->H' b=some (.tup xs)) (mu:∀b o u,H b=some (.nk o u)->H' b=some (.nk o u)) (G:∀b q,H b=some (.vQ q)->H' b=some (.vQ q))
  (ns:∀m,s.1.Ns X.env.locals m->h'.Ns X.env.locals m) (M:n0 X.prog X.w H' h') (hg:sX g'):
  Inv X pins σ H' {s with heap:=h',gens:=g',drawn:=d',toks:=t'}:=by
 have L:∀b o,X.kO.1.get? b=some o->b≠X.env.locals:=λb o e=>hU (iD (fS e) I.ok.above);have j:∀b o,X.kO.1.get? b=some o->b∉X.ex->b∉ch:=λb o e a B=>by
  rcases(g b B).1 with z|z
  ·exact a z
  ·exact absurd (iD (fS e) z) (jA _)
 have h:∀x c,X.env.cells.lookup x=some c->∀v,s.1.IsCell c v->h'.IsCell c v:=by
  rintro x c e v ⟨o,A,O⟩
  have f:c∉ch:=λz=>(g c z).2.2.1 x c e rfl;rcases I.p7 x c e with y|⟨_,N,y⟩
  ·by_cases hc:c∈X.fs
   ·obtain⟨T,q⟩:=slot c o (I.wB x c e) hc f A y;exact⟨_,q,O⟩
   ·exact⟨o,keep c o (I.wB x c e) hc f A y,O⟩
  ·obtain⟨Y,_⟩:=I.fg c _ y;obtain⟨q2,_⟩:=M c _ (mu c N _ y);rw[A]at Y;cases Y;exact⟨o,q2,O⟩
 refine⟨I.ok,I.os,hg,⟨λb o e n B a=>?_,λb o e n B a=>?_,λb o e n a=>?_,λb o e a=>?_,λb xs e=>E b xs (I.base.q0 b xs e),λb o xs e=>mu b o xs (I.base.mu b o xs e),λb q e=>G b q (I.base.qh b q e)⟩,?_,λx c e=>?_,?_,λx c e=>?_,λp hp=>?_,M,I.len⟩
 ·exact keep b o (L b o e) B (j b o e a) (I.base.keep b o e n B a) (I.base.free b o e n a)
 ·obtain⟨T,C⟩:=I.base.slot b o e n B a;obtain⟨Q,U⟩:=slot b _ (L b o e) B (j b o e a) C (I.base.free b o e n a);exact⟨Q,U⟩
 ·obtain⟨J,C⟩:=I.base.there b o e a;exact free b J (j b o e a) C (I.base.free b o e n a)
 ·obtain⟨J,C⟩:=I.base.there b o e a;exact there b J (j b o e a) C
 ·obtain⟨m,hn,hl⟩:=I.loc;refine⟨m,ns m hn,λi x v C U e3=>?_⟩;obtain⟨u,r,l⟩:=hl i x v C U e3;refine⟨u,r,?_⟩;obtain l|⟨k,c,e,z⟩:=l
  ·exact .inl l
  ·exact .inr ⟨k,c,e,h x c e _ z⟩
 ·obtain⟨v,z⟩:=I.cell x c e;exact⟨v,h x c e v z⟩
 ·obtain⟨m,⟨o,_,_,A,_⟩,_⟩:=I.loc;exact free _ o (λz=>(g _ z).2.1 rfl) A I.free
 ·obtain⟨v,o,A,O⟩:=I.cell x c e;rcases I.p7 x c e with y|⟨hf,N,y⟩
  ·exact .inl (free c o (λz=>(g c z).2.2.1 x c e rfl) A y)
  ·exact .inr ⟨hf,N,mu c N _ y⟩
 ·obtain⟨e,n,ne,nf,d⟩:=I.pin p hp;have f:p.1∉ch:=λz=>(g p.1 z).2.2.2 p hp rfl;exact⟨keep p.1 p.2 ne nf f e n,free p.1 p.2 f e n,ne,nf,d⟩
def Inv.un(I:Inv X pins σ H s)(u:Un X.fs [] H H' s.1 h')(c:n0 X.prog X.w H' h'):Inv X pins σ H' {s with heap:=h',toks:=q}:=by
 obtain⟨m,⟨o,A,B,h,r⟩,_⟩:=id I.loc;obtain⟨v,p⟩:=u.any h I.free (by simp);exact I.step (ch:=[]) (λ_ z=>nomatch z) (λb o _ d _ e n=>u.keep b o e n d (by simp)) (λb o _ d _ e n=>u.slot b o e n d (by simp)) (λb o _ e n=>u.free b o e n (by simp)) (λb o _ e=>u.there b o e (by simp)) u.q0 u.mu u.qh (λy l=>by
  obtain⟨x,f,g,a,j⟩:=l;rw[h]at a;cases a;exact⟨_,f,g,p,j⟩) c I.bare
def Inv.call(I:Inv X pins σ H s)(u:Un (X8 X.stack) ch H H' s.1 h')(g:n0 X.prog X.w H' h')(A:sX C)
  (f:∀b∈ch,(b∈X.ex\/X.kO.1.1.size<=b)/\b≠X.env.locals/\(∀x c,X.env.cells.lookup x=some c->c≠b)/\∀p∈X.pn++pins,p.1≠b):
  Inv X pins σ H' {s with heap:=h',gens:=C,drawn:=d',toks:=t'}:=by
 obtain⟨m,⟨o,L,M,q,r⟩,_⟩:=id I.loc;obtain⟨E,h⟩:=u.any q I.free λz=>(f _ z).2.1 rfl;exact I.step f (λb o h B a e n=>u.keep b o e n (λz=>(List.mem_cons.mp (I.ql b z)).elim h B) a) (λb o _ _ a e n=>u.any e n a) (λb o a e n=>u.free b o e n a) (λb o a e=>u.there b o e a) u.q0 u.mu u.qh (λJ y=>by
  obtain⟨G,j,l,d,v⟩:=y;rw[q]at d;cases d;exact⟨_,j,l,h,v⟩) g A
def Inv.turned(I:Inv X pins σ H s)(k:∀b o,b≠it->s.1.get? b=some o->h'.get? b=some o)(h:H it=none)(f:it≠X.env.locals)
  (B:it∈X.ex\/X.kO.1.1.size<=it)(A:∀x c,X.env.cells.lookup x=some c->c≠it)(y:∀p∈X.pn++pins,p.1≠it):Inv X pins σ H {s with heap:=h',toks:=G}:=by
 have d:∀b u,H b=some u->b≠it:=λb u e z=>by rw[z,h]at e;cases e
 refine I.step (ch:=[it]) (λb l=>?_) (λb o _ _ a e _=>k b o (λz=>a (by simp[z])) e) (λb o _ _ a e _=>⟨o.slots,k b o (λz=>a (by simp[z])) e⟩) (λ_ _ _ _ n=>n)
  (λb o a e=>⟨o,k b o (λz=>a (by simp[z])) e⟩) (λ_ _ e=>e) (λ_ _ _ e=>e) (λ_ _ e=>e) (λm j=>?_) (λb u e=>?_) I.bare
 ·have e:b=it:=by simpa using l
  subst e;exact⟨B,f,A,y⟩
 ·obtain⟨o,C,E,g,r⟩:=j;exact⟨o,C,E,k _ o (kS f) g,r⟩
 ·refine(I.fg b u e).uX (λc v a q=>k c v ?_ q) (λ_ q=>q) λ_ _ q=>q;obtain z|z:=a
  ·rw[z];exact d b u e
  ·exact d c _ z
def Inv.tok(I:Inv X pins σ H s)(t:Nat):Inv X pins σ H {s with toks:=t}:=I.un Un.refl I.fg
def Inv.kept(I:Inv X pins σ H s)(k:∀b u,s.1.get? b=some u->h'.get? b=some u):Inv X pins σ H {s with heap:=h',toks:=t'}:=I.un (Un.kept k) (I.fg.kept k)
def Inv.laid(I:Inv X pins σ H s)(k:∀b u,s.1.get? b=some u->h'.get? b=some u)(c:s.1.1.size<=a)(new:kb X.prog X.w (upd H a o) h' a o):
  Inv X pins σ (upd H a o) {s with heap:=h',toks:=t'}:=I.un (Un.laid k c (I.fg.fresh c)) (I.fg.laid k c new)
def Inv.write(I:Inv X pins σ H s)(c:VS (H x))(d:e=x\/H e=some (.own x))(k:∀b u,b≠e->s.1.get? b=some u->h'.get? b=some u)(a:∃u,h'.get? e=some u)
  (new:kb X.prog X.w (upd H x o) h' x o):Inv X pins σ (upd H x o) {s with heap:=h',toks:=f}:=I.un (Un.write c d k a) (I.fg.write c d k a new)
def Inv.vI(I:Inv X pins σ H s)(h:∀p∈a,s.1.get? p.1=some p.2/\H p.1=none/\p.1≠X.env.locals/\p.1∉X.fs/\∀v,p.2.data≠.cell v):Inv X a σ H s:=
 ⟨I.ok,I.os,I.bare,I.base,I.loc,I.cell,I.free,I.p7,λp b=>(List.mem_append.mp b).elim (λz=>I.pin p (mD _ z)) (h p),I.fg,I.len⟩
def K4{N:List Str}(c:N.Nodup){i j:Nat}{x:Str}(a:N[i]?=some x)(b:N[j]?=some x):i=j:=by
 obtain⟨g,e⟩:=List.getElem?_eq_some_iff.mp a;obtain⟨f,d⟩:=List.getElem?_eq_some_iff.mp b;exact(List.getElem_inj c).mp (e.trans d.symm)
def Gg(I:Inv X pins σ H s)(hN:X.N.Nodup)(hi:X.N[i]?=some x)(C:Wp X.env.scope x)(r:RelV v u)
  (h:∀s',Inv X pins (σ.set i (some v)) H s'->(∃a,iJ a s.1 s'.1/\(a=X.env.locals\/X.env.cells.lookup x=some a))->Q () s')(hf:X.fn x=true\/X.env.scope.names.lookup x=some .local:=by first|exact .inl rfl|exact .inr rfl|assumption):gK M A (storeName X.env x u) Q E s:=by
 obtain⟨m,hn,hl⟩:=id I.loc;have γ:(X.env.scope.kind==.class||(X.env.scope.kind==.module && X.env.locals !=X.env.globals))=false:=by rw[I.ok.kind];rfl
 have T:i<σ.length:=by rw[I.len];exact(List.getElem?_eq_some_iff.mp hi).1
 have wB:=I.wB;have g:∀{a:Addr}{h':Heap},(∃o,s.1.get? a=some o/\H a=none)->iJ a s.1 h'->n0 X.prog X.w H h':=λ{a h'} ha f b ob e=>by
  obtain⟨_,_,G⟩:=ha;refine(I.fg b ob e).uX (λc w' B q=>(f.2 c ?_).trans q) (λ_ q=>q) λ_ _ q=>q
  rintro rfl
  obtain rfl|B:=B
  ·rw[G]at e;cases e
  ·rw[G]at B;cases B
 obtain O|O:=C
 ·refine wpAny_storeName_local O hn (λh' φ f=>?_) γ;obtain⟨oL,_,_,υ,_⟩:=id hn;refine h _ ⟨I.ok,I.os,I.bare,⟨λb o e n Y C=>?_,λb o e n Y C=>?_,I.base.free,λb o e C=>?_,I.base.q0,I.base.mu,I.base.qh⟩,⟨_,φ,λj y v' l L e3=>?_⟩,λy c e=>?_,I.free,I.p7,λp hp=>?_,g ⟨oL,υ,I.free⟩ f,by simpa using I.len⟩ ⟨_,f,.inl rfl⟩
  ·exact(f.2 b (hU (iD (fS e) I.ok.above))).trans (I.base.keep b o e n Y C)
  ·obtain⟨sl,l⟩:=I.base.slot b o e n Y C;exact⟨sl,(f.2 b (hU (iD (fS e) I.ok.above))).trans l⟩
  ·obtain⟨o',l⟩:=I.base.there b o e C;exact⟨o',(f.2 b (hU (iD (fS e) I.ok.above))).trans l⟩
  ·by_cases U:j=i
   ·subst U;rw[hi]at l;cases l;rw[gY T]at L;cases L;exact⟨u,r,.inl ⟨O,by simp⟩⟩
   ·rw[gU (kS U)]at L;obtain⟨u',r',q⟩:=hl j y v' l L e3;refine⟨u',r',?_⟩;obtain ⟨k,e⟩|⟨k,c,e,z⟩:=q
    ·refine .inl ⟨k,?_⟩;have:y≠x:=λe=>U (K4 hN l (e▸hi));simp[this,e]
    ·exact .inr ⟨k,c,e,z.sameBut f (wB y c e)⟩
  ·obtain⟨w',z⟩:=I.cell y c e;exact⟨w',z.sameBut f (wB y c e)⟩
  ·obtain⟨e,n,ne,nf,d⟩:=I.pin p hp;exact⟨(f.2 p.1 ne).trans e,n,ne,nf,d⟩
 ·have J:X.fn x=true:=by
   obtain z|z:=hf
   ·exact z
   ·rw[z]at O;cases O
  obtain⟨c,B⟩:=I.ok.has x (.inl O);obtain⟨w',z⟩:=I.cell x c B;refine wpAny_storeName_cell I.ok.kind O B z (λh' ε f=>?_);obtain⟨oc,α,Γ⟩:=id z;have ψ:=(I.p7 x c B).elim (λz=>z) λz=>by rw[J]at z;exact absurd z.1 (by decide)
  refine h {s with heap:=h'} ⟨I.ok,I.os,I.bare,⟨λb o e n Y C=>?_,λb o e n Y C=>?_,I.base.free,λb o e C=>?_,I.base.q0,I.base.mu,I.base.qh⟩,⟨m,hn.sameBut f (kS (wB x c B)),λj y v' l L e3=>?_⟩,λy c' e=>?_,I.free,I.p7,λp hp=>?_,g ⟨oc,α,ψ⟩ f,by simpa using I.len⟩ ⟨c,f,.inr B⟩
  ·exact(f.2 b (hU (iD (fS e) (I.ok.zT x c J B)))).trans (I.base.keep b o e n Y C)
  ·obtain⟨sl,l⟩:=I.base.slot b o e n Y C;exact⟨sl,(f.2 b (hU (iD (fS e) (I.ok.zT x c J B)))).trans l⟩
  ·obtain⟨o',l⟩:=I.base.there b o e C;exact⟨o',(f.2 b (hU (iD (fS e) (I.ok.zT x c J B)))).trans l⟩
  ·by_cases U:j=i
   ·subst U;rw[hi]at l;cases l;rw[gY T]at L;cases L;exact⟨u,r,.inr ⟨.inl O,c,B,ε⟩⟩
   ·rw[gU (kS U)]at L;obtain⟨u',r',q⟩:=hl j y v' l L e3;refine⟨u',r',?_⟩;obtain q|⟨k,c',e,z'⟩:=q
    ·exact .inl q
    ·refine .inr ⟨k,c',e,z'.sameBut f ?_⟩
     rintro rfl
     exact U (K4 hN l (I.ok.inj _ _ _ e B▸hi))
  ·by_cases δ:c'=c
   ·subst δ;exact⟨_,ε⟩
   ·obtain⟨w2,z2⟩:=I.cell y c' e;exact⟨w2,z2.sameBut f δ⟩
  ·obtain⟨e,n,ne,nf,d⟩:=I.pin p hp;refine⟨(f.2 p.1 ?_).trans e,n,ne,nf,d⟩;intro q;rw[q,α]at e;exact d w' (by rwa [<-(gV e)])
def L4(I:Inv X pins σ H s)(e:X.N.Nodup)(c:X.N[i]?=some x)(b:Wp X.env.scope x)(r:RelV v u)
  (h:∀a,Inv X pins (σ.set i (some v)) H a->Q () a)(d:X.fn x=true\/X.env.scope.names.lookup x=some .local:=by first|exact .inl rfl|exact .inr rfl|assumption):gK M A (storeName X.env x u) Q E s:=
 Gg I e c b r (λa f _=>h a f) d
def Inv.yR{a:fP}(I:Inv X pins σ H s)(f:a.os=s.os)(u:Un (X8 X.stack) j H H' s.1 a.1)(d:n0 X.prog X.w H' a.1)(g:sX a.gens)
  (e:∀b∈j,(b∈X.ex\/X.kO.1.1.size<=b)/\b≠X.env.locals/\(∀x c,X.env.cells.lookup x=some c->c≠b)/\∀p∈X.pn++pins,p.1≠b):Inv X pins σ H' a:=by
 obtain⟨h',n,h,l,m⟩:=a;subst f;exact I.call (d':=h) u d g e
end
abbrev XK:=fG->Option Addr->Hp->Prop
abbrev St:=List (Option V)
abbrev VK:=V->Hp->Prop
abbrev TE:=St->Hp->VK->Prop
abbrev TT:=St->Hp->(Bool->Hp->Prop)->Prop
abbrev TA:=St->Hp->(List V->Hp->Prop)->Prop
structure Ends where
 nx:St->Hp->Prop
 rt:VK
 bk:St->Hp->Prop:=λ_ _=>False
 ct:St->Hp->Prop:=λ_ _=>False
abbrev TS:=Ends->St->Hp->Prop
inductive EP(X:Cx)(pins:List (Addr×Obj))(σ:St)(Q:VK)(u:fG)(s':fP):Prop
 |mk (v H') (_:Inv X pins σ H' s') (_:RelV v u) (_:Q v H'):EP X pins σ Q u s'
def TP(X:Cx)(a:List (Addr×Obj))(σ:St)(Q:Bool->Hp->Prop)(b:Bool)(d:fP):Prop:=∃c,Inv X a σ c d/\Q b c
inductive AP(X:Cx)(pins:List (Addr×Obj))(σ:St)(Q:List V->Hp->Prop)(us:List fG)(s':fP):Prop
 |mk (vs H') (_:Inv X pins σ H' s') (_:Vals vs us) (_:Q vs H'):AP X pins σ Q us s'
def SP(X:Cx)(b:List (Addr×Obj))(D:Ends)(f:Flow)(d:fP):Prop:=
 match f with
 |.next=>∃a c,Inv X b a c d/\D.nx a c
 |.brk=>∃a c,Inv X b a c d/\D.bk a c
 |.cont=>∃a c,Inv X b a c d/\D.ct a c
 |.ret u=>∃v a c,Inv X b a c d/\RelV v u/\D.rt v c
def PE(X:Cx)(e:Expr)(t:TE):Prop:=
 ∀(a:List (Addr×Obj))(s:fP)(σ:St)(H:Hp)(Q:VK),Inv X a σ H s->t σ H Q->gK (gR X.prog X.w) X.A (eval e X.env) (EP X a σ Q) X.xe s
def PT(X:Cx)(e:Expr)(t:TT):Prop:=
 ∀(a:List (Addr×Obj))(s:fP)(σ:St)(H:Hp)(Q:Bool->Hp->Prop),Inv X a σ H s->t σ H Q->gK (gR X.prog X.w) X.A (isTrue e X.env (eval e X.env)) (TP X a σ Q) X.xe s
def PW(X:Cx)(e:Expr)(t:TT):Prop:=
 ∀(b:Sem fG)(a:List (Addr×Obj))(s:fP)(σ:St)(H:Hp)(Q:Bool->Hp->Prop),Inv X a σ H s->t σ H Q->gK (gR X.prog X.w) X.A (isTrue e X.env b) (TP X a σ Q) X.xe s
def PW.pt(h:PW X e t):PT X e t:=h _
def PA(X:Cx)(es:List Expr)(t:TA):Prop:=
 ∀(b:Pos)(a:List (Addr×Obj))(s:fP)(σ:St)(H:Hp)(Q:List V->Hp->Prop),Inv X a σ H s->t σ H Q->gK (gR X.prog X.w) X.A (spliced (lJ b (gQ es X.env))) (AP X a σ Q) X.xe s
def PS(X:Cx)(st:Stmt)(t:TS):Prop:=
 ∀(a:List (Addr×Obj))(s:fP)(σ:St)(H:Hp)(D:Ends),Inv X a σ H s->t D σ H->gK (gR X.prog X.w) X.A (exec st X.env) (SP X a D) X.xe s
def uW(X:Cx)(st:List Stmt)(t:TS):Prop:=
 ∀(a:List (Addr×Obj))(s:fP)(σ:St)(H:Hp)(D:Ends),Inv X a σ H s->t D σ H->gK (gR X.prog X.w) X.A (execs st X.env) (SP X a D) X.xe s
def gp(h:gK M A t Q E s)(b:∀a s,Q a s->c a s):gK M A t c E s:=iP h b λ_ _ x=>x
section
variable{X:Cx}
def tw(i:Nat):TE:=λσ H Q=>∃v,σ[i]?=some (some v)/\Q v H
def tC(v:V):TE:=λ_ H Q=>Q v H
def Ib(A:X.N[i]?=some x)(p:VP X.env.scope x)(g:(x==("__debug__":Str))=false:=by decide)(j:(x==("__classdict__":Str))=false:=by decide):PE X (.Name x o) (tw i):=by
 intro f s σ H Q I h;obtain⟨v,e,h⟩:=h;obtain⟨m,q,z⟩:=I.loc;obtain⟨u,r,l⟩:=z i x v A e p;have d:EP X f σ Q u s:=⟨v,H,I,r,h⟩;obtain ⟨b,y⟩|⟨b,c,n,a⟩:=l
 ·exact wpAny_Name (wpAny_loadName_local I.ok.kind b q y d) g
 ·obtain b|b:=b
  ·exact wpAny_Name (wpAny_loadName_cell I.ok.kind b n a d) g
  ·exact wpAny_Name (wpAny_loadName_free I.ok.kind b n a d j) g
def RU{i j a}:PE X (.Constant (.int i) j a) (tC (.int i)):=λ_ _ _ H _ I h=>wpAny_Constant_int ⟨.int i,H,I.tok _,⟨_,rfl⟩,h⟩
def WA{b j a}:PE X (.Constant (.bool b) j a) (tC (.bl b)):=λ_ _ _ H _ I h=>Constant_bool ⟨.bl b,H,I,rfl,h⟩
def RT{j a}:PE X (.Constant .none j a) (tC .g8):=λ_ _ _ H _ I h=>Constant_none ⟨.g8,H,I,rfl,h⟩
def RP{x j a}:PE X (.Constant (.str x) j a) (tC (.str x)):=λ_ _ _ H _ I h=>Calls.Constant_str ⟨.str x,H,I.tok _,⟨_,rfl⟩,h⟩
def Gl(X:Cx)(x:Str):Prop:=X.env.kindOf x=some .globalImplicit
def B4(I:Inv X a σ H s)(d:Gl X x)(c:X.mg x=some u)(h:Q u s)
  (e:(x==("__debug__":Str))=false:=by decide):gK (gR X.prog X.w) X.A (eval (.Name x b) X.env) Q E s:=
 Calls.Name_function_global I.ok.kind d (Calls.loadGlobal_global (by rw[I.ok.glob];exact I.mod.glob.keeps I.bk) c h) e
def vd(I:Inv X a σ H s)(f:Gl X x)(e:X.mg x=none)(c:lZ x=some u)(h:Q u s)
  (d:x≠"__name__":=by decide)(g:(x==("__debug__":Str))=false:=by decide):gK (gR X.prog X.w) X.A (eval (.Name x b) X.env) Q E s:=by
 obtain⟨m,l,j⟩:=I.mod.blt;exact Calls.Name_function_global I.ok.kind f (Calls.loadGlobal_builtin (by rw[I.ok.glob];exact I.mod.glob.keeps I.bk) e (by rw[I.ok.blt];exact l.keeps I.bk) ((j x d).trans c) h) g
def Q9(c:Gl X x)(b:X.mg x=some u)(r:RelV v u)(d:(x==("__debug__":Str))=false:=by decide):PE X (.Name x a) (tC v):=
 λ_ _ _ H _ I h=>B4 I c b ⟨v,H,I,r,h⟩ d
def JU(e:Gl X x)(d:X.mg x=none)(b:lZ x=some u)(r:RelV v u)(c:x≠"__name__":=by decide)(f:(x==("__debug__":Str))=false:=by decide):PE X (.Name x a) (tC v):=
 λ_ _ _ H _ I h=>vd I e d b ⟨v,H,I,r,h⟩ c f
variable{a b:Expr}{ta tb:TE}{pos:Pos}
variable{tA yZ:TT}{rest:List Expr}
def cP(t u:TT):TT:=λσ H Q=>t σ H λc d=>if c=true then u σ d Q else Q false d
def eI(t u:TT):TT:=λσ H Q=>t σ H λc d=>if c=true then Q true d else u σ d Q
def cJ(t:TT):TT:=λσ H Q=>t σ H λc d=>Q (!c) d
def KG(f:PT X a tA):PW X (.BoolOp .And [a] pos) tA:=by
 intro g d s σ H Q I h;refine isTrue_and (gp (f d s σ H Q I h) λc j e=>?_);cases c with
 |true=>exact isTrue_and_nil e
 |false=>exact e
def SA(f:PT X a tA):PW X (.BoolOp .Or [a] pos) tA:=by
 intro g d s σ H Q I h;refine isTrue_or (gp (f d s σ H Q I h) λc j e=>?_);cases c with
 |false=>exact isTrue_or_nil e
 |true=>exact e
def SE(n:PT X a tA)(m:PW X (.BoolOp .And (b::rest) pos) yZ):PW X (.BoolOp .And (a::b::rest) pos) (cP tA yZ):=by
 intro j d s σ H Q I h;refine isTrue_and (gp (n d s σ H _ I h) λc l ⟨g,f,e⟩=>?_);cases c with
 |true=>exact m j d l σ g Q f e
 |false=>exact⟨g,f,e⟩
def XI(n:PT X a tA)(m:PW X (.BoolOp .Or (b::rest) pos) yZ):PW X (.BoolOp .Or (a::b::rest) pos) (eI tA yZ):=by
 intro j d s σ H Q I h;refine isTrue_or (gp (n d s σ H _ I h) λc l ⟨g,f,e⟩=>?_);cases c with
 |true=>exact⟨g,f,e⟩
 |false=>exact m j d l σ g Q f e
def RC(d:PT X a tA):PT X (.UnaryOp .Not a pos) (cJ tA):=by
 intro c s σ H Q I h;exact isTrue_not (d c s σ H _ I h)
def YR(ta tb:TE):TE:=λσ H Q=>ta σ H λx d=>∃c,x=.bl c/\if c=true then tb σ d Q else Q (.bl false) d
def cI(ta tb:TE):TE:=λσ H Q=>ta σ H λx d=>∃c,x=.bl c/\if c=true then Q (.bl true) d else tb σ d Q
def YL(ta:TE):TE:=λσ H Q=>ta σ H λx d=>∃c,x=.bl c/\Q (.bl (!c)) d
def RQ{d}(h:PE X a t):PE X (.BoolOp d [a] pos) t:=λc s σ H Q I e=>BoolOp_one (h c s σ H Q I e)
def RX(n:PE X a ta)(m:PE X (.BoolOp .And (b::rest) pos) tb):PE X (.BoolOp .And (a::b::rest) pos) (YR ta tb):=by
 intro d s σ H Q I h;refine BoolOp_and (gp (n d s σ H _ I h) λv j ⟨x,g,f,l,e⟩=>?_);obtain⟨c,rfl,e⟩:=e;cases l;refine kB ?_;cases c with
 |true=>exact m d j σ g Q f e
 |false=>exact⟨.bl false,g,f,rfl,e⟩
def XX(n:PE X a ta)(m:PE X (.BoolOp .Or (b::rest) pos) tb):PE X (.BoolOp .Or (a::b::rest) pos) (cI ta tb):=by
 intro d s σ H Q I h;refine BoolOp_or (gp (n d s σ H _ I h) λv j ⟨x,g,f,l,e⟩=>?_);obtain⟨c,rfl,e⟩:=e;cases l;refine kB ?_;cases c with
 |false=>exact m d j σ g Q f e
 |true=>exact⟨.bl true,g,f,rfl,e⟩
def RS(g:PE X a ta):PE X (.UnaryOp .Not a pos) (YL ta):=by
 intro d s σ H Q I h;refine UnaryOp_ (gp (g d s σ H _ I h) λv m ⟨x,l,j,f,e⟩=>?_);obtain⟨c,rfl,e⟩:=e;cases f;exact not_of (kB ⟨.bl (!c),l,j,rfl,e⟩)
def eJ(t:TT)(ta tb:TE):TE:=λσ H Q=>t σ H λc d=>if c=true then ta σ d Q else tb σ d Q
def Lc(m:PT X c tA)(o:PE X a ta)(n:PE X b tb):PE X (.IfExp c a b pos) (eJ tA ta tb):=by
 intro e s σ H Q I h;refine wpAny_IfExp (gp (m e s σ H _ I h) λd f ⟨l,j,g⟩=>?_);cases d with
 |true=>exact o e f σ l Q j g
 |false=>exact n e f σ l Q j g
end
inductive zW(P:Array fG->Prop)(xs:List V):Prop
 |mk (its:List fG) (_:Vals xs its) (_:P its.toArray) (_:xs.length<=fR):zW P xs
inductive FO(K:gA)(a:Addr)(xs:List V):Prop
 |mk (o its n) (_:K.lookup a=some o) (_:o.cls=.type "list") (_:o.dict=none) (_:o.data=.seq its n) (_:its.size<=fR) (_:Vals xs its.toList):FO K a xs
inductive FN(K:gA)(a:Addr)(xs:List V):Prop
 |mk (o its n) (_:K.lookup a=some o) (_:o.cls=.type "tuple") (_:o.data=.seq its n) (_:its.size<=fR) (_:Vals xs its.toList):FN K a xs
def i'(K:gA)(H:Hp)(a:Addr)(xs:List V):Prop:=
 Rd H a (.lst xs)\/FO K a xs
def mn(K:gA)(H:Hp)(a:Addr)(xs:List V):Prop:=
 Rd H a (.tup xs)\/FN K a xs
noncomputable def bP:fG->Option V
 |.none=>some .g8
 |.bool b=>some (.bl b)
 |.int i _=>some (.int i)
 |.str x _=>some (.str x)
 |.bytes b _=>some (.w4 b)
 |.float b _=>some (.y4 b)
 |.ref a=>some (.ref a)
 |.type n=>some (.ty n)
 |_=>none
def RelV.abs(r:RelV x u):bP u=some x:=by
 cases x with
 |g8=>cases r;rfl
 |bl _=>cases r;rfl
 |int _=>obtain⟨t,rfl⟩:=r;rfl
 |str _=>obtain⟨t,rfl⟩:=r;rfl
 |w4 _=>obtain⟨t,rfl⟩:=r;rfl
 |y4 _=>obtain⟨t,rfl⟩:=r;rfl
 |ref _=>cases r;rfl
 |ty _=>cases r;rfl
def RelV.inj(r:RelV x u)(q:RelV y u):x=y:=gV (r.abs.symm.trans q.abs)
theorem Vals.inj:∀{xs a:List V}{b:List fG},Vals xs b->Vals a b->xs=a
 |_,_,_,.nil,.nil=>rfl
 |_,_,_,.cons r t,.cons d c=>by rw[r.inj d,Vals.inj t c]
section
variable{X:Cx}{pins:List (Addr×Obj)}{σ:St}{H:Hp}{s:fP}{a:Addr}{xs ys:List V}
def i'.of{K:gA}(h:H a=some (.lst xs)):i' K H a xs:=.inl (.inl h)
def mn.of{K:gA}(h:H a=some (.tup xs)):mn K H a xs:=.inl (.inl h)
def Inv.list(I:Inv X pins σ H s)(h:i' X.K H a xs):zW (PlainL s.1 a) xs:=by
 obtain h|⟨o,b,n,d,g,f,c,j,r⟩:=h
 ·obtain⟨z,b,n,r,e⟩:=h.ok I.fg;exact⟨b,r,⟨_,n,e,rfl,rfl,rfl⟩,z⟩
 ·refine⟨b.toList,r,⟨o,n,I.q7 a o d,g,f,by simpa using c⟩,?_⟩;have e:=r.length;simp only[gN]at e
  lia
def Inv.tuple(I:Inv X pins σ H s)(h:mn X.K H a xs):zW (pO s.1 a) xs:=by
 obtain h|⟨o,b,n,d,f,c,g,r⟩:=h
 ·obtain⟨z,b,r,p⟩:=h.ok I.fg;exact⟨b,r,p,z⟩
 ·refine⟨b.toList,r,⟨o,I.q7 a o d,f,n,by simpa using c⟩,?_⟩;have e:=r.length;simp only[gN]at e
  lia
def Inv.u3(I:Inv X pins σ H s)(h:i' X.K H a xs)(l:i' X.K H a ys):xs=ys:=by
 obtain⟨c,r,⟨o,n,e,_,_,d⟩,_⟩:=I.list h;obtain⟨b,j,⟨p,q,f,_,_,g⟩,_⟩:=I.list l;rw[e]at f;cases f;rw[d]at g;injection g with m _
 have:c=b:=by simpa using congrArg Array.toList m
 subst this;exact r.inj j
def Inv.pv(I:Inv X pins σ H s)(h:mn X.K H a xs)(l:mn X.K H a ys):xs=ys:=by
 obtain⟨c,r,⟨o,e,_,n,d⟩,_⟩:=I.tuple h;obtain⟨b,j,⟨p,f,_,q,g⟩,_⟩:=I.tuple l;rw[e]at f;cases f;rw[d]at g;injection g with m _
 have:c=b:=by simpa using congrArg Array.toList m
 subst this;exact r.inj j
end
section
variable{X:Cx}{st:Stmt}{rest:List Stmt}{t u:TS}{e:Expr}{te:TE}{pos:Pos}
def NM:TS:=λD σ H=>D.nx σ H
def YH(t u:TS):TS:=λD σ H=>t {D with nx:=u D} σ H
def KZ:uW X [] NM:=λ_ _ σ H _ I h=>sC ⟨σ,H,I,h⟩
def Li(g:PS X st t)(d:uW X rest u):uW X (st::rest) (YH t u):=by
 intro a s σ H D I h;refine wpAny_execs_cons (gp (g a s σ H {D with nx:=u D} I h) λf c q=>?_);cases f with
 |next=>
  obtain⟨b,l,j,q⟩:=q;exact d a c b l D j q
 |ret v=>exact q
 |brk=>exact q
 |cont=>exact q
def B7(b:PS X st t):uW X [st] t:=by
 intro a s σ H D I h;refine wpAny_execs_cons (gp (b a s σ H D I h) λf c q=>?_);cases f with
 |next=>exact sC q
 |ret v=>exact q
 |brk=>exact q
 |cont=>exact q
def Inv.quiet(I:Inv X a σ H s):interactive X.env=false:=by simp[interactive,I.ok.kind]
def RF{x j pos a}:PS X (.Expr (.Constant (.str x) j pos) a) NM:=λ_ s σ H _ I h=>wpAny_Expr (Calls.Constant_str (⟨σ,H,I.tok _,h⟩)) I.quiet
def YO(te:TE):TS:=λD σ H=>te σ H λ_ a=>D.nx σ a
def s9(d:PE X e te)(c:mG e none pos.line X.env=pure false:=by rfl):PS X (.Expr e pos) (YO te):=by
 intro a s σ H D I h;exact wpAny_Expr_any (gp (d a s σ H _ I h) (by rintro v j ⟨x,g,f,l,b⟩;exact⟨σ,g,f,b⟩)) I.quiet c
def cH(te:TE):TS:=λD σ H=>te σ H D.rt
def RE(d:PE X e te):PS X (.Return (some e) pos) (cH te):=by
 intro a s σ H D I h;exact wpAny_Return_some (gp (d a s σ H _ I h) (by rintro v j ⟨x,g,f,b,c⟩;exact⟨x,σ,g,f,b,c⟩))
def YI:TS:=λD _ H=>D.rt .g8 H
def JA:PS X (.Return none pos) YI:=λ_ _ σ H _ I h=>wpAny_Return_none ⟨.g8,σ,H,I,rfl,h⟩
def cL(c:TT)(t u:TS):TS:=λD σ H=>c σ H λb a=>if b=true then t D σ a else u D σ a
def NW(o:PT X c n)(q:uW X a t)(p:uW X b u):PS X (.If c a b pos) (cL n t u):=by
 intro f s σ H D I h;refine wpAny_If (gp (o f s σ H _ I h) λd g ⟨m,l,j⟩=>?_);cases d with
 |true=>exact q f g σ m D l j
 |false=>exact p f g σ m D l j
end
abbrev TG:=V->St->Hp->(St->Hp->Prop)->Prop
abbrev VQ:=List V->St->Hp->(St->Hp->Prop)->Prop
def PG(X:Cx)(a:Expr)(t:TG):Prop:=
 ∀(b:List (Addr×Obj))(s:fP)(σ:St)(H:Hp)(v:V)(u:fG)(Q:St->Hp->Prop),Inv X b σ H s->RelV v u->t v σ H Q->
  gK (gR X.prog X.w) X.A (assign a X.env u) (λ_ e=>∃c d,Inv X b c d e/\Q c d) X.xe s
def VR(X:Cx)(f:List Expr)(t:VQ):Prop:=
 ∀(a:List (Addr×Obj))(s:fP)(σ:St)(H:Hp)(c:List V)(d:List fG)(Q:St->Hp->Prop),Inv X a σ H s->Vals c d->t c σ H Q->
  gK (gR X.prog X.w) X.A (assignInOrder ((oX f X.env).map (·.2)) d) (λ_ g=>∃b e,Inv X a b e g/\Q b e) X.xe s
section
variable{X:Cx}{pos:Pos}
def pb(i:Nat):TG:=λv σ H Q=>Q (σ.set i (some v)) H
def Rc(e:X.N.Nodup)(c:X.N[i]?=some x)(b:Wp X.env.scope x)(d:X.fn x=true\/X.env.scope.names.lookup x=some .local:=by first|exact .inl rfl|exact .inr rfl|assumption):PG X (.Name x pos) (pb i):=by
 intro a s σ H v u Q I r h;exact wpAny_assign_Name (L4 I e c b r (λg f=>⟨_,H,f,h⟩) d)
noncomputable def ae:VQ:=λa σ H Q=>a=[]/\Q σ H
inductive au(t:TG)(u:VQ)(vs:List V)(σ:St)(H:Hp)(Q:St->Hp->Prop):Prop
 |mk (v r) (_:vs=v::r) (_:t v σ H λσ' H'=>u r σ' H' Q):au t u vs σ H Q
def JM:VR X [] ae:=by
 intro a s σ H b c Q I r h;obtain⟨e,h⟩:=h;subst e;cases r;exact assignInOrder_nil ⟨σ,H,I,h⟩
def AH(l:PG X e t)(j:VR X es u)
  (g:(oX (e::es) X.env).map (·.2)=assign e X.env::(oX es X.env).map (·.2):=by rfl):VR X (e::es) (au t u):=by
 intro a s σ H p x Q I r h;obtain⟨v,q,m,h⟩:=h;subst m;cases r with
 |cons r d=>
  rw[g];refine assignInOrder_cons (gp (l a s σ H _ _ _ I r h) λ_ c ⟨b,o,n,f⟩=>?_);exact j a c b o _ _ Q n d f
inductive js(K:gA)(n:Nat)(t:VQ)(v:V)(σ:St)(H:Hp)(Q:St->Hp->Prop):Prop
 |mk (a xs) (_:v=.ref a) (_:mn K H a xs) (_:xs.length=n) (_:t xs σ H Q):js K n t v σ H Q
def RL(y:X.calm=true)(h:VR X es t)
  (q:(oX es X.env).length=n:=by rfl)(f:(oX es X.env).findIdx? (·.1)=none:=by rfl):PG X (.Tuple es k pos) (js X.K n t):=by
 intro c s σ H v u Q I r d;obtain⟨a,xs,z,p,x,d⟩:=d;subst z;cases r;obtain⟨j,g,m,A⟩:=I.tuple p;refine assign_Tuple_tuple (I.ok.hd y) m (by simp[q,<-x,g.length]) f λB l=>?_;exact h c _ σ H xs _ Q (I.kept λb o e=>l b o (hU (fS e)) e) (by simpa using g) d
def L6(a:TE)(g:TG):TS:=λD σ H=>a σ H λx b=>g x σ b D.nx
def RD(o:X.N.Nodup)(l:X.N[i]?=some x)(g:Wp X.env.scope x)(n:PE X e c)(j:mG e (some (.Name x a)) pos.line X.env=pure false:=by rfl)(m:X.fn x=true\/X.env.scope.names.lookup x=some .local:=by first|exact .inl rfl|exact .inr rfl|assumption):
  PS X (.Assign [.Name x a] e pos) (L6 c (pb i)):=by
 intro b s σ H D I h;refine wpAny_Assign_Name (gp (n b s σ H _ I h) λv z ⟨y,r,q,d,f⟩=>?_) j;exact L4 q o l g d (λu p=>⟨_,r,p,f⟩) m
end
section
variable{X:Cx}{pos:Pos}
inductive vS(c:TT)(tb:TS)(D:Ends)(σ:St)(H:Hp):Prop
 |mk (W:Nat->St->Hp->Prop) (_:(∃m,W m σ H)) (_:∀m σ H,W m σ H->c σ H λb H1=>if b=true then∃N:St->Hp->Prop,(∀σ' H',N σ' H'->∃m',m'<m/\W m' σ' H')/\tb {D with nx:=N,ct:=N,bk:=D.nx} σ H1 else D.nx σ H1):vS c tb D σ H
def BV(z:sN (gR X.prog X.w) X.A X.env X.xe)(hc:PT X c O)(hb:uW X l Q):PS X (.While c l [] pos) (vS O Q):=by
 intro d s σ H D I h;obtain⟨W,⟨m0,M⟩,j⟩:=h;refine wpAny_While (codeAny_whileLoop (λn Y=>∃g J,Inv X d g J Y/\W n g J) ?_ m0 ⟨σ,H,I,M⟩)
 rintro n U ⟨e,G,I1,L⟩
 refine nO z (gp (hc d U e G _ I1 (j n e G L)) λb T ⟨E,C,p⟩=>?_);cases b with
 |true=>
  obtain⟨N,B,p⟩:=p;refine nO z (gp (hb d T e E _ C p) λf s3 o=>?_);cases f with
  |next=>
   obtain⟨a,m,y,r⟩:=o;obtain⟨u,x,q⟩:=B a m r;exact⟨u,x,a,m,y,q⟩
  |cont=>
   obtain⟨a,m,y,r⟩:=o;obtain⟨u,x,q⟩:=B a m r;exact⟨u,x,a,m,y,q⟩
  |brk=>exact o
  |ret v=>exact o
 |false=>
  exact sC ⟨e,E,C,p⟩
end
structure It where
 go:Nat->Hp->Prop
 zo:Nat->Hp->V->Hp->Prop
 stop:Nat->Hp->Prop
inductive oe(X:Cx)(pins:List (Addr×Obj))(H:Hp)(b:Addr):Prop
 |mk (_:H b=none) (_:b≠X.env.locals) (_:b∉X.fs) (_:(b∈X.ex\/X.kO.1.1.size<=b)) (_:(∀x c,X.env.cells.lookup x=some c->c≠b)) (_:∀p∈X.pn++pins,p.1≠b):oe X pins H b
def Inv.p9{s:fP}(I:Inv X a σ H s)(d:s.1.1.size<=b)(g:h b=none):oe X a h b:=by
 refine⟨g,jH (iD I.lt d),I.zO d,.inr (iU I.sz d),λx c e z=>?_,λp f z=>?_⟩
 ·obtain⟨v,q⟩:=I.cell x c e;exact absurd (iD q.lt (by rwa [z])) (jA _)
 ·exact absurd (iD (fS (I.pin p f).1) (by rwa [z])) (jA _)
structure Turn(P:gX)(w:iI)(K:gA)(tg:Expr)(J:It)(fp:List Addr)(it:Addr)(tn:Nat->Heap->Prop):Prop where
 mem:it∈fp
 obj:∀i h,tn i h->∀b∈fp,∃o,h.get? b=some o/\∀v,o.data≠.cell v
 keep:∀i h h',tn i h->(∀b∈fp,∀o,h.get? b=some o->h'.get? b=some o)->tn i h'
 item:∀(X:Cx),X.prog=P->X.w=w->X.K=K->X.calm=true->∀(i:Nat)(pins:List (Addr×Obj))(s:fP)(σ:St)(H:Hp)(E:fG->fP->Prop),Inv X pins σ H s->(∀b∈fp,oe X pins H b)->tn i s.1->J.go i H->
  gK (gR P w) X.A (pQ (.ref it)) (λr s1=>∃u,r=some u/\
   gK (gR P w) X.A (uE tg (.ref it) u) (λ_ s2=>∃x H',Inv X pins σ H' s2/\RelV x u/\J.zo i H x H'/\tn (i+1) s2.1/\∀b∈fp,H' b=none) E s1) E s
 done:∀(X:Cx),X.prog=P->X.w=w->X.K=K->X.calm=true->∀(i:Nat)(pins:List (Addr×Obj))(s:fP)(σ:St)(H:Hp)(E:fG->fP->Prop),Inv X pins σ H s->(∀b∈fp,oe X pins H b)->tn i s.1->J.stop i H->
  gK (gR P w) X.A (pQ (.ref it)) (λr s1=>r=none/\Inv X pins σ H s1) E s
 self:∀(A:iR)(i:Nat)(s:fP)(Q:fG->fP->Prop)(E:fG->fP->Prop),tn i s.1->Q (.ref it) s->gK (gR P w) A (uL (.ref it)) Q E s
abbrev TI:=St->Hp->(It->Hp->Prop)->Prop
inductive zY(X:Cx)(pins:List (Addr×Obj))(σ:St)(tg:Expr)(R:It->Hp->Prop)(itv:fG)(s2:fP):Prop
 |mk (it:Addr) (fp:List Addr) (tn:Nat->Heap->Prop) (J:It) (H':Hp) (_:itv=.ref it) (_:Inv X pins σ H' s2) (_:Turn X.prog X.w X.K tg J fp it tn) (_:tn 0 s2.1) (_:(∀b∈fp,oe X pins H' b)) (_:R J H'):zY X pins σ tg R itv s2
def PI(X:Cx)(tg iter:Expr)(b:TI):Prop:=
 ∀(a:List (Addr×Obj))(s:fP)(σ:St)(H:Hp)(R:It->Hp->Prop),Inv X a σ H s->b σ H R->
  gK (gR X.prog X.w) X.A (eval iter X.env) (λv c=>gK (gR X.prog X.w) X.A (uL v) (zY X a σ tg R) X.xe c) X.xe s
def Fv{s:fP}{o:Obj}(b:s.1.get? it=some o)(e:o.cls=.type n)(d:o.data=.fields f)
  (c:["enumerate","zip","dict_itemiterator","dict_reverseitemiterator","odict_iterator","itertools.zip_longest","itertools.pairwise"].contains n=false)(a:Q () s):gK M A (uE tg (.ref it) u) Q E s:=by
 cases tg<;>first
  |exact fE a
  | (cases u <;> first
    |exact fE a
    | (refine fB (wpAny_load b ?_)
       rw[e,d];show gK M A (if _=true then _ else _) Q E s;rw[fJ (by intro h;rw[c,Bool.false_and]at h;cases h)];exact fE a))
def ZM(K:gA)(a:Addr):It:=
 ⟨λi H=>∃xs x,i' K H a xs/\xs[i]?=some x,λi H x b=>b=H/\∀xs,i' K H a xs->xs[i]?=some x,λi H=>∃xs,i' K H a xs/\xs.length<=i⟩
def ZI(K:gA)(a:Addr):It:=
 ⟨λi H=>∃xs x,mn K H a xs/\xs[i]?=some x,λi H x b=>b=H/\∀xs,mn K H a xs->xs[i]?=some x,λi H=>∃xs,mn K H a xs/\xs.length<=i⟩
def ZK(lo:Int)(n:Nat):It:=⟨λi _=>i<n,λi H x a=>a=H/\x=.int (lo+i),λi _=>n<=i⟩
def Gk{P:gX}{w:iI}{K:gA}{tg:Expr}(a it:Addr):Turn P w K tg (ZM K a) [it] it (λi h=>h.IsListIter it a i) where
 mem:=by simp
 obj:=λi h st b f=>by
  have e:b=it:=by simpa using f
  subst e;obtain⟨o,e,c,d⟩:=st;exact⟨o,e,λv z=>by rw[d]at z;cases z⟩
 keep:=λi h O st k=>st.at λo e=>k it (by simp) o e
 item:=by
  intro X A r B N i j s σ H E I m st y;subst A r B;obtain⟨xs,x,l,M⟩:=y;obtain⟨q,n,p,U⟩:=I.list l;obtain⟨u,hu,T⟩:=n.get M;obtain⟨f0,L,f2,J,G,C⟩:=m it (by simp);refine wpAny_pyNext_list_item st p.isList (by simpa using hu) λO g Q=>?_;obtain⟨o,e,c,d⟩:=id g;exact⟨u,rfl,Fv e c d (by decide) ⟨x,H,(I.turned (λb o f e=>(Q.2 b f).trans e) f0 L J G C),T,⟨rfl,λys Y=>by rwa [I.u3 Y l]⟩,g,λb f=>(m b f).1⟩⟩
 done:=by
  intro X A r B N i j s σ H E I m st y;subst A r B;obtain⟨xs,l,M⟩:=y;obtain⟨q,n,p,U⟩:=I.list l;obtain⟨f0,L,f2,J,G,C⟩:=m it (by simp);have hl:=n.length;exact wpAny_pyNext_list_end (I.ok.hd N) st p.isList (by simp;lia) λO eb=>⟨rfl,I.turned (λb o f e=>eb b o f e) f0 L J G C⟩
 self:=λ_ _ _ _ _ st h=>wpAny_pyIter_listiter st h
def El{P:gX}{w:iI}{K:gA}{tg:Expr}(a it:Addr):Turn P w K tg (ZI K a) [it] it (λi h=>h.IsTupleIter it a i) where
 mem:=by simp
 obj:=λi h st b f=>by
  have e:b=it:=by simpa using f
  subst e;obtain⟨o,e,c,d⟩:=st;exact⟨o,e,λv z=>by rw[d]at z;cases z⟩
 keep:=λi h O st k=>st.at λo e=>k it (by simp) o e
 item:=by
  intro X A r B N i j s σ H E I m st y;subst A r B;obtain⟨xs,x,l,M⟩:=y;obtain⟨q,n,p,U⟩:=I.tuple l;obtain⟨u,hu,T⟩:=n.get M;obtain⟨f0,L,f2,J,G,C⟩:=m it (by simp);refine wpAny_pyNext_tuple_item st (p) (x:=u) (by simpa using hu) λO g Q=>?_;obtain⟨o,e,c,d⟩:=id g;exact⟨u,rfl,Fv e c d (by decide) ⟨x,H,(I.turned (λb o f e=>(Q.2 b f).trans e) f0 L J G C),T,⟨rfl,λys Y=>by rwa [I.pv Y l]⟩,g,λb f=>(m b f).1⟩⟩
 done:=by
  intro X A r B N i j s σ H E I m st y;subst A r B;obtain⟨xs,l,M⟩:=y;obtain⟨q,n,p,U⟩:=I.tuple l;obtain⟨f0,L,f2,J,G,C⟩:=m it (by simp);have hl:=n.length;exact wpAny_pyNext_tuple_end (I.ok.hd N) st (p) (by simp;lia) λO eb=>⟨rfl,I.turned (λb o f e=>eb b o f e) f0 L J G C⟩
 self:=λ_ _ _ _ _ st h=>wpAny_pyIter_tupleiter st h
def Px{P:gX}{w:iI}{K:gA}{tg:Expr}(it:Addr)(lo:Int)(n:Nat):Turn P w K tg (ZK lo n) [it] it (λi h=>IsRangeIter h it (lo+(i:Nat) * 1) ((n:Int) - (i:Nat)) 1) where
 mem:=by simp
 obj:=λi h st b a=>by
  have e:b=it:=by simpa using a
  subst e;exact⟨_,st,λv z=>by
   cases z⟩
 keep:=λi h y st k=>k it (by simp) _ st
 item:=by
  intro X u r x j i d s σ H E I f st g;subst u r x;obtain⟨f0,q,C,p,m,l⟩:=f it (by simp);refine(Walks.range (w:=X.w) (I.ok.hd j) it lo 1 n).item i s _ _ g st λv y J B c A=>?_;obtain⟨t,rfl⟩:=B;refine⟨_,rfl,Fv c rfl rfl (by decide) ⟨.int _,H,(I.turned (λb o a e=>A b o (by simpa using a) e) f0 q p m l),⟨t,?_⟩,⟨rfl,rfl⟩,c,λb a=>(f b a).1⟩⟩;rw[Int.mul_one]
 done:=by
  intro X u r x j i d s σ H E I f st g;obtain⟨f0,q,C,p,m,l⟩:=f it (by simp);exact wpAny_pyNext_range_end (I.ok.hd j) st (by have:n<=i:=g;lia) λy G=>⟨rfl,I.turned (λb o a e=>G b o a e) f0 q p m l⟩
 self:=λ_ _ _ _ _ st h=>wpAny_pyIter_rangeiter st h
section
variable{X:Cx}{tg:Expr}
def BB{a:List (Addr×Obj)}{σ:St}{H:Hp}{s:fP}{R:It->Hp->Prop}{E:fG->fP->Prop}{lo c:Int}{t u v:Tok}{f:Nat}(I:Inv X a σ H s)(m:-(2 ^ 62)<=lo)(l:lo<2 ^ 62)(j:-(2 ^ 62)<=c)(h:c<2 ^ 62)
  (q:R (ZK lo (c - lo).toNat) H):gK (gR X.prog X.w) X.A (uL (.ref s.1.1.size)) (zY X a σ tg R) E {s with heap:=s.1.push {cls:=.type "range",data:=.fields #[.int lo t,.int c u,.int 1 v]},toks:=f}:=by
 refine wpAny_pyIter_range (IsRange.new ..) (small_one m l j h) ?_;have d:Inv X a σ H {s with heap:=s.1.push {cls:=.type "range",data:=.fields #[.int lo t,.int c u,.int 1 v]},toks:=f}:=I.kept λb o e=>fC _ e;refine⟨(s.1.push {cls:=.type "range",data:=.fields #[.int lo t,.int c u,.int 1 v]}).objs.size,[(s.1.push {cls:=.type "range",data:=.fields #[.int lo t,.int c u,.int 1 v]}).objs.size],_,_,H,rfl,
  d.kept λb o e=>fC _ e,Px _ lo (c - lo).toNat,?_,λb g=>?_,q⟩
 ·have p:lo+((0:Nat):Int) * 1=lo:=by simp
  have n:(((c - lo).toNat:Nat):Int) - ((0:Nat):Int)=Builtin.Range.rangeSize lo c 1:=by rw[rangeSize_one];split<;>lia
  rw[p,n];exact fO _ rfl
 ·have e:b=(s.1.push {cls:=.type "range",data:=.fields #[.int lo t,.int c u,.int 1 v]}).objs.size:=by simpa using g
  subst e;exact d.p9 (fQ _) (d.fg.fresh (fQ _))
def WZ(b:TA):TI:=λσ H R=>b σ H λa c=>∃j:Int,a=[.int j]/\-(2 ^ 62)<=j/\j<2 ^ 62/\R (ZK 0 j.toNat) c
def Vb{a:Expr}{f:TA}{p b:Pos}(u:Gl X "range")(o:X.mg "range"=none)(v:PA X [a] f)(n:gQ [a] X.env=[(false,eval a X.env)]:=by rfl):PI X tg (.Call (.Name "range" p) [a] [] b) (WZ f):=by
 intro c s σ H R I h;refine Call_ (vd I u o boot_range (kM (gp (v b c s σ H _ I h) λz A ⟨y,B,x,l,d⟩=>?_) n rfl));obtain⟨j,e,d,m,q⟩:=d;subst e;cases l with
 |cons r g=>
  cases g;obtain⟨t,rfl⟩:=r;exact call_range_1 (BB x (by lia) (by lia) d m (by simpa using q))
def cM(e:TI)(g:TG)(f:TS):TS:=λD σ H=>e σ H λJ j=>∃W:Nat->Nat->St->Hp->Prop,(∃m,W 0 m σ j)/\∀i m σ H,W i m σ H->
 (J.stop i H/\D.nx σ H)\/(J.go i H/\∃N:St->Hp->Prop,(∀a b,N a b->∃d,d<m/\W (i+1) d a b)/\∀x b,J.zo i H x b->g x σ b λc h=>f {D with nx:=N,ct:=N,bk:=D.nx} c h)
def Dy(a:List Addr)(h:Heap):List (Addr×Obj):=a.filterMap λb=>(h.get? b).map λo=>(b,o)
def yc{h:Heap}(a:b∈c)(e:h.get? b=some o):(b,o)∈Dy c h:=List.mem_filterMap.mpr ⟨b,a,by rw[e];rfl⟩
def U2{h:Heap}(a:p∈Dy d h):p.1∈d/\h.get? p.1=some p.2:=by
 obtain⟨b,c,e⟩:=List.mem_filterMap.mp a;cases q:h.get? b with
 |none=>rw[q]at e;cases e
 |some o=>
  rw[q]at e;have f:=gV e;subst f;exact⟨c,q⟩
def Inv.pinned{s:fP}(I:Inv X a σ H s)(l:∀b∈f,oe X a H b)(j:∀b∈f,∃o,s.1.get? b=some o/\∀v,o.data≠.cell v):Inv X (a++Dy f s.1) σ H s:=
 I.vI λp h=>(List.mem_append.mp h).elim (λz=>I.pin p (jX _ z)) λz=>by
  obtain⟨c,e⟩:=U2 z;obtain⟨f0,n,m,_⟩:=l p.1 c;obtain⟨o,g,d⟩:=j p.1 c;rw[e]at g;cases g;exact⟨e,f0,n,m,d⟩
def Inv.oD(I:Inv X (a++c) σ H s):Inv X a σ H s:=I.vI λp b=>I.pin p (jX _ (mD _ b))
def Ot(U:sN (gR X.prog X.w) X.A X.env X.xe)(hc:X.calm=true)(hi:PI X tg iter wi)(hg:PG X tg g)(q:uW X α tb)
  (hs:∀x,mH iter X.env x=pure x:=by intro _;rfl):PS X (.For tg iter α [] pos) (cM wi g tb):=by
 intro c s σ H D I h;refine wpAny_For (gp (hi c s σ H _ I h) λv s1 h1=>gp h1 λitv s2 h2=>?_) hs;obtain⟨it,fp,tn,J,H2,e,I2,T,ε,f2,W,⟨m0,w0⟩,L⟩:=h2;subst e;have p:∀{C:Hp},(∀b∈fp,C b=none)->∀b∈fp,oe X c C b:=λhn b q=>have z:=f2 b q;⟨hn b q,z.2,z.3,z.4,z.5,z.6⟩;refine codeAny_forLoop_any (λn s'=>∃i l C,Inv X c l C s'/\tn i s'.1/\(∀b∈fp,C b=none)/\W i n l C) ?_ m0 ⟨0,σ,H2,I2,ε,λb q=>(f2 b q).1,w0⟩
 rintro n s3 ⟨i,j,H3,I3,O,Y,w3⟩
 rcases L i n j H3 w3 with ⟨M,qn⟩|⟨go,N,hN,step⟩
 ·refine nO U (gp (T.done X rfl rfl rfl hc i c s3 j H3 X.xe I3 (p Y) O M) λr s4 ⟨hr,I4⟩=>?_);subst hr;exact sC ⟨j,H3,I4,qn⟩
 ·refine nO U (gp (T.item X rfl rfl rfl hc i c s3 j H3 X.xe I3 (p Y) O go) λr s4 ⟨u,hr,h4⟩=>?_);subst hr;refine nO U (gp h4 λ_ s5 ⟨x,H5,I5,r5,y5,G,θ⟩=>?_);refine nO U (gp (hg _ s5 j H5 x u _ (I5.pinned (p θ) (T.obj _ _ G)) r5 (step x H5 y5)) λ_ s6 ⟨δ,H6,I6,q6⟩=>?_);refine nO U (gp (q _ s6 δ H6 _ I6 q6) λf s7 E=>?_);have again:∀{a:St}{B:Hp},Inv X _ a B s7->N a B->∃m,m<n/\∃i l C,Inv X c l C s7/\tn i s7.1/\(∀b∈fp,C b=none)/\W i m l C:=λ{a B} y Q=>by
   obtain⟨m',hm,w7⟩:=hN a B Q;refine⟨m',hm,i+1,a,B,y.oD,T.keep _ _ _ G λb q o e=>(y.pin _ (jX _ (jX _ (yc q e)))).1,λb q=>?_,w7⟩;obtain⟨o,e,d⟩:=T.obj _ _ G b q;exact(y.pin _ (jX _ (jX _ (yc q e)))).2.1
  cases f with
  |next=>obtain⟨a,B,y,Q⟩:=E;exact again y Q
  |cont=>obtain⟨a,B,y,Q⟩:=E;exact again y Q
  |brk=>obtain⟨a,B,y,E⟩:=E;exact⟨a,B,y.oD,E⟩
  |ret v=>obtain⟨x7,a,B,y,r7,E⟩:=E;exact⟨x7,a,B,y.oD,r7,E⟩
end
abbrev R2:=V->V->Hp->VK->Prop
def mm(X:Cx)(f:fG->fG->Sem fG)(r:R2):Prop:=
 ∀(a:List (Addr×Obj))(s:fP)(σ:St)(H:Hp)(x y:V)(v u:fG)(Q:VK),Inv X a σ H s->RelV x v->RelV y u->r x y H Q->
  gK (gR X.prog X.w) X.A (f v u) (EP X a σ Q) X.xe s
def jo(X:Cx)(f:fG)(r:List V->Hp->VK->Prop):Prop:=
 ∀(a:List (Addr×Obj))(s:fP)(σ:St)(H:Hp)(xs:List V)(b:List fG)(Q:VK),Inv X a σ H s->Vals xs b->r xs H Q->
  gK (gR X.prog X.w) X.A (call f b) (EP X a σ Q) X.xe s
def bQ(X:Cx)(r:V->Hp->(Bool->Hp->Prop)->Prop):Prop:=
 ∀(a:List (Addr×Obj))(s:fP)(σ:St)(H:Hp)(x:V)(v:fG)(Q:Bool->Hp->Prop),Inv X a σ H s->RelV x v->r x H Q->
  gK (gR X.prog X.w) X.A (truthy v) (TP X a σ Q) X.xe s
def YK(r:R2)(b a:TE):TE:=λσ H Q=>b σ H λx d=>a σ d λy c=>r x y c Q
inductive rI(C:Int->Int->Prop)(g:Int->Int->V)(x:V)(y:V)(H:Hp)(Q:VK):Prop
 |mk (i j) (_:x=.int i) (_:y=.int j) (_:C i j) (_:Q (g i j) H):rI C g x y H Q
inductive vV(g:Int->Int->V)(x:V)(y:V)(H:Hp)(Q:VK):Prop
 |mk (i j) (_:x=.int i) (_:y=.int j) (_:Q (g i j) H):vV g x y H Q
section
variable{X:Cx}{a b c:Expr}{ta tb tc:TE}{pos:Pos}
def OM(C:PE X a ta)(B:PE X b tb){d:List (Addr×Obj)}{s:fP}{σ:St}{H:Hp}{R:V->V->Hp->Prop}(I:Inv X d σ H s)
  (h:ta σ H λx m=>tb σ m λy e=>R x y e){Q:fG->fP->Prop}{f:fG->fG->Sem fG}
  (z:∀v u l x y e,Inv X d σ e l->RelV x v->RelV y u->R x y e->gK (gR X.prog X.w) X.A (f v u) Q X.xe l):
  gK (gR X.prog X.w) X.A (eval a X.env) (λv j=>gK (gR X.prog X.w) X.A (eval b X.env) (λu g=>gK (gR X.prog X.w) X.A (f v u) Q X.xe g) X.xe j) X.xe s:=by
 refine gp (C d s σ H _ I h) λv n ⟨x,m,G,p,r⟩=>?_;refine gp (B d n σ m _ G r) λu l ⟨y,e,E,o,q⟩=>?_;exact z v u l x y e E p o q
def XY{e:Operator}(l:mm X (nZ e) r)(n:PE X a ta)(m:PE X b tb):PE X (.BinOp a e b pos) (YK r ta tb):=by
 intro d s σ H Q I h;exact wpAny_BinOp (OM n m I h λv u f x y p o j g q=>l d f σ p x y v u Q o j g q)
def cW{g:Int->Int->Int}
  (rule:∀(i j:Int)(t u:Tok)(s:fP)(Q:fG->fP->Prop)(E:fG->fP->Prop),C i j->Q (.int (g i j) s.toks) {s with toks:=s.toks+1}->gK (gR X.prog X.w) X.A (f (.int i t) (.int j u)) Q E s):
  mm X f (rI C λi j=>.int (g i j)):=by
 intro d s σ H x y v u Q I m l h;obtain⟨i,j,rfl,rfl,n,q⟩:=h;obtain⟨t,rfl⟩:=m;obtain⟨e,rfl⟩:=l;exact rule i j t e s _ _ n ⟨.int _,H,I.tok _,⟨_,rfl⟩,q⟩
def WI{g:Int->Int->Int}
  (rule:∀(i j:Int)(t u:Tok)(s:fP)(Q:fG->fP->Prop)(E:fG->fP->Prop),Q (.int (g i j) s.toks) {s with toks:=s.toks+1}->gK (gR X.prog X.w) X.A (f (.int i t) (.int j u)) Q E s):
  mm X f (vV λi j=>.int (g i j)):=by
 intro d s σ H x y v u Q I m l h;obtain⟨i,j,rfl,rfl,q⟩:=h;obtain⟨t,rfl⟩:=m;obtain⟨e,rfl⟩:=l;exact rule i j t e s _ _ ⟨.int _,H,I.tok _,⟨_,rfl⟩,q⟩
def QH{g:Int->Int->Bool}
  (rule:∀(i j:Int)(t u:Tok)(s:fP)(Q:fG->fP->Prop)(E:fG->fP->Prop),Q (.bool (g i j)) s->gK (gR X.prog X.w) X.A (f (.int i t) (.int j u)) Q E s):
  mm X f (vV λi j=>.bl (g i j)):=by
 intro d s σ H x y v u Q I m l h;obtain⟨i,j,rfl,rfl,q⟩:=h;obtain⟨t,rfl⟩:=m;obtain⟨e,rfl⟩:=l;exact rule i j t e s _ _ ⟨.bl _,H,I,rfl,q⟩
def bZ(i j:Int):Prop:=0<j/\j<1073741824
def xW(i j:Int):Prop:=(-(2 ^ 64)<i/\i<2 ^ 64)\/(-(2 ^ 64)<j/\j<2 ^ 64)
def xW.ok(h:xW i j):IntMulOk i j:=by
 obtain ⟨e,d⟩|⟨e,d⟩:=h
 ·exact .of_left (intBits_le_64 e d)
 ·exact .of_right (intBits_le_64 e d)
def QG:mm X (nZ .Add) (vV λi j=>.int (i+j)):=WI λ_ _ _ _ _ _ _ q=>add_int q
def RZ:mm X (nZ .Sub) (vV λi j=>.int (i - j)):=WI λ_ _ _ _ _ _ _ q=>sub_int q
def QB:mm X (nZ .Mult) (rI xW λi j=>.int (i * j)):=cW λ_ _ _ _ _ _ _ d q=>mul_int q d.ok
def IC:mm X (nZ .FloorDiv) (rI bZ λi j=>.int (i / j)):=cW λi j _ _ _ _ _ d q=>by
 have f:=d.1;have e:=d.2;exact floordiv_int (by lia) (by rwa [Int.fdiv_eq_ediv_of_nonneg i (by lia)]) (.inl (PyProof.noPylong_small (by lia)))
def QC:mm X (nZ .Mod) (rI (λ_ j=>0<j) λi j=>.int (i % j)):=cW λi j _ _ _ _ _ d q=>by
 exact mod_int' (by lia) (by rwa [Int.fmod_eq_emod_of_nonneg i (by lia)])
end
section
variable{X:Cx}{a b c:Expr}{ta tb tc:TE}{pos:Pos}
def Nf(I:Inv X d σ H s)(q:Q (.bl k) H)(e:k=f):EP X d σ Q (.bool f) s:=by
 subst e;exact⟨.bl k,H,I,rfl,q⟩
def WE:mm X (jF .Lt) (vV λi j=>.bl (decide (i<j))):=QH λ_ _ _ _ _ _ _ q=>lt_int q
def WG:mm X (jF .LtE) (vV λi j=>.bl (decide (i<=j))):=QH λ_ _ _ _ _ _ _ q=>le_int q
def WH:mm X (jF .Gt) (vV λi j=>.bl (decide (j<i))):=QH λ_ _ _ _ _ _ _ q=>gt_int q
def U5:mm X (jF .In) (λx y H Q=>∃i j,x=.str i/\y=.str j/\Q (.bl (!(qG j i 0 j.length 1).isEmpty)) H):=by
 intro d s σ H x y v u Q I f e h;obtain⟨i,j,rfl,rfl,q⟩:=h;obtain⟨t,rfl⟩:=f;obtain⟨g,rfl⟩:=e;exact in_str (Nf I q rfl)
def JZ:mm X (jF .IsNot) (λx y H Q=>y=.g8/\Q (.bl (!decide (x=.g8))) H):=by
 intro e s σ H x y v u Q I d f h;obtain⟨rfl,q⟩:=h;cases f;refine isnot_none_gen (Nf I q ?_);cases x<;>first
  |(cases d;rfl)
  |(obtain⟨t,rfl⟩:=d;rfl)
def Ia:mm X (jF .NotIn) (λx y H Q=>∃i j,x=.str i/\y=.str j/\Q (.bl (!(!(qG j i 0 j.length 1).isEmpty))) H):=by
 intro d s σ H x y v u Q I f e h;obtain⟨i,j,rfl,rfl,q⟩:=h;obtain⟨t,rfl⟩:=f;obtain⟨g,rfl⟩:=e;exact notIn_str (Nf I q rfl)
def mm.or(h:mm X f r)(l:mm X f j):mm X f (λx y H Q=>r x y H Q\/j x y H Q):=by
 intro d s σ H x y v u Q I g e q;obtain q|q:=q
 ·exact h d s σ H x y v u Q I g e q
 ·exact l d s σ H x y v u Q I g e q
def JS{e:CmpOp}(l:mm X (jF e) r)(o:PE X a ta)(n:PE X b tb)(m:pU e b=false):PE X (.Compare a [e] [b] pos) (YK r ta tb):=by
 intro d s σ H Q I h;exact wpAny_Compare1 (OM o n I h λv u f x y z p j g q=>l d f σ z x y v u Q p j g q) m
def NL(t:TE):TT:=λσ H Q=>t σ H λx d=>∃k,x=.bl k/\Q k d
def Rk(A:mm X (jF f) r)(E:PE X a ta)(C:PE X b tb)(B:pU f b=false):PT X (.Compare a [f] [b] pos) (NL (YK r ta tb)):=by
 intro d s σ H Q I h;refine wpAny_isTrue_Compare1 (gp (E d s σ H _ I h) λv j ⟨x,O,L,n,q⟩=>gp (C d j σ O _ L q) λu g ⟨y,N,J,m,p⟩=>
  gp (A d g σ N x y v u _ J n m p) λc T ⟨z,M,G,l,k,e,o⟩=>?_) B
 subst e;cases l;exact kB ⟨M,G,o⟩
def Pl(r f:R2)(ta tb tc:TE):TE:=λσ H Q=>ta σ H λx j=>tb σ j λy h=>r x y h λz d=>∃k,z=.bl k/\
 (if k=true then tc σ d λe g=>f y e g Q else Q (.bl false) d)
def AO(Y:mm X (jF n) r)(j:mm X (jF g) N)(ha:PE X a ta)(hb:PE X b tb)(hc:PE X c tc)
  (hm:uP [n,g] [b,c]=false:=by with_unfolding_all rfl):PE X (.Compare a [n,g] [b,c] pos) (Pl r N ta tb tc):=by
 intro f s σ H Q I h;refine Compare_chain (gp (ha f s σ H _ I h) λv G ⟨x,H1,I1,M,U⟩=>chain_link (gp (hb f G σ H1 _ I1 U) λu E ⟨y,H2,I2,l,T⟩=>
  gp (Y f E σ H2 x y v u _ I2 M l T) λd C ⟨z,p,o,L,k,e,m⟩=>?_)) hm
 subst e;cases L;refine kB ?_;cases k with
 |false=>exact ite_ff ⟨.bl false,p,o,rfl,m⟩
 |true=>exact ite_tt (chain_last (gp (hc f C σ p _ o m) (by rintro A B ⟨q,H4,I4,J,O⟩;exact j f B σ H4 y q u A Q I4 l J O)))
def BU(ho:mm X (jF n) r)(j:mm X (jF g) O)(ha:PE X a ta)(hb:PE X b tb)(hc:PE X c tc)
  (hm:uP [n,g] [b,c]=false:=by with_unfolding_all rfl):PT X (.Compare a [n,g] [b,c] pos) (NL (Pl r O ta tb tc)):=by
 intro f s σ H Q I h;refine isTrue_chain (gp (ha f s σ H _ I h) λv G ⟨x,H1,I1,N,q1⟩=>test_link (gp (hb f G σ H1 _ I1 q1) λu E ⟨y,H2,I2,l,Y⟩=>
  gp (ho f E σ H2 x y v u _ I2 N l Y) λd C ⟨z,p,o,M,k,e,m⟩=>?_)) hm
 subst e;cases M;refine kB ?_;cases k with
 |false=>
  obtain⟨k',e',q'⟩:=m;cases e';exact ite_ff ⟨p,o,q'⟩
 |true=>
  refine ite_tt (test_last (gp (hc f C σ p _ o m) λA B ⟨q,H4,I4,L,U⟩=>gp (j f B σ H4 y q u A _ I4 l L U) λd' s5 ⟨z2,H5,I5,J,k2,e2,T⟩=>?_));subst e2;cases J;exact kB ⟨H5,I5,T⟩
def NC(K:gA)(x:V)(H:Hp)(k:Bool):Prop:=
 match x with
 |.g8=>k=false
 |.bl b=>k=b
 |.int i=>k=(i !=0)
 |.str y=>y.length<=fR/\k=((y.length:Int) !=0)
 |.w4 y=>y.size<=fR/\k=((y.size:Int) !=0)
 |.ref p=>(∃xs,i' K H p xs/\k= !xs.isEmpty)\/(∃xs,mn K H p xs/\k= !xs.isEmpty)\/∃d,H p=some (.dK d)/\k= !d.isEmpty
 |_=>False
def Nv{d:List (κ×V)}{e:List (κ×fG)}(r:KV d e):(!e.isEmpty)= !d.isEmpty:=by
 cases r<;>rfl
def Df{xs:List V}{d:List fG}(r:Vals xs d):(!d.toArray.isEmpty)= !xs.isEmpty:=by
 cases r<;>simp
def Oc:(fR:Nat)<2 ^ 63:=by decide
def UQ:bQ X (λx H Q=>∃k,NC X.K x H k/\Q k H):=by
 intro z s σ H x v Q I g h;obtain⟨k,e,q⟩:=h;have E:=iT;cases x with
 |g8=>
  cases g;have d:=e;subst d;exact truthy_none ⟨H,I,q⟩
 |bl b=>
  cases g;have d:=e;subst d;exact kB ⟨H,I,q⟩
 |int i=>
  obtain⟨t,rfl⟩:=g;have d:=e;subst d;exact PySem.P.truthy_int ⟨H,I,q⟩
 |str y=>
  obtain⟨t,rfl⟩:=g;obtain⟨B,d⟩:y.length<=fR/\k=_:=e;subst d;exact PySem.P.truthy_str (by lia) ⟨H,I.tok _,q⟩
 |w4 y=>
  obtain⟨t,rfl⟩:=g;obtain⟨B,d⟩:y.size<=fR/\k=_:=e;subst d;exact PySem.W.truthy_bytes (by lia) ⟨H,I.tok _,q⟩
 |ref p=>
  cases g;have d:=e;obtain ⟨xs,l,d⟩|⟨xs,l,d⟩|⟨j,l,d⟩:=d
  ·subst d;obtain⟨u,r,o,A⟩:=I.list l;have f:=r.length;exact wpAny_truthy_list o.isList (by simp only[hW];lia) ⟨H,I.tok _,by rwa [Df r]⟩
  ·subst d;obtain⟨u,r,o,A⟩:=I.tuple l;have f:=r.length;exact truthy_tuple o (by simp only[hW];lia) ⟨H,I.tok _,by rwa [Df r]⟩
  ·subst d;obtain⟨A,C,n,r,m⟩:j.length<=fR/\_=false/\∃n,KV j n/\s.1.DictOf _ p n:=I.fg p _ l;have f:=mW r;exact wpAny_truthy_dict C m (by lia) ⟨H,I.tok _,by rwa [Nv r]⟩
 |_=>exact(e).elim
def BR(n:PE X a ta)(m:∀d,isTrue a X.env d=(do let v <-d;standAt a.pos;holding [v] (truthy v))):
  PT X a (λσ H Q=>ta σ H λx f=>∃k,NC X.K x f k/\Q k f):=by
 intro e s σ H Q I h;exact isTrue_plain (gp (n e s σ H _ I h) (by rintro v g ⟨x,p,o,j,l⟩;exact UQ e g σ p x v Q o j l)) (m _)
def Om:mm X (nZ .Add) (λx y H Q=>∃i j,x=.str i/\y=.str j/\i.length+j.length<=fR/\Q (.str (i++j)) H):=by
 intro d s σ H x y v u Q I g f h;obtain⟨i,j,rfl,rfl,l,q⟩:=h;obtain⟨t,rfl⟩:=g;obtain⟨e,rfl⟩:=f;exact add_str (λe m=>⟨.str _,H,I.tok _,⟨_,rfl⟩,q⟩) l
def j8(r:Vals [x] d):∃u,d=[u]/\RelV x u:=by
 cases r with
 |cons f e=>cases e;exact⟨_,rfl,f⟩
def ET(r:Vals [x,y] e):∃u d,e=[u,d]/\RelV x u/\RelV y d:=by
 cases r with
 |cons j h=>
  cases h with
  |cons g f=>cases f;exact⟨_,_,rfl,j,g⟩
def Su:jo X (.type "int") (λxs H Q=>(∃i,xs=[.int i]/\Q (.int i) H)\/∃k,xs=[.bl k]/\Q (.int (if k then 1 else 0)) H):=by
 intro d s σ H xs f Q I r h;obtain ⟨i,rfl,q⟩|⟨k,rfl,q⟩:=h
 ·obtain⟨u,rfl,t,rfl⟩:=j8 r;exact call_int_int ⟨.int i,H,I,⟨_,rfl⟩,q⟩
 ·obtain⟨u,rfl,e⟩:=j8 r;cases e;exact call_int_bool ⟨.int _,H,I.tok _,⟨_,rfl⟩,q⟩
def bT(K:gA)(x:V)(H:Hp)(n:Nat):Prop:=
 match x with
 |.str y=>y.length<=fR/\n=y.length
 |.w4 y=>y.size<=fR/\n=y.size
 |.ref p=>(∃xs,i' K H p xs/\n=xs.length)\/∃xs,mn K H p xs/\n=xs.length
 |_=>False
def Xb:jo X (.builtin "len") (λxs H Q=>∃x n,xs=[x]/\bT X.K x H n/\Q (.int n) H):=by
 intro v s σ H xs B Q I r h;obtain⟨x,n,rfl,e,q⟩:=h;obtain⟨u,rfl,g⟩:=j8 r;have C:=iT;cases x with
 |str y=>
  obtain⟨t,rfl⟩:=g;obtain⟨A,f⟩:y.length<=fR/\n=y.length:=e;subst f;exact len_str (by lia) ⟨.int _,H,I.tok _,⟨_,rfl⟩,q⟩
 |w4 y=>
  obtain⟨t,rfl⟩:=g;obtain⟨A,f⟩:y.size<=fR/\n=y.size:=e;subst f;exact PySem.W.len_bytes (by lia) ⟨.int _,H,I.tok _,⟨_,rfl⟩,q⟩
 |ref p=>
  cases g;have f:=e;obtain ⟨xs,o,f⟩|⟨xs,o,f⟩:=f
  ·subst f;obtain⟨m,j,l,z⟩:=I.list o;have d:=j.length;exact Calls.call_len_list l.isList (by simp only[hW];lia) ⟨.int xs.length,H,I.tok _,⟨_,by simp only[hW];rw[d]⟩,q⟩
  ·subst f;obtain⟨m,j,l,z⟩:=I.tuple o;have d:=j.length;exact len_tuple l (by simp only[hW];lia) ⟨.int xs.length,H,I.tok _,⟨_,by simp only[hW];rw[d]⟩,q⟩
 |_=>exact(e).elim
end
structure vO(h:Heap)(x dx C:Addr)(mA:Str->Option fG):Prop where
 obj:h.get? x=some (mL C dx)
 ns:h.Ns1 dx mA
 ne:dx≠x
def Us{h:Heap}(n:h.Ns1 r f):∃od,h.get? r=some od/\∀b,PySem.W.lookIn b od=some (f b):=by
 obtain⟨o,d,v,j,p,m,_,l⟩:=n;refine⟨o,j,λb=>?_⟩;have e:=l b;unfold nsFind findBy at e;rw[<-Array.find?_toList]at e;unfold PySem.W.lookIn;rw[p];dsimp only;split
 ·rename_i y q;rw[q]at e;exact congrArg some e
 ·rename_i q;rw[q]at e;have a:d.toList.any (·.refKey)=false:=by
   rw[List.any_eq_false];intro y g;obtain⟨z,t,c⟩:=m y (Array.mem_toList_iff.mp g);simp[DictEntry.refKey,c]
  have u:¬d.toList.any (·.refKey)=true:=by rw[a];exact Bool.false_ne_true
  rw[fJ u];exact congrArg some e
def vO.look(I:vO h x e C b):∃od,PySem.W.InstAt h x (mL C e) C (some od)/\∀a,PySem.W.lookIn a od=some (b a):=
 let ⟨od,c,d⟩:=Us I.ns
 ⟨od,⟨I.obj,rfl,rfl,c⟩,d⟩
section
variable{prog:gX}{w:iI}{A:iR}{E:fG->fP->Prop}{s:fP}{K:gA}{x dx C f:Addr}{mA:Str->Option fG}{name:Str}{v:fG}
def GF(X:K.In s.1)(I:vO s.1 x dx C mA)(g:rJ K C name=true)(e:qL K C=true)
  (j:lK K (.ref C) name=some none)(c:mA name=some v)(a:PySem.W.handedIn v=true)(h:Q v {s with toks:=s.toks+1}):
  gK (gR prog w) A (getAttr (.ref x) name b) Q E s:=by
 obtain⟨od,J,d⟩:=I.look;exact PySem.W.get_value X J (PySem.W.plainGet_of g).1 (PySem.W.findObj_own e j rfl (by rw[d,c])) a h
def LR(X:K.In s.1)(I:vO s.1 x dx C mA)
  (q:lK K (.ref C) "__setattr__"=some (some (.builtin "object.__setattr__")))(r:sY K C=true)(o:uF K C name=some none)(u:qL K C=true)
  (n:PySem.Within mA m) (p:m.length<=fR)
  (h:∀d,vO d x dx C (λy=>if y=name then some v else mA y)->iJ dx s.1 d->Q () {s with heap:=d,toks:=s.toks+2}):
  gK (gR prog w) A (setAttr (.ref x) name v) Q E s:=by
 obtain⟨od,J,L⟩:=I.look;refine PySem.W.set_plain X J q (PySem.W.osa_open X J r o λb=>?_);obtain⟨M,z,j⟩:=PySem.W.any_some u;refine fB (fE (fB (fB (wpAny_loadPart I.obj (fB (PySem.W.Looks.here (PySem.W.looks_clsIn X z) ?_))))));rw[j];refine fE (fB (fE (fB ?_)));refine wpAny_nsSet1 I.ns λd c a=>?_;obtain⟨H,B,G,e,g,l⟩:=c.count (PySem.Within.cons name v n);refine fB (wpAny_lookBehind e (by rw[g];exact pastItsLine_dict (iU l (by rw[fI];lia))) ?_);exact fE (h _ ⟨(a.2 _ (kS I.ne)).trans I.obj,c,I.ne⟩ a)
def Zc(X:K.In s.1)(d:uG K C=true)
  (e:lK K (.ref C) "__init__"=some (some (.ref f)))(g:PySem.W.typeIn K (.ref f)=some (.type "function"))
  (h:nR (gR prog w) (A.under (.builtin "type.__call__" ⟨.ref C::b,c⟩)) (.call (.ref f) ⟨.ref (s.1.1.size+1)::b,c⟩) (PySem.W.InitBack (s.1.1.size+1) R)
   {s with heap:=(s.1.push lM).push (mL C s.1.1.size)}):
  nR (gR prog w) A (.call (.ref C) ⟨b,c⟩) R s:=PySem.W.make_core (PySem.W.makes_of X d) (PySem.W.looks_findIn X e) (λa=>PySem.W.bind_fn X a g) (.inl rfl) h
end
def vq(f:Str)(v:V):List (Str×V)->List (Str×V)
 |[]=>[(f,v)]
 |(g,x)::r=>if g=f then(g,v)::r else(g,x)::vq f v r
def Kw(f g:Str)(v:V):∀fs:List (Str×V),(vq f v fs).lookup g=if g=f then some v else fs.lookup g:=by
 intro a;induction a with
 |nil=>
  show oY g [_]=_
  by_cases h:g=f
  ·have b:=beq_iff_eq.mpr h;simp only[oY,b,fM h]
  ·have b:=beq_eq_false_iff_ne.mpr h;simp only[oY,b,fJ h]
 |cons a r d=>
  obtain⟨k,x⟩:=a;rw[show vq f v _=(if k=f then _::r else _::vq f v r)from rfl]
  by_cases c:k=f
  ·rw[fM c]
   by_cases h:g=k
   ·have b:=beq_iff_eq.mpr h;simp only[oY,b,fM (h.trans c)]
   ·have b:=beq_eq_false_iff_ne.mpr h;simp only[oY,b,fJ (λe:g=f=>h (e.trans c.symm))]
  ·rw[fJ c]
   by_cases h:g=k
   ·simp only[oY,(beq_iff_eq.mpr h),fJ (λe:g=f=>c (h.symm.trans e))]
   ·simp only[oY,(beq_eq_false_iff_ne.mpr h)];exact(d)
def F5(f:Str)(v:V):∀fs:List (Str×V),f∈(vq f v fs).map (·.1)/\∀g,g∈fs.map (·.1)->g∈(vq f v fs).map (·.1):=by
 intro a;induction a with
 |nil=>exact⟨by simp[vq],λg h=>by simp at h⟩
 |cons a r b=>
  obtain⟨k,x⟩:=a;obtain⟨j,d⟩:=b;rw[show vq f v _=(if k=f then _::r else _::vq f v r)from rfl]
  by_cases c:k=f
  ·subst c;exact⟨by simp,λg h=>by simpa using h⟩
  ·rw[fJ c];refine⟨?_,λg h=>?_⟩
   ·exact fH _ j
   ·rcases List.mem_cons.mp h with e|e
    ·exact List.mem_cons.mpr (.inl e)
    ·exact fH _ (d g e)
def Ks(f:Str)(v:V):∀fs:List (Str×V),(vq f v fs).length<=fs.length+1:=by
 intro a;induction a with
 |nil=>simp[vq]
 |cons a r b=>
  obtain⟨k,x⟩:=a;have d:=b;rw[show vq f v _=(if k=f then _::r else _::vq f v r)from rfl]
  by_cases c:k=f
  ·rw[fM c,fI,fI];lia
  ·rw[fJ c,fI,fI];lia
def pa.some_of(r:pa (some v) o):∃u,o=some u/\RelV v u:=by
 cases o with
 |none=>exact(r).elim
 |some u=>exact⟨u,rfl,r⟩
def Tw(r:RelV v u):PySem.W.handedIn u=true:=by
 cases v with
 |g8=>cases (r);rfl
 |bl b=>cases (r);rfl
 |int i=>obtain⟨t,e⟩:=(r);cases e;rfl
 |str x=>obtain⟨t,e⟩:=(r);cases e;rfl
 |w4 b=>obtain⟨t,e⟩:=(r);cases e;rfl
 |y4 b=>obtain⟨t,e⟩:=(r);cases e;rfl
 |ref a=>cases (r);rfl
 |ty n=>cases (r);rfl
section
variable{P:gX}{w:iI}{H H':Hp}{h h':Heap}{a C dx:Addr}{fs K':List (Str×V)}
def Qo(c:n0 P w H h)(e:H a=some (.ins C dx fs)):∃b,vO h a dx C b/\(∀f,pa (fs.lookup f) (b f))/\PySem.Within b (fs.map (·.1))/\fs.length<=1000/\H dx=some (.own a):=by
 obtain⟨d,z,ne,g,b,n,r,q⟩:=(c a _ e);exact⟨b,⟨g,n,ne⟩,r,q,z,d⟩
end
structure w9(K:gA)(C:Addr):Prop where
 pg:rJ K C Str.empty=true
 hd:qL K C=true
 po:sY K C=true
 sa:lK K (.ref C) "__setattr__"=some (some (.builtin "object.__setattr__"))
def w9.get{K:gA}{C:Addr}(c:w9 K C)(f:Str):rJ K C f=true:=c.pg
def ng(K:gA)(C:Addr)(f:Str):Prop:=lK K (.ref C) f=some none
def ng.yD{K:gA}{C:Addr}{f:Str}(n:ng K C f):uF K C f=some none:=by
 unfold uF;rw[n];rfl
section
variable{X:Cx}{pins:List (Addr×Obj)}{σ:St}{H:Hp}{s:fP}{a C dx:Addr}{fs:List (Str×V)}{f:Str}{v:V}{A:iR}{E:fG->fP->Prop}
def Nm(I:Inv X pins σ H s)(e:H a=some (.ins C dx fs))(c:w9 X.K C)(n:ng X.K C f)(l:fs.lookup f=some v)
  (h:∀u d,Inv X pins σ H d->RelV v u->Q u d):gK (gR X.prog X.w) A (getAttr (.ref a) f b) Q E s:=by
 obtain⟨m,O,r,_,_,_⟩:=Qo I.fg e;obtain⟨u,j,g⟩:=pa.some_of (by rw[<-l];exact r f);exact GF I.q7 O (c.get f) c.hd n j (Tw g) (h u _ (I.tok _) g)
def O6(I:Inv X pins σ H s)(e:H a=some (.ins C dx fs))(c:w9 X.K C)(n:ng X.K C f)(U:fs.length<1000)(T:RelV y u)
  (h:∀l,Inv X pins σ (upd H a (.ins C dx (vq f y fs))) l->Q () l):gK (gR X.prog X.w) A (setAttr (.ref a) f u) Q E s:=by
 obtain⟨p,O,r,j,_,B⟩:=Qo I.fg e;have x:(fs.map (·.1)).length<=fR:=by rw[fF,iT];lia
 refine LR I.q7 O c.sa c.po n.yD c.hd j x λM d m=>h _ ?_;have J:∃o,M.get? dx=some o:=let ⟨o,_,_,N,_⟩:=d.ns;⟨o,N⟩;refine I.write (by rw[e];exact lN) (.inr B) (λb q L z=>(m.2 b L).trans z) J ?_;refine⟨by rwa [ag O.ne],?_,O.ne,d.obj,_,d.ns,λg=>?_,λg G=>?_⟩
 ·have:=Ks f y fs;lia
 ·rw[Kw]
  by_cases q:g=f
  ·rwa [fM q,fM q]
  ·rw[fJ q,fJ q];exact r g
 ·by_cases q:g=f
  ·rw[q];exact(F5 f y fs).1
  ·refine(F5 f y fs).2 g (j g λz=>G ?_);show(if g=f then some u else p g)=none;rwa [fJ q]
def Inv.made(I:Inv X pins σ H s):Inv X pins σ (upd (upd H s.1.1.size (.own (s.1.1.size+1))) (s.1.1.size+1) (.ins C s.1.1.size []))
  {s with heap:=(s.1.push lM).push (mL C s.1.1.size)}:=by
 have c:(s.1.push lM).get? s.1.1.size=some lM:=fO s.1 rfl;have h:((s.1.push lM).push (mL C s.1.1.size)).get? (s.1.1.size+1)=some (mL C s.1.1.size):=by
  have:=fO (s.1.push lM) (o:=mL C s.1.1.size) rfl;rwa [iN]at this
 refine(I.laid (o:=.own (s.1.1.size+1)) (h':=s.1.push lM) (t':=s.toks) (λb u q=>fC _ q) (fQ _) ⟨_,c⟩).laid (t':=s.toks) (λb u q=>fC _ q) (oJ (iN _ _)) ?_;have ne:s.1.1.size≠s.1.1.size+1:=hU (lV _);refine⟨by rw[ag ne,ai],iO _,ne,h,λ_=>none,(Heap.Ns1.of_empty (⟨lM,#[],_,c,rfl,(λe g=>absurd g (by simp)),λ_=>rfl⟩)).at λo q=>fC _ q,λ_=>lN,λy d=>absurd rfl d⟩
def FQ(j:mY e f b (eval e b)=eval e b)
  (h:gK (gR c w) A (eval e b) (λo d=>gK (gR c w) A (getAttr o f true) Q E d) E s):gK (gR c w) A (eval (.Attribute e f g) b) Q E s:=
 Attribute_any_ h (by rw[arm_eval_Attribute,j])
end
inductive yV(K:gA)(f:Str)(Q:VK)(x:V)(H1:Hp):Prop
 |mk (a C dx fs v) (_:x=.ref a) (_:H1 a=some (.ins C dx fs)) (_:w9 K C) (_:ng K C f) (_:fs.lookup f=some v) (_:Q v H1):yV K f Q x H1
def cN(K:gA)(a:TE)(f:Str):TE:=λσ H Q=>a σ H (yV K f Q)
inductive yU(K:gA)(f:Str)(D:Ends)(σ:St)(y x:V)(H2:Hp):Prop
 |mk (a C dx fs) (_:x=.ref a) (_:H2 a=some (.ins C dx fs)) (_:w9 K C) (_:ng K C f) (_:fs.length<1000) (_:D.nx σ (upd H2 a (.ins C dx (vq f y fs)))):yU K f D σ y x H2
def cT(K:gA)(b a:TE)(f:Str):TS:=λD σ H=>a σ H λy c=>b σ c (yU K f D σ y)
section
variable{X:Cx}{o e value:Expr}{f:Str}{pos pos' zB:Pos}{ta tv:TE}
def RV(j:PE X e ta)(m:mY e f X.env (eval e X.env)=eval e X.env):PE X (.Attribute e f pos) (cN X.K ta f):=by
 intro b s σ H Q I h;refine FQ m (gp (j b s σ H _ I h) λu G ⟨x,A,z,d,a,C,J,fs,v,p,r,c,n,l,q⟩=>?_);subst p;obtain rfl:u=kN a:=d;exact Nm z r c n l λB E y g=>⟨v,A,y,g,q⟩
def BW(z:PE X o ta)(r:PE X value tv)(v:mG value (some (.Attribute o f pos')) pos.line X.env=pure false):PS X (.Assign [.Attribute o f pos'] value pos) (cT X.K ta tv f):=by
 intro b s σ H D I h;refine plainObj_wpAny_Assign_Attribute (gp (r b s σ H _ I h) λu d ⟨y,L,J,g,q⟩=>gp (z b d σ L _ J q) λp N ⟨x,Q,G,j,a,C,O,fs,A,B,c,n,l,m⟩=>?_) v;subst A;obtain rfl:p=kN a:=j;exact O6 G B c n l g λM E=>⟨σ,_,E,m⟩
end
structure j2(k:Nat)(A:iR):Prop where
 hd:A.handled=none
 dp:A.depth+3 * k+5<recursionLimit
 un:A.units+16 * k+200<jS
def j2.mono(r:j2 k A)(h:j<=k):j2 j A:=⟨r.hd,by have:=r.dp;lia,by have:=r.un;lia⟩
def j2.deeper{A:iR}(r:j2 (k+1) A)(a:Env):j2 k (A.deeper a):=
 ⟨r.hd,by have:=r.dp;show A.depth+1+3 * k+5<_;lia,by have:=r.un;show A.units+3+16 * k+200<_;lia⟩
def Oe{A:iR}:(A.under (.builtin "type.__call__" ⟨.ref C::a,b⟩)).depth=A.depth+1:=by
 first|rfl|simp[Around.under,Code.weight,Code.isCreation,Code.isGuard,Code.isCaller,Code.frames,Code.isFrame,guardIds]
def Of{A:iR}:(A.under (.builtin "type.__call__" ⟨.ref C::a,b⟩)).units=A.units+1:=by
 first|rfl|simp[Around.under,Code.cUnits,Code.frames,Code.isFrame]
def j2.make{A:iR}(r:j2 (k+1) A)(C:Addr)(a:List fG)(b:List (Str×fG)):j2 k (A.under (.builtin "type.__call__" ⟨.ref C::a,b⟩)):=
 ⟨r.hd,by have:=r.dp;rw[Oe];lia,by have:=r.un;rw[Of];lia⟩
def j2.depth{A:iR}(r:j2 k A):A.depth<recursionLimit:=by have:=r.dp;lia
def YM:TA:=λ_ H Q=>Q [] H
def YQ(a:TE)(tr:TA):TA:=λσ H Q=>a σ H λx c=>tr σ c λxs b=>Q (x::xs) b
section
variable{X:Cx}{e:Expr}{es:List Expr}{te:TE}{t:TA}{pos:Pos}
def oq:PA X [] YM:=λ_ _ _ _ H Q I h=>oS ⟨[],H,I,.nil,h⟩
def jb(m:PE X e te)(l:PA X es t)(j:gQ (e::es) X.env=(false,eval e X.env)::gQ es X.env:=by rfl):PA X (e::es) (YQ te t):=by
 intro pos a s σ H Q I h;rw[j];refine lG (gp (m a s σ H _ I h) λu b ⟨x,q,o,d,g⟩=>?_);exact gp (l pos a b σ q _ o g) (by rintro r v ⟨xs,p,n,c,f⟩;exact⟨x::xs,p,n,.cons d c,f⟩)
def cG(t:TA):TE:=λσ H Q=>t σ H λxs a=>xs.length<=fR/\∀p,a p=none->Q (.ref p) (upd a p (.tup xs))
def cK(t:TA):TE:=λσ H Q=>t σ H λxs a=>xs.length<=fR/\∀p,a p=none->Q (.ref p) (upd a p (.lst xs))
def RN{f}(h:PA X es t):PE X (.Tuple es f pos) (cG t):=by
 intro a s σ H Q I j;refine wpAny_Tuple_spliced (gp (h pos a s σ H _ I j) λg c ⟨xs,l,d,r,z,q⟩=>⟨by rwa [<-r.length],?_⟩);refine⟨.ref c.1.1.size,upd l c.1.1.size _,d.laid (λb u e=>fC _ e) (fQ _) ?_,rfl,q _ (d.fg.fresh (fQ _))⟩;exact⟨z,g,r,⟨_,fO _ rfl,rfl,_,rfl⟩⟩
def AL(h:PA X es t):PE X (.List es pos) (cK t):=by
 intro a s σ H Q I g;refine wpAny_List_spliced (gp (h pos a s σ H _ I g) λf c ⟨xs,j,d,r,z,q⟩=>⟨by rwa [<-r.length],?_⟩);refine⟨.ref c.1.1.size,upd j c.1.1.size _,d.laid (λb u e=>fC _ e) (fQ _) ?_,rfl,q _ (d.fg.fresh (fQ _))⟩;exact⟨z,f,0,r,fO _ rfl⟩
end
abbrev Sp:=List V->Hp->VK->XK->Prop
abbrev Wl:=List Env->Hp->fP->XK->fG->fP->Prop
structure vP(P:gX)(w:iI)(K:gA)(mg:Str->Option fG)(base:Heap)(A:iR)(outer:List Env)(s:fP)(H:Hp):Prop where
 frames:A.frames=some outer
 mod:Mod K mg base
 bs:∀b o,base.get? b=some o->s.1.get? b=some o/\H b=none
 xR:base.objs.size<=s.1.1.size
 rd:s.1.FunFrames base outer
 yO:∀b∈X8 outer,H b=none
 fg:n0 P w H s.1
 bare:sX s.gens
inductive CE(outer:List Env)(P:gX)(w:iI)(H:Hp)(s:fP)(Q:VK)(u:fG)(s':fP):Prop
 |mk (v H') (_:s'.os=s.os) (_:sX s'.gens) (_:Un (X8 outer) [] H H' s.1 s'.1) (_:n0 P w H' s'.1) (_:RelV v u) (_:Q v H'):CE outer P w H s Q u s'
def CR(c:Wl)(a:List Env)(P:gX)(w:iI)(H:Hp)(s:fP)(Q:VK)(E:XK)(r:Result)(b:fP):Prop:=
 match r with
 |.ok (.ret u)=>CE a P w H s Q u b
 |.ok _=>False
 |.error e=>c a H s E e b
structure ll(P:gX)(w:iI)(K:gA)(mg:Str->Option fG)(base:Heap)(CX:Wl)(k:Nat)(f:Addr)(fd:oZ)(ps:List Str)(sp:Sp):Prop where
 len:∀vs H Q E,sp vs H Q E->vs.length=ps.length
 run:∀(A:iR)(outer:List Env)(s:fP)(H:Hp)(args:Args)(us:List fG)(vs:List V)(Q:VK)(E:XK),j2 k A->vP P w K mg base A outer s H->BindsTo s fd args (ps.zip us)->Vals vs us->sp vs H Q E->
  nR (gR P w) A (.call (.ref f) args) (CR CX outer P w H s Q E) s
def ll.imp{P:gX}{w:iI}{K:gA}{j:Str->Option fG}{base:Heap}{m:Wl}{k:Nat}{f:Addr}{l:oZ}{g:List Str}{e c:Sp}(F:ll P w K j base m k f l g e)
  (h:∀b H Q E,c b H Q E->e b H Q E):ll P w K j base m k f l g c:=
 ⟨λb H Q E q=>F.len b H Q E (h _ _ _ _ q),λA a s H d n b Q E r u v o p=>F.run A a s H d n b Q E r u v o (h _ _ _ _ p)⟩
def vP.make{P:gX}{w:iI}{K:gA}{b:Str->Option fG}{base:Heap}{A:iR}{a:List Env}{s:fP}{H:Hp}(e:vP P w K b base A a s H)(C:Addr)(c:List fG)(d:List (Str×fG)):
  vP P w K b base (A.under (.builtin "type.__call__" ⟨.ref C::c,d⟩)) a s H:=⟨by first|exact e.frames|(simpa[Around.under,Code.envs,Code.isFrame,pushEnvs]using e.frames),e.mod,e.bs,e.xR,e.rd,e.yO,e.fg,e.bare⟩
section
variable{X:Cx}{pins:List (Addr×Obj)}{σ:St}{H:Hp}{s s':fP}
def Inv.yQ(I:Inv X pins σ H s):vP X.prog X.w X.K X.mg X.base X.A X.stack s H:=
 ⟨I.ok.frames,I.ok.mod,I.bs,iU I.ok.xR I.sz,I.stack,I.vE,I.fg,I.bare⟩
def Inv.after(I:Inv X pins σ H s)(h:CE X.stack X.prog X.w H s Q u s'):EP X pins σ Q u s':=by
 obtain⟨v,f,os,a,un,e,r,q⟩:=h;obtain⟨j,g,d,t,c⟩:=s';obtain rfl:c=s.os:=os;exact⟨v,f,I.call (d':=d) (t':=t) (ch:=[]) un e a (λb z=>absurd z (by simp)),r,q⟩
end
def NN(c:Sp)(a:List V)(E:XK)(t:TA):TE:=λσ H Q=>t σ H λb d=>c (b++a) d Q E
def YN(C:Addr)(e:Sp)(b:List V)(E:XK)(t:TA):TE:=λσ H Q=>t σ H λd c=>∀x a,c x=none->c a=none->a≠x->
 e (.ref x::(d++b)) (upd (upd c a (.own x)) x (.ins C a [])) (λv f=>v=.g8/\Q (.ref x) f) E
def Binds(K:gA)(d:oZ)(b:List Str)(c:List fG):Prop:=
 ∀(s:fP)(a:List fG),K.In s.1->(a++c).length=b.length->BindsTo s d ⟨a,[]⟩ (b.zip (a++c))
def Binds.all{K:gA}{d:oZ}{b:List Str}(h:∀a:List fG,a.length=b.length->bindArgs d ⟨a,[]⟩=pure (b.zip a)):Binds K d b []:=λs a _ c=>by
 rw[jT]at c⊢;exact .of_eq (h a c)
def nr(c:Wl)(X:Cx)(E:XK):Prop:=∀(a:List (Addr×Obj))(σ:St)(H:Hp)(s:fP)(e:fG)(b:fP),Inv X a σ H s->c X.stack H s E e b->X.xe e b
section
variable{X:Cx}{CX:Wl}{k:Nat}{f C:Addr}{fd:oZ}{ps:List Str}{sp:Sp}{wA:List V}{ds:List fG}{E:XK}{x m:Str}{p pos apos:Pos}{e o:Expr}{es:List Expr}{ta:TE}{t:TA}
def O1(F:ll X.prog X.w X.K X.mg X.base CX k f fd ps sp)(n:j2 k X.A)(y:Binds X.K fd ps ds)(v:Vals wA ds)(l:nr CX X E)
  (I:Inv X a σ H s)(r:Vals g c)(h:sp (g++wA) H Q E):gK (gR X.prog X.w) X.A (call (.ref f) c) (EP X a σ Q) X.xe s:=by
 have d:=r.append v;have q:(c++ds).length=ps.length:=by rw[<-d.length];exact F.len _ _ _ _ h
 refine wpAny_call (oK (F.run X.A X.stack s H ⟨c,[]⟩ _ _ Q E n I.yQ (y s c I.q7 q) d h) λr j b=>?_);cases r with
 |error e=>exact l a σ H s e j I b
 |ok z=>
  cases z with
  |ret u=>exact I.after b
  |next=>exact kH b
  |brk=>exact kH b
  |cont=>exact kH b
def JT(F:ll X.prog X.w X.K X.mg X.base CX k f fd ps sp)(j:j2 k X.A)(u:Gl X x)(l:X.mg x=some (.ref f))(n:kA X.K (.ref f)=true)(z:Binds X.K fd ps ds)(y:Vals wA ds)(g:nr CX X E)
  (B:PA X (e::es) t)(c:(x==("__debug__":Str))=false:=by decide)(v:gQ (e::es) X.env=(false,eval e X.env)::gQ es X.env:=by rfl)(b:(lJ pos (gQ es X.env)).any (·.1)=false:=by rfl):
  PE X (.Call (.Name x p) (e::es) [] pos) (NN sp wA E t):=by
 intro a s σ H Q I h;refine nE (B4 I u l ?_ c);refine sR I.ok.mod.x4 n (gp (B pos a s σ H _ I h) λJ L ⟨G,M,d,r,q⟩=>⟨d.q7,?_⟩) v b;exact O1 F j z y g d r q
def AQ(F:ll X.prog X.w X.K X.mg X.base CX k f fd ps sp)(d:j2 k X.A)(l:Gl X x)(g:X.mg x=some (.ref f))(j:kA X.K (.ref f)=true)(q:Binds X.K fd ps ds)(n:Vals wA ds)(c:nr CX X E)
  (a:(x==("__debug__":Str))=false:=by decide):PE X (.Call (.Name x p) [] [] pos) (NN sp wA E YM):=by
 intro b s σ H Q I h;refine nE (B4 I l g ?_ a);exact PySem.W.callWith_K0 I.q7 j (O1 F d q n c I .nil h)
structure Mk(K:gA)(C f:Addr):Prop where
 makes:uG K C=true
 init:lK K (.ref C) "__init__"=some (some (.ref f))
 fn:PySem.W.isFn K (.ref f)=true
 kp:kA K (.ref C)=true
def CY(M:Mk X.K C f)(F:ll X.prog X.w X.K X.mg X.base CX k f fd ps sp)(G:j2 (k+1) X.A)(N:Binds X.K fd ps ds)(L:Vals wA ds)
  (B:nr CX X E)(I:Inv X b σ H s)(r:Vals n c)
  (h:∀x d,H x=none->H d=none->d≠x->sp (.ref x::(n++wA)) (upd (upd H d (.own x)) x (.ins C d [])) (λv Y=>v=.g8/\Q (.ref x) Y) E):
  gK (gR X.prog X.w) X.A (call (.ref C) c) (EP X b σ Q) X.xe s:=by
 have l:=h _ s.1.1.size (I.fg.fresh (pA _)) (I.fg.fresh (fQ _)) (hU (lV _));have g:=Inv.made (C:=C) I;have j:Vals (V.ref _::_) (kN (s.1.1.size+1)::_):=.cons rfl (r.append L);have J:(kN (s.1.1.size+1)::c++ds).length=ps.length:=by
  have e:=j.length;rw[F.len _ _ _ _ l]at e;exact e.symm
 refine wpAny_call (Zc I.q7 M.makes M.init (beq_iff_eq.mp M.fn) (oK (F.run _ X.stack _ _ ⟨kN _::c,[]⟩ _ _ _ E (G.make C c [])
  (g.yQ.make C c []) (N _ _ g.q7 J) j l) λr q a=>?_))
 cases r with
 |error e=>exact B b σ _ _ e q g a
 |ok O=>
  cases O with
  |ret u=>
   obtain⟨v,H',U,y,T,z⟩:=g.after a;subst T;exact⟨y,⟨V.ref _,H',U,rfl,z⟩⟩
  |next=>exact kH a
  |brk=>exact kH a
  |cont=>exact kH a
def JR(M:Mk X.K C f)(F:ll X.prog X.w X.K X.mg X.base CX k f fd ps sp)(j:j2 (k+1) X.A)(n:Gl X x)(l:X.mg x=some (.ref C))(y:Binds X.K fd ps ds)(v:Vals wA ds)(g:nr CX X E)
  (z:PA X (e::es) t)(c:(x==("__debug__":Str))=false:=by decide)(u:gQ (e::es) X.env=(false,eval e X.env)::gQ es X.env:=by rfl)(b:(lJ pos (gQ es X.env)).any (·.1)=false:=by rfl):
  PE X (.Call (.Name x p) (e::es) [] pos) (YN C sp wA E t):=by
 intro a s σ H Q I h;refine nE (B4 I n l ?_ c);refine sR I.ok.mod.x4 M.kp (gp (z pos a s σ H _ I h) λG J ⟨B,L,d,r,q⟩=>⟨d.q7,?_⟩) u b;exact CY M F j y v g d r q
end
structure n4(N P:List Str)(sc:lY):Prop where
 kind:sc.kind=.function
 co:sc.isCoroutine=false
 gen:sc.isGenerator=false
 nd:N.Nodup
 pre:N.take P.length=P
 par:∀x∈P,sc.names.lookup x=some .local\/sc.names.lookup x=some .cell
 xI:∀y∈sc.names,y.2≠.free
def Sr{kindOf:Str->Option mQ}{x:Str}:∀{binds:List (Str×fG)}{m:Str->Option fG},(∀v,(x,v)∉binds)->bindL kindOf binds m x=m x:=by
 intro a;induction a with
 |nil=>rintro _ _;exact rfl
 |cons a r b=>
  obtain⟨n,v⟩:=a
  rintro m h
  unfold bindL;rw[b λw c=>h w (fH _ c)];split
  ·have:x≠n:=by rintro rfl;exact h v fN
   simp[this]
  ·rfl
def Sn{kindOf:Str->Option mQ}{x:Str}:∀{binds:List (Str×fG)}{m:Str->Option fG},(∀v,(x,v)∉binds)->bindC kindOf binds m x=m x:=by
 intro a;induction a with
 |nil=>rintro _ _;exact rfl
 |cons a r b=>
  obtain⟨n,v⟩:=a
  rintro m h
  unfold bindC;rw[b λw c=>h w (fH _ c)];split
  ·rfl
  ·have:x≠n:=by rintro rfl;exact h v fN
   simp[this]
theorem Fm{kindOf:Str->Option mQ}{x:Str}{v:fG}:∀{P:List Str}{a:List fG}{i:Nat}{m:Str->Option fG},P.Nodup->P[i]?=some x->a[i]?=some v->kindOf x=some .local->
  bindL kindOf (P.zip a) m x=some v
 |[],_,_,_,_,h,_,_=>by simp at h
 |_::_,[],_,_,_,_,h,_=>by simp at h
 |p::P,w::a,0,m,d,c,b,e=>by
  simp at c b;subst c;subst b;show bindL kindOf (_::P.zip a) m p=_;unfold bindL;rw[Sr λv f=>(List.nodup_cons.mp d).1 (sE f).1,fM e];simp
 |p::P,w::a,i+1,m,d,c,b,e=>by
  unfold bindL;exact Fm (List.nodup_cons.mp d).2 (by simpa using c) (by simpa using b) e
theorem Fl{kindOf:Str->Option mQ}{x:Str}{v:fG}:∀{P:List Str}{a:List fG}{i:Nat}{m:Str->Option fG},P.Nodup->P[i]?=some x->a[i]?=some v->kindOf x≠some .local->
  bindC kindOf (P.zip a) m x=some v
 |[],_,_,_,_,h,_,_=>by simp at h
 |_::_,[],_,_,_,_,h,_=>by simp at h
 |p::P,w::a,0,m,d,c,b,e=>by
  simp at c b;subst c;subst b;show bindC kindOf (_::P.zip a) m p=_;unfold bindC;rw[Sn λv f=>(List.nodup_cons.mp d).1 (sE f).1,fJ e];simp
 |p::P,w::a,i+1,m,d,c,b,e=>by
  unfold bindC;exact Fl (List.nodup_cons.mp d).2 (by simpa using c) (by simpa using b) e
def uf(N:List Str)(a:List V):St:=a.map some++gJ (N.length - a.length) none
noncomputable def Bl(g:Wl)(P:gX)(w:iI)(K:gA)(mg:Str->Option fG)(base:Heap)(N:List Str)(b:Str)(a:lY)(f:Addr)(d:fG)(A:iR)(outer:List Env)(s:fP)(H:Hp)(E:XK):Cx where
 prog:=P
 w:=w
 K:=K
 mg:=mg
 base:=base
 A:=A.deeper (uA b a s.1.1.size f d)
 N:=N
 kO:=s
 pq:=H
 env:=uA b a s.1.1.size f d
 outer:=outer
 stack:=uA b a s.1.1.size f d::outer
 ex:=[]
 calm:=true
 fn:=λx=>decide (x∉zc)
 pn:=[]
 xe:=λe h=>gK (gR P w) (A.deeper (uA b a s.1.1.size f d)) (leaving (uA b a s.1.1.size f d) e) (λ_ c=>g outer H s E e c) (λj c=>g outer H s E j c) h
def Jo{a:lY}(h:a.names.lookup x=some .cell):∃c,(pJ n a.names []).lookup x=some c:=Option.isSome_iff_exists.mp (qM a.names n [] (.inl h))
def Fz{CX:Wl}{P:gX}{w:iI}{K:gA}{O:Str->Option fG}{base:Heap}{N o:List Str}{j:Str}{d:lY}{f:Addr}{L:fG}{A:iR}{g:List Env}{s T:fP}{H:Hp}{E:XK}{M:List fG}{n:List V}
  (S:n4 N o d)(hd:A.handled=none)(m:vP P w K O base A g s H)(hl:n.length=o.length)(r:Vals n M)
  (x:InCallC s s.1.1.size (bindL (uA j d s.1.1.size f L).kindOf (o.zip M) λ_=>none) (pJ (s.1.1.size+1) d.names []) (bindC (uA j d s.1.1.size f L).kindOf (o.zip M) λ_=>none) T):
  Inv (Bl CX P w K O base N j d f L A g s H E) [] (uf N n) H T:=by
 have γ:o.length<=N.length:=by have:=congrArg lT S.pre;rw[oA]at this;lia
 obtain⟨Q,tk,rfl,Y⟩:=x.done;have B:∀b:Addr,b∉(Bl CX P w K O base N j d f L A g s H E).ex:=λb z=>absurd (show b∈([]:List Addr)from z) (by simp);refine⟨⟨m.mod,S.kind,rfl,rfl,fQ _,λy z c Q l=>?_,λy G=>?_,λy c _ h=>?_,λ_=>hd,Around.frames_deeper m.frames,.inr ⟨rfl,rfl⟩,λb z=>absurd z (B b),m.bs,m.xR,λb _ _=>B b,λb z=>absurd z (B b),m.rd,m.yO⟩,
  rfl,m.bare,Un.kept Y,⟨_,x.toInCall.ns,λi y v Q l h3=>?_⟩,λy c h=>⟨_,x.cell y c h⟩,m.fg.fresh (fQ _),λy c h=>?_,λp I=>absurd (show p∈([]:List _)from I) (by simp),m.fg.kept Y,?_⟩
 ·exact name_of_addr x.apart (nY Q) (nY l)
 ·obtain G|G:=G
  ·exact Jo G
  ·exact absurd rfl (S.xI _ (nY G))
 ·exact Nat.le_of_lt (x.above y c (nY h))
 ·have J:i<n.length:=by
   unfold uf at l
   by_cases J:i<n.length
   ·exact J
   ·rw[iY (by simpa using J)]at l;rw[List.getElem?_replicate]at l;split at l<;>cases l
  have ha:n[i]?=some v:=by
   unfold uf at l;rw[jB (by simpa using J),gO]at l;cases e:n[i]? with
   |none=>rw[e]at l;cases l
   |some a=>rw[e]at l;cases l;rfl
  obtain⟨u,U,rv⟩:=r.get ha;have I:o[i]?=some y:=by
   rwa [<-S.pre,List.getElem?_take_of_lt (by lia)]
  have C:o.Nodup:=by rw[<-S.pre];exact S.nd.sublist (List.take_sublist _ _)
  refine⟨u,rv,?_⟩;rcases S.par y (iE I)with k|k
  ·exact .inl ⟨k,Fm C I U k⟩
  ·obtain⟨c,e⟩:=Jo k;refine .inr ⟨.inl k,c,e,?_⟩;have q:=x.cell y c e;rw[Fl C I U (by show d.names.lookup y≠_;rw[k];decide)]at q;exact q
 ·exact .inl (m.fg.fresh (Nat.le_of_lt (x.above y c (nY h))))
 ·unfold uf;show _=N.length;rw[gI,fF,jY]
  lia
def VC{CX:Wl}{P:gX}{w:iI}{K:gA}{mg:Str->Option fG}{base:Heap}{k:Nat}{f:Addr}{m d:Str}{g:Arguments}{j:List Stmt}{a:lY}{dV kV O pm h ct oc:fG}{an od:Option Addr}
  {β:Array (Option fG)} {N T:List Str} {U:Sp} (lk:K.lookup f=some ⟨oc,od,.func (jO m d g j a dV kV O pm an h ct),β⟩) (ε:lO K h d=true) (S:n4 N T a)
  (len:∀z H Q E,U z H Q E->z.length=T.length)
  (C:∀(A:iR)(c:List Env)(s:fP)(H:Hp)(z:List V)(Q:VK)(E:XK),j2 k (A.deeper (uA d a s.1.1.size f h))->U z H Q E->
   ∃t,uW (Bl CX P w K mg base N d a f h A c s H E) j t/\t {nx:=λ_ p=>Q .g8 p,rt:=Q} (uf N z) H):
  ll P w K mg base CX (k+1) f (jO m d g j a dV kV O pm an h ct) T U:=by
 refine⟨len,λA c s H ι us z Q E hr M hb r I=>?_⟩;have KX:=M.mod.x4.keeps λb o e=>(M.bs b o e).1;have B:∀y∈T.zip us,a.names.lookup y.1=some .local\/(a.names.lookup y.1=some .cell/\((pJ (s.1.1.size+1) a.names []).lookup y.1).isSome=true):=by
  rintro ⟨n,v⟩ hy
  rcases S.par n (sE hy).1 with q|q
  ·exact .inl q
  ·exact .inr ⟨q,qM _ _ _ (.inl q)⟩
 refine codeAny_call_function hr.depth (KX _ _ lk) rfl S.co S.gen rfl (PySem.W.codeRec_of KX ε) (hb _ _ _ _ ?_);refine wpAny_newFunctionEnv_cells S.kind B λω he s1 x=>?_;subst he;refine⟨(M.mod.nolimit.keeps λb o e=>(M.bs b o e).1).keeps x.toInCall.keep,codeAny_func ?_⟩;obtain⟨t,ht,hq⟩:=C A c s H z Q E (hr.deeper _) I;refine iP (ht [] s1 _ H _ (Fz S hr.hd M (len _ _ _ _ I) r x) hq) (λfl Y G=>?_) λe Y G=>G;have L:∀{l:St}{p:Hp}{v:V}{u:fG},Inv (Bl CX P w K mg base N d a f h A c s H E) [] l p Y->RelV v u->Q v p->CE c P w H s Q u Y:=
  λ{l p v u} J rv q=>⟨v,p,J.os,J.bare,J.base,J.fg,rv,q⟩
 cases fl with
 |ret u=>
  obtain⟨v,l,p,J,rv,q⟩:=G;exact L J rv q
 |next=>
  obtain⟨l,p,J,q⟩:=G;exact L (v:=V.g8) (u:=lD) J rfl q
 |brk=>
  obtain⟨_,_,_,q⟩:=G;exact kH q
 |cont=>
  obtain⟨_,_,_,q⟩:=G;exact kH q
section
variable{X:Cx}{x:Str}{p pos:Pos}{e:Expr}{es:List Expr}{t:TA}{id T:String}{r:List V->Hp->VK->Prop}
def aU(r:List V->Hp->VK->Prop)(t:TA):TE:=λσ H Q=>t σ H λa b=>r a b Q
def l8(v:jo X (.builtin id) r)(q:Gl X x)(o:X.mg x=none)(m:lZ x=some (.builtin id))(y:PA X (e::es) t)(n:x≠"__name__":=by decide)(c:(x==("__debug__":Str))=false:=by decide)
  (u:gQ (e::es) X.env=(false,eval e X.env)::gQ es X.env:=by rfl)(b:(lJ pos (gQ es X.env)).any (·.1)=false:=by rfl):PE X (.Call (.Name x p) (e::es) [] pos) (aU r t):=by
 intro a s σ H Q I h;refine nE (vd I q o m ?_ n c);exact PyProof.Rows.callWith_builtin1 (gp (y pos a s σ H _ I h) (by rintro f g ⟨d,A,z,j,l⟩;exact v a g σ A d f Q z j l)) u b
def ni(v:jo X (.type T) r)(q:Gl X x)(o:X.mg x=none)(m:lZ x=some (.type T))(y:PA X (e::es) t)(n:x≠"__name__":=by decide)(c:(x==("__debug__":Str))=false:=by decide)
  (u:gQ (e::es) X.env=(false,eval e X.env)::gQ es X.env:=by rfl)(b:(lJ pos (gQ es X.env)).any (·.1)=false:=by rfl):PE X (.Call (.Name x p) (e::es) [] pos) (aU r t):=by
 intro a s σ H Q I h;refine nE (vd I q o m ?_ n c);exact kM (gp (y pos a s σ H _ I h) (by rintro f g ⟨d,A,z,j,l⟩;exact v a g σ A d f Q z j l)) u b
end
end L2
namespace HT
open PySem PyProof.Rows
section
variable{prog:gX}{w:iI}{A:iR}{E:fG->fP->Prop}{s:fP}
def FH{d a:List fG}(x:pO s.1 t d.toArray)(B:pO s.1 b a.toArray)(r:d≠[])
  (G:a=[]->Q (.ref t) s)(C:a≠[]->Q (.ref s.1.1.size) {s with heap:=s.1.push {cls:=.type "tuple",data:=.seq (d++a).toArray}})
  (l:d.length+a.length<=fR):gK (gR prog w) A (nZ .Add (.ref t) (.ref b)) Q E s:=by
 obtain⟨⟨cls,u,data,p⟩,j,z,n,y⟩:=id x;obtain⟨⟨v,g,data2,f⟩,c,o,q,m⟩:=id B;subst z y o m;have e:d.toArray++a.toArray=(d++a).toArray:=by simp
 by_cases h:a=[]
 ·exact uB ⟨_,j,rfl⟩ ⟨_,c,rfl⟩ tQ seq_tuple_add qN qH (pV _ _)
   (tuple_addW1 t b d.toArray a.toArray n q u g p f (by simpa using r) (by simp[h])) ⟨j,c,G h⟩
 ·refine uB ⟨_,j,rfl⟩ ⟨_,c,rfl⟩ tQ seq_tuple_add qN qH (pV _ _)
   (tuple_addW2 t b d.toArray a.toArray n q u g p f (by simpa using r) (by simpa using h) l) ⟨j,c,?_⟩
  rw[e];exact C h
def Lr(n d:Nat):Option Int->Nat
 |none=>d
 |some v=>if v<0 then(v+(n:Int)).toNat else min v.toNat n
def CV(n d:Nat):Lr n d none=d:=rfl
def KB(n d k:Nat):Lr n d (some (k:Int))=min k n:=by
 show(if k<0 then(k+(n:Int)).toNat else min (k:Int).toNat n)=min k n;rw[fJ (by lia),iZ]
end
end HT
namespace L2
open PySem PySem.Spec PyProof.Rows
abbrev TO:=St->Hp->(Option Int->Hp->Prop)->Prop
def PO(X:Cx)(e:Option Expr)(t:TO):Prop:=
 ∀(a:List (Addr×Obj))(s:fP)(σ:St)(H:Hp)(Q:Option Int->Hp->Prop),Inv X a σ H s->t σ H Q->
  gK (gR X.prog X.w) X.A (evalPart e X.env) (λu c=>∃o b,Inv X a σ b c/\IsPart u o/\Q o b) X.xe s
def LH:TO:=λ_ H Q=>Q none H
def YJ(t:TE):TO:=λσ H Q=>t σ H λx a=>∃i,x=.int i/\Q (some i) a
section
variable{X:Cx}{e:Expr}{te:TE}{lo hi:Option Expr}{tl th:TO}{pos p2:Pos}
def JH:PO X none LH:=by
 intro a s σ H Q I h;exact fE ⟨none,H,I,.none,h⟩
def JG(h:PE X e te):PO X (some e) (YJ te):=by
 intro a s σ H Q I d;refine gp (h a s σ H _ I d) λu j ⟨x,g,f,b,c⟩=>?_;obtain⟨i,rfl,q⟩:=c;obtain⟨t,rfl⟩:=b;exact⟨some i,g,f,.int i t,q⟩
def dR(X:Cx)(r:V->Option Int->Option Int->Hp->VK->Prop):Prop:=
 ∀(a:List (Addr×Obj))(s:fP)(σ:St)(H:Hp)(x:V)(v c b:fG)(lo hi:Option Int)(d:Addr)(Q:VK),Inv X a σ H s->RelV x v->s.1.IsSliceOf d c b .none->IsPart c lo->IsPart b hi->r x lo hi H Q->
  ∃T id,typeLookup (.type T) "__getitem__"=pure (some (.builtin id))/\s.TypeIs v T/\gK (gR X.prog X.w) X.A (getItem v (.ref d)) (EP X a σ Q) X.xe s
def eF(r:V->Option Int->Option Int->Hp->VK->Prop)(te:TE)(tl th:TO):TE:=λσ H Q=>te σ H λx c=>tl σ c λl b=>th σ b λu a=>r x l u a Q
def AK(B:dR X r)(G:PE X e te)(C:PO X lo tl)(z:PO X hi th):PE X (.Subscript e (.Slice lo hi none p2) pos) (eF r te tl th):=by
 intro a s σ H Q I h;refine Subscript_ (gp (G a s σ H _ I h) λv j ⟨x,Y,N,m,p⟩=>?_);refine wpAny_Slice (gp (C a j σ Y _ N p) λf g ⟨l,U,M,y,o⟩=>gp (z a g σ U _ M o) λd c ⟨u,O,L,pu,n⟩=>?_);refine fE ?_;obtain⟨T,id,J,A,E⟩:=B a {c with heap:=c.1.push {cls:=.type "slice",data:=.fields #[f,d,.none]}} σ O x v f d l u c.1.1.size Q (L.kept λb ob q=>fC _ q) m (Heap.IsSliceOf.new ..) y pu n;exact tail_any A J E (by with_unfolding_all rfl)
def Xl(xs:List V)(lo hi:Option Int):List V:=(xs.drop (HT.Lr xs.length 0 lo)).take (HT.Lr xs.length xs.length hi - HT.Lr xs.length 0 lo)
def Jt(xs:List V)(lo hi:Option Int):(Xl xs lo hi).length<=xs.length:=by
 unfold Xl;rw[oA,nA]
 lia
inductive wV(K:gA)(x:V)(y:V)(H:Hp)(Q:VK):Prop
 |mk (a b xs ys) (_:x=.ref a) (_:y=.ref b) (_:mn K H a xs) (_:mn K H b ys) (_:xs≠[]) (_:xs.length+ys.length<=fR) (_:(ys=[]->Q (.ref a) H)) (_:(ys≠[]->∀p,H p=none->Q (.ref p) (upd H p (.tup (xs++ys))))):wV K x y H Q
def Vals.qd(r:Vals xs a):a=[]↔xs=[]:=by
 cases r with
 |nil=>simp
 |cons _ _=>simp
def ID:mm X (nZ .Add) (wV X.K):=by
 intro f s σ H x y v u Q I l j h;obtain⟨a,b,xs,C,rfl,rfl,B,A,r,G,n,m⟩:=h;cases l;cases j;obtain⟨p,d,o,_⟩:=I.tuple B;obtain⟨g,c,p2,_⟩:=I.tuple A;refine HT.FH o p2 (λz=>r (d.qd.mp z)) (λz=>⟨.ref a,H,I,rfl,n (c.qd.mp z)⟩) (λz=>?_) (by rwa [<-d.length,<-c.length]);refine⟨.ref s.1.1.size,_,I.laid (λb E q=>fC _ q) (fQ _) ?_,rfl,m (λw=>z (c.qd.mpr w)) _ (I.fg.fresh (fQ _))⟩;exact⟨by rwa [gI],_,d.append c,IsTup.new _ _⟩
end
def NZ(n:Nat)(i:Int):Option Nat:=if 0<=i then(if i<n then some i.toNat else none)else if -(n:Int)<=i then some (i+n).toNat else none
def uV(xs:List α)(i:Int):Option α:=(NZ xs.length i).bind λj=>xs[j]?
def HS(h:NZ n i=some j):tR i n=some j/\j<n/\-(n:Int)<=i/\i<n:=by
 unfold NZ at h
 by_cases b:0<=i
 ·rw[fM b]at h
  by_cases a:i<n
  ·rw[fM a]at h;have e:=gV h;exact⟨by rw[seqIndex_of b a,e],by lia,by lia,a⟩
  ·rw[fJ a]at h;cases h
 ·rw[fJ b]at h
  by_cases a:-n<=i
  ·rw[fM a]at h;have e:=gV h;exact⟨by rw[seqIndex_neg (by lia) a,e],by lia,a,by lia⟩
  ·rw[fJ a]at h;cases h
def Gv{xs:List α}(h:uV xs i=some v):∃j,tR i xs.length=some j/\xs[j]?=some v/\j<xs.length/\-(xs.length:Int)<=i/\i<xs.length:=by
 unfold uV at h;cases e:NZ xs.length i with
 |none=>rw[e]at h;cases h
 |some j=>
  rw[e]at h;obtain⟨d,c,b,a⟩:=HS e;exact⟨j,d,h,c,b,a⟩
def wa{α:Type}{xs:List α}{j:Nat}{v:α}(h:xs[j]?=some v):uV xs (j:Int)=some v:=by
 have a:=(List.getElem?_eq_some_iff.mp h).1;have e:NZ xs.length (j:Int)=some j:=by
  unfold NZ;rw[fM (by lia),fM (by lia)];simp
 unfold uV;rwa [e]
def Gr(b:Expr):Prop:=∀o i,subscripted b false o i=operate [o,i] (getItem o i)
def wC(X:Cx)(r:R2):Prop:=
 ∀(value a:Expr)(b:List (Addr×Obj))(s:fP)(σ:St)(H:Hp)(x y:V)(v u:fG)(Q:VK),Inv X b σ H s->RelV x v->RelV y u->r x y H Q->
  subscripted a false v u=operate [v,u] (getItem v u)->gK (gR X.prog X.w) X.A (subscriptTail value a v u) (EP X b σ Q) X.xe s
def UK(X:Cx)(id:String)(r:V->List V->Hp->VK->Prop):Prop:=
 ∀(a:List (Addr×Obj))(s:fP)(σ:St)(H:Hp)(x:V)(xs:List V)(v:fG)(b:List fG)(Q:VK),Inv X a σ H s->RelV x v->Vals xs b->r x xs H Q->
  gK (gR X.prog X.w) X.A (call (.builtin id) (v::b)) (EP X a σ Q) X.xe s
section
variable{X:Cx}{a b:Expr}{ta tb:TE}{pos:Pos}
def wC.or(h:wC X r)(l:wC X j):wC X (λx y H Q=>r x y H Q\/j x y H Q):=by
 intro value c d s σ H x y v u Q I f e q g;obtain q|q:=q
 ·exact h value c d s σ H x y v u Q I f e q g
 ·exact l value c d s σ H x y v u Q I f e q g
def XZ{r:R2}(j:wC X r)(m:PE X a ta)(l:PE X b tb)(g:Gr b):PE X (.Subscript a b pos) (YK r ta tb):=by
 intro c s σ H Q I h;exact Subscript_ (OM m l I h λv u d x y o n f e q=>j a b c d σ o x y v u Q n f e q (g _ _))
inductive xG(K:gA)(x:V)(y:V)(H:Hp)(Q:VK):Prop
 |mk (p xs i v) (_:x=.ref p) (_:y=.int i) (_:i' K H p xs) (_:uV xs i=some v) (_:Q v H):xG K x y H Q
inductive xE(K:gA)(x:V)(y:V)(H:Hp)(Q:VK):Prop
 |mk (p xs i v) (_:x=.ref p) (_:y=.int i) (_:mn K H p xs) (_:uV xs i=some v) (_:Q v H):xE K x y H Q
inductive xF(x:V)(y:V)(H:Hp)(Q:VK):Prop
 |mk (z i c) (_:x=.str z) (_:y=.int i) (_:z.length<=fR) (_:uV z.cps.toList i=some c) (_:Q (.str ⟨#[c]⟩) H):xF x y H Q
def Ht:wC X (xG X.K):=by
 intro value f c s σ H x y v u Q I E C h o;obtain⟨p,xs,i,z,rfl,rfl,G,L,q⟩:=h;cases E;obtain⟨t,rfl⟩:=C;obtain⟨m,r,l,T⟩:=I.list G;obtain⟨j,e,O,Y,N,M⟩:=Gv L;obtain⟨w,B,g⟩:=r.get O;have J:=r.length;have U:=Oc;have d:EP X c σ Q w s:=⟨z,H,I,g,q⟩
 by_cases A:0<=i
 ·have n:i.toNat=j:=by
   rw[seqIndex_of A M]at e;exact gV e
  exact item_listR l.isList A (by lia) (by rw[n];simpa using B) d o
 ·have n:(i+(m.toArray.size:Int)).toNat=j:=by
   rw[seqIndex_neg (by lia) N]at e;rw[hW,<-J];exact gV e
  exact subscriptTail_builtinR l.isList.typeIs slot_list_getitem.lookup
   (wpAny_getItem_list_neg l.isList (by lia) (by rw[hW]<;>lia) (by lia) (by rw[n];simpa using B) ⟨rfl,d⟩) o
def QS:wC X (xE X.K):=by
 intro value c f s σ H x y v u Q I l g h n;obtain⟨p,xs,i,z,rfl,rfl,o,A,q⟩:=h;cases l;obtain⟨t,rfl⟩:=g;obtain⟨m,r,e,E⟩:=I.tuple o;obtain⟨j,N,B,M,L,J⟩:=Gv A;obtain⟨w,C,d⟩:=r.get B;have G:=Oc;exact subscriptTail_builtinR e.typeIs slot_tuple_getitem.lookup
  (getItem_tuple e (by lia) (by lia) (by rwa [hW,<-r.length]) (by simpa using C) ⟨rfl,(⟨z,H,I,d,q⟩)⟩) n
def QT:wC X xF:=by
 intro value d e s σ H x y v u Q I l g h m;obtain⟨z,i,c,rfl,rfl,C,o,q⟩:=h;obtain⟨t,rfl⟩:=l;obtain⟨B,rfl⟩:=g;obtain⟨j,f,A,G,r,p⟩:=Gv o;have n:z.cps.toList.length=z.length:=by simp[Str.length]
 rw[n]at f r p;have E:=Oc;exact tail_any (typeIs_str s z t) slot_str_getitem.lookup (getItem_str (by
  rw[(decide_eq_false (by lia)),(decide_eq_false (by lia)),Bool.or_false]) (by rw[f];simpa using A) ⟨.str ⟨#[c]⟩,H,I.tok _,⟨_,rfl⟩,q⟩) m
def dG(K:gA):R2:=λx y H Q=>xG K x y H Q\/xE K x y H Q\/xF x y H Q
def QU:wC X (dG X.K):=Ht.or (QS.or QT)
def Il(lo c:Option Int)(n:Nat):(qI lo c none n).1=((HT.Lr n 0 lo:Nat):Int)/\(qI lo c none n).2.1=((HT.Lr n n c:Nat):Int)/\(qI lo c none n).2.2=1:=by
 refine⟨?_,?_,rfl⟩
 ·cases lo with
  |none=>simp[qI,HT.Lr]
  |some i=>
   simp only[qI,HT.Lr,Option.getD_none,show 1>0 by decide,if_true]
   by_cases h:i<0
   ·simp only[h,if_true]<;>lia
   ·simp only[h,if_false]<;>lia
 ·cases c with
  |none=>simp[qI,HT.Lr]
  |some i=>
   simp only[qI,HT.Lr,Option.getD_none,show 1>0 by decide,if_true]
   by_cases h:i<0
   ·simp only[h,if_true]<;>lia
   ·simp only[h,if_false]<;>lia
def Fe(c:List fG)(lo d:Option Int):slicePick c.toArray lo d none=((c.drop (HT.Lr c.length 0 lo)).take (HT.Lr c.length c.length d - HT.Lr c.length 0 lo)).toArray:=by
 obtain⟨g,f,e⟩:=Il lo d c.toArray.size;unfold slicePick;rw[g,f,e];simp only[sliceRange_one,pick_run,hW]<;>rfl
inductive yJ(K:gA)(x:V)(lo:Option Int)(hi:Option Int)(H:Hp)(Q:VK):Prop
 |mk (a xs) (_:x=.ref a) (_:i' K H a xs) (_:∀p,H p=none->Q (.ref p) (upd H p (.lst (Xl xs lo hi)))):yJ K x lo hi H Q
def LP:dR X (yJ X.K):=by
 intro d s σ H x v u p lo o y Q I f n g pu h;obtain⟨a,xs,rfl,m,q⟩:=h;cases f;obtain⟨j,r,e,l⟩:=I.list m;have c:=r.length;refine⟨"list",_,slot_list_getitem.lookup,e.isList.typeIs,?_⟩;refine wpAny_getItem_list_slice e.isList n g pu .none (by simp) ?_ (by rw[hW]<;>lia);rw[Fe,<-c];refine⟨.ref s.1.1.size,_,I.laid (λb z q=>fC _ q) (fQ _) ?_,rfl,q _ (I.fg.fresh (fQ _))⟩;exact⟨iU (Jt xs lo o) l,_,0,(r.drop _).take _,fO _ rfl⟩
def jo.or(h:jo X f r)(j:jo X f g):jo X f (λxs H Q=>r xs H Q\/g xs H Q):=by
 intro c s σ H xs d Q I e q;obtain q|q:=q
 ·exact h c s σ H xs d Q I e q
 ·exact j c s σ H xs d Q I e q
def Gx:jo X (.type "list") (λxs H Q=>∃p f,xs=[.ref p]/\(i' X.K H p f\/mn X.K H p f)/\∀l,H l=none->Q (.ref l) (upd H l (.lst f))):=by
 intro m s σ H xs L Q I r h;obtain⟨p,f,rfl,y,q⟩:=h;obtain⟨u,rfl,J⟩:=j8 r;cases J;have A:∀(c:List fG),Vals f c->f.length<=fR->∀(d:Heap)(j:Nat),_->
   d.get? s.1.1.size=some {cls:=.type "list",dict:=none,data:=.seq c.toArray j,slots:=#[]}->EP X m σ Q _ {s with heap:=d}:=λc g x d j v e=>
  ⟨.ref s.1.1.size,_,I.laid v (fQ _) (show kb X.prog X.w _ d _ (.lst f)from⟨x,c,j,g,e⟩),rfl,q _ (I.fg.fresh (fQ _))⟩
 obtain y|y:=y
 ·obtain⟨c,g,B,x⟩:=I.list y;have z:=g.length;obtain⟨o,C,G,n,E⟩:=B.isList;exact call_list_seq p (.inl rfl) C G E (λd j v e=>A c g x d j v e) (by simp only[hW]<;>lia)
 ·obtain⟨c,g,B,x⟩:=I.tuple y;have z:=g.length;obtain⟨o,C,G,n,E⟩:=B;exact call_list_seq p (.inr rfl) C G E (λd j v e=>A c g x d j v e) (by simp only[hW]<;>lia)
def E1:jo X (.type "tuple") (λxs H Q=>∃p c,xs=[.ref p]/\((i' X.K H p c/\∀l,H l=none->Q (.ref l) (upd H l (.tup c)))\/(mn X.K H p c/\Q (.ref p) H))):=by
 intro m s σ H xs B Q I r h;obtain⟨p,c,rfl,h⟩:=h;obtain⟨u,rfl,y⟩:=j8 r;cases y;obtain ⟨j,q⟩|⟨j,q⟩:=h
 ·obtain⟨d,f,g,n⟩:=I.list j;have v:=f.length;refine call_tuple_list g.isList (λA z=>?_) (by simp only[hW]<;>lia);have x:=I.kept (t':=s.toks) z;exact⟨.ref A.objs.size,_,(x.laid (λb o e=>fC _ e) (fQ _) (show kb X.prog X.w _ _ _ (.tup c)from⟨n,d,f,IsTup.new _ _⟩)),rfl,q _ (x.fg.fresh (fQ _))⟩
 ·obtain⟨d,f,g,n⟩:=I.tuple j;exact call_tuple_same g ⟨.ref p,H,I,rfl,q⟩
def aQ(K:gA)(T:String)(x:V)(H:Hp):Prop:=match x with
 |.str _=>T="str"
 |.int _=>T="int"
 |.ref p=>(T="list"/\∃xs,i' K H p xs)\/(T="tuple"/\∃o,K.lookup p=some o/\o.cls=.type "tuple"/\o.dict=none)\/
   (T="dict"/\((∃c,H p=some (.dK c))\/∃c,H p=some (.dT c)))\/(T="set"/\∃S n,H p=some (.set S n))
 |_=>False
def DA(I:Inv X m σ H s)(r:RelV x v)(ty:aQ X.K T x H):
  s.TypeIs v T/\∀a,v=.ref a->∃q,s.1.get? a=some q/\q.dict=none:=by
 cases x with
 |str z=>
  obtain⟨t,rfl⟩:=r;cases (ty);exact⟨typeIs_str s z t,λ_ e=>nomatch e⟩
 |int i=>
  obtain⟨t,rfl⟩:=r;cases (ty);exact⟨typeIs_int s i t,λ_ e=>nomatch e⟩
 |ref p=>
  cases r;obtain ⟨rfl,xs,y⟩|⟨rfl,o,d,A,h⟩|⟨rfl,d⟩|⟨rfl,S,n,d⟩:=ty
  ·obtain⟨u,_,l,_⟩:=I.list y;refine⟨l.isList.typeIs,λa e=>?_⟩;cases e;obtain⟨o,n,e,c,h,_⟩:=l;exact⟨o,e,h⟩
  ·refine⟨⟨o,I.q7 p o d,A⟩,λa e=>?_⟩;cases e;exact⟨o,I.q7 _ o d,h⟩
  ·have z:∃o,s.1.get? p=some o/\o.ExactDict:=by
    obtain ⟨g,d⟩|⟨g,d⟩:=d
    ·obtain⟨_,_,_,_,o,_,_,e,f,_⟩:=I.fg p _ d;exact⟨o,e,f⟩
    ·obtain⟨_,_,_,_,o,_,_,e,f,_⟩:=I.fg p _ d;exact⟨o,e,f⟩
   obtain⟨o,e,f⟩:=z;refine⟨⟨o,e,f.1⟩,λa j=>?_⟩;cases j;exact⟨o,e,f.2.1⟩
  ·obtain⟨o,_,_,_,e,f,_⟩:=I.fg p _ d;refine⟨⟨o,e,f.1⟩,λa j=>?_⟩;cases j;exact⟨o,e,f.2.1⟩
 |_=>exact kH ty
def cO(K:gA)(T:String)(r:V->List V->Hp->VK->Prop)(d:TE):TE:=λσ H Q=>d σ H λx c=>aQ K T x c/\r x [] c Q
def eK(K:gA)(T:String)(r:V->List V->Hp->VK->Prop)(d:TE)(t:TA):TE:=λσ H Q=>d σ H λx c=>aQ K T x c/\t σ c λxs e=>r x xs e Q
variable{o e:Expr}{es:List Expr}{to:TE}{t:TA}{name:Str}{apos n5:Pos}{T id:String}{r:V->List V->Hp->VK->Prop}
def RW(p:PlainAttrs T)(slot:Slot T name id)(g:typeOf (.builtin id)=pure (.type "method_descriptor"))(u:UK X id r)(q:PE X o to)
  (f:mY o name X.env (eval o X.env)=eval o X.env:=by rfl)(d:(apos.endLine==n5.line)=true:=by rfl):PE X (.Call (.Attribute o name apos) [] [] n5) (cO X.K T r to):=by
 intro c s σ H Q I h;refine wpAny_Call_method0_late f d (gp (q c s σ H _ I h) λv m ⟨x,A,l,j,ty,n⟩=>?_);obtain⟨z,y⟩:=DA l j ty;exact⟨T,id,p,slot,g,z,y,lP rfl (PySem.evalArgs_none (u c m σ A x [] v [] Q l j .nil n))⟩
def A9(E:PlainAttrs T)(slot:Slot T name id)(l:typeOf (.builtin id)=pure (.type "method_descriptor"))(L:UK X id r)(J:PE X o to)(M:PA X (e::es) t)
  (g:mY o name X.env (eval o X.env)=eval o X.env:=by rfl)
  (j:((lJ n5 (gQ (e::es) X.env)).all (λx=> !x.1) && (qO n5 (nS [] X.env)).all (λx=>x.1.isSome)
   && decide ((e::es).length+([]:List mS).length+(if([]:List mS).isEmpty then 0 else 1)<30))=true:=by rfl)
  (f:(apos.endLine==n5.line)=true:=by rfl) (G:gQ (e::es) X.env=(false,eval e X.env)::gQ es X.env:=by rfl) (d:(lJ n5 (gQ es X.env)).any (·.1)=false:=by rfl):
  PE X (.Call (.Attribute o name apos) (e::es) [] n5) (eK X.K T r to t):=by
 intro c s σ H Q I h;refine wpAny_Call_method_late g j f rfl (gp (J c s σ H _ I h) λv z ⟨x,H1,p,m,ty,C⟩=>?_);obtain⟨O,N⟩:=DA p m ty;refine⟨T,id,E,slot,l,O,N,?_⟩;have n:=M n5 c z σ H1 _ p C;rw[G]at n⊢;refine lP (by show(false||(lJ n5 _).any _)=false;rw[d]<;>rfl) (pB ?_);exact gp n (by rintro u y ⟨q,Y,U,A,B⟩;exact L c y σ Y x q v u Q U m A B)
end
def bR(X:Cx)(id:String)(r:V->List V->Hp->VK->Prop):Prop:=
 ∀(a:List (Addr×Obj))(s:fP)(σ:St)(H:Hp)(x:V)(xs:List V)(v:fG)(b:List fG)(Q:VK),Inv X a σ H s->RelV x v->Vals xs b->r x xs H Q->
  gK (gR X.prog X.w) X.A (call (.builtin id) (v::b)) (EP X a σ Q) X.xe s
def Vals.one:∀{x:V}{a:List fG},Vals [x] a->∃u,a=[u]/\RelV x u
 |_,_,.cons r .nil=>⟨_,rfl,r⟩
def Vals.zero:∀{a:List fG},Vals [] a->a=[]
 |_,.nil=>rfl
theorem Vals.eraseIdx:∀{xs:List V}{a:List fG}(i:Nat),Vals xs a->Vals (xs.eraseIdx i) (a.eraseIdx i)
 |_,_,_,.nil=>.nil
 |_,_,0,.cons _ t=>t
 |_,_,i+1,.cons r t=>.cons r (Vals.eraseIdx i t)
theorem F6:∀(l:List α)(i:Nat),(l.eraseIdx i).length<=l.length
 |[],_=>fQ _
 |_::_,0=>pA _
 |_::r,i+1=>Nat.succ_le_succ (F6 r i)
section
variable{X:Cx}{pins:List (Addr×Obj)}{σ:St}{H:Hp}{s:fP}{l b:Addr}{xs ys zs:List V}
def Inv.xN{c a:List fG}{n:Nat}{f:Array fG->Array fG}{d:Nat}(I:Inv X pins σ H s)(p:H l=some (.lst xs))
  (e:s.1.get? l=some {cls:=.type "list",data:=.seq c.toArray n})(m:f c.toArray=a.toArray)(h:Vals ys a)(g:ys.length<=fR):
  Inv X pins σ (upd H l (.lst ys)) {s with heap:=s.1.update l (sS f),toks:=d}:=by
 have q:=PySem.IsL.update e f;rw[m]at q;refine I.write (by rw[p];exact trivial) (.inl rfl) (λr u o j=>(kI s.1 _ (kS o)).trans j) ⟨_,q⟩ ?_;exact⟨g,a,_,h,q⟩
def Inv.zR(I:Inv X pins σ H s)(d:Vals ys a)(c:ys.length<=fR):
  Inv X pins σ (upd H s.1.1.size (.lst ys)) {s with heap:=s.1.push {cls:=.type "list",data:=.seq a.toArray},toks:=e}:=
 I.laid (λ_ _ q=>fC _ q) (fQ _) ⟨c,a,0,d,fO _ rfl⟩
def Inv.fresh(I:Inv X pins σ H s):H s.1.1.size=none:=I.fg.fresh (fQ _)
def Inv.xM(I:Inv X pins σ H s)(c:H l=some (.lst xs)):xs.length<=fR/\∃(a:List fG) (n:Nat),Vals xs a/\xs.length=a.length/\s.1.get? l=some {cls:=.type "list",data:=.seq a.toArray n}:=by
 obtain⟨z,a,n,r,e⟩:=I.fg l _ c;exact⟨z,a,n,r,r.length,e⟩
def Zy(h:n<=fR):pW n=false:=decide_eq_false (by lia)
end
section
variable{X:Cx}
inductive vH(x:V)(vs:List V)(H:Hp)(Q:VK):Prop
 |mk (l xs y) (_:x=.ref l) (_:vs=[y]) (_:H l=some (.lst xs)) (_:xs.length<fR) (_:Q .g8 (upd H l (.lst (xs++[y])))):vH x vs H Q
def wm:bR X "list.append" vH:=by
 intro b s σ H x j v m Q I d f h;obtain⟨l,xs,y,rfl,rfl,c,o,q⟩:=h;cases d;obtain⟨u,rfl,g⟩:=f.one;obtain⟨z,a,n,r,p,e⟩:=I.xM c;refine uC F.slot_list_append ⟨_,e,rfl⟩ F.entry_list_append (F.args_list_append_2 _ _) (PySem.list_append l a.toArray n u (by rw[hW];lia)) ⟨e,?_⟩;refine⟨.g8,_,I.xN c e (by simp) (r.append (.cons g .nil)) ?_,rfl,q⟩;rw[gI,rE]
 lia
inductive vU(x:V)(vs:List V)(H:Hp)(Q:VK):Prop
 |mk (l xs i k y) (_:x=.ref l) (_:vs=[.int i]) (_:H l=some (.lst xs)) (_:-(2 ^ 63)<=i) (_:i<2 ^ 63) (_:tR i xs.length=some k) (_:xs[k]?=some y) (_:Q y (upd H l (.lst (xs.eraseIdx k)))):vU x vs H Q
def Zl:bR X "list.pop" vU:=by
 intro c s σ H x B v C Q I f g h;obtain⟨l,xs,i,k,y,rfl,rfl,d,A,p,G,m,q⟩:=h;cases f;obtain⟨u,rfl,j⟩:=g.one;obtain⟨t,rfl⟩:=j;obtain⟨z,b,n,r,o,e⟩:=I.xM d;obtain⟨w,E,a⟩:=r.get m;refine uC F.slot_list_pop ⟨_,e,rfl⟩ F.entry_list_pop (F.args_list_pop_2 _ _)
  (MeetsSeq.list_pop_at l b.toArray n i t k w (fitsIndex_both A p) (by rwa [hW,<-o]) (by rwa [<-gZ]) (by rw[hW];lia)) ⟨e,?_⟩
 refine⟨y,_,I.xN d e ?_ (r.eraseIdx k) ?_,a,q⟩
 ·rw[List.eraseIdxIfInBounds_toArray]
 ·have:=F6 xs k
  lia
end
section
variable{κ:Type}[DecidableEq κ]
def i8(a:List (κ×V))(k:κ):Option V:=(a.find? λb=>decide (b.1=k)).map (·.2)
noncomputable def jm(a:List (κ×V))(k:κ)(v:V):List (κ×V):=
 if(a.any λb=>decide (b.1=k))=true then a.map (λb=>if b.1=k then(b.1,v)else b)else a++[(k,v)]
def Mc:i8 ([]:List (κ×V)) k=none:=rfl
def o3{k:κ}(e:p.1=k):i8 (p::r) k=some p.2:=by simp[i8,nP,e]
def j7{k:κ}(e:¬p.1=k):i8 (p::r) k=i8 r k:=by simp[i8,nP,e]
def Mb(k:κ):∀a:List (κ×V),(a.any λc=>decide (c.1=k))=(i8 a k).isSome:=by
 intro b;induction b with
 |nil=>exact rfl
 |cons p r d=>
  rw[mB]
  by_cases e:p.1=k
  ·simp only[o3 e,decide_eq_true e,Bool.true_or,Option.isSome_some]
  ·rwa [j7 e,decide_eq_false e,Bool.false_or]
def l6(a:List (κ×V))(k:κ)(v:V):(jm a k v).length<=a.length+1:=by
 unfold jm;split
 ·rw[fF];lia
 ·rw[gI,fI,jM];lia
def pa.nz{o:Option V}{u:Option fG}(r:pa o u):o.isSome=u.isSome:=by
 cases o with
 |none=>cases u with
  |none=>rfl
  |some _=>exact(r).elim
 |some _=>cases u with
  |none=>exact(r).elim
  |some _=>rfl
def pa.getD{o:Option V}{u:Option fG}(r:pa o u)(a:RelV d b):RelV (o.getD d) (u.getD b):=by
 cases o with
 |none=>cases u with
  |none=>exact a
  |some _=>exact(r).elim
 |some _=>cases u with
  |none=>exact(r).elim
  |some _=>exact r
def KV.val(r:KV c g)(k:κ):pa (i8 c k) (valueAt g k):=by
 induction r with
 |nil=>exact lN
 |@cons p q j a h t l=>
  obtain⟨f,m⟩:=h
  by_cases e:p.1=k
  ·have d:=f.symm.trans e;have b:valueAt (q::a) k=some q.2:=by simp[valueAt,nP,d]
   rwa [o3 e,b]
  ·have d:¬q.1=k:=λz=>e (f.trans z);have b:valueAt (q::a) k=valueAt a k:=by simp[valueAt,nP,d]
   rwa [j7 e,b]
def KV.any{a:List (κ×V)}{c:List (κ×fG)}(r:KV a c)(k:κ):(a.any λb=>decide (b.1=k))=c.any λb=>decide (b.1=k):=by
 induction r with
 |nil=>rfl
 |cons h t d=>rw[mB,mB,d,h.1]
def KV.vB(r:KV c d)(k:κ)(f:RelV y u):
  KV (c.map λa=>if a.1=k then(a.1,y)else a) (d.map λa=>if a.1=k then(a.1,u)else a):=by
 induction r with
 |nil=>exact .nil
 |@cons p q m l h t g=>
  rw[fL,fL];refine .cons ?_ g;obtain⟨b,j⟩:=h
  by_cases e:p.1=k
  ·rw[fM e,fM (b.symm.trans e)];exact⟨b,f⟩
  ·rw[fJ e,fJ (λz=>e (b.trans z))];exact⟨b,j⟩
def KV.put(r:KV a b)(k:κ)(c:RelV y u):KV (jm a k y) (stored b k u):=by
 unfold jm stored;rw[r.any k]
 by_cases e:(b.any λd=>decide (d.1=k))=true
 ·rw[fM e,fM e];exact r.vB k c
 ·rw[fJ e,fJ e];exact Paired.snoc r ⟨rfl,c⟩
def KV.length{a:List (κ×V)}{b:List (κ×fG)}(r:KV a b):a.length=b.length:=mW r
end
def za(r:RelV (kV k) u):(a0 P w).is k u=true:=by
 cases k with
 |inl i=>obtain⟨t,e⟩:=(r);subst e;exact K0 P w i t
 |inr x=>obtain⟨t,e⟩:=(r);subst e;exact K1 P w x t
def Ua:∀{b:List gd}{d:List fG},Vals (b.map kV) d->ItemsAre (a0 P w) b d:=by
 intro a;induction a with
 |nil=>rintro _ r;cases r;exact .nil
 |cons k b c=>
  rintro _ r
  cases r with
  |cons h t=>exact .cons (za h) (c t)
abbrev KT(H:Hp):List (aq×V)->List (aq×Addr×fG)->Prop:=Paired λp q=>p.1=q.1/\lz H p.1 q.2.1/\RelV p.2 q.2.2
def KT.val(r:KT H c xs)(k:aq):pa (i8 c k) ((uH xs k).map (·.2)):=by
 induction r with
 |nil=>exact lN
 |@cons p q g a h t j=>
  obtain⟨f,_,l⟩:=h
  by_cases e:p.1=k
  ·have d:=f.symm.trans e;have b:uH (q::a) k=some q.2:=by simp[uH,nP,d]
   rwa [o3 e,b]
  ·have d:¬q.1=k:=λz=>e (f.trans z);have b:uH (q::a) k=uH a k:=by simp[uH,nP,d]
   rwa [j7 e,b]
def KT.vB(r:KT H b xs)(k:aq)(f:RelV y u):
  KT H (b.map λc=>if c.1=k then(c.1,y)else c) (xs.map (putAt k u)):=by
 induction r with
 |nil=>exact .nil
 |@cons p q m l h t g=>
  rw[fL,fL];refine .cons ?_ g;obtain⟨a,d,j⟩:=h;unfold putAt
  by_cases e:p.1=k
  ·rw[fM e,fM (a.symm.trans e)];exact⟨a,d,f⟩
  ·rw[fJ e,fJ (λz=>e (a.trans z))];exact⟨a,d,j⟩
def KT.put(r:KT H a xs)(k:aq)(f:lz H k b)(c:RelV y u):
  KT H (jm a k y) (storedH xs k b u):=by
 have e:(a.any λd=>decide (d.1=k))=(uH xs k).isSome:=by
  rw[Mb,(r.val k).nz,sZ]
 unfold jm storedH;rw[e]
 by_cases q:(uH xs k).isSome=true
 ·rw[fM q,fM q];exact r.vB k c
 ·rw[fJ q,fJ q];exact Paired.snoc r ⟨rfl,f,c⟩
def KT.keeps(r:KT H a xs)(d:∀b c,H b=some (.tup c)->e b=some (.tup c)):KT e a xs:=
 Paired.xK r λ_ _ z=>⟨z.1,z.2.1.mono d,z.2.2⟩
section
variable{P:gX}{w:iI}{H:Hp}{h:Heap}{a:Addr}
def NT(ok:n0 P w H h)(e:Rd H a u):kb P w H h a u:=e.ok ok
def Cw{b:List (gd×V)}(ok:n0 P w H h)(e:Rd H a (.dK b)):b.length<=fR/\(a==lF)=false/\∃c,KV b c/\h.DictOf (a0 P w) a c:=
 NT ok e
def Fo{b:List (gd×V)}(ok:n0 P w H h)(e:H a=some (.dK b)):b.length<=fR/\(a==lF)=false/\∃c,KV b c/\h.DictOf (a0 P w) a c:=Cw ok (.inl e)
def HK{c:List gd}(ok:n0 P w H h)(e:H a=some (.tup (c.map kV))):oF (a0 P w) h c a:=by
 obtain⟨_,b,r,o,g,f,n,d⟩:=(ok a _ e);exact⟨o,b.toArray,n,g,f,d,by simpa using Ua r⟩
theorem ye(ok:n0 P w H h):∀{f:aq}{c:List V}{d:List fG},wL H f c->Vals c d->gL P w h f d
 |[],c,d,e,r=>by rw[e]at r;cases r;exact rfl
 |.inl k::f,c,d,j,r=>by
  obtain⟨v,t,e,q,m⟩:=j;subst e;cases r with
  |cons n l=>exact⟨_,_,rfl,za (by rwa [<-q]),ye ok m l⟩
 |.inr p::f,c,d,g,r=>by
  obtain⟨v,t,e,⟨b,o,q⟩,m⟩:=g;subst e o;cases r with
  |cons n l=>exact⟨_,_,rfl,⟨b,n,HK ok q⟩,ye ok m l⟩
def sr(ok:n0 P w H h)(e:lz H d a):(ar P w).is h d a:=by
 obtain⟨l,e,c⟩:=e;obtain⟨_,b,r,o,j,g,n,f⟩:=(ok a _ e);exact⟨o,b.toArray,n,j,g,f,by simpa using ye ok c r⟩
def Cy{b:List (aq×V)}(ok:n0 P w H h)(e:Rd H a (.dT b)):b.length<=fR/\(a==lF)=false/\
  ∃xs,KT H b xs/\h.DictOfH (ar P w) a xs:=by
 obtain⟨z,y,xs,r,o,A,B,v,u,n,j,g⟩:=(NT ok e);refine⟨z,y,xs,r,o,A,B,v,u,n,j,λx c=>?_,g⟩;have all:∀{l:List _}{m:List _},KT H l m->∀x∈m,(ar P w).is h x.1 x.2.1:=by
  intro l m q;induction q with
  |nil=>intro x c;exact nomatch c
  |@cons p q E C d t f=>
   intro x c;rcases List.mem_cons.mp c with e|c
   ·subst e;exact sr ok (by rw[<-d.1];exact d.2.1)
   ·exact f x c
 exact all r x c
def P8{b:List (aq×V)}(ok:n0 P w H h)(e:H a=some (.dT b)):b.length<=fR/\(a==lF)=false/\
  ∃xs,KT H b xs/\h.DictOfH (ar P w) a xs:=Cy ok (.inl e)
end
def p5(H:Hp)(a:Addr)(y:V)(r:Option V):Prop:=
 (∃c k,Rd H a (.dK c)/\y=kV k/\r=i8 c k)\/∃c k b,Rd H a (.dT c)/\y=.ref b/\lz H k b/\r=i8 c k
def vu(H:Hp)(a:Addr)(y v:V)(d:Hp):Prop:=
 (∃c k,H a=some (.dK c)/\y=kV k/\c.length<fR/\d=upd H a (.dK (jm c k v)))\/
 ∃c k b,H a=some (.dT c)/\y=.ref b/\lz H k b/\c.length<fR/\d=upd H a (.dT (jm c k v))
def p5.k{k:gd}(e:H a=some (.dK b)):p5 H a (kV k) (i8 b k):=.inl ⟨b,k,.inl e,rfl,rfl⟩
def vu.k{H:Hp}{a:Addr}{b:List (gd×V)}{k:gd}{v:V}(e:H a=some (.dK b))(c:b.length<fR):vu H a (kV k) v (upd H a (.dK (jm b k v))):=.inl ⟨b,k,e,rfl,c,rfl⟩
def vu.t{H:Hp}{a b:Addr}{c:List (aq×V)}{k:aq}{v:V}(e:H a=some (.dT c))(f:lz H k b)(d:c.length<fR):
  vu H a (.ref b) v (upd H a (.dT (jm c k v))):=.inr ⟨c,k,b,e,rfl,f,d,rfl⟩
section
variable{X:Cx}{pins:List (Addr×Obj)}{σ:St}{H:Hp}{s:fP}{a:Addr}{y v:V}{u r:fG}{o:Option V}{A:iR}{E:fG->fP->Prop}
def Inv.big(I:Inv X pins σ H s):lF<s.1.1.size:=Nat.lt_trans (by decide) ((I.mod.glob.keeps I.bk).lt)
def Ta(C:A.units+5<jS)(I:Inv X pins σ H s)(g:p5 H a y (some v))(B:RelV y u)(h:∀d x,Inv X pins σ H x->RelV v d->Q d x):
  gK (gR X.prog X.w) A (getItem (.ref a) u) Q E s:=by
 obtain ⟨f,k,e,n,l⟩|⟨f,k,b,e,n,L,l⟩:=g
 ·subst n;obtain⟨z,J,M,rel,q⟩:=Cw I.fg e;obtain⟨d,j,c⟩:=pa.some_of (by rw[l];exact rel.val k);exact wpAny_getItem_of (za B) q.mapOf j (h d _ (I.tok _) c)
 ·subst n;cases (B);obtain⟨z,J,xs,rel,q⟩:=Cy I.fg e;obtain⟨d,j,c⟩:=pa.some_of (by rw[l];exact rel.val k);obtain⟨p,G,m⟩:=Option.map_eq_some_iff.mp j;refine wpAny_getItem_heap (e8 C) (sr I.fg L) q G ?_;rw[m];exact h d _ (I.tok _) c
def bM(p:A.units+5<jS)(I:Inv X pins σ H s)(g:p5 H a y o)(n:RelV y u)(h:∀m,Inv X pins σ H m->Q (.bool o.isSome) m):
  gK (gR X.prog X.w) A (jF .In u (.ref a)) Q E s:=by
 obtain ⟨c,k,e,f,l⟩|⟨c,k,b,e,f,x,l⟩:=g
 ·subst f;obtain⟨z,d,B,rel,j⟩:=Cw I.fg e;refine wpAny_in_of (za n) d j.mapOf ?_;rw[<-(rel.val k).nz,<-l];exact h _ (I.tok _)
 ·subst f;cases (n);obtain⟨z,d,xs,rel,j⟩:=Cy I.fg e;refine wpAny_in_heap (e8 p) (sr I.fg x) d j ?_;have q:=(rel.val k).nz;rw[sZ]at q;rw[<-q,<-l];exact h _ (I.tok _)
def FB(p:A.units+5<jS)(I:Inv X pins σ H s)(g:p5 H a y o)(n:RelV y u)(h:∀m,Inv X pins σ H m->Q (.bool (!o.isSome)) m):
  gK (gR X.prog X.w) A (jF .NotIn u (.ref a)) Q E s:=by
 obtain ⟨c,k,e,f,l⟩|⟨c,k,b,e,f,x,l⟩:=g
 ·subst f;obtain⟨z,d,B,rel,j⟩:=Cw I.fg e;refine wpAny_notIn_of (za n) d j.mapOf ?_;rw[<-(rel.val k).nz,<-l];exact h _ (I.tok _)
 ·subst f;cases (n);obtain⟨z,d,xs,rel,j⟩:=Cy I.fg e;refine wpAny_notIn_heap (e8 p) (sr I.fg x) d j ?_;have q:=(rel.val k).nz;rw[sZ]at q;rw[<-q,<-l];exact h _ (I.tok _)
def yz{c:Heap}(I:Inv X pins σ H s)(e:VS (H a))(f:iJ a s.1 c)(g:∃q,c.get? a=some q)(new:kb X.prog X.w (upd H a d) c a d):
  Inv X pins σ (upd H a d) {s with heap:=c,toks:=j}:=
 I.write e (.inl rfl) (λb q h z=>(f.2 b h).trans z) g new
def Xt{d:Heap}{b:List (gd×V)}(z:b.length<=fR)(e:(a==lF)=false)(rel:KV b c)(f:d.DictOf (a0 P w) a c):
  kb P w g d a (.dK b):=⟨z,e,c,rel,f⟩
def Tb{O:Hp}{Q:Unit->fP->Prop}(Y:A.units+5<jS)(I:Inv X pins σ H s)(g:vu H a y v O)(J:RelV y u)(L:RelV v r)(h:∀G,Inv X pins σ O G->Q () G):
  gK (gR X.prog X.w) A (setItem (.ref a) u r) Q E s:=by
 obtain ⟨d,k,e,x,l,B⟩|⟨d,k,b,e,x,N,l,B⟩:=g
 ·subst x B;obtain⟨z,p,T,rel,C⟩:=Fo I.fg e;have U:T.length<=fR:=by rwa [<-rel.length]
  have n:(jm d k v).length<=fR:=by have:=l6 d k v;lia
  refine wpAny_setItem_pairs (za J) C λM f m=>h _ ?_;have he:∃q,M.get? a=some q:=let ⟨q,_,_,j,_⟩:=f;⟨q,j⟩;exact yz I (by rw[e];exact lN) m he (Xt n p (rel.put k L) f)
 ·subst x B;cases (J);obtain⟨z,p,xs,rel,C⟩:=P8 I.fg e;have U:xs.length<=fR:=by rwa [<-mW rel]
  have n:(jm d k v).length<=fR:=by have:=l6 d k v;lia
  refine wpAny_setItem_heap (e8 Y) (sr I.fg N) C λM f m=>h _ ?_;obtain⟨q,es,ep,j,h2,h3,h4,_,h5⟩:=f;refine yz I (by rw[e];exact lN) m ⟨q,j⟩ ⟨n,p,_,(rel.put k N L).keeps λc ys ec=>?_,q,es,ep,j,h2,h3,h4,h5⟩;rwa [ag (Zp ec e (λz=>nomatch z))]
end
def Jw{s:fP}(I:Inv X f σ H s)(g:p5 H a y o):s.TypeIs (.ref a) "dict":=by
 obtain ⟨c,k,e,_,_⟩|⟨c,k,b,e,_,_,_⟩:=g
 ·obtain⟨_,_,h,_,d⟩:=Cw I.fg e;exact d.typeIs
 ·obtain⟨_,_,xs,_,d⟩:=Cy I.fg e;exact d.typeIs
def XE(d ty c:TE):TS:=λD σ H=>c σ H λv g=>d σ g λx f=>ty σ f λy e=>∃a b,x=.ref a/\vu e a y v b/\D.nx σ b
section
variable{X:Cx}{o i e value:Expr}{pos pos' zB:Pos}{td ty tv:TE}
def Rj(z:X.A.units+5<jS)(C:PE X o td)(E:PE X i ty)(q:PE X value tv)(B:mG value (some (.Subscript o i pos')) pos.line X.env=pure false):
  PS X (.Assign [.Subscript o i pos'] value pos) (XE td ty tv):=by
 intro b s σ H D I h;refine wpAny_Assign_Subscript (gp (q b s σ H _ I h) λr d ⟨v,T,N,l,p⟩=>gp (C b d σ T _ N p) λu c ⟨x,Q,M,j,n⟩=>gp (E b c σ Q _ M n) λiv Y ⟨y,H3,L,f,a,O,G,g,m⟩=>?_) B;subst G;obtain rfl:u=kN a:=j;exact Tb z L g f l λU J=>⟨σ,O,J,m⟩
end
def Xs(h:Heap)(a:lF<h.objs.size):kb P w H (h.push {cls:=.type "dict",data:=.dict #[]}) h.objs.size (.dK []):=
 ⟨iO _,beq_eq_false_iff_ne.mpr (kS (hU a)),[],.nil,Heap.DictOf.new h⟩
def Jx(h:Heap)(a:lF<h.objs.size):kb P w H (h.push {cls:=.type "dict",data:=.dict #[]}) h.objs.size (.dT []):=
 ⟨iO _,beq_eq_false_iff_ne.mpr (kS (hU a)),[],.nil,_,#[],0,fO _ rfl,⟨rfl,rfl,rfl⟩,rfl,rfl,lQ⟩
def DU:TE:=λ_ H Q=>∀p,H p=none->Q (.ref p) (upd H p (.dK []))
def DT:TE:=λ_ H Q=>∀p,H p=none->Q (.ref p) (upd H p (.dT []))
section
variable{X:Cx}{pos:Pos}
def Lb:PE X (.Dict [] [] pos) DU:=λa s σ H Q I h=>
 wpAny_Dict_empty ⟨.ref s.1.1.size,_,I.laid (t':=s.toks) (λ_ _ q=>fC _ q) (fQ _) (Xs s.1 I.big),rfl,h _ (I.fg.fresh (fQ _))⟩
def AM:PE X (.Dict [] [] pos) DT:=λa s σ H Q I h=>
 wpAny_Dict_empty ⟨.ref s.1.1.size,_,I.laid (t':=s.toks) (λ_ _ q=>fC _ q) (fQ _) (Jx s.1 I.big),rfl,h _ (I.fg.fresh (fQ _))⟩
end
def Ao(b a:List (gd×V)):List (gd×V):=a.foldl (λc d=>jm c d.1 d.2) b
def KV.merge:∀{a:List (gd×V)}{d:List (gd×fG)}{b:List (gd×V)}{c:List (gd×fG)},KV a d->KV b c->KV (Ao b a) (merged c d):=by
 intro a d b c r;induction r generalizing b c with
 |nil=>intro q;exact q
 |@cons p q l j h t g=>
  intro f;have e:KV (jm b p.1 p.2) (stored c q.1 q.2):=by
   have:=f.put p.1 h.2;rwa [<-h.1]
  exact g e
def E9:∀(b a:List (gd×V)),(Ao a b).length<=a.length+b.length:=by
 intro c;induction c with
 |nil=>rintro a;show a.length<=a.length+0;lia
 |cons p r d=>
  rintro a
  have f:=d (jm a p.1 p.2);have e:=l6 a p.1 p.2;show(Ao (jm a p.1 p.2) r).length<=_;rw[fI];lia
structure M2(X:Cx)(o:Expr)(m:Str)(apos:Pos)(e f:Expr)(n5:Pos):Prop where
 base:mY o m X.env (eval o X.env)=eval o X.env
 L':((lJ n5 (gQ [e,f] X.env)).all (λx=> !x.1) && (qO n5 (nS [] X.env)).all (λx=>x.1.isSome)
  && decide (([e,f]:List Expr).length+([]:List mS).length+(if([]:List mS).isEmpty then 0 else 1)<30))=true
 line:(apos.endLine==n5.line)=true
 trees:lJ n5 (gQ [e,f] X.env)=[(false,eval e X.env),(false,eval f X.env)]
def dU(H:Hp)(a:Addr):Prop:=(∃b,Rd H a (.dK b))\/∃b,Rd H a (.dT b)
def Nu(I:Inv X m σ H s)(d:dU H a):
  s.TypeIs (.ref a) "dict"/\(∀b,kN a=.ref b->∃c,s.1.get? b=some c/\c.dict=none)/\(a==lF)=false:=by
 obtain ⟨g,e⟩|⟨g,e⟩:=d
 ·obtain⟨_,h,n,_,f⟩:=Cw I.fg e;refine⟨f.typeIs,λb q=>?_,h⟩;cases q;obtain⟨c,_,_,l,j,_⟩:=f;exact⟨c,l,j.2.1⟩
 ·obtain⟨_,h,xs,_,f⟩:=Cy I.fg e;refine⟨f.typeIs,λb q=>?_,h⟩;cases q;obtain⟨c,_,_,l,j,_⟩:=f;exact⟨c,l,j.2.1⟩
section
variable{X:Cx}{pins:List (Addr×Obj)}{σ:St}{H:Hp}{s:fP}{a:Addr}{y d:V}{u r:fG}{o:Option V}{A:iR}{E:fG->fP->Prop}
def OD(x:A.units+5<jS)(I:Inv X pins σ H s)(g:p5 H a y o)(q:RelV y u)(v:RelV d r)(h:∀n p,Inv X pins σ H p->RelV (o.getD d) n->Q n p):
  gK (gR X.prog X.w) A (call (.builtin "dict.get") [.ref a,u,r]) Q E s:=by
 obtain ⟨f,k,e,m,l⟩|⟨f,k,b,e,m,B,l⟩:=g
 ·subst m;obtain⟨z,j,C,rel,c⟩:=Cw I.fg e;refine qP rF c.typeIs PySem.F.entry_dict_get (PySem.F.args_dict_get_3 _ _ _) (meets_dict_get_default _ a (za q) j r) ⟨_,c.mapOf,h _ _ (I.tok _) ?_⟩;rw[l];exact(rel.val k).getD v
 ·subst m;cases (q);obtain⟨z,j,xs,rel,c⟩:=Cy I.fg e;refine qP rF c.typeIs PySem.F.entry_dict_get (PySem.F.args_dict_get_3 _ _ _) (meetsH_dict_get_default _ a b j r) ⟨e8 x,k,xs,sr I.fg B,c,h _ _ (I.tok _) ?_⟩;rw[l];exact(rel.val k).getD v
end
def UU(e ty d:TE):TE:=λσ H Q=>e σ H λx c=>∃a,x=.ref a/\dU c a/\ty σ c λy f=>d σ f λz b=>∃o,p5 b a y o/\Q (o.getD z) b
section
variable{X:Cx}{o e f:Expr}{apos n5:Pos}{td ty tx:TE}
def AN(J:X.A.units+5<jS)(L:PE X o td)(N:PE X e ty)(M:PE X f tx)(m:M2 X o "get" apos e f n5):PE X (.Call (.Attribute o "get" apos) [e,f] [] n5) (UU td ty tx):=by
 intro b s σ H Q I h;refine tB m.base m.L' m.line lI rF PySem.F.type_dict_get (gp (L b s σ H _ I h) λu q ⟨x,H1,j,B,a,O,d,G⟩=>?_);subst O;obtain rfl:u=kN a:=B;obtain⟨n,l,_⟩:=Nu j d;refine⟨n,l,?_⟩;rw[m.trees];refine lP rfl (pB (lG (gp (N b q σ H1 _ j G) λiv p ⟨y,H2,Y,v,E⟩=>
  lG (gp (M b p σ H2 _ Y E) λfv s3 ⟨z,H3,U,r,ov,g,C⟩=>oS ?_))))
 exact OD J U g v r λw' s4 T c=>⟨_,H3,T,c,C⟩
end
end L2
namespace Att
open PySem PySem.W PySem.Calls PyProof.Rows
def Bt:∀(c:List Int)(d:List fG),WellAll P h d (c.map WData.int)->IntsAre d c:=by
 intro c;induction c with
 |nil=>
  intro d w;cases w;exact .nil
 |cons n c e=>
  intro d w;cases w with
  |cons a b=>
   cases a;exact .cons _ _ (e _ b)
def Vs{l:OpenLaw}(y:l.most=some n)
  (c:l.row.toRowW.claim.pre e=true)(m:WellAll P h vals e):
  ∃a p b,vals=[kN a]/\e=[WData.list (b.map WData.int)]/\h.get? a=some {cls:=.type "list",data:=.seq p.toArray}/\IntsAre p b/\b.length<=n:=by
 obtain⟨d,r,rfl,B,A⟩:=hasAllW_cons ((pre_splitW c).1);obtain rfl:=hasAllW_nil A;obtain⟨xs,rfl,z⟩:=hasW_list B;obtain⟨b,rfl⟩:=items_int z;have f:b.length<=n:=by
  have j:(WTm.not (.lt (.lit (.int (n:Int))) (.len (.arg 0)))).holds [] {args:=[.list (b.map .int)]}=true:=by
   have j:=(holds_andW ((pre_splitW c).2)).1;rw[y]at j;exact j
  have o:=condW_of j (w_not (w_lt w_lit (w_len_list (w_arg rfl))));refine tS λq=>?_
  first
   |(rw[decide_eq_true C]at o;exact absurd o (by decide))
   |(simp at o;lia)
 cases m with
 |cons v u=>
  cases u;cases v with
  |list x g=>exact⟨_,_,b,rfl,rfl,x,Bt b _ g,f⟩
def Vf(l:OpenLaw)(a:List WData):l.row.toRowW.claim.post a (.bool true) a=true:=
 postW_of
  (show WShape.has [] _ .bool=true by first|rfl|decide|simp[WShape.has,WShape.arms,WShape.armsAll])
  (w_eq_bool (w_res rfl) w_lit) rfl
def Je{l:OpenLaw}{n:Nat}{q:gX}{e:List Str}{O:(Str->Option fG)->Heap->Prop}{N:iI->Heap->Prop}{d:DefRec}
  (hn:l.most=some n)(I:d.params.defaults=[])
  (call:∀(w:iI)(c b:fP)(z C:Str->Option fG)(v:Addr)(o:Obj)(B A h:fG)(a:Addr)(j:List fG)(y:List Int),
   Ground q e [] O w c z C b.1->N w b.1->
   b.1.get? v=some o->o.data=.func (docDef d.name d.params d.body d.scope B A h)->b.1.CodeRec A d.name->z d.name=some (.ref v)->
   b.1.get? a=some {cls:=.type "list",data:=.seq j.toArray}->IntsAre j y->y.length<=n->b.gens=#[]->
   nR (gR l.prog w) callerA (.call (.ref v) ⟨[.ref a],[]⟩) (λr x=>r=.ok (.ret (.bool true))/\OldK b.1 x.1/\x.os=b.os/\sX x.gens) b):
  WalkO q e O N l.row.toRowW d [] (λf j=>PySem.call f j):=by
 intro w c b z C G Y v o B A h dV kV U hd J hD H hg M vals as m L Q E γ;obtain rfl:dV=.none:=Dflts.none hD I;obtain rfl:kV=.none:=Dflts.noKw hD;obtain⟨a,j,y,rfl,rfl,p,g,u⟩:=Vs hn m E;refine enter_call (oK (call w c b z C v o B A h a j y G Y U (fd_plain hd) J H p g u hg) λr x T=>?_);obtain⟨rfl,h2,h3,h4⟩:=T;exact⟨.inl ⟨.bool true,.bool true,[],rfl,λ_=>rfl,.bool true,Vf l _,λ_=>⟨tD,λ_ hm=>(nomatch hm)⟩⟩,h2,h3,h4⟩
end Att
namespace L2
open PySem PySem.Spec PyProof.Rows
theorem Gm:∀{a:List fG}{b:List Int},IntsAre a b->Vals (b.map V.int) a
 |_,_,.nil=>.nil
 |_,_,.cons n t h=>.cons ⟨t,rfl⟩ (Gm h)
set_option bootstrap.genMatcherCode true in
def f9(s:Stmt):Arguments:=match s with
 |.FunctionDef _ a _ _ _ _ _ _ _ _=>a
 |_=>{posonlyargs:=[],args:=[],vararg:=none,kwonlyargs:=[],kw_defaults:=[],kwarg:=none,defaults:=[]}
set_option bootstrap.genMatcherCode true in
def dh(s:Stmt):List Stmt:=match s with
 |.FunctionDef _ _ b _ _ _ _ _ _ _=>b
 |_=>[]
set_option bootstrap.genMatcherCode true in
def a9(s:Stmt):lY:=match s with
 |.FunctionDef _ _ _ _ _ _ a _ _ _=>a
 |_=>{kind:=.function,names:=[],isGenerator:=false,isCoroutine:=false}
abbrev Wk:Wl:=λ_ _ _ _ _ _=>False
abbrev E0:XK:=λ_ _ _=>False
def WB:nr Wk X E0:=λ_ _ _ _ _ _ _ h=>h.elim
structure xU(K:gA)(x qual:Str)(st:Stmt)(f:Addr)(fd:oZ):Prop where
 ex:∃(oc:fG) (od:Option Addr) (kV doc pm:fG) (an:Option Addr) (cdv ct:fG) (osl:Array (Option fG)),
  fd=jO x qual (f9 st) (dh st) (a9 st) .none kV doc pm an cdv ct/\K.lookup f=some ⟨oc,od,.func fd,osl⟩/\lO K cdv qual=true
 kp:kA K (.ref f)=true
section
variable{P:gX}{w:iI}{K:gA}{mg:Str->Option fG}{base:Heap}
def xU.binds{x a:Str}{st:Stmt}{f:Addr}{l:oZ}{e:List Str}(F:xU K x a st f l)
  (h:∀(kV b g:fG)(j:Option Addr)(c ct:fG)(d:List fG),d.length=e.length->bindArgs (jO x a (f9 st) (dh st) (a9 st) .none kV b g j c ct) ⟨d,[]⟩=pure (e.zip d)):Binds K l e []:=by
 obtain⟨o,od,kV,b,g,j,c,ct,m,rfl,lk,n⟩:=F.ex;exact .all (h kV b g j c ct)
def X9{x a:Str}{st:Stmt}{f:Addr}{j:fG}{od h:Option Addr}{e:Array (Option fG)}{kV d g b ct:fG}(l:K.lookup f=some ⟨j,od,.func (jO x a (f9 st) (dh st) (a9 st) .none kV d g h b ct),e⟩)
  (c:lO K b a=true)(k:kA K (.ref f)=true):xU K x a st f (jO x a (f9 st) (dh st) (a9 st) .none kV d g h b ct):=⟨⟨j,od,kV,d,g,h,b,ct,e,rfl,l,c⟩,k⟩
end
def c7(H a:Hp):Prop:=∀b o,H b=some o->a b=some o
def c7.refl(H:Hp):c7 H H:=λ_ _ h=>h
def c7.trans(a:c7 H e)(b:c7 e d):c7 H d:=λc o h=>b c o (a c o h)
def c7.seq{K:gA}{H b:Hp}{a:Addr}{xs:List V}(e:c7 H b)(h:i' K H a xs):i' K b a xs:=by
 rcases h with (h|⟨o,h⟩)|h
 ·exact .inl (.inl (e _ _ h))
 ·exact .inl (.inr ⟨o,e _ _ h⟩)
 ·exact .inr h
end L2
namespace Pu
open PySem
def DQ:List (Addr×Addr×Str):=[]
def dJ:List Addr:=[]
end Pu
namespace Pu
open PySem PySem.Spec PyProof.Rows L2
abbrev St:=L2.St
structure KA where
 K:gA
 A:Str->Addr
instance:CoeOut KA gA:=⟨KA.K⟩
def Wf(b:Str->Option fG)(x:Str):Addr:=match b x with
 |some (.ref a)=>a
 |_=>0
abbrev kx(X:Cx):KA:=⟨X.K,Wf X.mg⟩
abbrev EK:=Str->Hp->Prop
abbrev ek(K:KA)(E:XK):EK:=λc H=>E (.ref (K.A c)) none H
set_option genInjectivity true in
inductive D where
 |g8
 |bl (b:Bool)
 |int (i:Int)
 |str (x:Str)
 |tup (ds:List D)
 |lst (ds:List D)
 |hZ (t:Bool) (kvs:List (D×D))
 |obj (e:Expr) (fs:List (Str×D))
 |fn (f:Str)
def kD:gd->D
 |.inl i=>.int i
 |.inr x=>.str x
def i3:List (Str×mQ)->List Str
 |[]=>[]
 |(n,k)::r=>if k=.free then n::i3 r else i3 r
def vl(K:KA)(H:Hp)(e:Expr)(a:Addr)(b:List (Str×V)):Prop:=match e with
 |.Name c _=>∃d,H a=some (.ins (K.A c) d b)
 |_=>False
def vl.mono{K:KA}(q:c7 H d)(h:vl K H e a b):vl K d e a b:=by
 unfold vl at h⊢;split at h
 ·obtain⟨c,e⟩:=h;exact⟨c,q _ _ e⟩
 ·exact h.elim
def UB:NK->D
 |.inl k=>kD k
 |.inr a=>.tup (a.map kD)
def kT(k:aq):D:=.tup (k.map UB)
inductive CK{κ:Type}(c:κ->D)(k:D)(P:V->Prop)(Q:List (κ×V)->Prop)(vs:List (κ×V)):Prop
 |mk (k' v r) (_:vs=(k',v)::r) (_:k=c k') (_:P v) (_:Q r):CK c k P Q vs
inductive RA{γ:Type}(H:Hp)(c:γ->HO)(Q:γ->Prop)(v:V):Prop
 |mk (a es) (_:v=.ref a) (_:H a=some (c es)) (_:Q es):RA H c Q v
inductive RO{γ:Type}(H:Hp)(c:γ->HO)(Q:γ->Prop)(o:Option V):Prop
 |mk (a es) (_:o=some (.ref a)) (_:H a=some (c es)) (_:Q es):RO H c Q o
inductive OA{γ:Type}(B G H:Hp)(c:γ->HO)(Q:γ->Prop)(o:Option (Option V)):Prop
 |mk (a es) (_:o=some (some (.ref a))) (_:H a=some (c es)) (_:Q es) (_:G a=none) (_:B a=none):OA B G H c Q o
inductive HR(K:gA)(H:Hp)(Q:List V->Prop)(v:V):Prop
 |mk (a vs) (_:v=.ref a) (_:mn K H a vs) (_:Q vs):HR K H Q v
inductive z7(K:gA)(H:Hp)(Q:List V->Prop)(v:V):Prop
 |mk (a vs) (_:v=.ref a) (_:i' K H a vs) (_:Q vs):z7 K H Q v
mutual
def Den(K:KA)(H:Hp):D->V->Prop
 |.g8,v=>v=.g8
 |.bl b,v=>v=.bl b
 |.int i,v=>v=.int i
 |.str x,v=>v=.str x
 |.tup ds,v=>RA H .tup (dg K H ds) v
 |.lst ds,v=>z7 K H (dg K H ds) v
 |.hZ t kvs,v=>∃a,v=.ref a/\((t=false/\∃es,H a=some (.dK es)/\il K H kvs es)\/(t=true/\∃o es,H a=some (.nk o (.dT es))/\iL K H kvs es))
 |.obj e fs,v=>∃a vs,v=.ref a/\vl K H e a vs/\uU K H fs vs
 |.fn f,v=>v=.ref (K.A f)
def dg(K:KA)(H:Hp):List D->List V->Prop
 |[],vs=>vs=[]
 |d::ds,vs=>Cn (Den K H d) (dg K H ds) vs
def uU(K:KA)(H:Hp):List (Str×D)->List (Str×V)->Prop
 |[],vs=>vs=[]
 |(n,d)::ds,vs=>∃v r,vs=(n,v)::r/\Den K H d v/\uU K H ds r
def il(K:KA)(H:Hp):List (D×D)->List (gd×V)->Prop
 |[],vs=>vs=[]
 |(k,d)::ds,vs=>CK kD k (Den K H d) (il K H ds) vs
def iL(K:KA)(H:Hp):List (D×D)->List (aq×V)->Prop
 |[],vs=>vs=[]
 |(k,d)::ds,vs=>CK kT k (Den K H d) (iL K H ds) vs
end
def i'.mono{K:KA}{H b:Hp}{a:Addr}{xs:List V}(e:c7 H b)(h:i' K H a xs):i' K b a xs:=e.seq h
def mn.mono{K:KA}{H b:Hp}{a:Addr}{xs:List V}(e:c7 H b)(h:mn K H a xs):mn K b a xs:=by
 rcases h with (h|⟨o,h⟩)|h
 ·exact .inl (.inl (e _ _ h))
 ·exact .inl (.inr ⟨o,e _ _ h⟩)
 ·exact .inr h
mutual
theorem Den.mono{K:KA}{H H':Hp}(e:c7 H H'):∀{d:D}{v:V},Den K H d v->Den K H' d v
 |.g8,_,h=>h
 |.bl _,_,h=>h
 |.int _,_,h=>h
 |.str _,_,h=>h
 |.tup _,_,z1_=>by obtain⟨a,vs,h1,h2,h3⟩:=z1_;exact⟨a,vs,h1,e _ _ h2,dg.mono e h3⟩
 |.lst _,_,z2_=>by obtain⟨a,vs,h1,h2,h3⟩:=z2_;exact⟨a,vs,h1,i'.mono e h2,dg.mono e h3⟩
 |.hZ _ _,_,z3_=>by obtain⟨a,h1,h2⟩:=z3_;exact⟨a,h1,h2.elim (by rintro ⟨z,es,q1,q2⟩;exact .inl ⟨z,es,e _ _ q1,il.mono e q2⟩) (by rintro ⟨z,o,es,q1,q2⟩;exact .inr ⟨z,o,es,e _ _ q1,iL.mono e q2⟩)⟩
 |.obj _ _,_,z4_=>by obtain⟨a,vs,h1,h2,h3⟩:=z4_;exact⟨a,vs,h1,h2.mono e,uU.mono e h3⟩
 |.fn _,_,h=>h
theorem dg.mono{K:KA}{H H':Hp}(e:c7 H H'):∀{ds:List D}{vs:List V},dg K H ds vs->dg K H' ds vs
 |[],_,h=>h
 |_::_,_,z1_=>by obtain⟨v,r,h1,h2,h3⟩:=z1_;exact⟨v,r,h1,Den.mono e h2,dg.mono e h3⟩
theorem uU.mono{K:KA}{H H':Hp}(e:c7 H H'):∀{ds:List (Str×D)}{vs:List (Str×V)},uU K H ds vs->uU K H' ds vs
 |[],_,h=>h
 |(_,_)::_,_,z1_=>by obtain⟨v,r,h1,h2,h3⟩:=z1_;exact⟨v,r,h1,Den.mono e h2,uU.mono e h3⟩
theorem il.mono{K:KA}{H H':Hp}(e:c7 H H'):∀{ds:List (D×D)}{vs:List (gd×V)},il K H ds vs->il K H' ds vs
 |[],_,h=>h
 |(_,_)::_,_,z1_=>by obtain⟨k,v,r,h1,h0,h2,h3⟩:=z1_;exact⟨k,v,r,h1,h0,Den.mono e h2,il.mono e h3⟩
theorem iL.mono{K:KA}{H H':Hp}(e:c7 H H'):∀{ds:List (D×D)}{vs:List (aq×V)},iL K H ds vs->iL K H' ds vs
 |[],_,h=>h
 |(_,_)::_,_,z1_=>by obtain⟨k,v,r,h1,h0,h2,h3⟩:=z1_;exact⟨k,v,r,h1,h0,Den.mono e h2,iL.mono e h3⟩
end
section
variable{K:KA}{G H:Hp}
def dg.length:∀{d:List D}{c:List V},dg K H d c->d.length=c.length:=by
 intro a;induction a with
 |nil=>rintro _ h;rw[h];rfl
 |cons _ _ b=>rintro _ ⟨v,r,f,_,e⟩;rw[f,fI,fI,b e]
theorem dg.get:∀{g:List D}{f:List V}{i:Nat}{d:D},dg K H g f->g[i]?=some d->∃v,f[i]?=some v/\Den K H d v
 |[],_,_,_,_,e=>by simp at e
 |_::_,_,0,_,b,e=>by
  obtain⟨v,r,c,m,_⟩:=b;simp at e;subst e;subst c;exact⟨v,rfl,m⟩
 |_::_,_,i+1,_,a,e=>by
  obtain⟨v,r,c,_,l⟩:=a;obtain⟨w,j,h⟩:=dg.get l (by simpa using e);subst c;exact⟨w,by simpa using j,h⟩
def dg.append:∀{e es:List D}{d c:List V},dg K H e d->dg K H es c->dg K H (e++es) (d++c):=by
 intro a;induction a with
 |nil=>rintro _ _ _ h q;rw[h];exact q
 |cons _ _ b=>rintro _ _ _ ⟨v,r,j,g,f⟩ q;exact⟨v,r++_,by rw[j];rfl,g,b f q⟩
def dg.one(h:Den K H d v):dg K H [d] [v]:=⟨v,[],rfl,h,rfl⟩
theorem dg.drop:∀(n:Nat){c:List D}{b:List V},dg K H c b->dg K H (c.drop n) (b.drop n)
 |0,_,_,h=>h
 |_+1,[],_,h=>by rw[h];exact rfl
 |n+1,_::_,_,a=>by obtain⟨v,r,e,_,d⟩:=a;subst e;exact dg.drop n d
theorem dg.take:∀(n:Nat){c:List D}{b:List V},dg K H c b->dg K H (c.take n) (b.take n)
 |0,_,_,_=>rfl
 |_+1,[],_,h=>by rw[h];exact rfl
 |n+1,_::_,_,a=>by obtain⟨v,r,f,e,d⟩:=a;subst f;exact⟨v,r.take n,rfl,e,dg.take n d⟩
theorem dg.eraseIdx:∀(n:Nat){f:List D}{e:List V},dg K H f e->dg K H (f.eraseIdx n) (e.eraseIdx n)
 |_,[],_,h=>by rw[h];exact rfl
 |0,_::_,_,b=>by obtain⟨v,r,d,_,c⟩:=b;subst d;exact c
 |n+1,_::_,_,a=>by obtain⟨v,r,d,g,c⟩:=a;subst d;exact⟨v,r.eraseIdx n,rfl,g,dg.eraseIdx n c⟩
end
def cX:HO->Bool
 |.nk _ _=>false
 |.tup _=>false
 |_=>true
structure Ext(G H G' H':Hp):Prop where
 gg:c7 G G'
 hh:c7 H H'
 gh:c7 G' H'
 fr:∀a o,H a=some o->G a=none->cX o=true->G' a=none
def Ext.refl(h:c7 G H):Ext G H G H:=⟨c7.refl G,c7.refl H,h,λ_ _ _ q _=>q⟩
def Ext.trans(a:Ext G H f d)(b:Ext f d e c):Ext G H e c:=
 ⟨a.gg.trans b.gg,a.hh.trans b.hh,b.gh,λx o h g z=>b.fr x o (a.hh x o h) (a.fr x o h g z) z⟩
def bx(h:H p=none)(o:HO):c7 H (upd H p o):=λb u q=>by rwa [ag (bj q h)]
def Ext.new(h:c7 G H)(o:HO)(n:H p=none):Ext G H (upd G p o) (upd H p o):=by
 have c:G p=none:=by
  cases e:G p with
  |none=>rfl
  |some u=>rw[h p u e]at n;cases n
 refine⟨bx c o,bx n o,λb u q=>?_,λa u q g _=>?_⟩
 ·by_cases e:b=p
  ·subst e;rw[ai]at q⊢;exact q
  ·rw[ag e]at q⊢;exact h b u q
 ·rwa [ag (bj q n)]
def Ext.own(h:c7 G H)(o:HO)(n:H p=none):Ext G H G (upd H p o):=by
 refine⟨c7.refl G,bx n o,λb u q=>?_,λa u q g _=>g⟩;exact bx n o b u (h b u q)
def Arg(K:KA)(G H:Hp)(d:D)(v:V):Prop:=
 Den K G d v\/(∃f a e,d=.lst f/\v=.ref a/\i' K H a e/\dg K G f e)\/
  ∃t b a,d=.hZ t b/\v=.ref a/\((t=false/\∃c,H a=some (.dK c)/\il K G b c)\/(t=true/\∃c,H a=some (.dT c)/\iL K G b c))
def Arg.ext{K:KA}{G H o n:Hp}{d:D}{v:V}(e:Ext G H o n)(h:Arg K G H d v):Arg K o n d v:=by
 obtain h|⟨r,a,p,l,j,g,q⟩|⟨t,f,a,l,j,g⟩:=h
 ·exact .inl (h.mono e.gg)
 ·exact .inr (.inl ⟨r,a,p,l,j,i'.mono e.hh g,q.mono e.gg⟩)
 ·exact .inr (.inr ⟨t,f,a,l,j,g.elim (by rintro ⟨z,m,c,b⟩;exact .inl ⟨z,m,e.hh _ _ c,b.mono e.gg⟩) (by rintro ⟨z,m,c,b⟩;exact .inr ⟨z,m,e.hh _ _ c,b.mono e.gg⟩)⟩)
def Arg.lst{K:KA}{G H:Hp}{f:List D}{v:V}(s:c7 G H)(h:Arg K G H (.lst f) v):z7 K H (dg K G f) v:=by
 obtain ⟨a,c,b,e,d⟩|⟨l,a,c,b,e,d,j⟩|⟨t,g,a,b,_⟩:=h
 ·exact⟨a,c,b,i'.mono s e,d⟩
 ·cases b;exact⟨a,c,e,d,j⟩
 ·cases b
def Arg.yC{K:KA}{G H:Hp}{d:List D}{v:V}(s:c7 G H)(h:Arg K G H (.tup d) v):RA H .tup (dg K G d) v:=by
 obtain ⟨a,c,b,g,f⟩|⟨j,a,c,b,_⟩|⟨t,e,a,b,_⟩:=h
 ·exact⟨a,c,b,s _ _ g,f⟩
 ·cases b
 ·cases b
def Arg.tup{K:KA}{G H:Hp}{b:List D}{v:V}(s:c7 G H)(h:Arg K G H (.tup b) v):HR K H (dg K G b) v:=by
 obtain⟨a,c,f,e,d⟩:=h.yC s;exact⟨a,c,f,.inl (.inl e),d⟩
def Arg.int{K:KA}{G H:Hp}{i:Int}{v:V}(h:Arg K G H (.int i) v):v=.int i:=by
 obtain h|⟨d,a,e,b,_⟩|⟨t,c,a,b,_⟩:=h
 ·exact h
 ·cases b
 ·cases b
def Arg.bl{K:KA}{G H:Hp}{i:Bool}{v:V}(h:Arg K G H (.bl i) v):v=.bl i:=by
 obtain h|⟨d,a,e,b,_⟩|⟨t,c,a,b,_⟩:=h
 ·exact h
 ·cases b
 ·cases b
def Arg.str{K:KA}{G H:Hp}{i:Str}{v:V}(h:Arg K G H (.str i) v):v=.str i:=by
 obtain h|⟨d,a,e,b,_⟩|⟨t,c,a,b,_⟩:=h
 ·exact h
 ·cases b
 ·cases b
def Arg.g8{K:KA}{G H:Hp}{v:V}(h:Arg K G H .g8 v):v=.g8:=by
 obtain h|⟨d,a,e,b,_⟩|⟨t,c,a,b,_⟩:=h
 ·exact h
 ·cases b
 ·cases b
def Arg.fn{K:KA}(h:Arg K G H (.fn f) v):v=.ref (K.A f):=by
 obtain h|⟨d,a,e,b,_⟩|⟨t,c,a,b,_⟩:=h
 ·exact h
 ·cases b
 ·cases b
set_option genInjectivity true in
inductive Res where
 |ok (d:D)
 |er (c:Str)
 |st
def Res.bind(r:Res)(f:D->Res):Res:=match r with
 |.ok d=>f d
 |.er c=>.er c
 |.st=>.st
def Res.of(o:Option D):Res:=match o with
 |some d=>.ok d
 |none=>.st
set_option genInjectivity true in
inductive e9 where
 |ok (ds:List D)
 |er (c:Str)
 |st
set_option genInjectivity true in
inductive Sl where
 |no
 |pu (d:D)
 |bo (d:D)
 |ow (ds:List D)
 |od (t:Bool) (kvs:List (D×D))
abbrev En:=List Sl
def p3(K:KA)(B G H:Hp):Sl->Option V->Prop
 |.no,_=>True
 |.pu d,o=>∃v,o=some v/\Den K G d v
 |.bo d,o=>∃v,o=some v/\Arg K G B d v
 |.ow b,o=>RO H .lst (dg K G b) o
 |.od false a,o=>RO H .dK (il K G a) o
 |.od true a,o=>RO H .dT (iL K G a) o
def Sl.own:Sl->Bool
 |.ow _=>true
 |.od _ _=>true
 |_=>false
def wM(H:Hp):Prop:=∀p∈DQ,H p.2.1=some (.vQ (p.2.2))
def wM.same(e:c7 H b)(h:wM H):wM b:=λp a=>e _ _ (h p a)
structure eu(K:KA)(B G H:Hp)(σ:St)(U:En):Prop where
 bh:c7 B H
 gh:c7 G H
 len:σ.length=U.length
 sl:∀(i:Nat) s,U[i]?=some s->∃o,σ[i]?=some o/\p3 K B G H s o
 own:∀(i:Nat) s a,U[i]?=some s->s.own=true->σ[i]?=some (some (V.ref a))->G a=none/\B a=none
 u5:∀(i j:Nat) s t a,U[i]?=some s->U[j]?=some t->s.own=true->t.own=true->σ[i]?=some (some (V.ref a))->σ[j]?=some (some (V.ref a))->i=j
 gb:wM B
def OT{K:KA}{G n H:Hp}{d:D}{v:V}(e:c7 G n)(h:Arg K G H d v):Arg K n H d v:=by
 obtain h|⟨q,a,o,l,j,g,p⟩|⟨t,f,a,l,j,g⟩:=h
 ·exact .inl (h.mono e)
 ·exact .inr (.inl ⟨q,a,o,l,j,g,p.mono e⟩)
 ·exact .inr (.inr ⟨t,f,a,l,j,g.elim (by rintro ⟨z,m,c,b⟩;exact .inl ⟨z,m,c,b.mono e⟩) (by rintro ⟨z,m,c,b⟩;exact .inr ⟨z,m,c,b.mono e⟩)⟩)
def bO{K:KA}{G H n:Hp}{d:D}{v:V}(e:c7 H n)(h:Arg K G H d v):Arg K G n d v:=by
 obtain h|⟨q,a,o,l,j,g,p⟩|⟨t,f,a,l,j,g⟩:=h
 ·exact .inl h
 ·exact .inr (.inl ⟨q,a,o,l,j,i'.mono e g,p⟩)
 ·exact .inr (.inr ⟨t,f,a,l,j,g.elim (by rintro ⟨z,m,c,b⟩;exact .inl ⟨z,m,e _ _ c,b⟩) (by rintro ⟨z,m,c,b⟩;exact .inr ⟨z,m,e _ _ c,b⟩)⟩)
def p3.ext{K:KA}{B G H l j:Hp}(e:Ext G H l j){s:Sl}{o:Option V}(h:p3 K B G H s o):p3 K B l j s o:=by
 cases s with
 |no=>trivial
 |pu d=>obtain⟨v,c,b⟩:=h;exact⟨v,c,b.mono e.gg⟩
 |bo d=>obtain⟨v,c,b⟩:=h;exact⟨v,c,OT e.gg b⟩
 |ow n=>obtain⟨a,f,c,b,g⟩:=h;exact⟨a,f,c,e.hh _ _ b,g.mono e.gg⟩
 |od t m=>
  cases t with
  |false=>obtain⟨a,f,c,b,g⟩:=h;exact⟨a,f,c,e.hh _ _ b,g.mono e.gg⟩
  |true=>obtain⟨a,f,c,b,g⟩:=h;exact⟨a,f,c,e.hh _ _ b,g.mono e.gg⟩
def p3.ref{K:KA}{B G H:Hp}{s:Sl}{o:Option V}(h:p3 K B G H s o)(q:s.own=true):∃a,o=some (V.ref a)/\∃u,H a=some u/\cX u=true:=by
 cases s with
 |no=>cases q
 |pu d=>cases q
 |bo d=>cases q
 |ow g=>obtain⟨a,e,c,b,_⟩:=h;exact⟨a,c,_,b,rfl⟩
 |od t f=>
  cases t with
  |false=>obtain⟨a,e,c,b,_⟩:=h;exact⟨a,c,_,b,rfl⟩
  |true=>obtain⟨a,e,c,b,_⟩:=h;exact⟨a,c,_,b,rfl⟩
def eu.ext{K:KA}{B G H n m:Hp}{σ:St}{U:En}(e:Ext G H n m)(r:eu K B G H σ U):eu K B n m σ U where
 bh:=r.bh.trans e.hh
 gb:=r.gb
 gh:=e.gh
 len:=r.len
 sl:=λi s h=>by
  obtain⟨o,c,d⟩:=r.sl i s h;exact⟨o,c,d.ext e⟩
 own:=λi s a l j f=>by
  obtain⟨g,b⟩:=r.own i s a l j f;obtain⟨o,c,d⟩:=r.sl i s l;rw[f]at c;cases c;obtain⟨v,z,u,q,p⟩:=d.ref j;cases z;exact⟨e.fr a u q g p,b⟩
 u5:=r.u5
def ey(E:EK)(G H:Hp)(r:Res)(P:D->Prop):Prop:=match r with
 |.ok d=>P d
 |.er c=>∀b a,Ext G H b a->E c a
 |.st=>False
def gy(E:EK)(G H:Hp)(r:e9)(P:List D->Prop):Prop:=match r with
 |.ok b=>P b
 |.er c=>∀d a,Ext G H d a->E c a
 |.st=>False
section
variable{E:EK}{G H G' H':Hp}
def ey.mono(h:ey E G H r P)(f:∀d,r=.ok d->P d->a d):ey E G H r a:=by
 cases r with
 |ok d=>exact f d rfl h
 |er c=>exact h
 |st=>exact h
def ey.ext(e:Ext G H G' H')(h:ey E G H r P):ey E G' H' r P:=by
 cases r with
 |ok d=>exact h
 |er c=>exact λf b a=>h f b (e.trans a)
 |st=>exact h
def ey.bind{r:Res}(h:ey E G H (r.bind f) P):ey E G H r λd=>ey E G H (f d) P:=by
 cases r with
 |ok d=>exact h
 |er c=>exact h
 |st=>exact h
def ey.of(h:ey E G H (Res.of o) P):∃d,o=some d/\P d:=by
 cases o with
 |some d=>exact⟨d,rfl,h⟩
 |none=>exact h.elim
def gy.mono(h:gy E G H r P)(f:∀d,r=.ok d->P d->a d):gy E G H r a:=by
 cases r with
 |ok d=>exact f d rfl h
 |er c=>exact h
 |st=>exact h
def gy.ext(e:Ext G H G' H')(h:gy E G H r P):gy E G' H' r P:=by
 cases r with
 |ok d=>exact h
 |er c=>exact λf b a=>h f b (e.trans a)
 |st=>exact h
end
def aA(K:KA)(G H:Hp)(m:Bool)(d:D)(v:V):Prop:=match m with
 |true=>Arg K G H d v
 |false=>Den K G d v
inductive CA(P:D->V->Prop)(Q:List D->List V->Prop)(ds:List D)(vs:List V):Prop
 |mk (d dr v vr) (_:ds=d::dr) (_:vs=v::vr) (_:P d v) (_:Q dr vr):CA P Q ds vs
def h8(K:KA)(G H:Hp):List Bool->List D->List V->Prop
 |[],b,a=>b=[]/\a=[]
 |m::c,b,a=>CA (aA K G H m) (h8 K G H c) b a
theorem h8.length{K:KA}{G H:Hp}:∀{a:List Bool}{f:List D}{e:List V},h8 K G H a f e->f.length=a.length/\e.length=a.length
 |[],_,_,⟨c,b⟩=>by rw[c,b];exact⟨rfl,rfl⟩
 |_::_,_,_,⟨d,n,v,l,c,b,m,j⟩=>by
  obtain⟨h,g⟩:=j.length;rw[c,b,fI,fI,fI,h,g];exact⟨rfl,rfl⟩
section
variable(K:KA)(B:Hp)(E:EK)
inductive xB(g:En->Res)(σ:St)(H:Hp)(Q:VK):Prop
 |mk (G U) (_:eu K B G H σ U) (_:ey E G H (g U) λd=>∀v G' H',Ext G H G' H'->Den K G' d v->Q v H'):xB g σ H Q
inductive xC(g:En->Res)(σ:St)(H:Hp)(Q:VK):Prop
 |mk (G U) (_:eu K B G H σ U) (_:ey E G H (g U) λd=>∀v G' H',Ext G H G' H'->Arg K G' H' d v->Q v H'):xC g σ H Q
inductive zD(g:En->Res)(σ:St)(H:Hp)(Q:VK):Prop
 |mk (G U) (_:eu K B G H σ U) (_:ey E G H (g U) λd=>∃ds,d=.lst ds/\∀a vs G' H',Ext G H G' H'->H a=none->G' a=none->H' a=some (.lst vs)->dg K G' ds vs->Q (.ref a) H'):zD g σ H Q
inductive zC(g:En->Res)(σ:St)(H:Hp)(Q:Bool->Hp->Prop):Prop
 |mk (G U) (_:eu K B G H σ U) (_:ey E G H (g U) λd=>∃b,d=.bl b/\∀G' H',Ext G H G' H'->Q b H'):zC g σ H Q
inductive y2(ms:List Bool)(g:En->e9)(σ:St)(H:Hp)(Q:List V->Hp->Prop):Prop
 |mk (G U) (_:eu K B G H σ U) (_:gy E G H (g U) λds=>∀vs G' H',Ext G H G' H'->h8 K G' H' ms ds vs->Q vs H'):y2 ms g σ H Q
end
abbrev fh(X:Cx)(B:Hp)(E:EK)(e:Expr)(g:En->Res):Prop:=PE X e (xB (kx X) B E g)
abbrev jc(X:Cx)(B:Hp)(E:EK)(e:Expr)(g:En->Res):Prop:=PE X e (xC (kx X) B E g)
abbrev FZ(X:Cx)(B:Hp)(E:EK)(e:Expr)(g:En->Res):Prop:=PE X e (zD (kx X) B E g)
abbrev Er(X:Cx)(B:Hp)(E:EK)(e:Expr)(g:En->Res):Prop:=PT X e (zC (kx X) B E g)
abbrev EG(X:Cx)(B:Hp)(E:EK)(e:Expr)(g:En->Res):Prop:=PW X e (zC (kx X) B E g)
abbrev Pz(X:Cx)(B:Hp)(E:EK)(a:List Bool)(es:List Expr)(g:En->e9):Prop:=PA X es (y2 (kx X) B E a g)
def PE.imp(h:PE X e t)(i:∀σ H Q,b σ H Q->t σ H Q):PE X e b:=λa s σ H Q I q=>h a s σ H Q I (i σ H Q q)
def PT.imp(h:PT X e t)(i:∀σ H Q,b σ H Q->t σ H Q):PT X e b:=λa s σ H Q I q=>h a s σ H Q I (i σ H Q q)
def PW.imp(h:PW X e t)(i:∀σ H Q,c σ H Q->t σ H Q):PW X e c:=λb a s σ H Q I q=>h b a s σ H Q I (i σ H Q q)
def PA.imp(h:PA X e t)(i:∀σ H Q,c σ H Q->t σ H Q):PA X e c:=λb a s σ H Q I q=>h b a s σ H Q I (i σ H Q q)
section
variable{X:Cx}{B:Hp}{E:EK}{e a b c:Expr}{es:List Expr}{g h k:En->Res}{pos:Pos}
noncomputable def bp(i:Nat):En->Res:=λU=>match U[i]? with
 |some (.pu d)=>.ok d
 |_=>.st
noncomputable def aa(i:Nat):En->Res:=λU=>match U[i]? with
 |some (.pu d)=>.ok d
 |some (.bo d)=>.ok d
 |some (.ow j)=>.ok (.lst j)
 |some (.od t f)=>.ok (.hZ t f)
 |_=>.st
noncomputable def gC(d:D):En->Res:=λ_=>.ok d
def eu.var{K:KA}{G H:Hp}{σ:St}{U:En}{i:Nat}{d:D}(R:eu K B G H σ U)(h:U[i]?=some (.pu d)):∃v,σ[i]?=some (some v)/\Den K G d v:=by
 obtain⟨o,l,v,j,f⟩:=R.sl i _ h;exact⟨v,by rw[l,j],f⟩
def eu.arg{K:KA}{G H:Hp}{σ:St}{U:En}{i:Nat}{d:D}(R:eu K B G H σ U)(h:aa i U=.ok d):∃v,σ[i]?=some (some v)/\Arg K G H d v:=by
 unfold aa at h;cases e:U[i]? with
 |none=>rw[e]at h;cases h
 |some s=>
  rw[e]at h;obtain⟨o,n,f⟩:=R.sl i _ e;cases s with
  |no=>cases h
  |pu r=>
   cases h;obtain⟨v,f,j⟩:=f;exact⟨v,by rw[n,f],.inl j⟩
  |bo r=>
   cases h;obtain⟨v,f,j⟩:=f;exact⟨v,by rw[n,f],bO R.bh j⟩
  |ow q=>
   cases h;obtain⟨a,l,f,j,m⟩:=f;exact⟨.ref a,by rw[n,f],.inr (.inl ⟨q,a,l,rfl,rfl,i'.of j,m⟩)⟩
  |od t p=>
   cases h;cases t with
   |false=>
    obtain⟨a,l,f,j,m⟩:=f;exact⟨.ref a,by rw[n,f],.inr (.inr ⟨false,p,a,rfl,rfl,.inl ⟨rfl,l,j,m⟩⟩)⟩
   |true=>
    obtain⟨a,l,f,j,m⟩:=f;exact⟨.ref a,by rw[n,f],.inr (.inr ⟨true,p,a,rfl,rfl,.inr ⟨rfl,l,j,m⟩⟩)⟩
def SF(i:Nat){x:Str}(h:PE X (.Name x pos) (tw i)):fh X B E (.Name x pos) (bp i):=PE.imp h<|by
 rintro σ H Q ⟨G,U,R,q⟩
 unfold bp at q;cases e:U[i]? with
 |none=>rw[e]at q;exact q.elim
 |some s=>
  rw[e]at q;cases s with
  |pu d=>
   obtain⟨v,j,f⟩:=R.var e;exact⟨v,j,q v G H (Ext.refl R.gh) f⟩
  |no=>exact q.elim
  |bo d=>exact q.elim
  |ow d=>exact q.elim
  |od t d=>exact q.elim
def OU(i:Nat)(h:PE X (.Name x pos) (tw i)):jc X B E (.Name x pos) (aa i):=PE.imp h<|by
 rintro σ H Q ⟨G,U,R,q⟩
 cases e:aa i U with
 |ok d=>
  rw[e]at q;obtain⟨v,j,f⟩:=R.arg e;exact⟨v,j,q v G H (Ext.refl R.gh) f⟩
 |er c=>
  unfold aa at e;split at e<;>cases e
 |st=>rw[e]at q;exact q.elim
def XS(h:fh X B E e g):jc X B E e g:=PE.imp h (by rintro σ H Q ⟨G,U,R,q⟩;exact⟨G,U,R,q.mono λd _ q v j f x y=>q v j f x (.inl y)⟩)
def ri(h:PE X e (tC v))(r:∀H,Den (kx X) H d v):fh X B E e (gC d):=PE.imp h (by rintro σ H Q ⟨G,U,R,q⟩;exact q v G H (Ext.refl R.gh) (r G))
def SR{i j}:fh X B E (.Constant (.int i) j pos) (gC (.int i)):=ri RU λ_=>rfl
def XR{b j}:fh X B E (.Constant (.bool b) j pos) (gC (.bl b)):=ri WA λ_=>rfl
def SL{j}:fh X B E (.Constant .none j pos) (gC .g8):=ri RT λ_=>rfl
def SJ{x j}:fh X B E (.Constant (.str x) j pos) (gC (.str x)):=ri RP λ_=>rfl
def KQ(f:Gl X x)(d:X.mg x=some (.str y t))(j:(x==("__debug__":Str))=false:=by decide):fh X B E (.Name x pos) (gC (.str y)):=ri (v:=.str y) (Q9 f d ⟨t,rfl⟩ j) λ_=>rfl
def Wv(h:d x=some (.ref f)):Wf d x=f:=by unfold Wf;rw[h]
def SU(j:Gl X x)(d:X.mg x=some (.ref f))(l:(x==("__debug__":Str))=false:=by decide):fh X B E (.Name x pos) (gC (.fn x)):=ri (Q9 (v:=.ref f) j d rfl l) λ_=>by show V.ref f=V.ref (Wf X.mg x);rw[Wv d]
noncomputable def g1(f:D->Option D)(g:En->Res):En->Res:=λU=>(g U).bind λx=>Res.of (f x)
noncomputable def g2(f:D->D->Option D)(g h:En->Res):En->Res:=λU=>(g U).bind λx=>(h U).bind λy=>Res.of (f x y)
def gx(K:KA)(f:D->D->Option D)(r:R2):Prop:=∀G H x y l j d,c7 G H->Arg K G H l x->Arg K G H j y->f l j=some d->
 ∀Q:VK,(∀v n m,Ext G H n m->Den K n d v->Q v m)->r x y H Q
def aV{K:KA}{f:D->D->Option D}{r:R2}(p:gx K f r){σ:St}{H:Hp}{Q:VK}(q:xB K B E (g2 f g h) σ H Q):YK r (xC K B E g) (xC K B E h) σ H Q:=by
 obtain⟨G,U,R,q⟩:=q;refine⟨G,U,R,(ey.bind q).mono λC _ n x T H1 l L=>⟨T,U,R.ext l,((ey.bind n).ext l).mono λA _ m y O M j J=>?_⟩⟩;obtain⟨d,u,o⟩:=ey.of m;exact p O M x y C A d j.gh (L.ext j) J u Q λv Y N z I=>o v Y N ((l.trans j).trans z) I
def Lj(l:mm X (nZ d) r)(j:gx (kx X) f r)(n:jc X B E a g)(m:jc X B E b h):fh X B E (.BinOp a d b pos) (g2 f g h):=
 PE.imp (XY l n m) λσ H Q q=>aV j q
def SW(l:mm X (jF d) r)(j:gx (kx X) f r)(o:jc X B E a g)(n:jc X B E b h)(m:pU d b=false):fh X B E (.Compare a [d] [b] pos) (g2 f g h):=
 PE.imp (JS l o n m) λσ H Q q=>aV j q
def KY{j:CmpOp}{f:D->D->Option D}{r:R2}(n:mm X (jF j) r)(m:gx (kx X) f r)(p:∀x y d,f x y=some d->∃b,d=.bl b)(z:jc X B E a g)(u:jc X B E b h)(o:pU j b=false):Er X B E (.Compare a [j] [b] pos) (g2 f g h):=
 PT.imp (Rk n z u o) λσ H Q ⟨G,U,R,q⟩=>aV m ⟨G,U,R,q.mono<|by
  rintro d M ⟨b,A,l⟩ v L J C I
  subst A;exact⟨b,I,l L J C⟩⟩
noncomputable def L7:D->Option Bool
 |.g8=>some false
 |.bl b=>some b
 |.int i=>some (i !=0)
 |.str x=>if x.length<=fR then some ((x.length:Int) !=0)else none
 |.tup d=>some !d.isEmpty
 |.lst d=>some !d.isEmpty
 |_=>none
def bD(o:Option Bool):Option D:=o.map .bl
def A7{K:KA}{G:Hp}{f:List D}{d:List V}(h:dg K G f d):(!f.isEmpty)= !d.isEmpty:=by
 have q:=h.length;cases f<;>cases d<;>first|rfl|(simp at q)
def MZ{K:KA}{G H:Hp}{d:D}{v:V}{b:Bool}(s:c7 G H)(h:Arg K G H d v)(e:L7 d=some b):NC K v H b:=by
 cases d with
 |g8=>rw[h.g8];cases e;rfl
 |bl i=>rw[h.bl];cases e;rfl
 |int i=>rw[h.int];cases e;rfl
 |str x=>
  rw[h.str];have f:(if x.length<=fR then some _ else none)=some b:=e
  by_cases n:x.length<=fR
  ·rw[fM n]at f;cases f;exact⟨n,rfl⟩
  ·rw[fJ n]at f;cases f
 |tup o=>
  obtain⟨a,j,rfl,m,l⟩:=h.tup s;cases e;exact .inr (.inl ⟨j,m,A7 l⟩)
 |lst o=>
  obtain⟨a,j,rfl,m,l⟩:=h.lst s;cases e;exact .inl ⟨j,m,A7 l⟩
 |hZ _ _=>cases e
 |obj _ _=>cases e
 |fn _=>cases e
def BS(r:jc X B E a g)(p:∀f,isTrue a X.env f=(do let v <-f;standAt a.pos;holding [v] (truthy v)):=by intro _;rfl):Er X B E a (g1 (λd=>bD (L7 d)) g):=
 PT.imp (BR r p) λσ H Q ⟨G,U,R,q⟩=>⟨G,U,R,(ey.bind q).mono λy _ n x C A m z=>by
  obtain⟨d,j,b,u,o⟩:=ey.of n;dsimp only at j;cases l:L7 y with
  |none=>rw[l]at j;cases j
  |some I=>
   rw[l]at j;cases j;cases u;exact⟨b,MZ m.gh z l,o C A m⟩⟩
def MD(c a b:En->Res):En->Res:=λU=>(c U).bind λd=>match d with
 |.bl true=>a U
 |.bl false=>b U
 |_=>.st
noncomputable def vc(c:En->Res):En->Res:=λU=>(c U).bind λd=>match d with
 |.bl b=>.ok (.bl !b)
 |_=>.st
noncomputable def q9(a b:En->Res):En->Res:=MD a b (gC (.bl false))
noncomputable def GG(a b:En->Res):En->Res:=MD a (gC (.bl true)) b
def WX{K:KA}{P:D->Prop}{c:En->Res}{U:En}{a b:En->Res}{G H:Hp}(q:ey E G H (MD c a b U) P):
  ey E G H (c U) λd=>∃t,d=.bl t/\(t=true->ey E G H (a U) P)/\(t=false->ey E G H (b U) P):=
 (ey.bind q).mono λd _ q=>by
  cases d with
  |bl t=>cases t with
   |true=>exact⟨true,rfl,λ_=>q,λz=>by cases z⟩
   |false=>exact⟨false,rfl,λz=>(by cases z),λ_=>q⟩
  |g8=>exact q.elim
  |int _=>exact q.elim
  |str _=>exact q.elim
  |tup _=>exact q.elim
  |lst _=>exact q.elim
  |hZ _ _=>exact q.elim
  |obj _ _=>exact q.elim
  |fn _=>exact q.elim
def KW(j:Er X B E a g):Er X B E (.UnaryOp .Not a pos) (vc g):=PT.imp (RC j) λσ H Q ⟨G,U,R,q⟩=>⟨G,U,R,(ey.bind q).mono λd _ q=>by
 cases d with
 |bl t=>
  obtain⟨b,l,f⟩:=q;cases l;exact⟨t,rfl,f⟩
 |g8=>exact q.elim
 |int _=>exact q.elim
 |str _=>exact q.elim
 |tup _=>exact q.elim
 |lst _=>exact q.elim
 |hZ _ _=>exact q.elim
 |obj _ _=>exact q.elim
 |fn _=>exact q.elim⟩
def BF(d:Er X B E a g):EG X B E (.BoolOp .And [a] pos) g:=KG d
def KF(d:Er X B E a g):EG X B E (.BoolOp .Or [a] pos) g:=SA d
def KH{rest:List Expr}(p:Er X B E a g)(o:EG X B E (.BoolOp .And (b::rest) pos) h):EG X B E (.BoolOp .And (a::b::rest) pos) (q9 g h):=
 PW.imp (SE p o) λσ H Q ⟨G,U,R,q⟩=>⟨G,U,R,(WX (K:=(kx X)) q).mono λd _ ⟨t,r,m⟩=>⟨t,r,λn x f=>by
  cases t with
  |true=>exact⟨n,U,R.ext f,((m.1 rfl).ext f).mono (by rintro d _ ⟨b,l,j⟩;exact⟨b,l,λy v u=>j y v (f.trans u)⟩)⟩
  |false=>
   obtain⟨b,l,j⟩:=(m.2 rfl);cases l;exact j n x f⟩⟩
def SD{rest:List Expr}(p:Er X B E a g)(o:EG X B E (.BoolOp .Or (b::rest) pos) h):EG X B E (.BoolOp .Or (a::b::rest) pos) (GG g h):=
 PW.imp (XI p o) λσ H Q ⟨G,U,R,q⟩=>⟨G,U,R,(WX (K:=(kx X)) q).mono λd _ ⟨t,r,m⟩=>⟨t,r,λn x f=>by
  cases t with
  |false=>exact⟨n,U,R.ext f,((m.2 rfl).ext f).mono (by rintro d _ ⟨b,l,j⟩;exact⟨b,l,λy v u=>j y v (f.trans u)⟩)⟩
  |true=>
   obtain⟨b,l,j⟩:=(m.1 rfl);cases l;exact j n x f⟩⟩
def XW(h:EG X B E e g):Er X B E e g:=PW.pt h
def BL{d}(h:fh X B E a g):fh X B E (.BoolOp d [a] pos) g:=RQ h
def SY{rest:List Expr}(p:fh X B E a g)(o:fh X B E (.BoolOp .And (b::rest) pos) h):fh X B E (.BoolOp .And (a::b::rest) pos) (q9 g h):=
 PE.imp (RX p o) λσ H Q ⟨G,U,R,q⟩=>⟨G,U,R,(WX (K:=(kx X)) q).mono<|by
  rintro d _ ⟨t,r,l⟩ v m y f j
  subst r;refine⟨t,j,?_⟩;cases t with
  |true=>exact⟨m,U,R.ext f,((l.1 rfl).ext f).mono λd _ n v z x u j=>n v z x (f.trans u) j⟩
  |false=>exact(l.2 rfl) _ m y f rfl⟩
def XJ{rest:List Expr}(p:fh X B E a g)(o:fh X B E (.BoolOp .Or (b::rest) pos) h):fh X B E (.BoolOp .Or (a::b::rest) pos) (GG g h):=
 PE.imp (XX p o) λσ H Q ⟨G,U,R,q⟩=>⟨G,U,R,(WX (K:=(kx X)) q).mono<|by
  rintro d _ ⟨t,r,l⟩ v m y f j
  subst r;refine⟨t,j,?_⟩;cases t with
  |false=>exact⟨m,U,R.ext f,((l.2 rfl).ext f).mono λd _ n v z x u j=>n v z x (f.trans u) j⟩
  |true=>exact(l.1 rfl) _ m y f rfl⟩
def SK(f:fh X B E a g):fh X B E (.UnaryOp .Not a pos) (vc g):=PE.imp (RS f) λσ H Q ⟨G,U,R,q⟩=>⟨G,U,R,(ey.bind q).mono λd _ q v n m j l=>by
 cases d with
 |bl t=>exact⟨t,l,q _ n m j rfl⟩
 |g8=>exact q.elim
 |int _=>exact q.elim
 |str _=>exact q.elim
 |tup _=>exact q.elim
 |lst _=>exact q.elim
 |hZ _ _=>exact q.elim
 |obj _ _=>exact q.elim
 |fn _=>exact q.elim⟩
def XO{c:Expr}(u:Er X B E c k)(y:fh X B E a g)(x:fh X B E b h):fh X B E (.IfExp c a b pos) (MD k g h):=
 PE.imp (Lc u y x) λσ H Q ⟨G,U,R,q⟩=>⟨G,U,R,(WX (K:=(kx X)) q).mono λd _ ⟨t,z,p⟩=>⟨t,z,λr A f=>by
  cases t with
  |true=>exact⟨r,U,R.ext f,((p.1 rfl).ext f).mono λd _ j v o n l m=>j v o n (f.trans l) m⟩
  |false=>exact⟨r,U,R.ext f,((p.2 rfl).ext f).mono λd _ j v o n l m=>j v o n (f.trans l) m⟩⟩⟩
noncomputable def ae:En->e9:=λ_=>.ok []
noncomputable def au(g:En->Res)(r:En->e9):En->e9:=λU=>match g U with
 | .ok d => (match r U with
  |.ok f=>.ok (d::f)
  |.er c=>.er c
  |.st=>.st)
 |.er c=>.er c
 |.st=>.st
def MJ(q:gy E G H (au g r U) P):ey E G H (g U) λd=>gy E G H (r U) λj=>P (d::j):=by
 unfold au at q;cases e:g U with
 |ok d=>
  rw[e]at q;cases f:r U with
  |ok j=>rw[f]at q;exact q
  |er c=>rw[f]at q;exact q
  |st=>rw[f]at q;exact q
 |er c=>rw[e]at q;exact q
 |st=>rw[e]at q;exact q
def ig:Pz X B E [] [] ae:=PA.imp oq (by rintro σ H Q ⟨G,U,R,q⟩;exact q [] G H (Ext.refl R.gh) ⟨rfl,rfl⟩)
def d9(p:jc X B E e g)(o:Pz X B E m es r)(n:gQ (e::es) X.env=(false,eval e X.env)::gQ es X.env:=by rfl):Pz X B E (true::m) (e::es) (au g r):=
 PA.imp (jb p o n) λσ H Q ⟨G,U,R,q⟩=>⟨G,U,R,(MJ q).mono λd _ q x C I f v=>⟨C,U,R.ext f,(q.ext f).mono λu _ q l A z j y=>
  q _ A z (f.trans j) ⟨d,u,x,l,rfl,rfl,v.ext j,y⟩⟩⟩
def Ci(p:fh X B E e g)(o:Pz X B E m es r)(n:gQ (e::es) X.env=(false,eval e X.env)::gQ es X.env:=by rfl):Pz X B E (false::m) (e::es) (au g r):=
 PA.imp (jb p o n) λσ H Q ⟨G,U,R,q⟩=>⟨G,U,R,(MJ q).mono λd _ q x C I f v=>⟨C,U,R.ext f,(q.ext f).mono λu _ q l A z j y=>
  q _ A z (f.trans j) ⟨d,u,x,l,rfl,rfl,v.mono j.gg,y⟩⟩⟩
def Gu:List Bool->Bool
 |[]=>true
 |b::r=> !b && Gu r
theorem h8.den{K:KA}{G H:Hp}:∀{l:List Bool}{p:List D}{o:List V},Gu l=true->h8 K G H l p o->dg K G p o
 |[],_,_,_,j=>by obtain⟨n,m⟩:=j;subst n;subst m;exact rfl
 |true::_,_,_,h,_=>by simp[Gu]at h
 |false::l,_,_,h,f=>by
  obtain⟨d,x,v,q,n,m,u,r⟩:=f;subst n;subst m;exact⟨v,q,rfl,u,h8.den (by simpa[Gu]using h) r⟩
noncomputable def js(r:En->e9):En->Res:=λU=>match r U with
 |.ok d=>if d.length<=fR then .ok (.tup d)else .st
 |.er c=>.er c
 |.st=>.st
noncomputable def cq(r:En->e9):En->Res:=λU=>match r U with
 |.ok d=>if d.length<=fR then .ok (.lst d)else .st
 |.er c=>.er c
 |.st=>.st
def cF(q:ey E G H (js r U) P):gy E G H (r U) λd=>d.length<=fR/\P (.tup d):=by
 unfold js at q;cases e:r U with
 |ok d=>
  rw[e]at q
  by_cases f:d.length<=fR
  ·simp only[fM f]at q;exact⟨f,q⟩
  ·simp only[fJ f]at q;exact q.elim
 |er c=>rw[e]at q;exact q
 |st=>rw[e]at q;exact q
def bA(q:ey E G H (cq r U) P):gy E G H (r U) λd=>d.length<=fR/\P (.lst d):=by
 unfold cq at q;cases e:r U with
 |ok d=>
  rw[e]at q
  by_cases f:d.length<=fR
  ·simp only[fM f]at q;exact⟨f,q⟩
  ·simp only[fJ f]at q;exact q.elim
 |er c=>rw[e]at q;exact q
 |st=>rw[e]at q;exact q
def dg.upd{K:KA}{G:Hp}{p:Addr}{f:List D}{d:List V}(h:dg K G f d)(n:G p=none)(o:HO):dg K (upd G p o) f d:=h.mono (bx n o)
def cu(s:c7 G H)(n:H p=none):G p=none:=by
 cases e:G p with
 |none=>rfl
 |some u=>rw[s p u e]at n;cases n
def n9{K:KA}{G H:Hp}{p:Addr}{f:List D}{d:List V}(s:c7 G H)(n:H p=none)(h:dg K G f d):Den K (upd G p (.tup d)) (.tup f) (.ref p):=
 ⟨p,d,rfl,ai,h.upd (cu s n) _⟩
def uy{K:KA}{G H:Hp}{p:Addr}{f:List D}{d:List V}(s:c7 G H)(n:H p=none)(h:dg K G f d):Den K (upd G p (.lst d)) (.lst f) (.ref p):=
 ⟨p,d,rfl,i'.of ai,h.upd (cu s n) _⟩
def SG{l}{f:List Bool}{r:En->e9}(m:Gu f=true)(h:Pz X B E f es r):fh X B E (.Tuple es l pos) (js r):=
 PE.imp (RN h) λσ H Q ⟨G,U,R,q⟩=>⟨G,U,R,(cF q).mono<|by
  rintro v _ ⟨u,q⟩ o y x d n
  have dl:=n.den m;refine⟨by rwa [<-dl.length],λp j=>q _ _ _ (d.trans (Ext.new d.gh _ j)) (n9 d.gh j dl)⟩⟩
def AU{j:List Bool}{r:En->e9}(m:Gu j=true)(h:Pz X B E j es r):FZ X B E (.List es pos) (cq r):=
 PE.imp (AL h) λσ H Q ⟨G,U,R,q⟩=>⟨G,U,R,(bA q).mono<|by
  rintro y _ ⟨x,o,n,q⟩ l v z d u
  cases n;have dl:=u.den m;refine⟨by rwa [<-dl.length],λp f=>q p l v _ (d.trans (Ext.own d.gh _ f)) (cu d.hh f) (cu d.gh f) ai dl⟩⟩
def Ext.freeze{G H f d:Hp}{a:Addr}{j:List V}(e:Ext G H f d)(l:H a=none)(m:f a=none)(h:d a=some (.lst j)):Ext G H (upd f a (.lst j)) d:=by
 refine⟨e.gg.trans (bx m _),e.hh,λb u q=>?_,λb u q g z=>?_⟩
 ·by_cases z:b=a
  ·subst z;rw[ai]at q;rwa [h]
  ·rw[ag z]at q;exact e.gh b u q
 ·rw[ag (bj q l)];exact e.fr b u q g z
def IsL(g:En->Res):Prop:=∀U d,g U=.ok d->∃f,d=.lst f
def HV:IsL (cq r):=λU d h=>by
 unfold cq at h;cases e:r U with
 |ok j=>
  rw[e]at h
  by_cases f:j.length<=fR
  ·simp only[fM f]at h;cases h;exact⟨j,rfl⟩
  ·simp only[fJ f]at h;cases h
 |er c=>rw[e]at h;cases h
 |st=>rw[e]at h;cases h
def AR(h:FZ X B E e g)(m:IsL g):fh X B E e g:=PE.imp h λσ H Q ⟨G,U,R,q⟩=>⟨G,U,R,q.mono λd o q=>by
 obtain⟨r,rfl⟩:=m U d o;exact⟨r,rfl,λa j v u p l f n dl=>q _ _ u (p.freeze l f n) ⟨a,j,rfl,i'.of ai,dl.mono (bx f _)⟩⟩⟩
def SO(f:Gu d=true)(h:Pz X B E d es r):fh X B E (.List es pos) (cq r):=AR (AU f h) HV
end
set_option genInjectivity true in
inductive Out where
 |nx (U:En)
 |bk (U:En)
 |ct (U:En)
 |rt (d:D)
 |er (c:Str)
 |st
def ki(K:KA)(f B:Hp)(E:EK)(G:Hp)(o:Out)(D:Ends):Prop:=match o with
 |.nx U=>∀a e b,c7 G e->eu K B e b a U->Ext f B e b->D.nx a b
 |.bk U=>∀a e b,c7 G e->eu K B e b a U->Ext f B e b->D.bk a b
 |.ct U=>∀a e b,c7 G e->eu K B e b a U->Ext f B e b->D.ct a b
 |.rt d=>∀v e b,Ext f B e b->Den K e d v->D.rt v b
 |.er c=>∀e b,Ext f B e b->E c b
 |.st=>False
inductive xY(K:KA)(G0 B:Hp)(E:EK)(F:En->Out)(D:Ends)(σ:St)(H:Hp):Prop
 |mk (G U) (_:eu K B G H σ U) (_:Ext G0 B G H) (_:ki K G0 B E G (F U) D):xY K G0 B E F D σ H
abbrev qr(X:Cx)(a B:Hp)(E:EK)(st:Stmt)(F:En->Out):Prop:=PS X st (xY (kx X) a B E F)
abbrev ym(X:Cx)(a B:Hp)(E:EK)(st:List Stmt)(F:En->Out):Prop:=uW X st (xY (kx X) a B E F)
def PS.imp{X:Cx}{st:Stmt}{t b:TS}(h:PS X st t)(i:∀D σ H,b D σ H->t D σ H):PS X st b:=λa s σ H D I q=>h a s σ H D I (i D σ H q)
def uW.imp{X:Cx}{st:List Stmt}{t b:TS}(h:uW X st t)(i:∀D σ H,b D σ H->t D σ H):uW X st b:=λa s σ H D I q=>h a s σ H D I (i D σ H q)
def ki.same{K:KA}{g B:Hp}{E:EK}{G f:Hp}{o:Out}{D:Ends}(s:c7 G f)(h:ki K g B E G o D):ki K g B E f o D:=by
 cases o with
 |nx U=>exact λa e b q=>h a e b (s.trans q)
 |bk U=>exact λa e b q=>h a e b (s.trans q)
 |ct U=>exact λa e b q=>h a e b (s.trans q)
 |rt d=>exact h
 |er c=>exact h
 |st=>exact h
def Res.then(r:Res)(f:D->Out):Out:=match r with
 |.ok d=>f d
 |.er c=>.er c
 |.st=>.st
def qf{K:KA}{a B:Hp}{E:EK}{G H:Hp}{r:Res}{f:D->Out}{D:Ends}(e:Ext a B G H)(h:ki K a B E G (r.then f) D):ey E G H r λd=>ki K a B E G (f d) D:=by
 cases r with
 |ok d=>exact h
 |er c=>exact λg b q=>h g b (e.trans q)
 |st=>exact h
section
variable{X:Cx}{G0 B:Hp}{E:EK}{e c:Expr}{st:Stmt}{rest ss tt:List Stmt}{F F1 F2:En->Out}{g:En->Res}{pos:Pos}
noncomputable def jq:En->Out:=λU=>.nx U
noncomputable def ak(F1 F2:En->Out):En->Out:=λU=>match F1 U with
 |.nx a=>F2 a
 |o=>o
def UZ:ym X G0 B E [] jq:=uW.imp KZ (by rintro D σ H ⟨G,U,R,e,q⟩;exact q σ G H (c7.refl G) R e)
def cQ{K:KA}{D:Ends}{σ:St}{H:Hp}(q:xY K G0 B E (ak F1 F2) D σ H):YH (xY K G0 B E F1) (xY K G0 B E F2) D σ H:=by
 obtain⟨G,U,R,e,q⟩:=q;refine⟨G,U,R,e,?_⟩;unfold ak at q;cases ef:F1 U with
 |nx a=>
  rw[ef]at q;exact λb j l s h f=>⟨j,a,h,f,ki.same s q⟩
 |bk a=>rw[ef]at q;exact q
 |ct a=>rw[ef]at q;exact q
 |rt d=>rw[ef]at q;exact q
 |er c=>rw[ef]at q;exact q
 |st=>rw[ef]at q;exact q
def LJ(b:qr X G0 B E st F1)(a:ym X G0 B E rest F2):ym X G0 B E (st::rest) (ak F1 F2):=uW.imp (Li b a) λD σ H q=>cQ q
def UY(a:qr X G0 B E st F1):ym X G0 B E [st] F1:=B7 a
def CU:En->Out:=λU=>.nx U
def XC{x j pos a}:qr X G0 B E (.Expr (.Constant (.str x) j pos) a) CU:=PS.imp RF (by rintro D σ H ⟨G,U,R,e,q⟩;exact q σ G H (c7.refl G) R e)
noncomputable def cm(g:En->Res):En->Out:=λU=>(g U).then .rt
def YY(h:fh X B E e g):qr X G0 B E (.Return (some e) pos) (cm g):=PS.imp (RE h) (by rintro D σ H ⟨G,U,R,e,q⟩;exact⟨G,U,R,(qf e q).mono λd _ q v j f a b=>q v j f (e.trans a) b⟩)
noncomputable def wy(c:En->Res)(a b:En->Out):En->Out:=λU=>(c U).then λd=>match d with
 |.bl true=>a U
 |.bl false=>b U
 |_=>.st
def cS(f:Er X B E c g)(j:ym X G0 B E ss F1)(h:ym X G0 B E tt F2):qr X G0 B E (.If c ss tt pos) (wy g F1 F2):=
 PS.imp (NW f j h) λD σ H ⟨G,U,R,e,q⟩=>⟨G,U,R,(qf e q).mono λd _ q=>by
  cases d with
  |bl t=>cases t with
   |true=>exact⟨true,rfl,λb l a=>⟨b,U,R.ext a,e.trans a,ki.same a.gg q⟩⟩
   |false=>exact⟨false,rfl,λb l a=>⟨b,U,R.ext a,e.trans a,ki.same a.gg q⟩⟩
  |g8=>exact q.elim
  |int _=>exact q.elim
  |str _=>exact q.elim
  |tup _=>exact q.elim
  |lst _=>exact q.elim
  |hZ _ _=>exact q.elim
  |obj _ _=>exact q.elim
  |fn _=>exact q.elim⟩
def eu.set{K:KA}{G H:Hp}{σ:St}{U:En}{i:Nat}{d:D}{v:V}(R:eu K B G H σ U)(h:Den K G d v):eu K B G H (σ.set i (some v)) (U.set i (.pu d)) where
 bh:=R.bh
 gb:=R.gb
 gh:=R.gh
 len:=by rw[jN,jN];exact R.len
 sl:=λj s q=>by
  by_cases z:i=j
  ·subst z;have l:i<U.length:=by
    have:=(List.getElem?_eq_some_iff.mp q).1;rwa [jN]at this
   rw[gY l]at q;cases q;exact⟨some v,gY (by rwa [R.len]),v,rfl,h⟩
  ·rw[gU z]at q⊢;exact R.sl j s q
 own:=λj s a b f m=>by
  by_cases z:i=j
  ·subst z;have l:i<U.length:=by
    have:=(List.getElem?_eq_some_iff.mp b).1;rwa [jN]at this
   rw[gY l]at b;cases b;cases f
  ·rw[gU z]at b m;exact R.own j s a b f m
 u5:=λj k s t a b f m p o n=>by
  have u:i≠j:=by
   rintro rfl
   have l:i<U.length:=by
    have:=(List.getElem?_eq_some_iff.mp b).1;rwa [jN]at this
   rw[gY l]at b;cases b;cases m
  have r:i≠k:=by
   rintro rfl
   have l:i<U.length:=by
    have:=(List.getElem?_eq_some_iff.mp f).1;rwa [jN]at this
   rw[gY l]at f;cases f;cases p
  rw[gU u]at b o;rw[gU r]at f n;exact R.u5 j k s t a b f m p o n
noncomputable def cz(i:Nat)(g:En->Res):En->Out:=λU=>(g U).then λd=>.nx (U.set i (.pu d))
def YX{i:Nat}{x:Str}{a:Pos}(h:fh X B E e g)(f:PS X (.Assign [.Name x a] e pos) (L6 (xB (kx X) B E g) (pb i))):qr X G0 B E (.Assign [.Name x a] e pos) (cz i g):=
 PS.imp f (by rintro D σ H ⟨G,U,R,e,q⟩;exact⟨G,U,R,(qf e q).mono λd _ q v m l b j=>q _ m l b.gg ((R.ext b).set j) (e.trans b)⟩)
def eu.wH{K:KA}{G H y A:Hp}{σ:St}{U:En}{i:Nat}{a:Addr}{s0:Sl}(R:eu K B G H σ U)(e:Ext G H y A)(M:H a=none)(Q:y a=none)(O:p3 K B y A s0 (some (.ref a))):eu K B y A (σ.set i (some (.ref a))) (U.set i s0):=by
 have x:=R.ext e;have v:∀(j:Nat) s,U[j]?=some s->s.own=true->σ[j]?=some (some (.ref a))->False:=λj s f l h=>by
  obtain⟨o,J,N⟩:=R.sl j s f;rw[h]at J;cases J;obtain⟨T,z,u,I,_⟩:=N.ref l;cases z;rw[M]at I;cases I
 have d:∀{s:Sl},(U.set i s0)[i]?=some s->s=s0/\i<U.length:=λq=>by
  have m:i<U.length:=by
   have:=(List.getElem?_eq_some_iff.mp q).1;rwa [jN]at this
  rw[gY m]at q;cases q;exact⟨rfl,m⟩
 refine⟨x.bh,x.gh,by rw[jN,jN];exact R.len,λj s q=>?_,λj s b f l h=>?_,λj k s t b f l h L r n=>?_,R.gb⟩
 ·by_cases z:i=j
  ·subst z;obtain⟨rfl,m⟩:=d q;exact⟨some _,gY (by rwa [R.len]),O⟩
  ·rw[gU z]at q⊢;exact x.sl j s q
 ·by_cases z:i=j
  ·subst z;obtain⟨rfl,m⟩:=d f;rw[gY (by rw[R.len];exact m)]at h;cases h;exact⟨Q,(cu R.bh M)⟩
  ·rw[gU z]at f h;exact x.own j s b f l h
 ·by_cases C:i=j
  ·subst C;obtain⟨rfl,m⟩:=d f;rw[gY (by rw[R.len];exact m)]at r;cases r
   by_cases p:i=k
   ·exact p
   ·rw[gU p]at l n;exact(v k t l L n).elim
  ·rw[gU C]at f r
   by_cases p:i=k
   ·subst p;obtain⟨rfl,m⟩:=d l;rw[gY (by rw[R.len];exact m)]at n;cases n;exact(v j s f h r).elim
   ·rw[gU p]at l n;exact x.u5 j k s t b f l h L r n
def eu.yE{K:KA}{G H b f:Hp}{σ:St}{U:En}{i:Nat}{h:List D}{a:Addr}{d:List V}(R:eu K B G H σ U)(e:Ext G H b f)(j:H a=none)(m:b a=none)(l:f a=some (.lst d))(dl:dg K b h d):
  eu K B b f (σ.set i (some (.ref a))) (U.set i (.ow h)):=R.wH e j m ⟨a,d,rfl,l,dl⟩
def b8(i:Nat)(g:En->Res):En->Out:=λU=>(g U).then λd=>match d with
 |.lst a=>.nx (U.set i (.ow a))
 |_=>.st
def CP{i:Nat}{x:Str}{b:Pos}(h:FZ X B E e g)(j:PS X (.Assign [.Name x b] e pos) (L6 (zD (kx X) B E g) (pb i))):qr X G0 B E (.Assign [.Name x b] e pos) (b8 i g):=
 PS.imp j λD σ H ⟨G,U,R,e,q⟩=>⟨G,U,R,(qf e q).mono λd _ q=>by
  cases d with
  |lst o=>exact⟨o,rfl,λa u r p f l n m dl=>q _ r p f.gg (R.yE f l n m dl) (e.trans f)⟩
  |g8=>exact q.elim
  |bl _=>exact q.elim
  |int _=>exact q.elim
  |str _=>exact q.elim
  |tup _=>exact q.elim
  |hZ _ _=>exact q.elim
  |obj _ _=>exact q.elim
  |fn _=>exact q.elim⟩
def eu.zA{K:KA}{G H:Hp}{σ:St}{U:En}{i:Nat}{s0 C:Sl}{a:Addr}{o:HO}(R:eu K B G H σ U)(A:U[i]?=some s0)(O:s0.own=true)(N:σ[i]?=some (some (V.ref a)))(h:p3 K B G (upd H a o) C (some (.ref a))):eu K B G (upd H a o) σ (U.set i C):=by
 obtain⟨gn,bn⟩:=R.own i _ a A O N;have Q:∀{F:Hp},F a=none->c7 F H->c7 F (upd H a o):=λfn s b u q=>by
  rw[ag (bj q fn)];exact s b u q
 have f:∀{j:Nat}{s:Sl},(U.set i C)[j]?=some s->s.own=true->∃p,U[j]?=some p/\p.own=true:=λ{j s} q o=>by
  by_cases z:i=j
  ·subst z;exact⟨_,A,O⟩
  ·rw[gU z]at q;exact⟨s,q,o⟩
 refine⟨Q bn R.bh,Q gn R.gh,by rw[jN];exact R.len,λj s q=>?_,λj s b L J I=>?_,λj k s t b L J I q4 q5 q6=>?_,R.gb⟩
 ·by_cases z:i=j
  ·subst z;rw[gY ((List.getElem?_eq_some_iff.mp A).1)]at q;cases q;exact⟨_,N,h⟩
  ·rw[gU z]at q;obtain⟨T,n,m⟩:=R.sl j s q;refine⟨T,n,?_⟩;have M:∀b,s.own=true->T=some _->b≠a:=λb ht eo y=>by
    subst y;exact z (R.u5 i j _ _ b A q O ht N (by rw[n,eo]))
   match s,m with
   |.no,_=>trivial
   |.pu d,m=>exact m
   |.bo d,m=>exact m
   |.ow fs,⟨b,v,l,x,r⟩=>exact⟨b,v,l,by rwa [ag (M b rfl l)],r⟩
   |.od false fs,⟨b,v,l,x,r⟩=>exact⟨b,v,l,by rwa [ag (M b rfl l)],r⟩
   |.od true fs,⟨b,v,l,x,r⟩=>exact⟨b,v,l,by rwa [ag (M b rfl l)],r⟩
 ·obtain⟨p,n,m⟩:=f L J;exact R.own j p b n m I
 ·obtain⟨p,n,m⟩:=f L I;obtain⟨Y,l,x⟩:=f J q4;exact R.u5 j k p Y b n l m x q5 q6
def eu.wr{K:KA}{G H:Hp}{σ:St}{U:En}{i:Nat}{j es:List D}{a:Addr}{d b:List V}(R:eu K B G H σ U)(h:U[i]?=some (.ow j))(f:σ[i]?=some (some (.ref a)))(l:H a=some (.lst d))(dl:dg K G es b):
  eu K B G (upd H a (.lst b)) σ (U.set i (.ow es)):=R.zA h rfl f ⟨a,b,rfl,ai,dl⟩
def Ext.wr(e:Ext G0 B G H)(d:G a=none)(f:B a=none):Ext G0 B G (upd H a o):=
 ⟨e.gg,λb u q=>by rw[ag (bj q f)];exact e.hh b u q,λb u q=>by rw[ag (bj q d)];exact e.gh b u q,e.fr⟩
def sk:D->Option (List D)
 |.lst a=>some a
 |.tup a=>some a
 |_=>none
def turns(tg:D->En->Option En)(F:En->Out):List D->En->Out
 |[],U=>.nx U
 |d::r,U=>match tg d U with
  |none=>.st
  |some b=>match F b with
   |.nx a=>turns tg F r a
   |.ct a=>turns tg F r a
   |.bk a=>.nx a
   |.rt d=>.rt d
   |.er c=>.er c
   |.st=>.st
end
section
variable{X:Cx}{G0 B:Hp}{E:EK}{e c tg iter:Expr}{st:Stmt}{rest ss tt:List Stmt}{F F1 F2:En->Out}{g:En->Res}{pos:Pos}
def wz(i:Nat):En->Res:=λU=>match U[i]? with
 |some (.pu d)=>.ok d
 |some (.bo d)=>.ok d
 |_=>.st
inductive Cc(K:KA)(B:Hp)(E:EK)(g:En->Res)(σ:St)(H:Hp)(Q:VK):Prop
 |mk (G U) (_:eu K B G H σ U) (_:ey E G H (g U) λd=>∀v G' H',Ext G H G' H'->Arg K G' B d v->Q v H'):Cc K B E g σ H Q
abbrev UL(X:Cx)(B:Hp)(E:EK)(e:Expr)(g:En->Res):Prop:=PE X e (Cc (kx X) B E g)
def OI(i:Nat)(h:PE X (.Name x pos) (tw i)):UL X B E (.Name x pos) (wz i):=PE.imp h<|by
 rintro σ H Q ⟨G,U,R,q⟩
 unfold wz at q;cases e:U[i]? with
 |none=>rw[e]at q;exact q.elim
 |some s=>
  rw[e]at q;obtain⟨o,j,f⟩:=R.sl i _ e;cases s with
  |pu d=>
   obtain⟨v,b,a⟩:=f;exact⟨v,by rw[j,b],q v G H (Ext.refl R.gh) (.inl a)⟩
  |bo d=>
   obtain⟨v,b,a⟩:=f;exact⟨v,by rw[j,b],q v G H (Ext.refl R.gh) a⟩
  |no=>exact q.elim
  |ow d=>exact q.elim
  |od t d=>exact q.elim
def W7(h:fh X B E e g):UL X B E e g:=PE.imp h (by rintro σ H Q ⟨G,U,R,q⟩;exact⟨G,U,R,q.mono λd _ q v b a x y=>q v b a x (.inl y)⟩)
def yk(K:KA)(J:It)(a:List D)(S:Hp->Hp->Prop):Prop:=∀(i:Nat) G H,S G H->c7 G H->
 (∀d,a[i]?=some d->J.go i H/\∀x b,J.zo i H x b->∃f,Ext G H f b/\Den K f d x)/\(a.length<=i->J.stop i H)
inductive A'(K:KA)(B:Hp)(E:EK)(g:En->e9)(σ:St)(H:Hp)(R:It->Hp->Prop):Prop
 |mk (G U) (_:eu K B G H σ U) (_:gy E G H (g U) λds=>∀J G' H',Ext G H G' H'->yk K J ds (λG2 H2=>c7 G' G2/\c7 B H2)->R J H'):A' K B E g σ H R
inductive BK(K:KA)(B:Hp)(E:EK)(g:En->e9)(σ:St)(H:Hp)(R:It->Hp->Prop):Prop
 |mk (G U) (_:eu K B G H σ U) (_:gy E G H (g U) λds=>∀J G' H',Ext G H G' H'->yk K J ds (λG2 H2=>Ext G' H' G2 H2)->R J H'):BK K B E g σ H R
abbrev We(X:Cx)(B:Hp)(E:EK)(tg iter:Expr)(g:En->e9):Prop:=PI X tg iter (A' (kx X) B E g)
abbrev Sj(X:Cx)(B:Hp)(E:EK)(tg iter:Expr)(g:En->e9):Prop:=PI X tg iter (BK (kx X) B E g)
def PI.imp(h:PI X tg iter d)(i:∀σ H R,b σ H R->d σ H R):PI X tg iter b:=λa s σ H R I q=>h a s σ H R I (i σ H R q)
def bH(K:KA)(d:TE):TI:=λσ H R=>d σ H λx b=>∃a,x=.ref a/\(((∃xs,i' K b a xs)/\R (ZM K a) b)\/((∃xs,mn K b a xs)/\R (ZI K a) b))
def RK(J:PE X l z):PI X tg l (bH (kx X) z):=by
 intro j s σ H R I h;refine gp (J j s σ H _ I h) λv f ⟨x,y,d,u,C⟩=>?_;obtain⟨a,e,⟨⟨xs,n⟩,q⟩|⟨⟨xs,n⟩,q⟩⟩:=C
 ·subst e;cases u;obtain⟨m,A,p,G⟩:=d.list n;refine nT p.isList ?_;refine⟨f.1.1.size,[f.1.1.size],_,_,y,rfl,d.kept λb o e=>fC _ e,Gk a _,⟨_,fO _ rfl,rfl,rfl⟩,λb r=>?_,q⟩;have e:b=f.1.1.size:=by simpa using r
  subst e;exact d.p9 (fQ _) (d.fg.fresh (fQ _))
 ·subst e;cases u;obtain⟨m,A,p,G⟩:=d.tuple n;refine wpAny_pyIter_tuple (p) ?_;refine⟨f.1.1.size,[f.1.1.size],_,_,y,rfl,d.kept λb o e=>fC _ e,El a _,⟨_,fO _ rfl,rfl,rfl⟩,λb r=>?_,q⟩;have e:b=f.1.1.size:=by simpa using r
  subst e;exact d.p9 (fQ _) (d.fg.fresh (fQ _))
def Ny{K:KA}{a:Addr}{m:Hp}{l:List D}{b:List V}{S:Hp->Hp->Prop}(h:∀G H,S G H->c7 G H->i' K H a b/\c7 m G)(dl:dg K m l b):yk K (ZM K a) l S:=λi G H n f=>by
 obtain⟨q,g⟩:=h G H n f;refine⟨λd o=>?_,λr=>⟨b,q,by rwa [<-dl.length]⟩⟩;obtain⟨v,j,p⟩:=dl.get o;refine⟨⟨b,v,q,j⟩,λx u ⟨e,y⟩=>?_⟩;subst e;have z:=y b q;rw[j]at z;cases z;exact⟨G,Ext.refl f,p.mono g⟩
def Yr{K:KA}{a:Addr}{m:Hp}{l:List D}{b:List V}{S:Hp->Hp->Prop}(h:∀G H,S G H->c7 G H->mn K H a b/\c7 m G)(dl:dg K m l b):yk K (ZI K a) l S:=λi G H n f=>by
 obtain⟨q,g⟩:=h G H n f;refine⟨λd o=>?_,λr=>⟨b,q,by rwa [<-dl.length]⟩⟩;obtain⟨v,j,p⟩:=dl.get o;refine⟨⟨b,v,q,j⟩,λx u ⟨e,y⟩=>?_⟩;subst e;have z:=y b q;rw[j]at z;cases z;exact⟨G,Ext.refl f,p.mono g⟩
def ik(lo:Int)(n:Nat):List D:=(hJ n).map λ(i:Nat)=>.int (lo+i)
noncomputable def dq(r:En->e9):En->e9:=λU=>match r U with
 |.ok [.int j]=>if -(2 ^ 62)<=j/\j<2 ^ 62 then .ok (ik 0 j.toNat)else .st
 |.ok [.int i,.int j]=>if(-(2 ^ 62)<=i/\i<2 ^ 62)/\(-(2 ^ 62)<=j/\j<2 ^ 62)then .ok (ik i (j - i).toNat)else .st
 |.ok _=>.st
 |.er c=>.er c
 |.st=>.st
def QX{K:KA}{lo:Int}{n:Nat}{S:Hp->Hp->Prop}:yk K (ZK lo n) (ik lo n) S:=λi G H l h=>by
 refine⟨λd a=>?_,λb=>?_⟩
 ·unfold ik at a;rw[gO]at a;cases e:(hJ n)[i]? with
  |none=>rw[e]at a;cases a
  |some j=>
   rw[e]at a;have f:i<n:=by
    have:=(List.getElem?_eq_some_iff.mp e).1;rwa [jI]at this
   rw[sI f]at e;cases e;cases a;exact⟨f,by rintro x m ⟨z,y⟩;subst z;exact⟨G,Ext.refl h,y⟩⟩
 ·unfold ik at b;rw[fF,jI]at b;exact b
def h8.one{K:KA}{G H:Hp}{m:Bool}{d:D}{a:List V}(h:h8 K G H [m] [d] a):∃v,a=[v]/\Arg K G H d v:=by
 obtain⟨q,p,v,n,l,j,b,o,f⟩:=h;cases l;subst f;refine⟨v,j,?_⟩;cases m
 ·exact .inl b
 ·exact b
def h8.two{K:KA}{G H:Hp}{m j:Bool}{d f:D}{a:List V}(h:h8 K G H [m,j] [d,f] a):∃v u,a=[v,u]/\Arg K G H d v/\Arg K G H f u:=by
 obtain⟨x,r,v,q,o,n,b,l⟩:=h;cases o;obtain⟨u,z,p⟩:=h8.one l;subst z;refine⟨v,u,n,?_,p⟩;cases m
 ·exact .inl b
 ·exact b
def TY(q:gy E G H (dq r U) P):gy E G H (r U) λb=>
  (∃j,b=[.int j]/\-(2 ^ 62)<=j/\j<2 ^ 62/\P (ik 0 j.toNat))\/∃i j,b=[.int i,.int j]/\(-(2 ^ 62)<=i/\i<2 ^ 62/\-(2 ^ 62)<=j/\j<2 ^ 62)/\P (ik i (j - i).toNat):=by
 unfold dq at q;cases e:r U with
 |ok b=>
  rw[e]at q;split at q
  ·rename_i z;cases z;split at q
   ·rename_i a;exact .inl ⟨_,rfl,a.1,a.2,q⟩
   ·exact q.elim
  ·rename_i z;cases z;split at q
   ·rename_i a;exact .inr ⟨_,_,rfl,⟨a.1.1,a.1.2,a.2.1,a.2.2⟩,q⟩
   ·exact q.elim
  ·exact q.elim
  ·rename_i z;cases z
  ·rename_i z;cases z
 |er c=>rw[e]at q;exact q
 |st=>rw[e]at q;exact q
def Rf{a:Expr}{m:Bool}{r:En->e9}{p:Pos}(h:Gl X "range")(f:X.mg "range"=none)(l:Pz X B E [m] [a] r)(d:gQ [a] X.env=[(false,eval a X.env)]:=by rfl):We X B E tg (.Call (.Name "range" p) [a] [] pos) (dq r):=
 PI.imp (Vb h f l d) λσ H R ⟨G,U,y,q⟩=>⟨G,U,y,(TY q).mono λI _ q C A z u b=>by
  obtain ⟨j,rfl,o,n,q⟩|⟨i,j,rfl,_⟩:=q
  ·obtain⟨v,rfl,x⟩:=h8.one b;exact⟨j,by rw[x.int],o,n,q _ A z u QX⟩
  ·have:=b.length.1;simp at this⟩
def AE(h:We X B E tg iter r):Sj X B E tg iter r:=PI.imp h (by rintro σ H R ⟨G,U,a,q⟩;exact⟨G,U,a,q.mono λm _ q J l f e ok=>q J l f e λi j d x b=>ok i j d ⟨x.gg,(a.bh.trans e.hh).trans x.hh⟩ b⟩)
structure wJ(X:Cx)(B:Hp)(tge:Expr)(gl:TG)(tgD:D->En->Option En):Prop where
 pg:PG X tge gl
 ok:∀{G H:Hp}{σ:St}{U δ':En}{d:D}{v:V}{Q:St->Hp->Prop},eu (kx X) B G H σ U->Den (kx X) G d v->tgD d U=some δ'->(∀σ',eu (kx X) B G H σ' δ'->Q σ' H)->gl v σ H Q
def az(i:Nat):D->En->Option En:=λd U=>some (U.set i (.pu d))
def LD(h:PG X (.Name x p) (pb i)):wJ X B (.Name x p) (pb i) (az i):=⟨h,λR a e q=>by
 cases e;exact q _ (R.set a)⟩
noncomputable def di(a:D->En->Option En)(r:En->e9)(F:En->Out):En->Out:=λU=>match r U with
 |.ok b=>turns a F b U
 |.er c=>.er c
 |.st=>.st
def bJ{K:KA}{a:D->En->Option En}{r:En->e9}{G H:Hp}{U:En}{D:Ends}(e:Ext G0 B G H)(q:ki K G0 B E G (di a r F U) D):gy E G H (r U) λb=>ki K G0 B E G (turns a F b U) D:=by
 unfold di at q;cases er:r U with
 |ok b=>rw[er]at q;exact q
 |er c=>rw[er]at q;exact λf d x=>q f d (e.trans x)
 |st=>rw[er]at q;exact q
def XB{gl:TG}{n:D->En->Option En}{r:En->e9}(hp:sN (gR X.prog X.w) X.A X.env X.xe)(hc:X.calm=true)(hi:We X B E tg iter r)(hg:wJ X B tg gl n)(hb:ym X G0 B E ss F)
  (hs:∀x,mH iter X.env x=pure x:=by intro _;rfl):qr X G0 B E (.For tg iter ss [] pos) (di n r F):=
 PS.imp (Ot hp hc hi hg.pg hb hs) λD σ H ⟨G,U,R,e,q⟩=>⟨G,U,R,(bJ e q).mono λf _ q J N H1 e1 ok=>by
  refine⟨λi m σ H=>m=f.length - i/\i<=f.length/\∃o l,c7 N o/\eu _ B o H σ l/\Ext G0 B o H/\ki _ G0 B E o (turns n F (f.drop i) l) D,
   ⟨f.length,by simp,iO _,N,U,c7.refl N,R.ext e1,e.trans e1,ki.same e1.gg q⟩,?_⟩
  rintro i m O H2 ⟨rfl,ξ,o,l,s2,R2,x2,a⟩
  obtain⟨T,Q⟩:=ok i o H2 ⟨s2,R2.bh⟩ R2.gh
  by_cases M:i<f.length
  ·obtain⟨go,yl⟩:=T f[i] (by simp[M]);rw[kG M]at a;refine .inr ⟨go,λb p=>i+1<=f.length/\∃v j,c7 N v/\eu _ B v p b j/\Ext G0 B v p/\ki _ G0 B E v _ D,
    by rintro b p ⟨n1,n2⟩;exact⟨f.length - _,by lia,rfl,n1,n2⟩,λx H3 y=>?_⟩
   obtain⟨v,u,dn⟩:=yl x H3 y;unfold turns at a;cases Y:n f[i] l with
   |none=>rw[Y]at a;exact a.elim
   |some j=>
    rw[Y]at a;dsimp only at a;refine hg.ok (R2.ext u) dn Y λη R3=>⟨v,j,R3,x2.trans u,?_⟩;have s3:=s2.trans u.gg;cases ef:F j with
    |nx h=>
     rw[ef]at a;exact λb L p s I C=>⟨M,L,h,s3.trans s,I,C,ki.same (u.gg.trans s) a⟩
    |ct h=>
     rw[ef]at a;exact λb L p s I C=>⟨M,L,h,s3.trans s,I,C,ki.same (u.gg.trans s) a⟩
    |bk h=>
     rw[ef]at a;exact λb L p s I C=>a b L p (u.gg.trans s) I C
    |rt d=>rw[ef]at a;exact a
    |er c=>rw[ef]at a;exact a
    |st=>rw[ef]at a;exact a
  ·have z:i=f.length:=by lia
   subst z;rw[rL]at a;exact .inl ⟨Q (fQ _),a O o H2 (c7.refl o) R2 x2⟩⟩
def bg:List Bool->List D->En
 |_,[]=>[]
 |true::a,d::b=>.bo d::bg a b
 |false::a,d::b=>.pu d::bg a b
 |[],_::_=>[]
def de:Out->Res
 |.rt d=>.ok d
 |.nx _=>.ok .g8
 |.er c=>.er c
 |_=>.st
def bK(b:List Bool)(n:Nat)(F:En->Out)(a:List D):Res:=de (F (bg b a++gJ (n - a.length) .no))
inductive uY(K:KA)(ms:List Bool)(f:List D->Res)(vs:List V)(H:Hp)(Q:VK)(E:XK):Prop
 |mk (_:vs.length=ms.length) (_:wM H) (G ds) (_:c7 G H) (_:h8 K G H ms ds vs) (_:ey (ek K E) G H (f ds) λd=>∀v G' H',Ext G H G' H'->Den K G' d v->Q v H'):uY K ms f vs H Q E
def Tp{K:KA}{G H:Hp}:∀{b:List Bool}{n:List D}{l:List V},h8 K G H b n l->(bg b n).length=l.length:=by
 intro a;induction a with
 |nil=>rintro _ _ ⟨j,h⟩;subst j;subst h;rfl
 |cons m b f=>
  rintro _ _ ⟨d,r,v,p,j,h,q,o⟩
  subst j;subst h;cases m<;>simp only[bg,fI,(f o)]
def Al{K:KA}{G H:Hp}:∀{l:List Bool}{y:List D}{o:List V},h8 K G H l y o->∀(i:Nat) s,(bg l y)[i]?=some s->s.own=false/\∃v,o[i]?=some v/\p3 K H G H s (some v):=by
 intro b;induction b with
 |nil=>rintro _ _ ⟨n,x⟩ i s q;subst n;simp[bg]at q
 |cons m l a=>
  rintro _ _ ⟨d,A,v,z,n,x,r,p⟩ i s q
  subst n;subst x;cases i with
  |zero=>
   cases m with
   |true=>
    simp only[bg,jP,Option.some.injEq]at q;subst q;exact⟨rfl,v,rfl,v,rfl,r⟩
   |false=>
    simp only[bg,jP,Option.some.injEq]at q;subst q;exact⟨rfl,v,rfl,v,rfl,r⟩
  |succ i=>
   cases m with
   |true=>
    obtain⟨j,u,h,f⟩:=a p i s q;exact⟨j,u,by simpa using h,f⟩
   |false=>
    obtain⟨j,u,h,f⟩:=a p i s q;exact⟨j,u,by simpa using h,f⟩
def Nd{K:KA}{G H:Hp}{o:List Bool}{d:List D}{l:List V}{N:List Str}(I:wM H)(s:c7 G H)(h:h8 K G H o d l):eu K H G H (L2.uf N l) (bg o d++gJ (N.length - d.length) .no):=by
 have r:=Tp h;obtain⟨A,y⟩:=h.length;have b:∀(i:Nat) t,(bg o d++gJ (N.length - d.length) Sl.no)[i]?=some t->t=.no\/(i<l.length/\_[i]?=some t):=λi t q=>by
  by_cases z:i<(bg o d).length
  ·rw[jB z]at q;exact .inr ⟨by rwa [<-r],q⟩
  ·rw[iY (by lia)]at q;have:=iE q;exact .inl (List.eq_of_mem_replicate this)
 refine⟨c7.refl H,s,?_,λi t q=>?_,λi t a p n m=>?_,λi j t u a p n m O M L=>?_,I⟩
 ·unfold L2.uf;rw[gI,gI,fF,jY,jY,r,A,y]
 ·rcases b i t q with rfl|⟨x,f⟩
  ·have C:i<(L2.uf N l).length:=by
    have:=(List.getElem?_eq_some_iff.mp q).1;rw[gI,jY,r]at this;unfold L2.uf;rw[gI,fF,jY]
    lia
   exact⟨_,gF C,trivial⟩
  ·obtain⟨_,v,J,ok⟩:=Al h i t f;refine⟨some v,?_,ok⟩;unfold L2.uf;rw[jB (by rw[fF];exact x),gO,J];rfl
 ·rcases b i t p with rfl|⟨x,f⟩
  ·cases n
  ·obtain⟨z,_⟩:=Al h i t f;rw[z]at n;cases n
 ·rcases b i t p with rfl|⟨x,f⟩
  ·cases m
  ·obtain⟨z,_⟩:=Al h i t f;rw[z]at m;cases m
def JV{K:KA}{G H:Hp}{E:EK}{Q:VK}{o:Out}(s:c7 G H)(h:ey E G H (de o) λd=>∀v b a,Ext G H b a->Den K b d v->Q v a):
  ki K G H E G o {nx:=λ_ a=>Q .g8 a,rt:=Q}:=by
 cases o with
 |nx U=>exact λf b a _ _ e=>h .g8 b a e rfl
 |bk U=>exact h.elim
 |ct U=>exact h.elim
 |rt d=>exact λv b a e j=>h v b a e j
 |er c=>exact h
 |st=>exact h
end
section
variable{X:Cx}{B:Hp}{E:EK}{e:Expr}{es:List Expr}{pos p:Pos}{x:Str}
noncomputable def af(f:List D->Res)(r:En->e9):En->Res:=λU=>match r U with
 |.ok a=>f a
 |.er c=>.er c
 |.st=>.st
def W8(q:ey E G H (af f r U) P):gy E G H (r U) λa=>ey E G H (f a) P:=by
 unfold af at q;cases e:r U with
 |ok a=>rw[e]at q;exact q
 |er c=>rw[e]at q;exact q
 |st=>rw[e]at q;exact q
def KU{E:XK}(F:ll X.prog X.w X.K X.mg X.base Y k f C g (uY (kx X) h fD))(l:j2 k X.A)(o:Gl X x)(m:X.mg x=some (.ref f))(n:kA X.K (.ref f)=true)
  (y:Binds X.K C g [])(j:nr Y X E)(z:Pz X B (ek (kx X) E) h (e::es) r)(c:(x==("__debug__":Str))=false:=by decide)(u:gQ (e::es) X.env=(false,eval e X.env)::gQ es X.env:=by rfl)(b:(lJ pos (gQ es X.env)).any (·.1)=false:=by rfl):
  fh X B (ek (kx X) E) (.Call (.Name x p) (e::es) [] pos) (af fD r):=
 PE.imp (JT F l o m n y .nil j z c u b) λσ H Q ⟨G,U,R,q⟩=>⟨G,U,R,(W8 q).mono λJ _ q vs O H1 a M=>
  ⟨by rw[jT];exact M.length.2,R.gb.same (R.bh.trans a.hh),O,J,a.gh,by rwa [jT],(q.ext a).mono λd _ q v T N I L=>q v T N (a.trans I) L⟩⟩
def BQ{E:XK}(F:ll X.prog X.w X.K X.mg X.base n k f m b (uY (kx X) [] fD))(d:j2 k X.A)(j:Gl X x)(g:X.mg x=some (.ref f))(h:kA X.K (.ref f)=true)
  (l:Binds X.K m b [])(c:nr n X E)(a:(x==("__debug__":Str))=false:=by decide):fh X B (ek (kx X) E) (.Call (.Name x p) [] [] pos) (λ_=>fD []):=
 PE.imp (AQ F d j g h l .nil c a) (by rintro σ H Q ⟨G,U,R,q⟩;exact⟨rfl,R.gb.same R.bh,G,[],R.gh,⟨rfl,rfl⟩,q⟩)
end
mutual
def bz:D->Option mT
 |.g8=>some .none
 |.bl b=>some (.bool b)
 |.int i=>some (.int i)
 |.str x=>some (.str x)
 |.tup ds=>match b9 ds with
  |some ps=>some (.tuple ps)
  |none=>none
 |.lst ds=>match b9 ds with
  |some ps=>some (.list ps)
  |none=>none
 |.hZ _ _=>none
 |.obj _ _=>none
 |.fn _=>none
def b9:List D->Option (List mT)
 |[]=>some []
 |d::ds=>match bz d with
  | some p => (match b9 ds with
   |some ps=>some (p::ps)
   |none=>none)
  |none=>none
end
section
variable{X:Cx}{pins:List (Addr×Obj)}{σ:St}{G H:Hp}{s:fP}
mutual
theorem zt(I:Inv X pins σ H s)(sg:c7 G H):∀{d:D}{v:V}{u:fG}{p:mT},Den (kx X) G d v->RelV v u->bz d=some p->∃as,Reads s.1 u p as
 |.g8,v,u,p,h,r,e=>by
  cases (show v=.g8 from h);cases (show u=lD from r);cases e;exact⟨_,Reads.none⟩
 |.bl b,v,u,p,h,r,e=>by
  cases (show v=.bl b from h);cases (show u=sP b from r);cases e;exact⟨_,Reads.bool b⟩
 |.int i,v,u,p,h,r,e=>by
  cases (show v=.int i from h);obtain⟨t,q⟩:=(show∃t,u=tP i t from r);cases q;cases e;exact⟨_,Reads.int i t⟩
 |.str x,v,u,p,h,r,e=>by
  cases (show v=.str x from h);obtain⟨t,q⟩:=(show∃t,u=Value.str x t from r);cases q;cases e;exact⟨_,Reads.str x t⟩
 |.tup ds,v,u,p,h,r,e=>by
  obtain⟨a,vs,rfl,sq,dl⟩:=h;cases (show u=kN a from r);unfold bz at e;cases e2:b9 ds with
  |none=>rw[e2]at e;cases e
  |some ps=>
   rw[e2]at e;cases e;obtain⟨its,rv,⟨o,ho,hc,n,hd⟩,_⟩:=I.tuple (mn.of (sg _ _ sq));obtain⟨as,ra⟩:=wu I sg dl rv e2;exact⟨as,Reads.tuple ho hc hd (by simpa using ra)⟩
 |.lst ds,v,u,p,h,r,e=>by
  obtain⟨a,vs,rfl,sq,dl⟩:=h;cases (show u=kN a from r);unfold bz at e;cases e2:b9 ds with
  |none=>rw[e2]at e;cases e
  |some ps=>
   rw[e2]at e;cases e;obtain⟨its,rv,pl,_⟩:=I.list (i'.mono sg sq);obtain⟨o,ho,hc,n,hd⟩:=pl.isList;obtain⟨as,ra⟩:=wu I sg dl rv e2;exact⟨_,Reads.list ho hc hd (by simpa using ra)⟩
 |.hZ _ _,_,_,_,_,_,e=>by cases e
 |.obj _ _,_,_,_,_,_,e=>by cases e
 |.fn _,_,_,_,_,_,e=>by cases e
theorem wu(I:Inv X pins σ H s)(sg:c7 G H):∀{ds:List D}{vs:List V}{us:List fG}{ps:List mT},dg (kx X) G ds vs->Vals vs us->b9 ds=some ps->∃as,ReadsAll s.1 us ps as
 |[],vs,us,ps,h,r,e=>by
  cases (show vs=[]from h);cases r;cases e;exact⟨_,ReadsAll.nil⟩
 |d::ds,vs,us,ps,h,r,e=>by
  obtain⟨v,vr,rfl,dv,dl⟩:=h;cases r with
  |cons rv rr=>
   unfold b9 at e;cases e1:bz d with
   |none=>rw[e1]at e;cases e
   |some p=>
    rw[e1]at e;dsimp only at e;cases e2:b9 ds with
    |none=>rw[e2]at e;cases e
    |some ps'=>
     rw[e2]at e;cases e;obtain⟨as,ra⟩:=zt I sg dv rv e1;obtain⟨bs,rb⟩:=wu I sg dl rr e2;exact⟨_,ReadsAll.cons ra rb⟩
end
def cx(I:Inv X pins σ H s)(c:c7 G H)(h:Arg (kx X) G H d v)(r:RelV v u)(e:bz d=some p):∃f,Reads s.1 u p f:=by
 obtain h|⟨B,a,C,rfl,rfl,g,dl⟩|⟨t,q,a,rfl,_⟩:=h
 ·exact zt I c h r e
 ·cases (r);unfold bz at e;cases b:b9 B with
  |none=>rw[b]at e;cases e
  |some E=>
   rw[b]at e;cases e;obtain⟨x,j,m,_⟩:=I.list g;obtain⟨o,y,A,n,z⟩:=m.isList;obtain⟨f,l⟩:=wu I c dl j b;exact⟨_,Reads.list y A z (by simpa using l)⟩
 ·cases e
end
def Wi(d e:D):Option Bool:=match bz d,bz e with
 |some p,some q=>if iB p && iB q then some (iG p q)else none
 |_,_=>none
def jn(d e:D):Option D:=(Wi d e).map .bl
def zq(d e:D):Option D:=(Wi d e).map λb=>.bl !b
def J2(h:Wi d e=some b):∃p q,bz d=some p/\bz e=some q/\iB p=true/\iB q=true/\b=iG p q:=by
 unfold Wi at h;cases c:bz d with
 |none=>rw[c]at h;cases h
 |some p=>
  cases f:bz e with
  |none=>rw[c,f]at h;cases h
  |some q=>
   rw[c,f]at h;dsimp only at h
   by_cases a:(iB p && iB q)=true
   ·rw[fM a]at h;cases h;rw[gG]at a;exact⟨p,q,rfl,rfl,a.1,a.2,rfl⟩
   ·rw[fJ a]at h;cases h
section
variable{X:Cx}{B:Hp}{E:EK}{e a b:Expr}{es:List Expr}{g h:En->Res}{pos:Pos}
inductive vW(K:KA)(neg:Bool)(x:V)(y:V)(H:Hp)(Q:VK):Prop
 |mk (G dx dy b) (_:c7 G H) (_:Arg K G H dx x) (_:Arg K G H dy y) (_:Wi dx dy=some b) (_:Q (.bl (if neg then !b else b)) H):vW K neg x y H Q
def QF(r:X.A.units+64<jS):mm X (jF .Eq) (vW (kx X) false):=by
 intro d s σ H x y v u Q I m l q;obtain⟨G,T,O,b,c,M,L,z,q⟩:=q;obtain⟨p,N,J,C,j,f,rfl⟩:=J2 z;obtain⟨U,o⟩:=cx I c M m J;obtain⟨bs,n⟩:=cx I c L l C;exact eq_dataH o n j f r ⟨.bl _,H,I,rfl,q⟩
def QA(r:X.A.units+64<jS):mm X (jF .NotEq) (vW (kx X) true):=by
 intro d s σ H x y v u Q I m l q;obtain⟨G,T,O,b,c,M,L,z,q⟩:=q;obtain⟨p,N,J,C,j,f,rfl⟩:=J2 z;obtain⟨U,o⟩:=cx I c M m J;obtain⟨bs,n⟩:=cx I c L l C;exact ne_dataH o n j f r ⟨.bl _,H,I,rfl,q⟩
def JE{K:KA}:gx K jn (vW K false):=λG H x y l j d f n m c Q q=>by
 unfold jn at c;cases e:Wi l j with
 |none=>rw[e]at c;cases c
 |some b=>rw[e]at c;cases c;exact⟨G,l,j,b,f,n,m,e,q _ G H (Ext.refl f) rfl⟩
def JB{K:KA}:gx K zq (vW K true):=λG H x y l j d f n m c Q q=>by
 unfold zq at c;cases e:Wi l j with
 |none=>rw[e]at c;cases c
 |some b=>rw[e]at c;cases c;exact⟨G,l,j,b,f,n,m,e,q _ G H (Ext.refl f) rfl⟩
def Dt{o:Option Bool}{f:Bool->Bool}(h:(o.map λb=>D.bl (f b))=some d):∃b,d=.bl b:=by
 cases o with
 |none=>cases h
 |some b=>cases h;exact⟨_,rfl⟩
def Lm(f:Int->Int->Option D):D->D->Option D
 |.int i,.int j=>f i j
 |_,_=>none
def zr:D->D->Option D:=Lm λi j=>some (.int (i - j))
def xm:D->D->Option D:=Lm λi j=>if 0<j then some (.int (i % j))else none
def Ov:D->D->Option D:=Lm λi j=>if 0<j/\j<1073741824 then some (.int (i / j))else none
def AB{K:KA}{f:Int->Int->Option D}{C:Int->Int->Prop}{r:Int->Int->V}(n:∀i j d,f i j=some d->C i j/\∀G,Den K G d (r i j)):gx K (Lm f) (rI C r):=λG H x y p o d m z v l Q q=>by
 cases p with
 |int i=>
  cases o with
  |int j=>
   obtain⟨c,u⟩:=n i j d l;exact⟨i,j,z.int,v.int,c,q _ G H (Ext.refl m) (u G)⟩
  |_=>cases l
 |_=>cases l
def Ri{K:KA}{f:Int->Int->Option D}{r:Int->Int->V}(m:∀i j d,f i j=some d->∀G,Den K G d (r i j)):gx K (Lm f) (vV r):=λG H x y o n d l u p c Q q=>by
 cases o with
 |int i=>
  cases n with
  |int j=>exact⟨i,j,u.int,p.int,q _ G H (Ext.refl l) (m i j d c G)⟩
  |_=>cases c
 |_=>cases c
def SH(f:jc X B E a g)(c:jc X B E b h):fh X B E (.BinOp a .Sub b pos) (g2 zr g h):=Lj RZ (Ri λi j d e G=>by cases e;rfl) f c
def SN(l:jc X B E a g)(f:jc X B E b h):fh X B E (.BinOp a .Mod b pos) (g2 xm g h):=Lj QC (AB λi j d e=>by
 by_cases c:0<j
 ·rw[fM c]at e;cases e;exact⟨c,λ_=>rfl⟩
 ·rw[fJ c]at e;cases e) l f
def KS(l:jc X B E a g)(f:jc X B E b h):fh X B E (.BinOp a .FloorDiv b pos) (g2 Ov g h):=Lj IC (AB λi j d e=>by
 by_cases c:0<j/\j<1073741824
 ·rw[fM c]at e;cases e;exact⟨c,λ_=>rfl⟩
 ·rw[fJ c]at e;cases e) l f
def xl(f:Int->Int->Bool):D->D->Option D:=Lm λi j=>some (.bl (f i j))
def Vo:D->D->Option D:=xl λi j=>decide (i<=j)
def BE:D->D->Option D:=xl λi j=>decide (j<i)
def XH:D->D->Option D:=xl λi j=>decide (i<j)
def D0{K:KA}{f:Int->Int->Bool}:gx K (xl f) (vV λi j=>.bl (f i j)):=Ri λi j d e G=>by cases e;rfl
def My:∀x y d,xl f x y=some d->∃b,d=.bl b:=λx y d h=>by
 unfold xl Lm at h;split at h
 ·exact⟨_,(gV h).symm⟩
 ·cases h
noncomputable def x6(f c:D->D->Option D)(g h k:En->Res):En->Res:=λU=>(g U).bind λx=>(h U).bind λy=>(Res.of (f x y)).bind λz=>match z with
 |.bl true=>(k U).bind λw=>Res.of (c y w)
 |.bl false=>.ok (.bl false)
 |_=>.st
def Xe{K:KA}{k:En->Res}{f I:D->D->Option D}{r C:R2}(Y:gx K f r)(n:gx K I C){σ:St}{H:Hp}{Q:VK}(q:xB K B E (x6 f I g h k) σ H Q):Pl r C (xC K B E g) (xC K B E h) (xC K B E k) σ H Q:=by
 obtain⟨G,U,R,q⟩:=q;refine⟨G,U,R,(ey.bind q).mono λdx _ O x G1 H1 z ax=>⟨G1,U,R.ext z,((ey.bind O).ext z).mono λJ _ N y G2 H2 u L=>?_⟩⟩;have j:=z.trans u;obtain⟨d,ed,c⟩:=ey.of (ey.bind N);refine Y G2 H2 x y dx J d u.gh (ax.ext u) L ed _ λv M H3 l A=>?_;cases d with
 |bl t=>
  refine⟨t,A,?_⟩;cases t with
  |true=>
   refine⟨M,U,R.ext (j.trans l),((ey.bind c).ext (j.trans l)).mono λdw _ T w G4 H4 p aw=>?_⟩;obtain⟨d',o,m⟩:=ey.of T;exact n G4 H4 y w J dw d' p.gh ((L.ext l).ext p) aw o Q λv G5 H5 e5 A=>m v G5 H5 (((j.trans l).trans p).trans e5) A
  |false=>exact c _ M H3 (j.trans l) rfl
 |g8=>exact c.elim
 |int _=>exact c.elim
 |str _=>exact c.elim
 |tup _=>exact c.elim
 |lst _=>exact c.elim
 |hZ _ _=>exact c.elim
 |obj _ _=>exact c.elim
 |fn _=>exact c.elim
def BP(p:mm X (jF m) r)(o:gx (kx X) f r)(l:mm X (jF d) n)(j:gx (kx X) z n)(y:jc X B E a g)(x:jc X B E b h)(v:jc X B E c k)
  (u:uP [m,d] [b,c]=false:=by with_unfolding_all rfl):fh X B E (.Compare a [m,d] [b,c] pos) (x6 f z g h k):=PE.imp (AO p l y x v u) λσ H Q q=>Xe o j q
def Vg{c:Expr}{k:En->Res}{l j:CmpOp}{f o:D->D->Option D}{r p:R2}(A:mm X (jF l) r)(z:gx (kx X) f r)(n:mm X (jF j) p)(m:gx (kx X) o p)(J:∀x y d,o x y=some d->∃b,d=.bl b)(M:jc X B E a g)(L:jc X B E b h)(I:jc X B E c k)
  (C:uP [l,j] [b,c]=false:=by with_unfolding_all rfl):Er X B E (.Compare a [l,j] [b,c] pos) (x6 f o g h k):=
 PT.imp (BU A n M L I C) λσ H Q ⟨G,U,R,q⟩=>Xe z m ⟨G,U,R,q.mono<|by
  rintro d ed ⟨b,N,u⟩ v G' Y O T
  subst N;exact⟨b,T,u G' Y O⟩⟩
noncomputable def a6:D->D->Option D
 |.int i,.int j=>some (.int (i+j))
 |.str x,.str y=>if x.length+y.length<=fR then some (.str (x++y))else none
 |.lst xs,.lst c=>if xs.length+c.length<=fR then some (.lst (xs++c))else none
 |.tup xs,.tup c=>if xs.length+c.length<=fR then some (.tup (xs++c))else none
 |_,_=>none
inductive vX(K:KA)(x:V)(y:V)(H:Hp)(Q:VK):Prop
 |mk (G dx dy d) (_:c7 G H) (_:Arg K G H dx x) (_:Arg K G H dy y) (_:a6 dx dy=some d) (_:∀v G' H',Ext G H G' H'->Den K G' d v->Q v H'):vX K x y H Q
def Wu{m:gX}{w:iI}{A:iR}{E:fG->fP->Prop}{s:fP}{l b:Addr}{j f:List fG}{Q:fG->fP->Prop}(C:PlainL s.1 l j.toArray)(G:PlainL s.1 b f.toArray)(z:j.length+f.length<=fR)
  (h:Q (.ref s.1.1.size) {s with heap:=s.1.push {cls:=.type "list",data:=.seq (j++f).toArray}}):gK (gR m w) A (nZ .Add (.ref l) (.ref b)) Q E s:=by
 obtain⟨⟨cls,M,data,v⟩,n,r,c,d,q⟩:=C;obtain⟨⟨u,I,data2,p⟩,y,o,L,J,x⟩:=G;subst c d q L J x;have H:j.toArray++f.toArray=(j++f).toArray:=by simp
 refine uB ⟨_,r,rfl⟩ ⟨_,o,rfl⟩ noFill_list_add seq_list_add PySem.F.slot_list_add PySem.F.entry_list_add (PySem.F.args_list_add_2 _ _) (list_addW l b j.toArray f.toArray n y _ _ v p (by simpa using z)) ⟨r,o,?_⟩;rwa [H]
def Xc{c:gX}{w:iI}{A:iR}{E:fG->fP->Prop}{s:fP}{t b:Addr}{f p:List fG}{Q:fG->fP->Prop}(y:pO s.1 t f.toArray)(G:pO s.1 b p.toArray)(x:f=[])(H:Q (.ref b) s):
  gK (gR c w) A (nZ .Add (.ref t) (.ref b)) Q E s:=by
 obtain⟨⟨cls,I,data,u⟩,q,C,n,z⟩:=id y;obtain⟨⟨r,o,data2,j⟩,d,m,v,l⟩:=id G;subst C z m l;exact uB ⟨_,q,rfl⟩ ⟨_,d,rfl⟩ tQ seq_tuple_add qN qH (pV _ _)
  (tuple_addW0 t b f.toArray p.toArray n v I o u j (by simp[x])) ⟨q,d,H⟩
def IE:mm X (nZ .Add) (vX (kx X)):=by
 intro j s σ H x y v u Q I r o q;obtain⟨G,dx,dy,d,f,L,J,c,q⟩:=q;unfold a6 at c;split at c
 ·cases c;rw[L.int]at r;rw[J.int]at o;exact QG j s σ H _ _ _ _ Q I r o ⟨_,_,rfl,rfl,q _ G H (Ext.refl f) rfl⟩
 ·split at c
  ·rename_i hz;cases c;rw[L.str]at r;rw[J.str]at o;exact Om j s σ H _ _ _ _ Q I r o ⟨_,_,rfl,rfl,hz,q _ G H (Ext.refl f) rfl⟩
  ·cases c
 ·split at c
  ·cases c;obtain⟨l,O,rfl,M,dl⟩:=L.lst f;obtain⟨b,ws,rfl,n,m⟩:=J.lst f;cases r;cases o;obtain⟨U,N,pl,_⟩:=I.list M;obtain⟨C,A,T,_⟩:=I.list n;have l1:=dl.length;have l2:=m.length;have l3:=N.length;have l4:=A.length;refine Wu pl T (by lia) ⟨.ref _,_,I.zR (N.append A) (by rw[gI];lia),rfl,?_⟩;exact q _ _ _ (Ext.new f _ I.fresh) (uy f I.fresh (dl.append m))
  ·cases c
 ·split at c
  ·rename_i xs ys hz;cases c;obtain⟨l,O,rfl,M,dl⟩:=L.tup f;obtain⟨b,ws,rfl,n,m⟩:=J.tup f;have l1:=dl.length;have l2:=m.length
   by_cases Y:O=[]
   ·cases r;cases o;obtain⟨U,N,p1,_⟩:=I.tuple M;obtain⟨C,A,p2,_⟩:=I.tuple n;refine Xc p1 p2 (N.qd.mpr Y) ⟨.ref b,H,I,rfl,?_⟩;subst Y;have:xs=[]:=by cases xs with
     |nil=>rfl
     |cons _ _=>simp at l1
    subst this;obtain ad|⟨_,_,_,z,_⟩|⟨_,_,_,z,_⟩:=J
    ·exact q _ G H (Ext.refl f) ad
    ·cases z
    ·cases z
   ·refine ID j s σ H _ _ _ _ Q I r o ⟨l,b,O,ws,rfl,rfl,M,n,Y,by lia,λz=>?_,λz p hp=>?_⟩
    ·subst z;have:ys=[]:=by cases ys with
      |nil=>rfl
      |cons _ _=>simp at l2
     subst this;rw[jT]at q;obtain ad|⟨_,_,_,z,_⟩|⟨_,_,_,z,_⟩:=L
     ·exact q _ G H (Ext.refl f) ad
     ·cases z
     ·cases z
    ·exact q _ _ _ (Ext.new f _ hp) (n9 f hp (dl.append m))
  ·cases c
 ·cases c
def AA{K:KA}:gx K a6 (vX K):=λG H x y l j d c n m f Q q=>⟨G,l,j,d,c,n,m,f,q⟩
def RB(d:jc X B E a g)(c:jc X B E b h):fh X B E (.BinOp a .Add b pos) (g2 a6 g h):=Lj IE AA d c
def dg.uV{K:KA}{G:Hp}{f:List D}{c:List V}{i:Int}{d:D}(dl:dg K G f c)(h:uV f i=some d):∃v,uV c i=some v/\Den K G d v:=by
 unfold L2.uV at h⊢;rw[dl.length]at h;cases e:NZ c.length i with
 |none=>rw[e]at h;cases h
 |some j=>
  rw[e]at h;exact dl.get h
def OH{K:KA}{f:D->Option D}{rr:List V->Hp->VK->Prop}(p:∀G H x j d,c7 G H->Arg K G H j x->f j=some d->∀Q:VK,(∀v m l,Ext G H m l->Den K m d v->Q v l)->rr [x] H Q){σ:St}{H:Hp}{Q:VK}(q:xB K B E (g1 f g) σ H Q):
  aU rr (y2 K B E [true] (au g ae)) σ H Q:=by
 obtain⟨G,U,R,q⟩:=q;refine⟨G,U,R,?_⟩;unfold au;unfold g1 at q;cases e:g U with
 |ok j=>
  rw[e]at q;obtain⟨d,r,o⟩:=ey.of (q);intro J I C n A;obtain⟨v,rfl,z⟩:=h8.one A;exact p I C v j d n.gh z r Q λv m l u y=>o v m l (n.trans u) y
 |er c=>rw[e]at q;exact q
 |st=>rw[e]at q;exact q
noncomputable def cy:D->Option D
 |.str x=>if x.length<=fR then some (.int x.length)else none
 |.tup c=>some (.int c.length)
 |.lst c=>some (.int c.length)
 |_=>none
def SQ{p:Pos}(y:Gl X "len")(v:X.mg "len"=none)(z:jc X B E e g)(r:gQ [e] X.env=(false,eval e X.env)::gQ [] X.env:=by rfl)(n:(lJ pos (gQ [] X.env)).any (·.1)=false:=by rfl):fh X B E (.Call (.Name "len" p) [e] [] pos) (g1 cy g):=
 PE.imp (l8 Xb y v PySem.boot_len (d9 z ig r) (by decide) (by decide) r n) λσ H Q q=>OH (λG H x A d f o c Q q=>by
  unfold cy at c;split at c
  ·split at c
   ·rename_i u;cases c;rw[o.str];exact⟨_,_,rfl,⟨u,rfl⟩,q _ G H (Ext.refl f) rfl⟩
   ·cases c
  ·cases c;obtain⟨l,j,rfl,m,dl⟩:=o.tup f;exact⟨_,_,rfl,.inr ⟨j,m,dl.length⟩,q _ G H (Ext.refl f) rfl⟩
  ·cases c;obtain⟨l,j,rfl,m,dl⟩:=o.lst f;exact⟨_,_,rfl,.inl ⟨j,m,dl.length⟩,q _ G H (Ext.refl f) rfl⟩
  ·cases c) q
noncomputable def Sa:D->Option String
 |.g8=>some "NoneType"
 |.bl _=>some "bool"
 |.int _=>some "int"
 |.str _=>some "str"
 |.tup _=>some "tuple"
 |.lst _=>some "list"
 |.hZ _ _=>some "dict"
 |_=>none
def MA(t c:String):Bool:=t==c||(t=="bool" && c=="int")
def fb(c:String)(d:D):Option D:=match Sa d with
 |some t=>some (.bl (MA t c))
 |none=>none
end
end Pu
namespace L2
open PySem PySem.Spec PyProof.Rows
def Wm(_:gX)(_:iI):Wl:=λ_ _ _ _ _ _=>False
def Va{E:XK}:nr (Wm P w) X E:=λ_ _ _ _ _ _ _ h=>h.elim
def Acc(_:Cx)(_:XK):Prop:=True
def Acc.vY{X:Cx}{E:XK}(_:Acc X E):nr (Wm X.prog X.w) X E:=Va
def Cf{X:Cx}:Acc X E0:=trivial
def I9{P:gX}{w:iI}{K:gA}{g:Str->Option fG}{base:Heap}{N:List Str}{d:Str}{a:lY}{f:Addr}{h:fG}{A:iR}{b:List Env}{c:fP}{e:Hp}{E:XK}:
  Acc (Bl (Wm P w) P w K g base N d a f h A b c e E) E:=trivial
end L2
namespace Pu
open PySem PySem.Spec PyProof.Rows L2
def wo(h:a<b):a≠b+1:=by lia
def ZE{a b n:Nat}(h:b<n)(e:a=n+2)(z:a=b):False:=by lia
def dQ{a n:Nat}(e:a=n+2):a≠n/\n<=a:=by lia
def Zq:b+1≠b:=by lia
instance:Inhabited D:=⟨.g8⟩
def G8(I:Nat->fP->Prop)
   (z:∀n s,I n s->gK (gR a w) A (pQ it) (λr d=>match r with
   |none=>R (.ok .next) d
   |some v=>gK (gR a w) A (uE f it v) (λ_ d=>gK (gR a w) A (assign f b v) (λ_ u=>
     gK (gR a w) A (forIn J true λc r=>if r=true then do let ok <-isTrue c b (eval c b);pure (sF ok)else pure (sF r)) (λok j=>
      if ok=true then gK (gR a w) A (eval L b) (λx q=>
       gK (gR a w) A (call (.builtin "list.append") [M,x]) (λ_ p=>∃m,m<n/\I m p) (uD (gR a w) A b λe l=>R (.error e) l) q) (uD (gR a w) A b λe l=>R (.error e) l) j
      else∃m,m<n/\I m j) (uD (gR a w) A b λe l=>R (.error e) l) u) (uD (gR a w) A b λe l=>R (.error e) l) d) (uD (gR a w) A b λe l=>R (.error e) l) d) (uD (gR a w) A b λe l=>R (.error e) l) s)
  (n:Nat) (h:I n s):
  nR (gR a w) A (.compLoop (.ListComp L [⟨f,iter,J,0⟩] H N) 0 it M b) R s:=by
 refine codeAny_loop rfl I (λn s O=>?_) n h;refine wpAny_noted ?_;refine fB (wpAny_standAt (fB (iP (z n s O) (λr d g=>?_) λ_ _ o=>o)));cases r with
 |none=>exact fE g
 |some v=>
  refine fB (iP g (λ_ G g=>?_) λ_ _ o=>o);refine fB (iP g (λ_ u E=>fB (iP E (λok j y=>?_) λ_ _ o=>o)) λ_ _ o=>o);cases ok with
  |false=>exact fE ⟨rfl,y⟩
  |true=>
   exact fB (fB (iP y (λx q C=>fB (iP C (λ_ p B=>fE (fE ⟨rfl,B⟩)) λ_ _ o=>o)) λ_ _ o=>o))
noncomputable def jx(a:Env):List (Str×mQ)->List (Str×Addr)->Option (List (Str×Addr))
 |[],b=>some b
 | (n, k) :: r, b => if k = .free then (match a.cells.lookup n with
  |some c=>jx a r ((n,c)::b)
  |none=>none)else jx a r b
def S5(d:Env):∀(b:List (Str×mQ))(j f:List (Str×Addr)),jx d b j=some f->
  (forIn b j λx (c:List (Str×Addr))=>(if(x.2==mZ)=true then do let a <-cellOf d x.1;pure (sF ((x.1,a)::c))else pure (sF c):Sem _))=pure f:=by
 intro e;induction e with
 |nil=>rintro j f h;cases h;rfl
 |cons e r g=>
  obtain⟨n,k⟩:=e
  rintro j f h
  unfold jx at h;rw[List.forIn_cons]
  by_cases l:k=.free
  ·subst l;cases m:d.cells.lookup n with
   |none=>rw[m]at h;cases h
   |some c=>
    rw[m]at h;have:cellOf d n=pure c:=by unfold cellOf;rw[m]
    simp only[beq_self_eq_true,if_true,this,pure_bind];exact g _ f h
  ·rw[fJ l]at h;have o:(k==mZ)=false:=by simpa using l
   simp only[o,Bool.false_eq_true,if_false,pure_bind];exact g _ f h
def xg{a:lY}(h:jx b a.names []=some c):closureFor a b=pure c:=(congrArg (λt=>t>>=λd=>pure d) (S5 b a.names [] c h)).trans (pure_bind _ _)
theorem xw(a:Env):∀(b:List (Str×mQ))(e d:List (Str×Addr)),jx a b e=some d->(∀p∈e,a.cells.lookup p.1=some p.2)->∀p∈d,a.cells.lookup p.1=some p.2
 |[],e,d,h,q=>by cases h;exact q
 |(n,k)::r,e,d,h,q=>by
  unfold jx at h
  by_cases j:k=.free
  ·subst j;cases g:a.cells.lookup n with
   |none=>rw[g]at h;cases h
   |some c=>
    rw[g]at h;refine xw a r _ d h λp f=>?_;rcases List.mem_cons.mp f with rfl|f
    ·exact g
    ·exact q p f
  ·rw[fJ j]at h;exact xw a r _ d h q
def ya:∀{l:List (Str×β)}{x:Str}{c:β},l.lookup x=some c->(x,c)∈l:=by
 intro a;induction a with
 |nil=>rintro _ _ h;simp at h
 |cons a r d=>
  obtain⟨n,b⟩:=a
  rintro x c h
  rw[jU]at h
  by_cases e:x=n
  ·subst e;simp only[beq_self_eq_true]at h;cases h;exact fN
  ·have f:(x==n)=false:=by simpa using e
   rw[f]at h;exact fH _ (d h)
def Iz(own:List Str)(c:Addr)(a:List (Str×Addr)):List (Str×Addr):=match own with
 |[]=>a
 |x::_=>(x,c)::a
def nt{own:List Str}{c d:Addr}{a:List (Str×Addr)}{y:Str}(h:(Iz own c a).lookup y=some d):a.lookup y=some d\/(y∈own/\@Eq Nat d c):=by
 cases own with
 |nil=>exact .inl h
 |cons x r=>
  have h:(_::a).lookup y=some d:=h;rw[jU]at h
  by_cases e:y=x
  ·subst e;simp only[beq_self_eq_true]at h;cases h;exact .inr ⟨fN,rfl⟩
  ·have b:(y==x)=false:=by simpa using e
   rw[b]at h;exact .inl h
def Xj{own:List Str}{c:Addr}{a:List (Str×Addr)}{y:Str}(h:y∉own):(Iz own c a).lookup y=a.lookup y:=by
 cases own with
 |nil=>rfl
 |cons x r=>
  have b:(y==x)=false:=beq_eq_false_iff_ne.mpr λz=>h (z▸fN);show(_::a).lookup y=_;rw[jU,b]
def P6{own:List Str}{c:Addr}{a:List (Str×Addr)}{y:Str}(b:own.length<=1)(h:y∈own):(Iz own c a).lookup y=some c:=by
 match own,b,h with
 |[x],_,h=>
  rw[List.mem_singleton.mp h];show(_::a).lookup x=_;simp
def Gy:∀(b:List (Str×mQ))(a:Addr)(d:List (Str×Addr)),pJ a b d=pJ a (b.filter λy=>y.2==.cell) d:=by
 intro c;induction c with
 |nil=>rintro _ _;exact rfl
 |cons c r e=>
  obtain⟨n,k⟩:=c
  rintro a d
  rw[nB]
  by_cases f:(k==mC)=true
  ·rw[fM f];unfold pJ;rw[fM f,fM f];exact e _ _
  ·rw[fJ f]
   conv=>lhs;unfold pJ
   rw[fJ f];exact e _ _
def Lk:∀(a:List (Str×mQ))(h:Heap),uQ h a=uQ h (a.filter λy=>y.2==.cell):=by
 intro b;induction b with
 |nil=>rintro _;exact rfl
 |cons b r c=>
  obtain⟨n,k⟩:=b
  rintro h
  rw[nB]
  by_cases d:(k==mC)=true
  ·rw[fM d];unfold uQ;rw[fM d,fM d];exact c _
  ·rw[fJ d]
   conv=>lhs;unfold uQ
   rw[fJ d];exact c _
def EM{M:Model}{A:iR}{E:fG->fP->Prop}{s:fP}{a:lY}{g:Addr}{n:List (Str×Addr)}{q:Str}{f:Env}{own:List Str}{Q:Env->fP->Prop}(u:(a.names.filter λy=>y.2==.cell)=own.map λx=>(x,mC))(r:own.length<=1)
  (h:∀j,j.Ns s.1.1.size (λ_=>none)->(∀b o,s.1.get? b=some o->j.get? b=some o)->(∀x∈own,j.IsCell (s.1.1.size+1) none)->Q (newEnv a s.1.1.size g (Iz own (s.1.1.size+1) n) q none .none (some f) sQ) {s with heap:=j}):
  gK M A (newFunctionEnv a g n [] q none .none (some f)) Q E s:=by
 simp only[newFunctionEnv,Option.isSome_some,if_true];refine fB (wpAny_alloc ?_);refine fB (wpAny_layCells _ (λm c cells=>by cases l:c==mC<;>simp[l]) _ _ _ _ ?_);rw[iN ..,Gy,Lk,u];refine fB (fE (fE ?_));have d:=h (uQ _ (own.map λx=>(x,mC))) ((Heap.Ns.new s.1 (.type "dict")).keeps (pushCells_keeps _ _)) (λb o e=>pushCells_keeps _ _ b o (fC _ e))
 match own,r with
 |[],_=>exact d λx p=>by cases p
 |[x],_=>exact d λ_ _=>⟨_,by
   rw[(iN ..).symm];exact fO _ rfl,rfl⟩
def dZ(X:Cx)(b:lY)(f:List (Str×Addr))(C:Addr):fG->fP->Prop:=uD (gR X.prog X.w) X.A (compEnvC b f C X.env) λe c=>∃m,c.1.Ns C m/\∀d,iJ C c.1 d->∀a:Env,a.locals=C->gK (gR X.prog X.w) X.A (PySem.passOn "comprehension.variables-let-go" e a:Sem fG) (λ_ _=>False) X.xe {c with heap:=d}
noncomputable def jk(X:Cx)(a:lY)(b:List (Str×Addr))(N:List Str)(xs:List Str)(C:Addr)(kO:fP)(pq:Hp)(ex:List Addr)(pn:List (Addr×Obj)):Cx where
 prog:=X.prog
 w:=X.w
 K:=(kx X)
 mg:=X.mg
 base:=X.base
 A:=X.A
 N:=N
 kO:=kO
 pq:=pq
 env:=compEnvC a b C X.env
 outer:=X.stack
 stack:=X.stack
 ex:=ex
 fn:=λy=>decide (y∈xs)
 calm:=X.calm
 pn:=pn
 xe:=dZ X a b C
structure xo(X:Cx)(scope:lY)(cl:List (Str×Addr))(y:Str)(i:Nat):Prop where
 at_:X.N[i]?=some y
 xA:VP X.env.scope y
 zQ:X.env.kindOf y≠some .local
 cell:∃c,cl.lookup y=some c
 kind:(tE scope X.env).names.lookup y=some .cell\/(tE scope X.env).names.lookup y=some .free
def vA(X:Cx)(a:lY)(c:List (Str×Addr)):List Str->List Nat->Prop
 |[],b=>b=[]
 |y::M,b=>Cn (xo X a c y) (vA X a c M) b
theorem vA.get:∀{M:List Str}{e:List Nat},vA X a n M e->∀(j:Nat) y,M[j]?=some y->∃i,e[j]?=some i/\xo X a n y i
 |[],_,_,j,y,h=>by simp at h
 |_::_,_,c,0,y,h=>by
  obtain⟨i,r,d,g,f⟩:=c;simp at h;subst h;subst d;exact⟨i,rfl,g⟩
 |_::_,_,b,j+1,y,h=>by
  obtain⟨i,r,d,g,f⟩:=b;subst d;obtain⟨k,m,l⟩:=vA.get f j y (by simpa using h);exact⟨k,by simpa using m,l⟩
def vA.length:∀{M:List Str}{d:List Nat},vA X b j M d->M.length=d.length:=by
 intro a;induction a with
 |nil=>rintro _ h;rw[h];rfl
 |cons _ _ c=>rintro _ ⟨i,r,f,g,e⟩;rw[f,fI,fI,c e]
structure ka(X:Cx)(scope:lY)(cl:List (Str×Addr))(own xs:List Str)(M:List Str)(ix:List Nat):Prop where
 wI:jx X.env scope.names []=some cl
 kind:scope.kind=.function
 wY:(scope.names.filter λy=>y.2==.cell)=own.map λx=>(x,mC)
 wG:own.length<=1
 zM:∀x∈own,x∈xs
 names:∀y∈scope.names,y.2=.local->scope.names.lookup y.1=some .local
 loc:∀x∈xs,Wp scope x
 AF:∀x∈xs,cl.lookup x=none
 nd:(xs++M).Nodup
 zS:ix.Nodup
 CB:vA X scope cl M ix
section
variable{X:Cx}{scope:lY}{cl:List (Str×Addr)}{own xs:List Str}{M:List Str}{ix:List Nat}{pins:List (Addr×Obj)}{σ:St}{H:Hp}{s:fP}{fp:List Addr}
def A2(f:Env):∀(a:List (Str×mQ))(g cl:List (Str×Addr)),jx f a g=some cl->∀y,((∃c,g.lookup y=some c)\/(y,mZ)∈a)->∃c,cl.lookup y=some c:=by
 intro b;induction b with
 |nil=>
  rintro g cl h y q
  cases h;obtain q|q:=q
  ·exact q
  ·simp at q
 |cons b r d=>
  obtain⟨n,k⟩:=b
  rintro g cl h y q
  unfold jx at h
  by_cases j:k=.free
  ·subst j;cases l:f.cells.lookup n with
   |none=>rw[l]at h;cases h
   |some c=>
    rw[l]at h;refine d _ cl h y ?_
    by_cases e:y=n
    ·subst e;exact .inl ⟨c,by simp⟩
    ·obtain ⟨o,q⟩|q:=q
     ·refine .inl ⟨o,?_⟩;have m:(y==n)=false:=by simpa using e
      rwa [jU,m]
     ·rcases List.mem_cons.mp q with z|z
      ·cases z;exact absurd rfl e
      ·exact .inr z
  ·rw[fJ j]at h;refine d _ cl h y ?_;obtain q|q:=q
   ·exact .inl q
   ·rcases List.mem_cons.mp q with z|z
    ·cases z;exact absurd rfl j
    ·exact .inr z
def ka.free(O:ka X scope cl own xs M ix):∀y,(y,mZ)∈scope.names->∃c,cl.lookup y=some c:=λy h=>A2 X.env _ _ cl O.wI y (.inr h)
def ka.cells(O:ka X scope cl own xs M ix)(h:cl.lookup y=some c):X.env.cells.lookup y=some c:=
 xw X.env _ _ cl O.wI (λp a=>by simp at a) _ (ya h)
def Hv{scope:lY}(h:(tE scope a).names.lookup y=some .cell\/(tE scope a).names.lookup y=some .free):(y,mZ)∈scope.names\/(y,mC)∈scope.names:=by
 have f:∃k,(y,k)∈(tE scope a).names/\(k=.cell\/k=.free):=by
  obtain h|h:=h
  ·exact⟨_,ya h,.inl rfl⟩
  ·exact⟨_,ya h,.inr rfl⟩
 obtain⟨k,j,c⟩:=f;obtain⟨⟨n,g⟩,b,e⟩:=List.mem_map.mp j
 by_cases d:(g==mZ && a.scope.kind==.function && a.kindOf n==some .cell)=true
 ·simp only[d,if_true]at e;cases e;have:g=.free:=by
   simp only[gG]at d;simpa using d.1.1
  subst this;exact .inl b
 ·simp only[d,if_false]at e;cases e;obtain c|c:=c
  ·subst c;exact .inr b
  ·subst c;exact .inl b
def ka.cellIn(O:ka X scope cl own xs M ix){y:Str}(h:(y,mC)∈scope.names):y∈own:=by
 have:_∈scope.names.filter λy=>y.2==.cell:=List.mem_filter.mpr ⟨h,rfl⟩;rw[O.wY]at this;obtain⟨z,a,e⟩:=List.mem_map.mp this;cases e;exact a
theorem zu{b:Env}:∀{a:List (Str×mQ)}{x:Str},a.lookup x=some .cell->
  (a.map λ(n,k)=>if(k==mZ && b.scope.kind==.function && b.kindOf n==some .cell)then(n,mC)else(n,k)).lookup x=some .cell
 |[],_,h=>by simp at h
 |(n,k)::r,x,h=>by
  have d:=@zu b r x;show oY x ((if _=true then _ else _)::_)=_;cases c:x==n with
  |true=>
   simp only[jU,c]at h;cases h;simp[jU,c]
  |false=>
   simp only[jU,c]at h
   by_cases e:(k==mZ && b.scope.kind==.function && b.kindOf n==some .cell)=true
   ·rw[fM e];simp only[jU,c];exact d h
   ·rw[fJ e];simp only[jU,c];exact d h
def Kv{a:Env}{x:Str}(h:Wp scope x):Wp (tE scope a) x:=h.imp (λh=>lookup_relabel_local h) λh=>zu h
def FF(O:ka X scope cl own xs M ix)(I:Inv X pins σ H s)(m:∀b∈fp,oe X pins H b)(p:∀b∈fp,b<s.1.1.size){d:Heap}(A:∀b o,s.1.get? b=some o->d.get? b=some o)(L:d.objs.size=s.1.1.size+1):
  (jk X scope (Iz own (s.1.1.size+2) cl) (xs++M) xs (s.1.1.size+1) {s with heap:=d,toks:=G} (upd H s.1.1.size (.lst [])) fp (X.pn++pins)).Ok:=by
 have old:∀{b:Addr}{o:Obj},s.1.get? b=some o->b≠s.1.1.size:=λe z=>by
  have:=fS e;rw[z]at this;exact jA _ this
 have wB:∀y c,cl.lookup y=some c->c<s.1.1.size:=λy c e=>by
  obtain⟨v,q⟩:=I.cell y c (O.cells e);exact q.lt
 have g:=I.ok;refine⟨g.mod,O.kind,g.glob,g.blt,?_,?_,?_,?_,g.hd,g.frames,.inl rfl,?_,?_,?_,?_,?_,?_,?_⟩
 ·show d.objs.size<=s.1.1.size+1
  lia
 ·intro a b c d j;rcases nt d with d|⟨d,E⟩<;>rcases nt j with j|⟨j,C⟩
  ·exact g.inj a b c (O.cells d) (O.cells j)
  ·exact(ZE (wB _ _ d) C rfl).elim
  ·exact(ZE (wB _ _ j) E rfl).elim
  ·match own,O.wG,d,j with
   |[x],_,d,j=>rw[List.mem_singleton.mp d,List.mem_singleton.mp j]
 ·intro y n;rcases Hv (y:=y) n with h|h
  ·by_cases l:y∈own
   ·exact⟨_,P6 O.wG l⟩
   ·obtain⟨c,e⟩:=O.free _ h;exact⟨c,(Xj l).trans e⟩
  ·exact⟨_,P6 O.wG (O.cellIn h)⟩
 ·intro y c n B;rcases nt B with h|⟨_,e⟩
  ·rw[O.AF y (of_decide_eq_true n)]at h;cases h
  ·show d.objs.size<=c
   lia
 ·intro b f;have:=p b f;refine⟨?_,λy c e=>?_⟩
  ·exact wo this
  ·rcases nt e with e|⟨_,e⟩
   ·exact(m b f).5 y c (O.cells e)
   ·exact λz=>ZE this e z
 ·intro b o e;obtain⟨u,J⟩:=I.bs b o e;refine⟨A b o u,?_⟩;show upd H s.1.1.size _ b=none;rwa [ag (old u)]
 ·show X.base.objs.size<=d.objs.size;have:=g.xR;have:=I.sz
  lia
 ·intro b o e f;rcases(m b f).4 with q|q
  ·exact g.xJ b o e q
  ·exact absurd (iD (fS e) (iU g.xR q)) (jA _)
 ·intro b f r;rcases List.mem_cons.mp (I.ql b r)with e|e
  ·exact(m b f).2 e
  ·exact(m b f).3 e
 ·exact I.stack.of_keeps λb o e _=>⟨o,A b o e,rfl⟩
 ·intro b f;show upd H s.1.1.size _ b=none;obtain⟨_,o,l,_⟩:=I.stack.mem f;rw[ag (old l)];exact(I.vE b f)
def kj(σ:St)(ix:List Nat)(os:List (Option V)):St:=os++ix.map λi=>(σ[i]?).join
def M0{os:List (Option V)}(a:os.length=xs.length)(O:ka X scope cl own xs M ix):(kj σ ix os).length=(xs++M).length:=by
 unfold kj;rw[gI,gI,fF,a,O.CB.length]
def Xh(O:ka X scope cl own xs M ix)(I:Inv X pins σ H s)(hf:∀b∈fp,oe X pins H b)(T:∀b∈fp,b<s.1.1.size){B E:Heap}(A:∀b o,s.1.get? b=some o->B.get? b=some o)(hz:B.objs.size=s.1.1.size+1)
  (ha:B.get? s.1.1.size=some {cls:=.type "list",data:=.seq #[] 0})(a:∀b o,B.get? b=some o->E.get? b=some o)(hn:E.Ns (s.1.1.size+1) m)(L:∀x∈own,E.IsCell (s.1.1.size+2) none):
  Inv (jk X scope (Iz own (s.1.1.size+2) cl) (xs++M) xs (s.1.1.size+1) {s with heap:=B,toks:=tk} (upd H s.1.1.size (.lst [])) fp (X.pn++pins)) [] (kj σ ix (gJ xs.length none)) (upd H s.1.1.size (.lst [])) {s with heap:=E,toks:=tk2}:=by
 have old:∀{b:Addr}{o:Obj},s.1.get? b=some o->b≠s.1.1.size:=λe z=>by
  have:=fS e;rw[z]at this;exact jA _ this
 refine⟨FF O I hf T A hz,rfl,I.bare,Un.kept a,⟨m,hn,?_⟩,?_,?_,?_,?_,?_,M0 jY O⟩
 ·intro i y v hi h _
  by_cases hx:i<xs.length
  ·unfold kj at h;rw[jB (by rw[jY];exact hx),List.getElem?_replicate_of_lt hx]at h;cases h
  ·obtain⟨j,rfl⟩:∃j,i=xs.length+j:=⟨i - xs.length,by lia⟩;have Y:M[j]?=some y:=by
    have q:(xs++M)[xs.length+j]?=some y:=hi;rw[iY (nC _ _)]at q;simpa using q
   obtain⟨k,Q,C⟩:=O.CB.get j y Y;have l:((ix.map λi=>(σ[i]?).join)[j]?)=some (some v):=by
    unfold kj at h;rw[iY (by rw[jY];exact nC _ _)]at h;simpa using h
   rw[gO,Q]at l;have n:(σ[k]?).join=some v:=by simpa using l
   have J:σ[k]?=some (some v):=by
    cases e:σ[k]? with
    |none=>rw[e]at n;simp at n
    |some o=>rw[e]at n;simp at n;rw[n]
   obtain⟨mX,_,hl⟩:=I.loc;obtain⟨u,r,lk⟩:=hl k y v C.at_ J C.xA;refine⟨u,r,.inr ⟨C.kind,?_⟩⟩;obtain ⟨q,_⟩|⟨_,c,f,g⟩:=lk
   ·exact absurd q C.zQ
   ·obtain⟨c',d⟩:=C.cell;have:=O.cells d;rw[f]at this;cases this;exact⟨c,(Xj (λz=>(List.nodup_append.mp O.nd).2.2 y (O.zM y z) y (iE Y) rfl)).trans d,g.keeps λb o e=>a b o (A b o e)⟩
 ·intro y c f;rcases nt f with f|⟨ho,e⟩
  ·obtain⟨v,q⟩:=I.cell y c (O.cells f);exact⟨v,q.keeps λb o e=>a b o (A b o e)⟩
  ·rw[e];exact⟨_,L y ho⟩
 ·show upd H s.1.1.size _ (s.1.1.size+1)=none;rw[ag Zq];exact(I.fg.fresh (pA _))
 ·intro y c f;rcases nt f with f|⟨ho,e⟩
  rotate_left
  ·refine .inl ?_;rw[ag (dQ e).1];exact I.fg.fresh (dQ e).2
  obtain⟨v,q⟩:=I.cell y c (O.cells f);have N:=decide_eq_false λz=>by
   have d:=f;rw[O.AF y z]at d;cases d
  rcases I.p7 y c (O.cells f)with fr|⟨_,o,fr⟩
  ·refine .inl ?_;rwa [ag (hU q.lt)]
  ·refine .inr ⟨N,o,?_⟩;rwa [ag (hU q.lt)]
 ·intro p hp;obtain⟨G,q2,q3,q4,q5⟩:=I.pin p (by simpa[jk]using hp);refine⟨a _ _ (A _ _ G),?_,?_,?_,q5⟩
  ·rwa [ag (old G)]
  ·exact wo (fS G)
  ·intro U;rcases List.mem_cons.mp (I.ql p.1 U)with e|e
   ·exact q3 e
   ·exact q4 e
 ·refine I.fg.laid (λb o e=>a b o (A b o e)) (fQ _) ⟨iO _,[],0,.nil,a _ _ ha⟩
end
noncomputable def ub(f:D->Option (Option D)):List D->Option (List D)
 |[]=>some []
 |d::r=>match f d with
  |none=>none
  |some o=>match ub f r with
   |none=>none
   |some a=>some (o.toList++a)
inductive TR where
 |ok (o:Option D)
 |er (c:Str)
 |st
def uc(F:D->TR):List D->e9
 |[]=>.ok []
 |d::r=>match F d with
  | .ok o => (match uc F r with
   |.ok a=>.ok (o.toList++a)
   |.er c=>.er c
   |.st=>.st)
  |.er c=>.er c
  |.st=>.st
def aS:Option (Option D)->TR
 |some o=>.ok o
 |none=>.st
def P4{f:D->Option (Option D)}:∀c:List D,uc (λd=>aS (f d)) c=match ub f c with
  |some e=>.ok e
  |none=>.st:=by
 intro a;induction a with
 |nil=>exact rfl
 |cons d r b=>
  unfold uc ub;cases f d with
  |none=>rfl
  |some o=>
   rw[b];cases ub f r<;>rfl
def Qi(a:List D):e9->e9
 |.ok r=>.ok (a++r)
 |.er c=>.er c
 |.st=>.st
def Yf(R:e9):R=Qi [] R:=by cases R<;>rfl
def Tu(a:List D)(o:Option D)(R:e9):Qi a (match R with
  |.ok b=>.ok (o.toList++b)
  |.er c=>.er c
  |.st=>.st)=Qi (a++o.toList) R:=by
 cases R with
 |ok r=>exact congrArg e9.ok (oT ..).symm
 |er c=>rfl
 |st=>rfl
def cf(a:List Nat)(U:En)(s:Sl):En:=s::a.map λi=>(U[i]?).getD .no
noncomputable def Bg(a:List Nat)(t:En->Res)(g:En->Res)(U:En)(d:D):Option (Option D):=match t (cf a U (.pu d))with
 |.ok (.bl true)=>(match g (cf a U (.pu d))with
  |.ok y=>some (some y)
  |_=>none)
 |.ok (.bl false)=>some none
 |_=>none
noncomputable def a7(r:En->e9)(d:List Nat)(t:En->Res)(g:En->Res):En->Res:=λU=>match r U with
 | .ok a => if a.length <= fR then (match ub (Bg d t g U) a with
  |some b=>.ok (.lst b)
  |none=>.st)else .st
 |.er c=>.er c
 |.st=>.st
noncomputable def Ya(r:En->e9)(f:En->D->Option (Option D)):En->Res:=λU=>match r U with
 | .ok a => if a.length <= fR then (match ub (f U) a with
  |some b=>.ok (.lst b)
  |none=>.st)else .st
 |.er c=>.er c
 |.st=>.st
def sf(r:En->e9)(F:En->D->TR):En->Res:=λU=>match r U with
 | .ok a => if a.length <= fR then (match uc (F U) a with
  |.ok b=>.ok (.lst b)
  |.er c=>.er c
  |.st=>.st)else .st
 |.er c=>.er c
 |.st=>.st
def J7{r:En->e9}{f:En->D->Option (Option D)}:Ya r f=sf r λU d=>aS (f U d):=by
 funext U
 unfold Ya sf;cases r U with
 |ok a=>
  dsimp only;rw[P4];cases ub _ a<;>rfl
 |er c=>rfl
 |st=>rfl
def T6{r:En->e9}{F:En->D->TR}:IsL (sf r F):=λU d h=>by
 unfold sf at h;cases e:r U with
 |ok f=>
  rw[e]at h;dsimp only at h
  by_cases b:f.length<=fR
  ·rw[fM b]at h;cases a:uc _ f with
   |ok g=>rw[a]at h;cases h;exact⟨_,rfl⟩
   |er c=>rw[a]at h;cases h
   |st=>rw[a]at h;cases h
  ·rw[fJ b]at h;cases h
 |er c=>rw[e]at h;cases h
 |st=>rw[e]at h;cases h
def ML{F:En->D->TR}(q:ey E G H (sf r F U) P):
  gy E G H (r U) λa=>a.length<=fR/\gy E G H (uc (F U) a) λf=>P (.lst f):=by
 unfold sf at q;cases e:r U with
 |ok a=>
  rw[e]at q;dsimp only at q
  by_cases b:a.length<=fR
  ·rw[fM b]at q;refine⟨b,?_⟩;cases d:uc _ a with
   |ok f=>rw[d]at q;exact q
   |er c=>rw[d]at q;exact q
   |st=>rw[d]at q;exact q
  ·rw[fJ b]at q;exact q.elim
 |er c=>rw[e]at q;exact q
 |st=>rw[e]at q;exact q
def ua(a:List Nat)(U:En):En:=a.map λi=>(U[i]?).getD .no
def GY{K:KA}{G:Hp}:∀{a:List D}{b:List V},dg K G a b->∀{j:Nat}{t:Sl},(a.map Sl.pu)[j]?=some t->∃d v,t=.pu d/\(b.map some)[j]?=some (some v)/\Den K G d v:=λ{a b} dl j t h=>by
 rw[gO]at h;cases e:a[j]? with
 |none=>rw[e]at h;cases h
 |some d=>
  rw[e]at h;cases h;obtain⟨v,c,f⟩:=dl.get e;exact⟨d,v,rfl,by rw[gO,c];rfl,f⟩
def Mz{K:KA}{B G H:Hp}{σ:St}{U:En}{b:List Nat}{l:List D}{q:List V}(R:eu K B G H σ U)(nd:b.Nodup)(dl:dg K G l q):eu K B G H (kj σ b (q.map some)) (l.map Sl.pu++ua b U):=by
 have f:∀(j:Nat) t,(ua b U)[j]?=some t->∃i,b[j]?=some i/\((t=.no)\/U[i]?=some t)/\(b.map λi=>(σ[i]?).join)[j]?=some _:=λj t h=>by
  unfold ua at h;rw[gO]at h;cases e:b[j]? with
  |none=>rw[e]at h;cases h
  |some i=>
   rw[e]at h;refine⟨i,rfl,?_,by rw[gO,e];rfl⟩;cases O:U[i]? with
   |none=>rw[sG,O]at h;cases h;exact .inl rfl
   |some u=>rw[sG,O]at h;cases h;exact .inr rfl
 have C:∀(i:Nat) a,(σ[i]?).join=some (V.ref a)->σ[i]?=some _:=λi a h=>by
  cases e:σ[i]? with
  |none=>rw[e]at h;simp at h
  |some o=>rw[e]at h;simp at h;rw[h]
 have x:(q.map some).length=(l.map Sl.pu).length:=by rw[fF,fF,dl.length]
 have g:∀{j:Nat}{t:Sl},(l.map Sl.pu++ua b U)[j]?=some t->(∃d v,t=.pu d/\(kj σ b (q.map some))[j]?=some _/\Den K G d v)\/∃k,j=l.length+k/\_[k]?=some t/\(kj σ b _)[j]?=_[k]?:=λ{j t} h=>by
  unfold kj
  by_cases E:j<(l.map Sl.pu).length
  ·rw[jB E]at h;rw[jB (by rw[x];exact E)];exact .inl (GY dl h)
  ·obtain⟨k,rfl⟩:∃k,j=l.length+k:=⟨j - l.length,by rw[fF]at E;lia⟩;rw[iY (by rw[fF];exact nC _ _),fF,Nat.add_sub_cancel_left]at h;exact .inr ⟨k,rfl,h,by rw[iY (by rw[x,fF];exact nC _ _),x,fF,Nat.add_sub_cancel_left]⟩
 refine⟨R.bh,R.gh,?_,λj t h=>?_,λj t a J p m=>?_,λj k t u a J p m I N M=>?_,R.gb⟩
 ·unfold kj ua;rw[gI,gI,x,fF (as:=b),fF (as:=b)]
 ·rcases g h with ⟨d,v,rfl,e,y⟩|⟨k,rfl,h,e⟩
  ·exact⟨some v,e,v,rfl,y⟩
  ·obtain⟨i,r,c,n⟩:=f k t h;refine⟨_,e.trans n,?_⟩;obtain rfl|c:=c
   ·trivial
   ·obtain⟨o',T,z2⟩:=R.sl i t c;rwa [T]
 ·rcases g J with ⟨d,v,rfl,e,y⟩|⟨k,rfl,h,e⟩
  ·cases p
  ·obtain⟨i,r,c,n⟩:=f k t h;rw[e,n]at m;obtain rfl|c:=c
   ·cases p
   ·exact R.own i t a c p (C i a (gV m))
 ·rcases g J with ⟨d,v,rfl,e,y⟩|⟨j',rfl,h,e⟩
  ·cases m
  ·rcases g p with ⟨d,v,rfl,Q,y⟩|⟨k',rfl,h',Q⟩
   ·cases I
   ·obtain⟨i,r,c,n⟩:=f j' t h;obtain⟨L,y1,A,Y⟩:=f k' u h';rw[e,n]at N;rw[Q,Y]at M;obtain rfl|c:=c
    ·cases m
    ·obtain rfl|A:=A
     ·cases I
     ·have z:=R.u5 i L t u a c A m I (C i a (gV N)) (C L a (gV M));subst z;rw[(List.getElem?_inj ((List.getElem?_eq_some_iff.mp r).1) nd).mp (r.trans y1.symm)]
structure zV(X:Cx)(n:Nat)(tg:Expr)(td:D->Option (List D)):Prop where
 ex:∃gl,PG X tg gl/\∀{G H:Hp}{os:List (Option V)}{cs:St}{d:D}{v:V}{ds:List D}{Q:St->Hp->Prop},os.length=n->c7 G H->Den (kx X) G d v->td d=some ds->(∀vs,dg (kx X) G ds vs->vs.length=n->Q (vs.map some++cs) H)->gl v (os++cs) H Q
section
variable{X:Cx}{B:Hp}{E:EK}{E':XK}{scope:lY}{cl:List (Str×Addr)}{own xs:List Str}{M:List Str}{ix:List Nat}{elt iter:Expr}{ifs:List Expr}{pos:Pos}{r:En->e9}{t g:En->Res}{tg:Expr}{td:D->Option (List D)}
abbrev EF:EK:=λ_ _=>False
structure qe(X:Cx)(B:Hp)(E:XK)(scope:lY)(cl:List (Str×Addr))(own xs:List Str)(M:List Str)(tg:Expr)(td:D->Option (List D))(elt:Expr)(ifs:List Expr)(t g:En->Res):Prop where
 J':∀C kO pq ex pn,zV (jk X scope (Iz own (C+1) cl) (xs++M) xs C kO pq ex pn) xs.length tg td
 test:(ifs=[]/\t=gC (.bl true))\/∃c,ifs=[c]/\∀C kO pq ex pn,Er (jk X scope (Iz own (C+1) cl) (xs++M) xs C kO pq ex pn) B EF c t
 elt:∀C kO pq ex pn,Acc (jk X scope (Iz own (C+1) cl) (xs++M) xs C kO pq ex pn) E->fh (jk X scope (Iz own (C+1) cl) (xs++M) xs C kO pq ex pn) B (ek (kx X) E) elt g
def dE(d:D):Option (List D):=some [d]
def Ry(O:ka X scope cl own [x] M ix)(C a b h c):zV (jk X scope (Iz own (C+1) cl) ([x]++M) [x] C a b h c) 1 (.Name x m) dE:=
 ⟨_,Rc (i:=0) O.nd rfl (Kv (O.loc x fN)) (.inl (decide_eq_true fN)),λ{G H os p d v n Q} f l j e q=>by
  cases e
  match os,f with
  |[o],_=>exact q [v] (dg.one j) rfl⟩
def v7(td:D->Option (List D))(a:En)(t g:En->Res)(f:D->Option (Option D)):Prop:=∀d o,f d=some o->∃b,td d=some b/\
 ((t (b.map Sl.pu++a)=.ok (.bl true)/\∃y,g (b.map Sl.pu++a)=.ok y/\o=some y)\/(t (b.map Sl.pu++a)=.ok (.bl false)/\o=none))
def DF:v7 dE (ua ix U) t g (Bg ix t g U):=λd o h=>by
 refine⟨[d],rfl,?_⟩
 ·unfold Bg at h;have e:[d].map Sl.pu++ua ix U=cf ix U _:=rfl;split at h
  ·rename_i a;split at h
   ·rename_i y b;cases h;exact .inl ⟨a,y,b,rfl⟩
   ·cases h
  ·rename_i a;cases h;exact .inr ⟨a,rfl⟩
  ·cases h
def Fg(td:D->Option (List D))(a:En)(t g:En->Res)(F:D->TR):Prop:=∀d,F d≠.st->∃b,td d=some b/\
 ((t (b.map Sl.pu++a)=.ok (.bl true)/\((∃y,g (b.map Sl.pu++a)=.ok y/\F d=.ok (some y))\/∃c,g (b.map Sl.pu++a)=.er c/\F d=.er c))\/(t (b.map Sl.pu++a)=.ok (.bl false)/\F d=.ok none))
def v7.tr{td:D->Option (List D)}{j:En}{t g:En->Res}{f:D->Option (Option D)}(h:v7 td j t g f):Fg td j t g λd=>aS (f d):=λd l=>by
 dsimp only at l⊢;cases e:f d with
 |none=>rw[e]at l;exact absurd rfl l
 |some o=>
  obtain⟨m,q,z⟩:=h d o e;refine⟨m,q,z.imp (by rintro ⟨a,y,b,c⟩;exact⟨a,.inl ⟨y,b,by rw[c];rfl⟩⟩) (by rintro ⟨a,c⟩;exact⟨a,by rw[c];rfl⟩)⟩
def ey.zN{E:EK}{G H:Hp}{r:Res}{P:D->Prop}(d:D)(e:r=.ok d)(h:P d):ey E G H r P:=by rwa [e]
inductive CJ(Y:Cx)(a:Addr)(k:Nat)(σ:St)(ix:List Nat)(fp:List Addr)(tn:Nat->Heap->Prop)(G H:Hp)(F:D->TR)(ds:List D)(r0:e9)(n:Nat)(s1:fP):Prop
 |mk (i:Nat) (os:List (Option V)) (H1 G1:Hp) (vs:List V) (zs:List D) (_:os.length=k) (_:n=ds.length - i) (_:i<=ds.length) (_:Inv Y [] (kj σ ix os) H1 s1) (_:tn i s1.1) (_:∀b∈fp,H1 b=none)
   (_:H1 a=some (.lst vs)) (_:G1 a=none) (_:Ext G H G1 H1) (_:dg (kx Y) G1 zs vs) (_:zs.length<=i) (_:r0=Qi zs (uc F (ds.drop i))):CJ Y a k σ ix fp tn G H F ds r0 n s1
def S8{Y:Cx}{a:Addr}{k:Nat}{σ:St}{U:En}{G H:Hp}{s:fP}{it:Addr}{fp:List Addr}{tn:Nat->Heap->Prop}{J:It}{p:List D}{r0:e9}{F:D->TR}{RR:Result->fP->Prop}{n:Nat}
  (TB:zV Y k tg td)(TE:fh Y B (ek (kx Y) E') elt g)(TT:(ifs=[]/\t=gC (.bl true))\/∃c,ifs=[c]/\Er Y B EF c t)(hc:Y.calm=true)(Q:∀v s,Y.xe v s->uD (gR Y.prog Y.w) Y.A Y.env (λe s'=>RR (.error e) s') v s)(T:Turn Y.prog Y.w (kx Y) tg J fp it tn)(ε:∀{x:Hp},(∀b∈fp,x b=none)->∀b∈fp,oe Y [] x b)
  (R:eu (kx Y) B G H σ U) (zS:ix.Nodup) (fresh:H a=none) (ok:yk (kx Y) J p (λG2 H2=>Ext G H G2 H2)) (hl:p.length<=fR) (hF:Fg td (ua ix U) t g F) (hst:r0≠.st) (her:∀c,r0=.er c->∀G' H',Ext G H G' H'->ek (kx Y) E' c H')
  (fin:∀s1 x G1 vs zs os,Inv Y [] (kj σ ix os) x s1->x a=some (.lst vs)->G1 a=none->Ext G H G1 x->dg (kx Y) G1 zs vs->r0=.ok zs->RR (.ok .next) s1)
  (j:CJ Y a k σ ix fp tn G H F p r0 n s):nR (gR Y.prog Y.w) Y.A (.compLoop (.ListComp elt [⟨tg,iter,ifs,0⟩] scope pos) 0 (.ref it) (.ref a) Y.env) RR s:=by
 refine G8 _ ?_ n j
 rintro n s1 ⟨i,os,x,G1,vs,zs,hos,rfl,hi,I1,ρ,Δ,ζ,Γ,x1,N,zl,er⟩
 obtain⟨okg,oks⟩:=ok i G1 x x1 x1.gh
 by_cases o:i<p.length
 ·obtain⟨go,yl⟩:=okg p[i] (gF o);rw[kG o]at er;unfold uc at er;have gc:F p[i]≠.st:=λz=>by rw[z]at er;exact hst er
  refine iP (T.item Y rfl rfl rfl hc i [] s1 _ x _ I1 (ε Δ) ρ go) (λrr s2 ⟨u,hr,h2⟩=>?_) Q;subst hr;refine iP h2 (λ_ s3 ⟨xv,H3,I3,r3,y3,γ,fr3⟩=>?_) Q;obtain⟨G3,e3,dn⟩:=yl xv H3 y3;have x3:=x1.trans e3;have I:=e3.hh _ _ ζ;have ω:=e3.fr _ _ ζ Γ rfl;obtain⟨dx,htd,χ⟩:=hF _ gc;obtain⟨gl,TO1,TO2⟩:=TB.ex;refine iP (TO1 _ s3 _ H3 xv u (λσ' H'=>H'=H3/\∃vx,dg _ G3 dx vx/\vx.length=k/\σ'=kj σ ix (vx.map some)) (I3.pinned (ε fr3) (T.obj _ _ γ)) r3 (TO2 hos e3.gh dn htd λvx dl hv=>⟨rfl,vx,dl,hv,rfl⟩)) (λ_ s4 ⟨σ4,H4,I4,e4,vx,dlx,hvx,e5⟩=>?_) Q;subst e4 e5;have R4:=Mz (R.ext x3) zS dlx;have next:∀{O:fP}{q:Hp}{C:Hp}{us:List V}{ws:List D}{oy:Option D},F p[i]=.ok oy->Inv Y ([]++Dy fp s3.1) _ q O->
    q a=some _->C a=none->Ext G H C q->dg _ C ws us->ws=zs++oy.toList->∃m,m<p.length - i/\CJ Y a k σ ix fp tn G H F p r0 m O:=λ{O q C us ws oy} ef I5 ha5 ga5 x5 dl5 ew=>by
   have pn:=λb hb ob e=>I5.pin (b,ob) (jX _ (jX _ (yc hb e)));refine⟨_,Nat.sub_succ_lt_self _ _ o,i+1,vx.map some,q,C,us,ws,(fF _).trans hvx,rfl,o,I5.oD,T.keep _ _ _ γ λb hb ob e=>(pn b hb ob e).1,λb hb=>?_,ha5,ga5,x5,dl5,?_,?_⟩
   ·obtain⟨ob,e,d⟩:=T.obj _ _ γ b hb;exact(pn b hb ob e).2.1
   ·rw[ew,gI];exact Nat.add_le_add zl (by cases oy<;>simp)
   ·rw[er,ef,ew];exact Tu zs oy _
  have val:∀{O:fP}{q C:Hp},Inv Y ([]++Dy fp s3.1) _ q O->Ext G3 H4 C q->((∃y,g _=.ok y/\F p[i]=.ok _)\/∃c,g _=.er c/\F p[i]=.er c)->
    gK _ Y.A _ (λxx ξ=>gK _ Y.A _ _ _ ξ) _ O:=λ{O q C} I5 e5 hv=>by
    refine iP (TE _ O _ q (λv l=>∃y f,F p[i]=.ok (some y)/\Ext C q f l/\Den (kx Y) f y v) I5 ⟨C,_,R4.ext e5,?_⟩) (λxx s6 ⟨v6,l,I6,r6,y,f,ef,h,d6⟩=>?_) Q
    ·obtain ⟨y,eg,ef⟩|⟨c,eg,ef⟩:=hv
     ·exact ey.zN y eg λv f l h d6=>⟨y,f,ef,h,d6⟩
     ·rw[eg];rw[ef]at er;exact λf l h=>her c er f l (x3.trans (e5.trans h))
    ·have L:=e5.trans h;have ψ:=L.fr _ _ I ω rfl;refine iP (wm _ s6 _ l (.ref a) [v6] _ [xx] (λ_ H7=>H7=upd l a _) I6 rfl (.cons r6 .nil) ⟨_,vs,v6,rfl,rfl,L.hh _ _ I,?_,rfl⟩) (λ_ s7 ⟨_,H7,I7,_,e7⟩=>?_) Q
     ·rw[<-N.length];exact sT zl (iD o hl)
     ·subst e7;exact next ef I7 ai ψ ((x3.trans L).wr ψ fresh) ((N.mono (e3.gg.trans L.gg)).append (dg.one d6)) rfl
  obtain ⟨rfl,rfl⟩|⟨c,rfl,ht⟩:=TT
  ·refine wpAny_tests_nil ?_;obtain ⟨_,hv⟩|⟨hb,_⟩:=χ
   ·exact val I4 (Ext.refl R4.gh) hv
   ·cases hb
  ·refine wpAny_tests_one ?_;obtain ⟨et,hv⟩|⟨et,ef⟩:=χ
   ·refine iP (ht _ s4 _ H4 (λb l=>b=true/\∃f,Ext G3 H4 f l) I4 ⟨G3,_,R4,ey.zN _ et ⟨true,rfl,λf l h=>⟨rfl,f,h⟩⟩⟩) (λb s6 ⟨l,I6,eb,f,h⟩=>?_) Q;subst eb;exact val I6 h hv
   ·refine iP (ht _ s4 _ H4 (λb l=>b=false/\∃f,Ext G3 H4 f l) I4 ⟨G3,_,R4,ey.zN _ et ⟨false,rfl,λf l h=>⟨rfl,f,h⟩⟩⟩) (λb s6 ⟨l,I6,eb,f,h⟩=>?_) Q;subst eb;exact next ef I6 (h.hh _ _ I) (h.fr _ _ I ω rfl) (x3.trans h) (N.mono (e3.gg.trans h.gg)) (jT _).symm
 ·obtain rfl:i=p.length:=uI hi (tS o);rw[rL]at er;refine iP (T.done Y rfl rfl rfl hc _ [] s1 _ x _ I1 (ε Δ) ρ (oks (fQ _))) (λrr s2 ⟨hr,I2⟩=>?_) Q;subst hr;exact fin s2 x G1 vs zs os I2 ζ Γ x1 N (er.trans (congrArg e9.ok (jT _)))
def Wr(X:Cx)(E:XK):Prop:=E=E0
def Ws{N:List Str}{C:Addr}{a:fP}{c o:Hp}{l:List Addr}{j b:List (Addr×Obj)}{σ:St}{f:fP}(n:Wr X E')(I:Inv X b σ o f)(p:f.1.get? C=none)(back:∀{d e m h},Inv (jk X scope cl N xs C a c l j) d e m h->Inv X b σ m h):Acc (jk X scope cl N xs C a c l j) E':=by
 cases n;exact Cf
def Jr(O:ka X scope cl own xs M ix)(hc:X.calm=true)(hA:Wr X E')(Bk:qe X B E' scope cl own xs M tg td elt ifs t g){a:List (Addr×Obj)}{σ:St}{U:En}{G H:Hp}{s:fP}{it:Addr}{fp:List Addr}{tn:Nat->Heap->Prop}{J:It}{ds:List D}{F:D->TR}
  (I:Inv X a σ H s)(T:Turn X.prog X.w (kx X) tg J fp it tn)(st:tn 0 s.1)(hf:∀b∈fp,oe X a H b)(R:eu (kx X) B G H σ U)(ok:yk (kx X) J ds (λG2 H2=>Ext G H G2 H2))(hl:ds.length<=fR)(hF:Fg td (ua ix U) t g F)
  {RR:fG->Addr->Result->fP->Prop} (κ:∀e s',(∃m,s'.1.Ns (s.1.1.size+1) m/\∀h',iJ (s.1.1.size+1) s'.1 h'->∀j:Env,j.locals=s.1.1.size+1->gK (gR X.prog X.w) X.A (PySem.passOn "comprehension.variables-let-go" e j:Sem fG) (λ_ _=>False) X.xe {s' with heap:=h'})->RR (.ref s.1.1.size) (s.1.1.size+1) (.error e) s')
  (n:gy (ek (kx X) E') G H (uc F ds) λys=>∀Y l G1 vs m,Inv X a σ l Y->Y.1.Ns (s.1.1.size+1) m->l (s.1.1.size+1)=none->Ext G H G1 l->G1 s.1.1.size=none->l s.1.1.size=some (.lst vs)->dg (kx X) G1 ys vs->RR (.ref s.1.1.size) (s.1.1.size+1) (.ok .next) Y):
  gK (gR X.prog X.w) X.A (newList []) (λμ ζ=>gK (gR X.prog X.w) X.A (newFunctionEnv scope X.env.globals cl [] X.env.qual none .none (some X.env)) (λj ε=>
   nR (gR X.prog X.w) X.A (.compStart (.ListComp elt [⟨tg,iter,ifs,0⟩] scope pos) 0 (.ref it) μ {j with scope:=tE scope X.env}) (RR μ j.locals) ε) X.xe ζ) X.xe s:=by
 have L:∀b∈fp,b<s.1.1.size:=λb u=>by
  obtain⟨o,e,_⟩:=T.obj 0 _ st b u;exact fS e
 refine jJ (EM O.wY O.wG λι d C α=>?_);generalize β:s.1.push {cls:=.type "list",dict:=none,data:=.seq ([]).toArray}=f at d C α⊢;have hz:f.objs.size=s.1.1.size+1:=by rw[<-β,iN]
 rw[hz]at d α⊢;have hk:∀b o,s.1.get? b=some o->f.get? b=some o:=λb o e=>by rw[<-β];exact fC _ e
 have ha:f.get? s.1.1.size=some {cls:=.type "list",data:=.seq #[] 0}:=by rw[<-β];exact fO _ rfl
 have fresh:=I.fg.fresh (fQ _);have ψ:∀{l:Hp},(∀b∈fp,l b=none)->∀b∈fp,oe (jk X scope (Iz own _ cl) (xs++M) xs _ {s with heap:=f,toks:=s.toks} (upd H s.1.1.size (.lst [])) fp (X.pn++a)) [] l b:=λ{l} hn b u=>by
  obtain⟨f0,f1,f2,f3,f4,f5⟩:=hf b u;refine⟨hn b u,?_,?_,.inl u,λy c e=>(by
   rcases nt e with e|⟨_,e⟩
   ·exact f4 y c (O.cells e)
   ·exact λz=>ZE (L b u) e z),λp hp=>f5 p (by simpa[jk]using hp)⟩
  ·exact wo (L b u)
  ·intro χ;rcases List.mem_cons.mp (I.ql b χ)with e|e
   ·exact f1 e
   ·exact f2 e
 have back:∀{x δ l Y},Inv (jk X scope (Iz own (s.1.1.size+2) cl) (xs++M) xs (s.1.1.size+1) {s with heap:=f,toks:=s.toks} (upd H s.1.1.size (.lst [])) fp (X.pn++a)) x δ l Y->Inv X a σ l Y:=λ{x δ l Y} Q=>by
  exact I.yR Q.os ((Un.laid hk (fQ _) fresh).trans Q.base) Q.fg Q.bare λb u=>by
   obtain⟨f0,f1,f2,f3,f4,f5⟩:=hf b u;exact⟨f3,f1,f4,f5⟩
 have N:nR _ X.A (.compLoop (.ListComp elt [⟨tg,iter,ifs,0⟩] scope pos) 0 _ _ (compEnvC scope _ _ X.env)) _
   {s with heap:=ι}:=
  S8 (r0:=uc F ds) (Bk.J' _ _ _ _ _) (Bk.elt _ _ _ _ _ (Ws hA I (Heap.get?_none_of_le (pA _)) back)) (Bk.test.imp_right (by rintro ⟨c,e,h⟩;exact⟨c,e,h _ _ _ _ _⟩)) hc (λv s' q=>iP q (λ_ s2 z=>κ v s2 z) λe s2 z=>κ e s2 z) T ψ R O.zS fresh ok hl hF (λz=>by rw[z]at n;exact n) (λc z=>by rw[z]at n;exact n)
   (λs2 l G1 vs zs os Q ω Γ x1 Φ z=>by
    obtain⟨m2,φ,_⟩:=Q.loc;rw[z]at n;exact n s2 l G1 vs m2 (back Q) φ Q.free x1 Γ ω Φ)
   ⟨0,gJ xs.length none,_,G,[],[],jY,rfl,iO _,(Xh (tk2:=s.toks) O I hf L hk hz ha C d α),T.keep 0 _ _ st (λb _ o e=>C b o (hk b o e)),λb u=>by rw[ag (hU (L b u))];exact(hf b u).1,ai,(cu R.gh fresh),(Ext.own R.gh _ fresh),rfl,fQ _,Yf _⟩
 exact codeAny_compStart_list N (T.self _ 0 _ _ _ (T.keep 0 _ _ st (λb _ o e=>C b o (hk b o e))) N)
def EA(E b:EK)(F:En->D->TR):Prop:=∀U a c,uc (F U) a=.er c->∀H,E c H->b c H
def X4{E b:EK}{f:En->D->Option (Option D)}:EA E b λU d=>aS (f U d):=λU a c h=>by
 rw[P4]at h;cases e:ub (f U) a with
 |none=>rw[e]at h;cases h
 |some j=>rw[e]at h;cases h
def gy.er{E b:EK}{G H:Hp}{r:e9}{P:List D->Prop}(h:gy E G H r P)(f:∀c,r=.er c->∀H,E c H->b c H):gy b G H r P:=by
 cases r with
 |ok j=>exact h
 |er c=>exact λd a e=>f c rfl a (h d a e)
 |st=>exact h
def AV{F:En->D->TR}(O:ka X scope cl own xs M ix)(hc:X.calm=true)(hA:Wr X E')(Bk:qe X B E' scope cl own xs M tg td elt ifs t g)(hF:∀U,Fg td (ua ix U) t g (F U))(hE:EA E (ek (kx X) E') F)(hi:Sj X B E tg iter r)
  (hs:∀x,mH iter X.env x=pure x:=by intro _;rfl):FZ X B E (.ListComp elt [⟨tg,iter,ifs,0⟩] scope pos) (sf r F):=by
 intro l s σ H Q I q;obtain⟨G,U,R,q⟩:=q;refine wpAny_comprehension_free rfl hs (xg O.wI) O.kind O.names ?_;refine iP (hi l s σ H (λJ H1=>∃u h,Ext G H u H1/\yk _ J h _/\h.length<=fR/\gy E G H _ λA=>
  ∀a C G' H',Ext G H G' H'->H a=none->G' a=none->H' a=some _->dg _ G' A C->Q _ H') I
  ⟨G,U,R,(ML q).mono (by rintro h _ ⟨N,q⟩ J u H1 f ok;exact⟨u,h,f,ok,N,q.mono λA _ ⟨Ξ,ed,q⟩=>by cases ed;exact q⟩)⟩) (λv s1 h1=>iP h1 (λζ n h2=>?_) λ_ _ e=>e) λ_ _ e=>e
 obtain⟨it,fp,tn,J,H1,rfl,j,T,st,hf,u,h,f,ok,N,q⟩:=h2;refine Jr O hc hA Bk j T st hf (R.ext f) ok N (hF U) (λ_ _ z=>z) (((q.ext f).er (hE U h)).mono λA _ q=>?_);intro s3 H3 G3 C m I3 hm hC e3 g3 h3 dl;refine⟨m,hm,λh' L=>⟨.ref n.1.1.size,H3,?_,rfl,q _ C G3 H3 (f.trans e3) (cu f.hh (j.fg.fresh (fQ _))) g3 h3 dl⟩⟩;have d:n.1.1.size<=n.1.1.size+1:=pA _;refine I3.turned (it:=n.1.1.size+1) (λb o hb e=>L.extBut b o hb e) hC ?_ (.inr (iU j.sz d)) ?_ ?_
 ·exact λz=>absurd (iD j.lt (iU d (oJ z))) (jA _)
 ·intro y c Y z;obtain⟨v',q'⟩:=j.cell y c Y;exact absurd (iD q'.lt (iU d (oJ z.symm))) (jA _)
 ·intro p hp z;exact absurd (iD (fS (j.pin p hp).1) (iU d (oJ z.symm))) (jA _)
end
section
variable{K:KA}
def HI(h:Sa d=some t):pC K (.type t) (.type "int")=some (MA t "int"):=by cases d<;>cases h<;>rfl
def Y0(h:Sa d=some t):pC K (.type t) (.type "bool")=some (MA t "bool"):=by cases d<;>cases h<;>rfl
def HH(h:Sa d=some t):pC K (.type t) (.type "str")=some (MA t "str"):=by cases d<;>cases h<;>rfl
def Y1(h:Sa d=some t):pC K (.type t) (.type "list")=some (MA t "list"):=by cases d<;>cases h<;>rfl
def Ul(h:Sa d=some t):pC K (.type t) (.type "tuple")=some (MA t "tuple"):=by cases d<;>cases h<;>rfl
end
section
variable{X:Cx}{B:Hp}{E:EK}{e a b:Expr}{es:List Expr}{g h:En->Res}{pos:Pos}
def VT(K:KA)(c:String):Prop:=∀{d:D}{t:String},Sa d=some t->pC K (.type t) (.type c)=some (MA t c)
inductive yK(K:KA)(c:String)(xs:List V)(H:Hp)(Q:VK):Prop
 |mk (G d x t) (_:xs=[x,.ty c]) (_:c7 G H) (_:Arg K G H d x) (_:Sa d=some t) (_:Q (.bl (MA t c)) H):yK K c xs H Q
def Xa(hk:VT (kx X) c):jo X (.builtin "isinstance") (yK (kx X) c):=by
 intro J s σ H xs us Q I r q;obtain⟨G,d,x,t,rfl,L,C,m,q⟩:=q;obtain⟨u,u2,rfl,j,O⟩:=ET r;cases O;have e:=hk m;have f:∀M,EP X J σ Q _ {s with toks:=M}:=λM=>⟨.bl _,H,I.tok M,rfl,q⟩;cases d with
 |g8=>
  cases m;rw[C.g8]at j;cases j;exact mM PySem.W.kitx_none I.q7 lN e (λz=>nomatch z) f
 |bl y=>
  cases m;rw[C.bl]at j;cases j;exact mM PySem.W.kitx_bool I.q7 lN e (λz=>nomatch z) f
 |int i=>
  cases m;rw[C.int]at j;obtain⟨t,rfl⟩:=j;exact mM PySem.W.kitx_int I.q7 lN e (λz=>nomatch z) f
 |str y=>
  cases m;rw[C.str]at j;obtain⟨t,rfl⟩:=j;exact mM PySem.W.kitx_str I.q7 lN e (λz=>nomatch z) f
 |tup ds=>
  cases m;obtain⟨l,vs,rfl,N,dl⟩:=C.tup L;cases j;obtain⟨U,rv,⟨o,Y,hc,n,hd⟩,_⟩:=I.tuple N;exact mM PySem.W.kitx_tuple I.q7 ⟨o,Y,hc⟩ e (λz=>nomatch z) f
 |lst ds=>
  cases m;obtain⟨l,vs,rfl,N,dl⟩:=C.lst L;cases j;obtain⟨U,rv,pl,_⟩:=I.list N;obtain⟨o,Y,hc,_⟩:=pl.isList;exact mM PySem.W.kitx_list I.q7 ⟨o,Y,hc⟩ e (λz=>nomatch z) f
 |hZ tt θ=>
  cases m;have T:∃a,x=.ref a/\((∃es,H a=some (.dK es))\/∃es,Rd H a (.dT es)):=by
   obtain ⟨a,A,v⟩|⟨_,_,_,z,_⟩|⟨t',ε,a,z,A,v⟩:=C
   ·exact⟨a,A,v.elim (by rintro ⟨_,es,q,_⟩;exact .inl ⟨es,L _ _ q⟩) (by rintro ⟨_,o,es,q,_⟩;exact .inr ⟨es,.inr ⟨o,L _ _ q⟩⟩)⟩
   ·cases z
   ·exact⟨a,A,v.elim (by rintro ⟨_,es,q,_⟩;exact .inl ⟨es,q⟩) (by rintro ⟨_,es,q,_⟩;exact .inr ⟨es,.inl q⟩)⟩
  obtain⟨a,rfl,v⟩:=T;cases j;obtain ⟨es,ea⟩|⟨es,ea⟩:=v
  ·obtain⟨_,_,vs,_,p⟩:=(I.fg a _ ea);obtain⟨o,β,ep,A,v,_⟩:=p;exact mM PySem.W.kitx_dict I.q7 ⟨o,A,v.1⟩ e (λz=>nomatch z) f
  ·obtain⟨_,_,xs,_,o,β,ep,A,v,_⟩:=(Rd.ok ea I.fg);exact mM PySem.W.kitx_dict I.q7 ⟨o,A,v.1⟩ e (λz=>nomatch z) f
 |obj _ _=>cases m
 |fn _=>cases m
def D1(O:VT (kx X) c)(T:Gl X "isinstance")(N:X.mg "isinstance"=none)(r:Gl X x)(o:X.mg x=none)(l:lZ x=some (.type c))(Y:jc X B E e g)
  (n:x≠"__name__":=by decide)(y:(x==("__debug__":Str))=false:=by decide)
  (A:gQ [e,.Name x f] X.env=(false,eval e X.env)::gQ [.Name x f] X.env:=by rfl) (u:gQ [.Name x f] X.env=(false,eval (.Name x f) X.env)::gQ [] X.env:=by rfl) (m:(lJ pos (gQ [.Name x f] X.env)).any (·.1)=false:=by rfl):
  fh X B E (.Call (.Name "isinstance" p) [e,.Name x f] [] pos) (g1 (fb c) g):=
 PE.imp (l8 (Xa O) T N boot_isinstance (jb Y (jb (JU (v:=.ty c) r o l rfl n y) oq u) A) (by decide) (by decide) A m) λσ H Q ⟨G,U,R,q⟩=>⟨G,U,R,(ey.bind q).mono λI _ L x J H1 C ax=>by
  obtain⟨d,j,M⟩:=ey.of L;unfold fb at j;cases z:Sa I with
  |none=>rw[z]at j;cases j
  |some t=>
   rw[z]at j;cases j;exact⟨J,I,x,t,rfl,C.gh,ax,z,M _ J H1 C rfl⟩⟩
noncomputable def Bb(d:D):D->Option Bool
 |.lst xs=>match b9 xs,bz d with
  |some c,some q=>if gE c && iB q then some (c.any λy=>iG y q)else none
  |_,_=>none
 |.tup xs=>match b9 xs,bz d with
  |some c,some q=>if gE c && iB q then some (c.any λy=>iG y q)else none
  |_,_=>none
 |.str z=>match d with
  |.str x=>some (!(qG z x 0 z.length 1).isEmpty)
  |_=>none
 |_=>none
def Vn(d e:D):Option D:=(Bb d e).map .bl
def lj(d e:D):Option D:=(Bb d e).map λb=>.bl !b
def B1{b:Bool}(h:(match b9 xs,bz d with
  |some c,some q=>if gE c && iB q then some (c.any λy=>iG y q)else none
  |_,_=>none)=some b):∃c q,b9 xs=some c/\bz d=some q/\gE c=true/\iB q=true/\b=c.any λy=>iG y q:=by
 cases j:b9 xs with
 |none=>rw[j]at h;cases h
 |some c=>
  cases l:bz d with
  |none=>rw[j,l]at h;cases h
  |some q=>
   rw[j,l]at h;dsimp only at h
   by_cases f:(gE c && iB q)=true
   ·rw[fM f]at h;cases h;rw[gG]at f;exact⟨c,q,rfl,rfl,f.1,f.2,rfl⟩
   ·rw[fJ f]at h;cases h
inductive vC(K:KA)(neg:Bool)(x:V)(y:V)(H:Hp)(Q:VK):Prop
 |mk (G dx dy b) (_:c7 G H) (_:Arg K G H dx x) (_:Arg K G H dy y) (_:Bb dx dy=some b) (_:Q (.bl (if neg then !b else b)) H):vC K neg x y H Q
def QE(N:X.A.units+65<jS):mm X (jF .In) (vC (kx X) false):=by
 intro d s σ H x y v u Q I m l q;obtain⟨G,U,T,b,j,M,L,f,q⟩:=q;cases T with
 |lst xs=>
  obtain⟨O,p,J,C,n,c,rfl⟩:=B1 f;obtain⟨Y,r⟩:=cx I j M m C;obtain⟨bs,o⟩:=cx I j L l (by unfold bz;rw[J]);exact SeqAt.in_list_reads o r n (mU c) (qQ c N) ⟨.bl _,H,I,rfl,q⟩
 |tup xs=>
  obtain⟨O,p,J,C,n,c,rfl⟩:=B1 f;obtain⟨Y,r⟩:=cx I j M m C;obtain⟨bs,o⟩:=cx I j L l (by unfold bz;rw[J]);exact SeqAt.in_tuple_reads o r n (mU c) (qQ c N) ⟨.bl _,H,I,rfl,q⟩
 |str z=>
  cases U with
  |str w=>
   cases f;rw[M.str]at m;rw[L.str]at l;exact U5 d s σ H _ _ _ _ Q I m l ⟨_,_,rfl,rfl,q⟩
  |_=>cases f
 |_=>cases f
def U6(N:X.A.units+65<jS):mm X (jF .NotIn) (vC (kx X) true):=by
 intro d s σ H x y v u Q I m l q;obtain⟨G,U,T,b,j,M,L,f,q⟩:=q;cases T with
 |lst xs=>
  obtain⟨O,p,J,C,n,c,rfl⟩:=B1 f;obtain⟨Y,r⟩:=cx I j M m C;obtain⟨bs,o⟩:=cx I j L l (by unfold bz;rw[J]);exact SeqAt.notIn_list_reads o r n (mU c) (qQ c N) ⟨.bl _,H,I,rfl,q⟩
 |tup xs=>
  obtain⟨O,p,J,C,n,c,rfl⟩:=B1 f;obtain⟨Y,r⟩:=cx I j M m C;obtain⟨bs,o⟩:=cx I j L l (by unfold bz;rw[J]);exact SeqAt.notIn_tuple_reads o r n (mU c) (qQ c N) ⟨.bl _,H,I,rfl,q⟩
 |str z=>
  cases U with
  |str w=>
   cases f;rw[M.str]at m;rw[L.str]at l;exact Ia d s σ H _ _ _ _ Q I m l ⟨_,_,rfl,rfl,q⟩
  |_=>cases f
 |_=>cases f
def JD:gx (kx X) Vn (vC (kx X) false):=λG H x y l j d f n m c Q q=>by
 unfold Vn at c;cases e:Bb l j with
 |none=>rw[e]at c;cases c
 |some b=>rw[e]at c;cases c;exact⟨G,l,j,b,f,n,m,e,q _ G H (Ext.refl f) rfl⟩
def Os:gx (kx X) lj (vC (kx X) true):=λG H x y l j d f n m c Q q=>by
 unfold lj at c;cases e:Bb l j with
 |none=>rw[e]at c;cases c
 |some b=>rw[e]at c;cases c;exact⟨G,l,j,b,f,n,m,e,q _ G H (Ext.refl f) rfl⟩
def jj:D->Option D
 |.lst c=>some (.tup c)
 |.tup c=>some (.tup c)
 |_=>none
def BD:D->Option D
 |.int i=>some (.int i)
 |.bl b=>some (.int (if b then 1 else 0))
 |_=>none
def BJ(y:Gl X "tuple")(v:X.mg "tuple"=none)(A:jc X B E e g)(u:gQ [e] X.env=(false,eval e X.env)::gQ [] X.env:=by rfl)(n:(lJ pos (gQ [] X.env)).any (·.1)=false:=by rfl):fh X B E (.Call (.Name "tuple" p) [e] [] pos) (g1 jj g):=
 PE.imp (ni E1 y v qJ (d9 A ig u) (by decide) (by decide) u n) λσ H Q q=>OH (λG H x C d c o f Q q=>by
  unfold jj at f;split at f
  ·cases f;obtain⟨l,j,rfl,m,dl⟩:=o.lst c;exact⟨l,j,rfl,.inl ⟨m,λp r=>q _ _ _ (Ext.new c _ r) (n9 c r dl)⟩⟩
  ·cases f;obtain⟨l,j,rfl,m,dl⟩:=o.tup c;obtain ad|⟨_,_,_,z,_⟩|⟨_,_,_,z,_⟩:=o
   ·exact⟨l,j,rfl,.inr ⟨m,q _ G H (Ext.refl c) ad⟩⟩
   ·cases z
   ·cases z
  ·cases f) q
def KP(o:Gl X "int")(n:X.mg "int"=none)(r:jc X B E e g)(l:gQ [e] X.env=(false,eval e X.env)::gQ [] X.env:=by rfl)(f:(lJ pos (gQ [] X.env)).any (·.1)=false:=by rfl):fh X B E (.Call (.Name "int" p) [e] [] pos) (g1 BD g):=
 PE.imp (ni Su o n PyProof.Rows.boot_int (d9 r ig l) (by decide) (by decide) l f) λσ H Q q=>OH (λG H x u d j m c Q q=>by
  unfold BD at c;split at c
  ·cases c;rw[m.int];exact .inl ⟨_,rfl,q _ G H (Ext.refl j) rfl⟩
  ·cases c;rw[m.bl];exact .inr ⟨_,rfl,q _ G H (Ext.refl j) rfl⟩
  ·cases c) q
end
section
variable{X:Cx}{G0 B:Hp}{E:EK}{e a b:Expr}{es:List Expr}{g h:En->Res}{pos:Pos}
noncomputable def rj(i:Nat)(g:En->Res):En->Out:=λU=>match U[i]? with
 |some (.ow c)=>(g U).then λd=>if c.length<fR then .nx (U.set i (.ow (c++[d])))else .st
 |_=>.st
def eu.uZ{K:KA}{G H:Hp}{σ:St}{U:En}{i:Nat}{d:List D}(R:eu K B G H σ U)(h:U[i]?=some (.ow d)):OA B G H .lst (dg K G d) σ[i]?:=by
 obtain⟨o,c,a,f,m,l,j⟩:=R.sl i _ h;subst m;obtain⟨g,b⟩:=R.own i _ a h rfl c;exact⟨a,f,c,l,j,g,b⟩
def CS{i:Nat}{x:Str}{p m f:Pos}(hv:PE X (.Name x p) (tw i))(ha:fh X B E e g)
  (r:mY (.Name x p) "append" X.env (eval (.Name x p) X.env)=eval (.Name x p) X.env:=by rfl)
  (y:((lJ f (gQ [e] X.env)).all (λx=> !x.1) && (qO f (nS [] X.env)).all (λx=>x.1.isSome)
   && decide (([e]:List Expr).length+([]:List mS).length+(if([]:List mS).isEmpty then 0 else 1)<30))=true:=by rfl)
  (o:(m.endLine==f.line)=true:=by rfl) (N:gQ [e] X.env=(false,eval e X.env)::gQ [] X.env:=by rfl) (n:(lJ f (gQ [] X.env)).any (·.1)=false:=by rfl)
  (C:mG (.Call (.Attribute (.Name x p) "append" m) [e] [] f) none pos.line X.env=pure false:=by rfl):
  qr X G0 B E (.Expr (.Call (.Attribute (.Name x p) "append" m) [e] [] f) pos) (rj i g):=
 PS.imp (s9 (A9 kP pX pY wm hv (Ci ha ig N) r y o N n) C)<|by
  rintro D σ H ⟨G,U,R,T,q⟩
  unfold rj at q;cases z:U[i]? with
  |none=>rw[z]at q;exact q.elim
  |some sl=>
   rw[z]at q;cases sl with
   |ow ds=>
    obtain⟨l,J,M,A,L,q4,q5⟩:=R.uZ z;refine⟨.ref l,M,.inl ⟨rfl,J,i'.of A⟩,G,U,R,?_⟩;have j:=qf T q;unfold au;cases I:g U with
    |er c=>rw[I]at j;exact j
    |st=>rw[I]at j;exact j
    |ok d=>
     rw[I]at j;have j:ki _ G0 B E G _ D:=j
     by_cases O:ds.length<fR
     ·rw[fM O]at j;intro ws G1 H1 u al;obtain⟨d',dr,v,vr,z1,z2,dv,z3,Y⟩:=al;cases z1;subst z2 Y;have Q:=u.hh _ _ A;refine⟨l,J,v,rfl,rfl,Q,by rwa [<-L.length],?_⟩;exact j σ G1 _ u.gg (eu.wr (R.ext u) z M Q ((L.mono u.gg).append (dg.one dv))) (Ext.wr (T.trans u) (u.fr _ _ A q4 rfl) q5)
     ·rw[fJ O]at j;exact j.elim
   |no=>exact q.elim
   |pu _=>exact q.elim
   |bo _=>exact q.elim
   |od _ _=>exact q.elim
def J4(T:String)(C:T="list"\/T="tuple")(l:Addr)(f:Array fG)(n:Nat)(b:Addr)(c:Array fG)(u:Nat)(p:Option Addr)(o:Array (Option fG))(z:¬(!f.isEmpty && pW (f.size+c.size))=true)(y:f.size<=fR)(v:f.size+c.size<=fR+1):
  Meets (Builtin.«list.extend» ⟨[.ref l,.ref b],[]⟩) (λ_ R s=>s.1.get? l=some {cls:=.type "list",dict:=none,data:=.seq f n,slots:=#[]}/\s.1.get? b=some {cls:=.type T,dict:=p,data:=.seq c u,slots:=o}/\R (.ok (.ret lD)) {s with heap:=s.1.update l (sS λx=>x++c),toks:=s.toks}):=
 .of_wp λq w A R s h=>by
  obtain⟨H,g,d,G,os⟩:=s;obtain⟨m,r,h⟩:=h;have I:=AutoSeq1.sub_list_tuple;have j:(f++c).size<=fR+1:=by rwa [Array.size_append]
  obtain rfl|rfl:=C
  ·wp_walk using(nQ m rfl (_hz':=j)),nX m,nX r;exact⟨_,rfl,h⟩
  ·wp_walk using(nQ m rfl (_hz':=j)),nX m,nX r;exact⟨_,rfl,h⟩
inductive wU(K:KA)(x:V)(vs:List V)(H:Hp)(Q:VK):Prop
 |mk (l b xs zs) (_:x=.ref l) (_:vs=[.ref b]) (_:H l=some (.lst xs)) (_:(i' K H b zs\/mn K H b zs)) (_:xs.length+zs.length<=fR) (_:Q .g8 (upd H l (.lst (xs++zs)))):wU K x vs H Q
def Q1:bR X "list.extend" (wU (kx X)):=by
 intro N s σ H x vs v us Q I Y rv h;obtain⟨l,b,xs,U,rfl,rfl,O,hB,hz,q⟩:=h;cases Y;obtain⟨u,rfl,ru⟩:=rv.one;cases ru;obtain⟨z,j,n,r,hl,e⟩:=I.xM O;have J:∃T f o y m,(T="list"\/T="tuple")/\Vals U f/\s.1.get? b=some {cls:=.type T,dict:=y,data:=.seq f.toArray o,slots:=m}:=by
  obtain hB|hB:=hB
  ·obtain⟨f,A,G,_⟩:=I.list hB;obtain⟨⟨cls,dd,data,C⟩,o,M,c,d,q⟩:=G;subst c d q;exact⟨_,f,o,_,C,.inl rfl,A,M⟩
  ·obtain⟨f,A,G,_⟩:=I.tuple hB;obtain⟨⟨cls,dd,data,C⟩,M,c,o,q⟩:=G;subst c q;exact⟨_,f,o,_,C,.inr rfl,A,M⟩
 obtain⟨T,f,o,y,m,hT,A,e2⟩:=J;have γ:=A.length;have L:j.toArray.size+f.toArray.size<=fR:=by rw[hW,hW];lia
 have p:¬(!j.toArray.isEmpty && pW (j.toArray.size+f.toArray.size))=true:=by
  rw[Zy L,qR];exact Bool.false_ne_true
 refine uC F.slot_list_extend ⟨_,e,rfl⟩ F.entry_list_extend (F.args_list_extend_2 _ _)
  (J4 T hT l j.toArray n b f.toArray o y m p (by lia) (by lia)) ⟨e,e2,?_⟩
 refine⟨.g8,_,I.xN O e (by simp) (r.append A) ?_,rfl,q⟩;rw[gI]
 lia
noncomputable def qq(i:Nat)(g:En->Res):En->Out:=λU=>match U[i]? with
 |some (.ow c)=>(g U).then λd=>match sk d with
  |some es=>if c.length+es.length<=fR then .nx (U.set i (.ow (c++es)))else .st
  |none=>.st
 |_=>.st
def CQ{i:Nat}{x:Str}{p m f:Pos}(hv:PE X (.Name x p) (tw i))(ha:jc X B E e g)
  (y:mY (.Name x p) "extend" X.env (eval (.Name x p) X.env)=eval (.Name x p) X.env:=by rfl)
  (z:((lJ f (gQ [e] X.env)).all (λx=> !x.1) && (qO f (nS [] X.env)).all (λx=>x.1.isSome)
   && decide (([e]:List Expr).length+([]:List mS).length+(if([]:List mS).isEmpty then 0 else 1)<30))=true:=by rfl)
  (u:(m.endLine==f.line)=true:=by rfl) (hs:gQ [e] X.env=(false,eval e X.env)::gQ [] X.env:=by rfl) (o:(lJ f (gQ [] X.env)).any (·.1)=false:=by rfl)
  (O:mG (.Call (.Attribute (.Name x p) "extend" m) [e] [] f) none pos.line X.env=pure false:=by rfl):
  qr X G0 B E (.Expr (.Call (.Attribute (.Name x p) "extend" m) [e] [] f) pos) (qq i g):=
 PS.imp (s9 (A9 kP PySem.F.slot_list_extend PySem.F.type_list_extend Q1 hv (d9 ha ig hs) y z u hs o) O)<|by
  rintro D σ H ⟨G,U,R,ex,q⟩
  unfold qq at q;cases C:U[i]? with
  |none=>rw[C]at q;exact q.elim
  |some sl=>
   rw[C]at q;cases sl with
   |ow ds=>
    obtain⟨l,Y,q1,M,q3,q4,q5⟩:=R.uZ C;refine⟨.ref l,q1,.inl ⟨rfl,Y,i'.of M⟩,G,U,R,?_⟩;have j:=qf ex q;unfold au;cases Q:g U with
    |er c=>rw[Q]at j;exact j
    |st=>rw[Q]at j;exact j
    |ok d=>
     rw[Q]at j;cases A:sk d with
     |none=>
      have j:ki _ G0 B E G _ D:=j;rw[A]at j;exact j.elim
     |some es=>
      have j:ki _ G0 B E G _ D:=j;rw[A]at j;dsimp only at j
      by_cases hl:ds.length+es.length<=fR
      ·rw[fM hl]at j;intro ws G1 H1 r al;obtain⟨v,rfl,av⟩:=h8.one al;have h1:=r.hh _ _ M;have N:∃b n,v=.ref b/\(i' (kx X) H1 b n\/mn (kx X) H1 b n)/\dg (kx X) G1 es n:=by
        cases d with
        |lst T=>cases A;obtain⟨b,n,L,J,I⟩:=av.lst r.gh;exact⟨b,n,L,.inl J,I⟩
        |tup T=>cases A;obtain⟨b,n,L,J,I⟩:=av.tup r.gh;exact⟨b,n,L,.inr J,I⟩
        |_=>cases A
       obtain⟨b,n,rfl,sq,dl⟩:=N;have l1:=q3.length;have l2:=dl.length;refine⟨l,b,Y,n,rfl,rfl,h1,sq,by lia,?_⟩;exact j σ G1 _ r.gg (eu.wr (R.ext r) C q1 h1 ((q3.mono r.gg).append dl)) (Ext.wr (ex.trans r) (r.fr _ _ M q4 rfl) q5)
      ·rw[fJ hl]at j;exact j.elim
   |no=>exact q.elim
   |pu _=>exact q.elim
   |bo _=>exact q.elim
   |od _ _=>exact q.elim
end
def bq:D->Option gd
 |.int i=>some (.inl i)
 |.str x=>some (.inr x)
 |_=>none
def rh(k:gd):bq (kD k)=some k:=by cases k<;>rfl
noncomputable def d8:List (D×D)->gd->Option D
 |[],_=>none
 |(k,d)::r,j=>if bq k=some j then some d else d8 r j
def Tx(a:List (D×D))(j:gd):Bool:=a.any λp=>decide (bq p.1=some j)
def Ar(a:List (D×D))(j:gd)(v:D):List (D×D):=if Tx a j=true then a.map (λp=>if bq p.1=some j then(p.1,v)else p)else a++[(kD j,v)]
section
variable{K:KA}{G:Hp}
def il.length:∀{a:List (D×D)}{es:List (gd×V)},il K G a es->a.length=es.length:=by
 intro b;induction b with
 |nil=>rintro _ h;rw[h];rfl
 |cons _ _ c=>rintro _ ⟨k,v,r,e,_,_,d⟩;rw[e,fI,fI,c d]
def il.look:∀{b:List (D×D)}{es:List (gd×V)},il K G b es->∀j,(∀d,d8 b j=some d->∃v,i8 es j=some v/\Den K G d v)/\(d8 b j=none->i8 es j=none):=by
 intro a;induction a with
 |nil=>
  rintro es h j
  rw[h];exact⟨λd e=>(by cases e),λ_=>Mc⟩
 |cons a r c=>
  obtain⟨k,d⟩:=a
  rintro es h j
  obtain⟨m,v,t,rfl,rfl,p,q⟩:=h;obtain⟨o,n⟩:=c q j;unfold d8;rw[rh]
  by_cases e:m=j
  ·subst e;rw[fM rfl];exact⟨λf z=>⟨v,o3 rfl,by cases z;exact p⟩,λz=>by cases z⟩
  ·rw[fJ (λz=>e (gV z))];refine⟨λf z=>?_,λz=>?_⟩
   ·obtain⟨u,l,g⟩:=o f z;exact⟨u,(j7 e).trans l,g⟩
   ·exact(j7 e).trans (n z)
def il.has:∀{b:List (D×D)}{es:List (gd×V)},il K G b es->∀j,Tx b j=es.any λf=>decide (f.1=j):=by
 intro a;induction a with
 |nil=>rintro es h j;rw[h];rfl
 |cons a r c=>
  obtain⟨k,n⟩:=a
  rintro es h j
  obtain⟨g,u,t,rfl,rfl,m,l⟩:=h;have d:=c l j;unfold Tx at d⊢;rw[mB,mB,d]
  congr 1
  rw[rh]
  by_cases e:g=j
  ·simp[e]
  ·rw[decide_eq_false e,decide_eq_false λz=>e (gV z)]
def il.vB(m:Den K G d v):∀{b:List (D×D)}{es:List (gd×V)},il K G b es->∀j,il K G (b.map λp=>if bq p.1=some j then(p.1,d)else p) (es.map λc=>if c.1=j then(c.1,v)else c):=by
 intro a;induction a with
 |nil=>rintro es h j;rw[h];rfl
 |cons a r g=>
  obtain⟨k,q⟩:=a
  rintro es h j
  obtain⟨f,u,t,rfl,rfl,n,o⟩:=h;have l:=g o j;rw[fL,fL];rw[rh]
  by_cases e:f=j
  ·rw[fM e,fM (by rw[e])];exact⟨f,v,_,rfl,rfl,m,l⟩
  ·rw[fJ e,fJ λz=>e (gV z)];exact⟨f,u,_,rfl,rfl,n,l⟩
def il.snoc(f:Den K G d v):∀{b:List (D×D)}{es:List (gd×V)},il K G b es->∀j,il K G (b++[(kD j,d)]) (es++[(j,v)]):=by
 intro a;induction a with
 |nil=>rintro es h j;rw[h];exact⟨j,v,[],rfl,rfl,f,rfl⟩
 |cons a r c=>
  obtain⟨k,m⟩:=a
  rintro es h j
  obtain⟨e,u,t,rfl,rfl,g,l⟩:=h;exact⟨e,u,_,rfl,rfl,g,c l j⟩
def il.put(b:Den K G d v)(h:il K G a es)(j:gd):il K G (Ar a j d) (jm es j v):=by
 unfold Ar jm;rw[h.has j]
 by_cases e:(es.any λc=>decide (c.1=j))=true
 ·rw[fM e,fM e];exact h.vB b j
 ·rw[fJ e,fJ e];exact h.snoc b j
end
section
variable{X:Cx}{G0 B:Hp}{E:EK}{e a b:Expr}{es:List Expr}{g h k:En->Res}{pos:Pos}
def Arg.vM{K:KA}{G H:Hp}{c:List (D×D)}{v:V}(s:c7 G H)(h:Arg K G H (.hZ false c) v):RA H .dK (il K G c) v:=by
 obtain ⟨a,f,d⟩|⟨_,_,_,z,_⟩|⟨l,j,a,z,f,d⟩:=h
 ·obtain ⟨_,es,q,r⟩|⟨z,_⟩:=d
  ·exact⟨a,es,f,s _ _ q,r⟩
  ·cases z
 ·cases z
 ·cases z;obtain ⟨_,es,q,r⟩|⟨z,_⟩:=d
  ·exact⟨a,es,f,q,r⟩
  ·cases z
def xq(i:Nat):En->Out:=λU=>.nx (U.set i (.od false []))
def eu.zJ{K:KA}{G H:Hp}{σ:St}{U:En}{i:Nat}{a:Addr}(R:eu K B G H σ U)(c:H a=none):eu K B G (upd H a (.dK [])) (σ.set i (some (.ref a))) (U.set i (.od false [])):=R.wH (Ext.own R.gh _ c) c (cu R.gh c) ⟨a,[],rfl,ai,rfl⟩
def TK(f:PS X (.Assign [.Name x c] (.Dict [] [] p) pos) (L6 DU (pb i))):qr X G0 B E (.Assign [.Name x c] (.Dict [] [] p) pos) (xq i):=
 PS.imp f (by rintro D σ H ⟨G,U,R,e,q⟩;exact λa d=>q _ G _ (c7.refl G) (R.zJ d) (e.trans (Ext.own R.gh _ d)))
def eu.yL{K:KA}{G H:Hp}{σ:St}{U:En}{i:Nat}{c:List (D×D)}(R:eu K B G H σ U)(h:U[i]?=some (.od false c)):OA B G H .dK (il K G c) σ[i]?:=by
 obtain⟨o,d,a,f,m,l,j⟩:=R.sl i _ h;subst m;obtain⟨g,b⟩:=R.own i _ a h rfl d;exact⟨a,f,d,l,j,g,b⟩
def eu.AS{K:KA}{G H:Hp}{σ:St}{U:En}{i:Nat}{f c:List (D×D)}{a:Addr}{es d:List (gd×V)}(R:eu K B G H σ U)(l:U[i]?=some (.od false f))(j:σ[i]?=some (some (V.ref a)))(m:H a=some (.dK es))(dl:il K G c d):
  eu K B G (upd H a (.dK d)) σ (U.set i (.od false c)):=R.zA l rfl j ⟨a,d,rfl,ai,dl⟩
def m6{K:KA}{G H:Hp}{d:D}{v:V}{k:gd}(h:Arg K G H d v)(e:bq d=some k):v=kV k:=by
 cases d with
 |int i=>cases e;exact h.int
 |str x=>cases e;exact h.str
 |_=>cases e
noncomputable def D4(i:Nat)(f d:En->Res):En->Out:=λU=>match U[i]? with
 |some (.od false c)=>(d U).then λv=>(f U).then λk=>match bq k with
  |some j=>if c.length<fR then .nx (U.set i (.od false (Ar c j v)))else .st
  |none=>.st
 |_=>.st
def TU{i:Nat}{x:Str}{p d:Pos}{f r:Expr}(hu:X.A.units+5<jS)(hv:PE X (.Name x p) (tw i))(hk:jc X B E f g)(m:fh X B E r h)
  (hs:mG r (some (.Subscript (.Name x p) f d)) pos.line X.env=pure false:=by rfl):qr X G0 B E (.Assign [.Subscript (.Name x p) f d] r pos) (D4 i g h):=
 PS.imp (Rj hu hv hk m hs)<|by
  rintro D σ H ⟨G,U,R,z,q⟩
  unfold D4 at q;cases n:U[i]? with
  |none=>rw[n]at q;exact q.elim
  |some Q=>
   rw[n]at q;cases Q with
   |od t u=>
    cases t with
    |true=>exact q.elim
    |false=>
     obtain⟨l,es,M,L,J,Y,T⟩:=R.yL n;refine⟨G,U,R,(qf z q).mono λdv _ q v G1 H1 o dn=>⟨.ref l,M,G1,U,R.ext o,(qf (z.trans o) (ki.same o.gg q)).mono λdk _ q y G2 H2 I ay=>?_⟩⟩;have c:=o.trans I;cases C:bq dk with
     |none=>rw[C]at q;exact q.elim
     |some j=>
      rw[C]at q;dsimp only at q
      by_cases N:u.length<fR
      ·rw[fM N]at q;have O:=c.hh _ _ L;rw[m6 ay C];refine⟨l,_,rfl,vu.k O (by rwa [<-J.length]),?_⟩;exact q σ G2 _ I.gg (eu.AS (R.ext c) n M O ((J.mono c.gg).put (dn.mono I.gg) j)) (Ext.wr (z.trans c) (c.fr _ _ L Y rfl) T)
      ·rw[fJ N]at q;exact q.elim
   |no=>exact q.elim
   |pu _=>exact q.elim
   |bo _=>exact q.elim
   |ow _=>exact q.elim
end
def gc:Expr->Bool
 |.Starred _ _=>false
 |_=>true
def ah(h:gc e=true):gQ (e::es) a=(false,eval e a)::gQ es a:=by
 cases e<;>first|rfl|cases h
def vz:∀{es:List Expr}{b:Env}{a:Pos},es.all gc=true->(lJ a (gQ es b)).any (·.1)=false:=by
 intro c;induction c with
 |nil=>rintro _ _ _;exact rfl
 |cons e es d=>
  rintro b a h
  rw[iF,gG]at h;rw[ah h.1];show((false||(lJ a _).any (·.1)))=false;rw[d h.2];rfl
def me:∀{es:List Expr}{b:Env}{a:Pos},es.all gc=true->(lJ a (gQ es b)).all (λx=> !x.1)=true:=by
 intro c;induction c with
 |nil=>rintro _ _ _;exact rfl
 |cons e es d=>
  rintro b a h
  rw[iF,gG]at h;rw[ah h.1];show((true && (lJ a _).all _))=true;rw[d h.2];rfl
def Ed(h:gc e=true)(c:gc f=true):lJ b (gQ [e,f] a)=[(false,eval e a),(false,eval f a)]:=by
 rw[ah h,ah c];rfl
def Ie:Expr->Bool
 |.UnaryOp .Not _ _=>false
 |.BoolOp _ _ _=>false
 |.IfExp _ _ _ _=>false
 |.Compare _ _ _ _=>false
 |_=>true
def F9{a:Expr}(h:Ie a=true):∀b,isTrue a d b=(do let v <-b;standAt a.pos;holding [v] (truthy v)):=by
 intro b;cases a<;>first|rfl|(cases h;done)|skip
 rename_i c x p;cases c<;>first|rfl|cases h
def Aq:Expr->Bool
 |.Slice _ _ _ _=>false
 |_=>true
def Ve(h:Aq b=true):Gr b:=by
 intro o i;cases b<;>first|rfl|cases h
def ph:Expr->Bool
 |.Set _ _ _=>false
 |_=>true
def pk(h:ph b=true):pU a b=false:=by
 cases b<;>first|rfl|cases h
def oo(h:ph e=true):∀x,mH e a x=pure x:=by
 intro x;cases e<;>first|rfl|cases h
def Dv(h:ph c=true):uP [d,a] [b,c]=false:=pk h
def qm:Expr->Bool
 |.ListComp _ _ _ _=>false
 |.SetComp _ _ _ _=>false
 |.DictComp _ _ _ _ _=>false
 |_=>true
def gu(h:qm e=true):mG e t n a=pure false:=by
 cases e<;>first|rfl|cases h
def j4:Expr->Bool
 |.Call _ _ _ _=>false
 |_=>true
def l7(h:j4 o=true):mY o a b w=w:=by
 cases o<;>first|rfl|cases h
end Pu
namespace L2
open PySem PySem.Spec PyProof.Rows
structure z6(bmB:List fG)(newId:String):Prop where
 facts:∃Bn inN bmN B nid initId,ExcBaseFacts Bn newId inN bmN/\bmB.contains (.type Bn)=true/\ExcBaseFacts B nid initId bmB
section
variable{P:gX}{w:iI}{K:gA}{mg:Str->Option fG}{base:Heap}
def xU.Kf{x b:Str}{st:Stmt}{f:Addr}{m:oZ}{N h:List Str}{k:Nat}{g:Sp}(F:xU K x b st f m)(S:n4 N h (a9 st))(len:∀d H Q E,g d H Q E->d.length=h.length)
   (e:∀(c:fG)(A:iR)(a:List Env)(s:fP)(H:Hp)(d:List V)(Q:VK)(E:XK),m.code=c->j2 k (A.deeper (uA b (a9 st) s.1.1.size f c))->g d H Q E->
   ∃t,uW (Bl (Wm P w) P w K mg base N b (a9 st) f c A a s H E) (dh st) t/\t {nx:=λ_ q=>Q .g8 q,rt:=Q} (uf N d) H):ll P w K mg base (Wm P w) (k+1) f m h g:=by
 obtain⟨u,od,kV,p,r,v,c,ct,n,rfl,lk,l⟩:=F.ex;exact VC lk l S len λA a s H d Q E o j=>e c A a s H d Q E rfl o j
def ll.calm(F:ll P w K mg base (Wm P w) k f p l g):ll P w K mg base Wk k f p l (λb H Q _=>g b H Q E0):=by
 refine⟨λb H Q E h=>F.len b H Q E0 h,λA a s H c d b Q E m q n r h=>oK (F.run A a s H c d b Q E0 m q n r h) λj u z=>?_⟩;cases j with
 |ok o=>cases o<;>exact z
 |error e=>
  exact kH z
end
end L2
namespace Pu
open PySem PySem.Spec PyProof.Rows L2
def X7{P:gX}{w:iI}{e:gA}{mg:Str->Option fG}{base:Heap}{x b:Str}{st:Stmt}{f:Addr}{l:oZ}{N j:List Str}{k:Nat}{ms:List Bool}{Fb:En->Out}(F:xU e x b st f l)(S:n4 N j (a9 st))(o:ms.length=j.length)
   (d:∀(c:fG)(A:iR)(a:List Env)(s:fP)(H v:Hp)(E:XK),l.code=c->j2 k (A.deeper (uA b (a9 st) s.1.1.size f c))->
   ym (Bl (Wm P w) P w e mg base N b (a9 st) f c A a s H E) v H (ek ⟨e,Wf mg⟩ E) (dh st) Fb):
  ll P w e mg base (Wm P w) (k+1) f l j (uY ⟨e,Wf mg⟩ ms (bK ms N.length Fb)):=by
 refine F.Kf S (λm H Q E h=>h.1.trans o) λc A a s H m Q E p n h=>?_;obtain⟨y,r,G,z,g,u,q⟩:=h;exact⟨_,d c A a s H G E p n,G,_,Nd r g u,Ext.refl g,JV g q⟩
inductive zI(K:KA)(ms:List Bool)(f:List D->Res)(vs:List V)(H:Hp)(Q:VK)(E:XK):Prop
 |mk (_:vs.length=ms.length) (_:wM H) (G ds) (_:c7 G H) (_:h8 K G H ms ds vs) (_:ey (ek K E) G H (f ds) λd=>∃es,d=.lst es/\∀a ws G' H',Ext G H G' H'->H a=none->G' a=none->H' a=some (.lst ws)->dg K G' es ws->Q (.ref a) H'):zI K ms f vs H Q E
end Pu
namespace L2
open PySem PySem.Spec PyProof.Rows
def PN{CX:Wl}{P:gX}{w:iI}{K:gA}{mg:Str->Option fG}{base:Heap}{f:Addr}{m d:Str}{g:Arguments}{j:List Stmt}{a:lY}{dV kV O pm h ct oc:fG}{an od:Option Addr}
  {β:Array (Option fG)} {N T:List Str} {U:Sp} (lk:K.lookup f=some ⟨oc,od,.func (jO m d g j a dV kV O pm an h ct),β⟩) (δ:lO K h d=true) (S:n4 N T a)
  (len:∀z H Q E,U z H Q E->z.length=T.length)
  (C:∀(A:iR)(c:List Env)(s:fP)(H:Hp)(z:List V)(Q:VK)(E:XK),U z H Q E->
   ∃t,uW (Bl CX P w K mg base N d a f h A c s H E) j t/\t {nx:=λ_ p=>Q .g8 p,rt:=Q} (uf N z) H):
  ll P w K mg base CX 0 f (jO m d g j a dV kV O pm an h ct) T U:=by
 refine⟨len,λA c s H ι us z Q E hr M hb r I=>?_⟩;have hl:=len _ _ _ _ I;have KX:=M.mod.x4.keeps λb o e=>(M.bs b o e).1;have B:∀y∈T.zip us,a.names.lookup y.1=some .local\/(a.names.lookup y.1=some .cell/\((pJ (s.1.1.size+1) a.names []).lookup y.1).isSome=true):=by
  rintro ⟨n,v⟩ hy
  rcases S.par n (sE hy).1 with q|q
  ·exact .inl q
  ·exact .inr ⟨q,qM _ _ _ (.inl q)⟩
 refine codeAny_call_function hr.depth (KX _ _ lk) rfl S.co S.gen rfl (PySem.W.codeRec_of KX δ) (hb _ _ _ _ ?_);refine wpAny_newFunctionEnv_cells S.kind B λΓ he s1 x=>?_;subst he;refine⟨(M.mod.nolimit.keeps λb o e=>(M.bs b o e).1).keeps x.toInCall.keep,codeAny_func ?_⟩;obtain⟨t,ht,hq⟩:=C A c s H z Q E I;refine iP (ht [] s1 _ H _ (Fz S hr.hd M hl r x) hq) (λfl Y G=>?_) λe Y G=>G;have L:∀{l:St}{p:Hp}{v:V}{u:fG},Inv (Bl CX P w K mg base N d a f h A c s H E) [] l p Y->RelV v u->Q v p->CE c P w H s Q u Y:=
  λ{l p v u} J rv q=>⟨v,p,J.os,J.bare,J.base,J.fg,rv,q⟩
 cases fl with
 |ret u=>
  obtain⟨v,l,p,J,rv,q⟩:=G;exact L J rv q
 |next=>
  obtain⟨l,p,J,q⟩:=G;exact L (v:=V.g8) (u:=lD) J rfl q
 |brk=>
  obtain⟨_,_,_,q⟩:=G;exact kH q
 |cont=>
  obtain⟨_,_,_,q⟩:=G;exact kH q
end L2
namespace Pu
open PySem PySem.Spec PyProof.Rows L2
inductive vT(C:Addr)(n1 n2:Str)(vs:List V)(H:Hp)(Q:VK)(E:XK):Prop
 |mk (x dx u1 u2) (_:vs=[.ref x,u1,u2]) (_:H x=some (.ins C dx [])) (_:Q .g8 (upd H x (.ins C dx [(n1,u1),(n2,u2)]))):vT C n1 n2 vs H Q E
inductive sx(P:gX)(w:iI)(K:gA)(mg:Str->Option fG)(base:Heap)(c n1 n2:Str):Prop
 |mk (C f fd) (_:mg c=some (.ref C)) (_:w9 K C) (_:ng K C n1) (_:ng K C n2) (_:n1≠n2) (_:Mk K C f) (_:Binds K fd ["self",n1,n2] []) (_:ll P w K mg base Wk 0 f fd ["self",n1,n2] (vT C n1 n2)):sx P w K mg base c n1 n2
def HY{P:gX}{w:iI}{K:gA}{m:Str->Option fG}{base:Heap}{f C:Addr}{j a g d:Str}{st:Stmt}{kV l z h ct T:fG}{B od:Option Addr}{o:Array (Option fG)}
  (lk:K.lookup f=some ⟨T,od,.func (jO j a (f9 st) (dh st) (a9 st) .none kV l z B h ct),o⟩)(r:lO K h a=true)(S:n4 ["self",g,d] ["self",g,d] (a9 st))
  (eb:dh st=[.Assign [.Attribute (.Name "self" O) g p2] (.Name g N) p4,.Assign [.Attribute (.Name "self" M) d p6] (.Name d L) p8]) (ne:g≠d)
  (ok:([("self":Str),g,d].all λx=>decide ((a9 st).names.lookup x=some .local) && !(x==("__debug__":Str)) && !(x==("__classdict__":Str)))=true) (c:w9 K C) (a1:ng K C g) (a2:ng K C d):ll P w K m base Wk 0 f (jO j a (f9 st) (dh st) (a9 st) .none kV l z B h ct) ["self",g,d] (vT C g d):=by
 refine PN lk r S (by rintro G H Q E ⟨x,u,y,n,e,_,_⟩;rw[e];rfl) λA b s H G Q E ⟨x,u,y,n,e,hx,q⟩=>?_;subst e;simp only[gG,decide_eq_true_eq,tF,iF,List.all_nil,and_true]at ok;obtain⟨⟨⟨l0,d0⟩,θ⟩,⟨⟨Y,d1⟩,d2⟩,⟨U,d3⟩,d4⟩:=ok;rw[eb];have v:∀p,PE (Bl Wk P w K m base ["self",g,d] a _ f h A b s H E) (.Name "self" p) (tw 0):=λp=>Ib rfl (.inl l0);have J:∀p,PE (Bl Wk P w K m base ["self",g,d] a _ f h A b s H E) (.Name g p) (tw 1):=λp=>Ib rfl (.inl Y) d1 d2;have I:∀p,PE (Bl Wk P w K m base ["self",g,d] a _ f h A b s H E) (.Name d p) (tw 2):=λp=>Ib rfl (.inl U) d3 d4;refine⟨_,Li (BW (v O) (J N) rfl) (B7 (BW (v M) (I L) rfl)),?_⟩;refine⟨y,rfl,.ref x,rfl,x,C,u,[],rfl,hx,c,a1,by simp,?_⟩;refine⟨n,rfl,.ref x,rfl,x,C,u,[_],rfl,ai,c,a2,by simp,?_⟩;rw[Iu,show vq d n [_]=[_,_]from by unfold vq;rw[fJ ne];rfl];exact q
def Rl(cls:Str->Option (Str×Str))(f:Str)(d:D):Option D:=match d with
 | .obj (.Name c _) fs => (match cls c with
  |some (b,a)=>if f=b\/f=a then fs.lookup f else none
  |none=>none)
 |_=>none
def fm(cls:Str->Option (Str×Str))(f:Str)(g:En->Res):En->Res:=λU=>(g U).bind λd=>Res.of (Rl cls f d)
def uU.look{K:KA}{G:Hp}{f:Str}:∀{fs:List (Str×D)}{c:List (Str×V)}{d:D},uU K G fs c->fs.lookup f=some d->∃v,c.lookup f=some v/\Den K G d v:=by
 intro a;induction a with
 |nil=>rintro _ _ _ e;cases e
 |cons a r b=>
  obtain⟨n,q⟩:=a
  rintro _ d ⟨v,t,o,m,l⟩ e
  subst o;rw[jU]at e
  by_cases g:f=n
  ·subst g;rw[show(f==f)=true from by simp]at e;cases e;exact⟨v,by rw[jU,show(f==f)=true from by simp],m⟩
  ·have h:(f==n)=false:=by simpa using g
   rw[h]at e;obtain⟨u,p,j⟩:=b l e;exact⟨u,by rwa [jU,h],j⟩
section
variable{X:Cx}{B:Hp}{E:EK}{e:Expr}{es:List Expr}{g h:En->Res}{pos p:Pos}{f:Str}{cls:Str->Option (Str×Str)}
def SV(N:∀c l j,cls c=some (l,j)->sx X.prog X.w X.K X.mg X.base c l j)(T:jc X B E e g)(O:j4 e=true):fh X B E (.Attribute e f pos) (fm cls f g):=
 PE.imp (RV T (l7 O)) λσ H Q ⟨G,U,R,q⟩=>⟨G,U,R,(ey.bind q).mono λd _ q v x H1 u av=>by
  obtain⟨d',b,I⟩:=ey.of q;cases d with
  |obj en fs=>
   cases en with
   |Name c p=>
     change (match cls c with
    |some (l,j)=>if f=l\/f=j then fs.lookup f else none
    |none=>none)=some d' at b
     cases n:cls c with
     |none=>rw[n]at b;cases b
     |some J=>
      obtain⟨l,j⟩:=J;rw[n]at b;dsimp only at b
      by_cases m:f=l\/f=j
      ·rw[fM m]at b;obtain⟨C,fi,fd,M,Y,a1,a2,_⟩:=N c l j n;obtain⟨a,y,rfl,⟨dx,r⟩,df⟩:Den _ x _ v:=by
        obtain z|⟨_,_,_,z,_⟩|⟨_,_,_,z,_⟩:=av
        ·exact z
        ·cases z
        ·cases z
       obtain⟨o,L,dv⟩:=df.look b;have eC:(kx X).A c=C:=by show Wf X.mg c=C;unfold Wf;rw[M]
       rw[eC]at r;exact⟨a,C,dx,y,o,rfl,u.gh _ _ r,Y,by rcases m with rfl|rfl<;>assumption,L,I o x H1 u dv⟩
      ·rw[fJ m]at b;cases b
   |_=>cases b
  |_=>cases b⟩
def zi(c b a:Str)(d:List D):Res:=match d with
 |[l,j]=>.ok (.obj (.Name c ⟨0,0,0,0⟩) [(b,l),(a,j)])
 |_=>.st
def SS{x z v:Str}{a b:Expr}{r:En->e9}(hc:sx X.prog X.w X.K X.mg X.base x z v)(hr:j2 1 X.A)(hg:Gl X x)(ha:Pz X B E [false,false] [a,b] r)(m:(x==("__debug__":Str))=false)
  (he:gQ [a,b] X.env=(false,eval a X.env)::gQ [b] X.env)(j:(lJ pos (gQ [b] X.env)).any (·.1)=false):fh X B E (.Call (.Name x p) [a,b] [] pos) (af (zi x z v) r):=by
 obtain⟨C,fi,fd,I,hC,a1,a2,ne,M,bd,F⟩:=hc;refine PE.imp (JR (E:=E0) M F hr hg I bd .nil WB ha m he j) λσ H Q ⟨G,U,R,q⟩=>⟨G,U,R,(W8 q).mono λds _ q vs N n a al=>?_⟩;intro y c Y l T;obtain⟨d1,dr,u,vr,rfl,rfl,h1,h2⟩:=al;obtain⟨d2,ν,o,O,rfl,rfl,h3,h4,h5⟩:=h2;subst h4 h5;refine⟨y,c,u,o,rfl,ai,rfl,?_⟩;rw[Iu];have L:Ext N n N (upd n c (.own y)):=Ext.own a.gh _ l;have d:upd n c (.own y) y=none:=by rwa [ag T.symm]
 have J:=cu a.gh Y;have eC:(kx X).A x=C:=by show Wf X.mg x=C;unfold Wf;rw[I]
 refine q _ _ _ ((a.trans L).trans (Ext.new L.gh _ d)) ⟨y,_,rfl,⟨c,by rw[eC];exact ai⟩,u,_,rfl,h1.mono (bx J _),o,[],rfl,h3.mono (bx J _),rfl⟩
end
structure SC where
 N:List Str
 sc:lY
 td:List Str
 lam:Bool
 C':Bool
structure FS where
 ms:List Bool
 f:List D->Res
structure XT where
 cls:Str->Option (Str×Str)
structure GT where
 fns:Str->Option FS
 qs:Str->Option Str
 xs:XT
 cls:Str->Option (Str×Str)
noncomputable def rq:List Str:=["len","list","tuple","int","isinstance","range","all","any","sorted","set","min","max","abs","str","bool","dict","enumerate","zip","reversed","ValueError"]
structure lL(X:Cx)(C:SC)(T:GT)(E:XK):Prop where
 n:X.N=C.N
 s:X.env.scope=C.sc
 nd:C.N.Nodup
 calm:X.calm=true
 units:X.A.units+65<jS
 fns:∀x s,T.fns x=some s->∃k f fd ps,j2 k X.A/\X.mg x=some (.ref f)/\kA X.K (.ref f)=true/\Binds X.K fd ps []/\ll X.prog X.w X.K X.mg X.base (Wm X.prog X.w) k f fd ps (uY (kx X) s.ms s.f)
 qs:∀x y,T.qs x=some y->∃t,X.mg x=some (.str y t)
 bl:∀x∈rq,X.mg x=none
 acc:Acc X E
 top:C.C'=false->X.ex=[]/\X.stack=X.env::X.outer/\X.env.frame=some X.env.locals
 cls:∀c n1 n2,T.cls c=some (n1,n2)->j2 1 X.A/\sx X.prog X.w X.K X.mg X.base c n1 n2
def xA(a:lY)(x:Str):Bool:=match a.names.lookup x with
 |some .local=>true
 |some .cell=>true
 |some .free=>true
 |_=>false
def ES(h:xA a x=true):VP a x:=by
 unfold xA at h;unfold VP;cases e:a.names.lookup x with
 |none=>rw[e]at h;cases h
 |some k=>rw[e]at h;cases k<;>first|exact .inl rfl|exact .inr (.inl rfl)|exact .inr (.inr rfl)|cases h
def Ke(a:lY)(x:Str):Bool:=match a.names.lookup x with
 |some .local=>true
 |some .cell=>true
 |_=>false
def Dg(h:Ke a x=true):L2.Wp a x:=by
 unfold Ke at h;unfold L2.Wp;cases e:a.names.lookup x with
 |none=>rw[e]at h;cases h
 |some k=>rw[e]at h;cases k<;>first|exact .inl rfl|exact .inr rfl|cases h
def qo(x:Str):Bool:= !(x==("__debug__":Str)) && !(x==("__classdict__":Str))
def K7(h:qo x=true):(x==("__debug__":Str))=false:=by
 unfold qo at h;simp only[gG,tF]at h;exact h.1
def Z3(h:qo x=true):(x==("__classdict__":Str))=false:=by
 unfold qo at h;simp only[gG,tF]at h;exact h.2
def Ys(x:Str):List Str->Nat->Option Nat
 |[],_=>none
 |y::r,i=>if x=y then some i else Ys x r (i+1)
def Qq:∀{l:List Str}{i j:Nat},Ys x l i=some j->i<=j/\l[j - i]?=some x:=by
 intro a;induction a with
 |nil=>rintro _ _ h;cases h
 |cons y r b=>
  rintro i j h
  unfold Ys at h
  by_cases e:x=y
  ·rw[fM e]at h;cases h;subst e;exact⟨fQ _,by simp⟩
  ·rw[fJ e]at h;obtain⟨d,c⟩:=b h;refine⟨by lia,?_⟩;rw[show j - i=(j - (i+1))+1 by lia];simpa using c
def slot(C:SC)(x:Str):Option Nat:=if xA C.sc x && qo x then Ys x C.N 0 else none
def Im{C:SC}(h:slot C x=some i):C.N[i]?=some x/\xA C.sc x=true/\qo x=true:=by
 unfold slot at h
 by_cases e:(xA C.sc x && qo x)=true
 ·rw[fM e]at h;rw[gG]at e;obtain⟨_,q⟩:=Qq h;exact⟨by simpa using q,e.1,e.2⟩
 ·rw[fJ e]at h;cases h
def ED(C:SC)(x:Str):Bool:=decide (C.sc.names.lookup x=some .globalImplicit) && qo x
section
variable{X:Cx}{C:SC}{T:GT}{B:Hp}{E:EK}{x:Str}{i:Nat}{pos:Pos}
def lL.var(O:lL X C T d)(h:slot C x=some i):PE X (.Name x pos) (tw i):=by
 obtain⟨c,b,a⟩:=Im h;exact Ib (by rwa [O.n]) (by rw[O.s];exact ES b) (K7 a) (Z3 a)
def lL.gl(O:lL X C T a)(h:ED C x=true):Gl X x/\(x==("__debug__":Str))=false:=by
 unfold ED at h;rw[gG]at h;refine⟨?_,K7 h.2⟩;show X.env.scope.names.lookup x=_;rw[O.s];exact of_decide_eq_true h.1
end
def jh:En->Res:=λ_=>.st
def PK:En->e9:=λ_=>.st
def ui:En->Out:=λ_=>.st
section
variable{X:Cx}{B G0:Hp}{E:EK}{e tg:Expr}{es:List Expr}
def b0:fh X B E e jh:=by rintro a s σ H Q I ⟨G,U,R,q⟩;exact q.elim
def WC:FZ X B E e jh:=by rintro a s σ H Q I ⟨G,U,R,q⟩;exact q.elim
def Ba:Er X B E e jh:=by rintro a s σ H Q I ⟨G,U,R,q⟩;exact q.elim
def MN:Pz X B E c es PK:=by rintro b a s σ H Q I ⟨G,U,R,q⟩;exact q.elim
def rk{st:Stmt}:qr X G0 B E st ui:=by rintro a s σ H D I ⟨G,U,R,x,q⟩;exact q.elim
end
def Ts:∀{l:List (Str×mQ)},(y,mZ)∈l↔y∈i3 l:=by
 intro a;induction a with
 |nil=>simp[i3]
 |cons a r b=>
  obtain⟨n,k⟩:=a;unfold i3
  by_cases h:k=.free
  ·subst h;rw[fM rfl,iK,iK,b];constructor
   ·rintro (z|z)
    ·cases z;exact .inl rfl
    ·exact .inr z
   ·rintro (z|z)
    ·subst z;exact .inl rfl
    ·exact .inr z
  ·rw[fJ h,iK,b];constructor
   ·rintro (z|z)
    ·cases z;exact absurd rfl h
    ·exact z
   ·exact .inr
def vt(a b:lY):lY:=
 {a with names:=a.names.map λ(n,k)=>if(k==.free && b.kind==.function && b.names.lookup n==some .cell)then(n,.cell)else(n,k)}
def slots(C:SC):List Str->Option (List Nat)
 |[]=>some []
 |y::r=>match slot C y,slots C r with
  |some i,some is=>some (i::is)
  |_,_=>none
noncomputable def P3(C:SC)(a:lY)(y:Str):Bool:=
 (decide (C.sc.names.lookup y=some .cell)||decide (C.sc.names.lookup y=some .free)) &&
 (decide ((vt a C.sc).names.lookup y=some .cell)||decide ((vt a C.sc).names.lookup y=some .free))
def Dx(a:lY):List Str:=(a.names.filter λy=>y.2==.cell).map λy=>y.1
def On(a:lY):(a.names.filter λy=>y.2==.cell)=(Dx a).map λx=>(x,mC):=by
 unfold Dx;rw[hV];refine(List.map_id' _).symm.trans (iA λy b=>?_);have:=(List.mem_filter.mp b).2;obtain⟨n,k⟩:=y;have:k=.cell:=by simpa using this
 rw[this];rfl
noncomputable def Ah(C:SC)(a:lY)(xs:List Str):Bool:=
 decide (a.kind=.function) && (decide ((Dx a).length<=1) && (Dx a).all λy=>decide (y∈xs)) && (a.names.all λy=> !decide (y.2=.local)||decide (a.names.lookup y.1=some .local)) &&
 (xs.all λx=>decide (a.names.lookup x=some .local)||decide (a.names.lookup x=some .cell)) && decide ((xs++i3 a.names).Nodup) && (i3 a.names).all (P3 C a)
def CD{C:SC}:∀{M:List Str}{d:List Nat},slots C M=some d->∀{X:Cx}{a:lY}{g:List (Str×Addr)},X.N=C.N->X.env.scope=C.sc->(∀y∈M,∃c,g.lookup y=some c)->M.all (P3 C a)=true->vA X a g M d:=by
 intro j;induction j with
 |nil=>rintro d h X a g _ _ _ _;cases h;exact rfl
 |cons y r l=>
  rintro d h X a g o e p m
  unfold slots at h;cases f:slot C y with
  |none=>rw[f]at h;cases h
  |some i=>
   cases n:slots C r with
   |none=>rw[f,n]at h;cases h
   |some is=>
    rw[f,n]at h;cases h;rw[iF,gG]at m;obtain⟨x,q,v⟩:=Im f;have b:=m.1;unfold P3 at b;rw[gG,qA,qA,decide_eq_true_eq,decide_eq_true_eq,decide_eq_true_eq,decide_eq_true_eq]at b;refine⟨i,is,rfl,⟨by rwa [o],by rw[e];exact ES q,?_,p y (fN),?_⟩,l n o e (λz u=>p z (fH _ u)) m.2⟩
    ·show X.env.scope.names.lookup y≠_;rw[e];rcases b.1 with z|z<;>rw[z]<;>decide
    ·have:tE a X.env=vt a C.sc:=by
      rw[<-e];rfl
     rw[this];exact b.2
def CF{C:SC}(x:C.N.Nodup):∀{M:List Str}{a:List Nat},slots C M=some a->M.Nodup->a.Nodup/\∀i∈a,∃y∈M,C.N[i]?=some y:=by
 intro d;induction d with
 |nil=>rintro a h _;cases h;exact⟨lQ,λi l=>by simp at l⟩
 |cons y r e=>
  rintro a h v
  unfold slots at h;cases c:slot C y with
  |none=>rw[c]at h;cases h
  |some i=>
   cases m:slots C r with
   |none=>rw[c,m]at h;cases h
   |some is=>
    rw[c,m]at h;cases h;obtain⟨u,q⟩:=List.nodup_cons.mp v;obtain⟨p,o⟩:=e m q;obtain⟨n,_,_⟩:=Im c;refine⟨List.nodup_cons.mpr ⟨λl=>?_,p⟩,λj g=>?_⟩
    ·obtain⟨z,f,b⟩:=o i l;rw[n]at b;cases b;exact u f
    ·rcases List.mem_cons.mp g with rfl|g
     ·exact⟨y,fN,n⟩
     ·obtain⟨z,f,b⟩:=o j g;exact⟨z,fH _ f,b⟩
def Jq(f:Env):∀(a:List (Str×mQ))(g:List (Str×Addr)),(∀y∈i3 a,∃c,f.cells.lookup y=some c)->∃m,jx f a g=some m:=by
 intro b;induction b with
 |nil=>rintro g _;exact⟨g,rfl⟩
 |cons b r d=>
  obtain⟨n,k⟩:=b
  rintro g h
  unfold jx
  by_cases j:k=.free
  ·subst j;obtain⟨c,e⟩:=h n (by unfold i3;exact fN);rw[e];exact d _ λy l=>h y (by unfold i3;exact fH _ l)
  ·rw[fJ j];exact d g λy l=>h y (by unfold i3;rwa [fJ j])
def Jp(f:Env):∀(a:List (Str×mQ))(g d:List (Str×Addr)),jx f a g=some d->∀y,(g.lookup y=none)->y∉i3 a->d.lookup y=none:=by
 intro b;induction b with
 |nil=>rintro g d h y q _;cases h;exact q
 |cons b r e=>
  obtain⟨n,k⟩:=b
  rintro g d h y q m
  unfold jx at h
  by_cases j:k=.free
  ·subst j;unfold i3 at m;rw[fM rfl,iK,not_or]at m;cases l:f.cells.lookup n with
   |none=>rw[l]at h;cases h
   |some c=>
    rw[l]at h;refine e _ d h y ?_ m.2;have o:(y==n)=false:=by simpa using m.1
    rwa [jU,o]
  ·rw[fJ j]at h;unfold i3 at m;rw[fJ j]at m;exact e g d h y q m
def A3{X:Cx}{a:lY}(O:lL X C T G)(ok:X.Ok)(h:Ah C a xs=true)(g:slots C (i3 a.names)=some u):∃j,ka X a j (Dx a) xs (i3 a.names) u:=by
 unfold Ah at h;simp only[gG,decide_eq_true_eq]at h;obtain⟨⟨⟨⟨⟨B,o⟩,A⟩,z⟩,m⟩,l⟩:=h;have b:∀y∈i3 a.names,∃c,X.env.cells.lookup y=some c:=λy d=>by
  have q:=List.all_eq_true.mp l y d;unfold P3 at q;rw[gG,qA,decide_eq_true_eq,decide_eq_true_eq,<-O.s]at q;exact ok.has y q.1
 obtain⟨j,f⟩:=Jq X.env a.names [] b;obtain⟨E,p,r⟩:=List.nodup_append.mp m;refine⟨j,f,B,On a,o.1,λy d=>?_,λy d e=>?_,λx g=>?_,λx g=>Jp X.env _ _ j f x rfl (λv=>r x g x v rfl),m,(CF O.nd g p).1,CD g O.n O.s (λy d=>A2 X.env _ _ j f y (.inr (Ts.mpr d))) l⟩
 ·exact of_decide_eq_true (List.all_eq_true.mp o.2 y d)
 ·have q:=List.all_eq_true.mp A y d;rw[decide_eq_true e]at q;exact of_decide_eq_true (by simpa using q)
 ·have q:=List.all_eq_true.mp z x g;rw[qA,decide_eq_true_eq,decide_eq_true_eq]at q;exact q
def G9(C:SC)(a:lY)(xs:List Str):SC:=⟨xs++i3 a.names,vt a C.sc,[],false,true⟩
def Cs{a:lY}(O:lL X C T m)(h:Ah C a xs=true)(g b c e d){f:XK}(l:Acc (jk X a j (xs++i3 a.names) xs g b c e d) f):lL (jk X a j (xs++i3 a.names) xs g b c e d) (G9 C a xs) T f where
 n:=rfl
 s:=by
  show tE a X.env=_;show _=vt a C.sc;rw[<-O.s];rfl
 nd:=by
  unfold Ah at h;simp only[gG,decide_eq_true_eq]at h;exact h.1.2
 calm:=O.calm
 units:=O.units
 fns:=O.fns
 qs:=O.qs
 bl:=O.bl
 acc:=l
 top:=λh=>by cases h
 cls:=O.cls
def lL.vY{X:Cx}{C:SC}{T:GT}{E:XK}(O:lL X C T E):nr (Wm X.prog X.w) X E:=O.acc.vY
def lL.none(O:lL X C T E):lL X C T E0:=⟨O.n,O.s,O.nd,O.calm,O.units,O.fns,O.qs,O.bl,Cf,O.top,O.cls⟩
end Pu
namespace Pu
open PySem PySem.Spec PyProof.Rows L2 PySem.SeqAt
def ND(A:iR)(s:fP)(y x:fG)(b:Bool):Prop:=
 ∀(a:gX)(w:iI)(E:fG->fP->Prop)(Q:fG->fP->Prop),Q (.bool b) s->gK (gR a w) A (richCompare .Lt y x) Q E s
def zd(e c:Nat->Bool)(a:Bool):List Nat->Bool
 |[]=>a
 |i::r=>if e i then zd e c a r else c i
def DH(l m:Addr)(xs a:Array fG)(n k:Nat)(dd dm:Option Addr)(O N:Array (Option fG))(e c:Nat->Bool):
  Meets (Builtin.«tuple.__lt__» ⟨[.ref l,.ref m],[]⟩) (λA R s=>
   s.1.get? l=some {cls:=.type "tuple",dict:=dd,data:=.seq xs n,slots:=O}/\
   s.1.get? m=some {cls:=.type "tuple",dict:=dm,data:=.seq a k,slots:=N}/\
   (∀j (p:j<xs.size) (q:j<a.size),EqAt A.in1 s xs[j] a[j] (e j)/\(e j=false->ND A.in1 s xs[j] a[j] (c j)))/\
   R (.ok (.ret (.bool (zd e c (decide (xs.size<a.size)) (hJ (min xs.size a.size)))))) s):=
 .of_wp λf w A R s h=>by
  obtain⟨L,g,d,J,os⟩:=s;obtain⟨T,Q,M,h⟩:=h;have f2:=AutoSeq1.sub_tuple_tuple;have Y:(xs.toList.zip a.toList).length=min xs.size a.size:=by simp
  wp_walk using wpAny_loadPart' T,wpAny_loadPart' Q,kR _ (λrest b E=>b.1=none/\E=⟨L,g,d,J,os⟩/\∃i,
   rest=(xs.toList.zip a.toList).drop i/\R (.ok (.ret (.bool (zd e c (decide (xs.size<a.size)) ((hJ (min xs.size a.size)).drop i))))) ⟨L,g,d,J,os⟩) _
  case turn=>
   rintro ⟨y,x⟩ rest b E ⟨v,rfl,i,r,o⟩
   have B:i<(xs.toList.zip a.toList).length:=by
    by_cases z:i<(xs.toList.zip a.toList).length
    ·exact z
    ·rw[List.drop_of_length_le (tS z)]at r;cases r
   have G:i<min xs.size a.size:=by rw[<-Y];exact B
   have p:i<xs.size:=by lia
   have q:i<a.size:=by lia
   rw[kG B]at r;injection r with C u
   obtain rfl:y=xs[i]:=by simpa using congrArg Prod.fst C
   obtain rfl:x=a[i]:=by simpa using congrArg Prod.snd C
   have U:(hJ (min xs.size a.size)).drop i=i::(hJ (min xs.size a.size)).drop (i+1):=by simp[kG,G]
   rw[U]at o;refine fB ((M i p q).1 f w _ _ ?_);cases H:e i with
   |true=>
    simp only[zd,H,if_true]at o
    wp_walk
    exact⟨rfl,rfl,i+1,u,o⟩
   |false=>
    simp only[zd,H,Bool.false_eq_true,if_false]at o;rw[fM (show(!false)=true from rfl)];refine fB (oG (fB ((M i p q).2 H f w _ _ ?_)))
    wp_walk
    exact⟨_,rfl,o⟩
  case fin=>
   rintro ⟨b1,b2⟩ E ⟨v,rfl,i,r,o⟩
   simp only at v;subst v;have I:min xs.size a.size<=i:=by
    by_cases z:i<(xs.toList.zip a.toList).length
    ·rw[kG z]at r;cases r
    ·lia
   rw[List.drop_of_length_le (by simpa using I)]at o
   wp_walk
   exact⟨_,rfl,by simpa[Builtin.Tuple.tupleCompareSizes,zd]using o⟩
  case h=>exact⟨rfl,rfl,0,rfl,by simpa using h⟩
mutual
def EC:mT->mT->Option Bool
 |.int i,.int j=>some (decide (i<j))
 |.str x,.str y=>some (decide (x.cps.toList<y.cps.toList))
 |.tuple xs,.tuple ys=>gi xs ys
 |_,_=>none
def gi:List mT->List mT->Option Bool
 |[],[]=>some false
 |[],_::_=>some true
 |_::_,[]=>some false
 |x::xs,y::ys=>match EC x y,gi xs ys with
  |some a,some b=>some (if iG x y then b else a)
  |_,_=>none
end
def sv(xs a:List mT)(j:Nat):Bool:=match xs[j]?,a[j]? with
 |some x,some y=>(EC x y).getD false
 |_,_=>false
def vg(h:gi (x::xs) (y::e)=some c):∃a b,EC x y=some a/\gi xs e=some b/\c=if iG x y then b else a:=by
 rw[gi]at h;cases d:EC x y with
 |none=>rw[d]at h;cases h
 |some a=>
  cases f:gi xs e with
  |none=>rw[d,f]at h;cases h
  |some b=>rw[d,f]at h;cases h;exact⟨a,b,rfl,rfl,rfl⟩
def Ob:∀l:List Nat,zd e c d (l.map (· +1))=zd (λj=>e (j+1)) (λj=>c (j+1)) d l:=by
 intro a;induction a with
 |nil=>exact rfl
 |cons i r b=>
  rw[fL];unfold zd;rw[b]
theorem Qx:∀{xs f:List mT}{c:Bool},gi xs f=some c->zd (pairEq xs f) (sv xs f) (decide (xs.length<f.length)) (hJ (min xs.length f.length))=c
 |[],[],c,h=>by cases h;rfl
 |[],_::_,c,h=>by cases h;simp[zd]
 |_::_,[],c,h=>by cases h;simp[zd]
 |x::xs,y::f,c,h=>by
  obtain⟨a,b,l,g,rfl⟩:=vg h;have e:min (x::xs).length (y::f).length=min xs.length f.length+1:=by simp
  rw[e,List.range_succ_eq_map];unfold zd;have n:pairEq (x::xs) (y::f) 0=iG x y:=rfl;have p:sv (x::xs) (y::f) 0=a:=by simp[sv,l]
  rw[n,p,show Nat.succ=_ from rfl,Ob];have d:(decide ((x::xs).length<(y::f).length))=decide (xs.length<f.length):=by simp
  rw[d];have m:(λj=>pairEq (x::xs) (y::f) (j+1))=pairEq xs f:=rfl;have o:(λj=>sv (x::xs) (y::f) (j+1))=sv xs f:=rfl;rw[m,o,(Qx g)]
mutual
theorem yb:∀(da db:mT)(A:iR)(s:fP)(a b:fG)(as bs:List Addr)(c:Bool),Reads s.1 a da as->Reads s.1 b db bs->da.canLay0=true->db.canLay0=true->A.units+min da.depth db.depth<jS->
  EC da db=some c->ND A s a b c
 |.int i,db,A,s,_,_,_,_,c,ra,rb,ha,hb,hu,h=>by
  cases db<;>cases h
  cases ra;cases rb;exact λprog w E Q q=>(show gK _ _ (jF .Lt _ _) _ _ _ from PyProof.Rows.lt_int q)
 |.str i,db,A,s,_,_,_,_,c,ra,rb,ha,hb,hu,h=>by
  cases db<;>cases h
  cases ra;cases rb;exact λprog w E Q q=>(show gK _ _ (jF .Lt _ _) _ _ _ from PyProof.Rows.lt_str q)
 |.tuple xs,.tuple ys,A,s,_,_,_,_,c,ra,rb,ha,hb,hu,h=>by
  cases ra with
  |@tuple l o vs n _ as₁ h1 h2 h3 h4=>
   cases rb with
   |@tuple l' o' vs' n' _ bs₁ k1 k2 k3 k4=>
    have h':gi xs ys=some c:=h;have n1:vs.size=xs.length:=by simpa using ReadsAll.length _ _ _ h4
    have n2:vs'.size=ys.length:=by simpa using ReadsAll.length _ _ _ k4
    obtain⟨cl,dd,dt,sl⟩:=o;obtain⟨cl',dd',dt',sl'⟩:=o';simp only at h2 h3 k2 k3;subst h2 h3 k2 k3;intro prog w E Q q;refine richCompare_meets_room (op:=.Lt) ⟨_,h1,rfl⟩ ⟨_,k1,rfl⟩ F.slot_tuple_lt F.entry_tuple_lt (F.args_tuple_lt_2 _ _) (DH l l' vs vs' n n' dd dd' sl sl' (pairEq xs ys) (sv xs ys)) ⟨h1,k1,λj p r=>⟨?_,λ_=>?_⟩,?_⟩ (room_here hu)
    ·have z:=eqAt_readsAll xs ys A.in1 s vs.toList vs'.toList _ _ h4 k4 ha hb (room_in hu) j (by simpa using p) (by simpa using r);simpa using z
    ·have z:=xj xs ys A.in1 s vs.toList vs'.toList _ _ c h4 k4 ha hb (room_in hu) h' j (by simpa using p) (by simpa using r);simpa using z
    ·have e:=Qx h';rw[<-n1,<-n2]at e;rw[e];exact show sP c≠Value.notImplemented/\Q (.bool c) s from⟨(λx=>nomatch x),q⟩
 |.none,_,_,_,_,_,_,_,_,_,_,_,_,_,h|.bool _,_,_,_,_,_,_,_,_,_,_,_,_,_,h|.list _,_,_,_,_,_,_,_,_,_,_,_,_,_,h|.dict _,_,_,_,_,_,_,_,_,_,_,_,_,_,h=>by cases h
 |.tuple _,.none,_,_,_,_,_,_,_,_,_,_,_,_,h|.tuple _,.bool _,_,_,_,_,_,_,_,_,_,_,_,_,h|.tuple _,.int _,_,_,_,_,_,_,_,_,_,_,_,_,h|.tuple _,.str _,_,_,_,_,_,_,_,_,_,_,_,_,h|.tuple _,.list _,_,_,_,_,_,_,_,_,_,_,_,_,h|.tuple _,.dict _,_,_,_,_,_,_,_,_,_,_,_,_,h=>by cases h
theorem xj:∀(xs ys:List mT)(A:iR)(s:fP)(vs ws:List fG)(as bs:List Addr)(c:Bool),ReadsAll s.1 vs xs as->ReadsAll s.1 ws ys bs->gE xs=true->gE ys=true->
  A.units+min (iC xs) (iC ys)<jS->gi xs ys=some c->∀j (p:j<vs.length) (q:j<ws.length),ND A s vs[j] ws[j] (sv xs ys j)
 |[],_,_,_,_,_,_,_,_,ra,_,_,_,_,_,j,p,_=>by cases ra;exact absurd p (Nat.not_lt_zero _)
 |_::_,[],_,_,_,_,_,_,_,_,rb,_,_,_,_,j,_,q=>by cases rb;exact absurd q (Nat.not_lt_zero _)
 |x::xs,y::ys,A,s,_,_,_,_,c,ra,rb,ha,hb,hu,h,j,p,q=>by
  have ha':x.canLay0=true/\gE xs=true:=by simpa[gE]using ha
  have hb':y.canLay0=true/\gE ys=true:=by simpa[gE]using hb
  obtain⟨a,b,h1,h2,_⟩:=vg h;cases ra with
  |cons r rs=>
   cases rb with
   |cons r' rs'=>
    cases j with
    |zero=>
     have e:sv (x::xs) (y::ys) 0=a:=by simp[sv,h1]
     rw[e];exact yb x y A s _ _ _ _ a r r' ha'.1 hb'.1 (room_head hu) h1
    |succ j=>exact xj xs ys A s _ _ _ _ b rs rs' ha'.2 hb'.2 (room_tail hu) h2 j (Nat.lt_of_succ_lt_succ p) (Nat.lt_of_succ_lt_succ q)
end
def cZ(d e:D):Option Bool:=match bz d,bz e with
 |some p,some q=>if iB p && iB q then EC p q else none
 |_,_=>none
def zp(d e:D):Option D:=match XH d e with
 |some r=>some r
 |none=>(cZ d e).map .bl
def U7{f:mT->mT->Option Bool}{d e:D}{b:Bool}(h:(match bz d,bz e with
 |some p,some q=>if(iB p && iB q)=true then f p q else none
 |_,_=>none)=some b):∃p q,bz d=some p/\bz e=some q/\iB p=true/\iB q=true/\f p q=some b:=by
 cases c:bz d with
 |none=>rw[c]at h;cases h
 |some p=>
  cases g:bz e with
  |none=>rw[c,g]at h;cases h
  |some q=>
   rw[c,g]at h;dsimp only at h
   by_cases a:(iB p && iB q)=true
   ·rw[fM a]at h;rw[gG]at a;exact⟨p,q,rfl,rfl,a.1,a.2,h⟩
   ·rw[fJ a]at h;cases h
section
variable{X:Cx}
inductive xD(K:KA)(f:D->D->Option Bool)(x:V)(y:V)(H:Hp)(Q:VK):Prop
 |mk (G dx dy b) (_:c7 G H) (_:Arg K G H dx x) (_:Arg K G H dy y) (_:f dx dy=some b) (_:Q (.bl b) H):xD K f x y H Q
def QD(n:X.A.units+64<jS):mm X (jF .Lt) (xD (kx X) cZ):=by
 intro e s σ H x y v u Q I h g q;obtain⟨G,J,E,b,c,B,z,a,q⟩:=q;obtain⟨p,m,r,o,d,f,a⟩:=U7 a;obtain⟨C,l⟩:=cx I c B h r;obtain⟨bs,j⟩:=cx I c z g o;exact yb p m X.A s v u C bs b l j (canLay_of_shaped d) (canLay_of_shaped f) (room_of_shaped d n) a X.prog X.w _ _ ⟨.bl b,H,I,rfl,q⟩
def BY{K:KA}{c:Int->Int->Bool}{f:D->D->Option Bool}{g:D->D->Option D}(u:∀d e,g d e=match xl c d e with
 |some r=>some r
 |none=>(f d e).map .bl):gx K g (λx y H Q=>vV (λi j=>.bl (c i j)) x y H Q\/xD K f x y H Q):=λG H x y m l d n p o a Q q=>by
 rw[u]at a;cases h:xl c m l with
 |some r=>rw[h]at a;cases a;exact .inl (D0 G H x y m l d n p o h Q q)
 |none=>
  rw[h]at a;cases e:f m l with
  |none=>rw[e]at a;cases a
  |some b=>rw[e]at a;cases a;exact .inr ⟨G,m,l,b,n,p,o,e,q _ G H (Ext.refl n) rfl⟩
def RY{c:Int->Int->Bool}{f:D->D->Option Bool}{g:D->D->Option D}(j:∀d e,g d e=match xl c d e with
 |some r=>some r
 |none=>(f d e).map .bl) (x y d:D) (a:g x y=some d):∃b,d=.bl b:=by
 rw[j]at a;cases h:xl c x y with
 |some r=>rw[h]at a;cases a;exact My _ _ _ h
 |none=>rw[h]at a;exact Dt a
end
end Pu
namespace Pu
open PySem PySem.Spec PyProof.Rows L2
def ot(d e:D):Option D:=match e with
 |.hZ false a=>(bq d).map λj=>.bl (d8 a j).isSome
 |e=>Vn d e
def bw(d e:D):Option D:=match e with
 |.hZ false a=>(bq d).map λj=>.bl !(d8 a j).isSome
 |e=>lj d e
section
variable{X:Cx}
inductive p0(neg:Bool)(x:V)(y:V)(H:Hp)(Q:VK):Prop
 |mk (a o) (_:y=.ref a) (_:p5 H a x o) (_:Q (.bl (if neg then !o.isSome else o.isSome)) H):p0 neg x y H Q
def Z6(e:X.A.units+5<jS):mm X (jF .In) (p0 false):=by
 intro b s σ H x y v u Q I d c q;obtain⟨a,o,rfl,f,q⟩:=q;cases c;exact bM e I f d λh g=>⟨.bl o.isSome,H,g,rfl,q⟩
def K9(e:X.A.units+5<jS):mm X (jF .NotIn) (p0 true):=by
 intro b s σ H x y v u Q I d c q;obtain⟨a,o,rfl,f,q⟩:=q;cases c;exact FB e I f d λh g=>⟨.bl !o.isSome,H,g,rfl,q⟩
def Yk{K:KA}{neg:Bool}{G H:Hp}{x y:V}{c d:D}{a:List (D×D)}(f:c7 G H)(u:Arg K G H c x)(r:Arg K G H (.hZ false a) y)(b:((bq c).map λj=>D.bl (if neg then !(d8 a j).isSome else(d8 a j).isSome))=some d)(Q:VK)(q:∀v n m,Ext G H n m->Den K n d v->Q v m):p0 neg x y H Q:=by
 cases ek:bq c with
 |none=>rw[ek]at b;cases b
 |some j=>
  rw[ek]at b;cases b;obtain⟨l,g,rfl,o,dl⟩:=Arg.vM f r;rw[m6 u ek];have e:(d8 a j).isSome=(i8 g j).isSome:=by
   cases h:d8 a j with
   |none=>rw[(dl.look j).2 h];rfl
   |some d=>obtain⟨v,p,_⟩:=(dl.look j).1 d h;rw[p];rfl
  refine⟨l,i8 g j,rfl,p5.k o,q _ G H (Ext.refl f) ?_⟩;show Den K G (.bl _) _;rw[e];rfl
def BZ:gx (kx X) ot (λx y H Q=>vC (kx X) false x y H Q\/p0 false x y H Q):=λG H x y f g d b e c a Q q=>by
 unfold ot at a;split at a
 ·exact .inr (Yk (neg:=false) b e c a Q q)
 ·exact .inl (JD G H x y f _ d b e c a Q q)
def Lh:gx (kx X) bw (λx y H Q=>vC (kx X) true x y H Q\/p0 true x y H Q):=λG H x y f g d b e c a Q q=>by
 unfold bw at a;split at a
 ·exact .inr (Yk (neg:=true) b e c a Q q)
 ·exact .inl (Os G H x y f _ d b e c a Q q)
def PF(x y d:D)(h:ot x y=some d):∃b,d=.bl b:=by
 unfold ot at h;split at h
 ·obtain⟨j,_,rfl⟩:=Option.map_eq_some_iff.mp h;exact⟨_,rfl⟩
 ·exact Dt h
def U1(x y d:D)(h:bw x y=some d):∃b,d=.bl b:=by
 unfold bw at h;split at h
 ·obtain⟨j,_,rfl⟩:=Option.map_eq_some_iff.mp h;exact⟨_,rfl⟩
 ·exact Dt h
end
abbrev Ev:=SC->Expr->En->Res
def jv(T:GT)(a:Ev):Prop:=∀X C B (E:XK) e,lL X C T E->fh X B (ek (kx X) E) e (a C e)
def Es(T:GT)(a:Ev):Prop:=∀X C B (E:XK) e,lL X C T E->Er X B (ek (kx X) E) e (a C e)
section
variable{X:Cx}{B:Hp}{E:EK}{e a b:Expr}{es:List Expr}{g h:En->Res}{pos:Pos}
def F0:D->Bool
 |.g8=>true
 |_=>false
def NU:D->D->Option D
 |d,.g8=>some (.bl (F0 d))
 |.bl b,.bl c=>some (.bl (b==c))
 |.g8,.bl _=>some (.bl false)
 |_,_=>none
noncomputable def ma:D->D->Option D
 |d,.g8=>some (.bl (!F0 d))
 |.bl b,.bl c=>some (.bl (!(b==c)))
 |.g8,.bl _=>some (.bl true)
 |_,_=>none
def Jb{K:KA}{G H:Hp}{d:D}{v:V}(h:Arg K G H d v):decide (v=.g8)=F0 d:=by
 obtain h|⟨l,a,c,rfl,rfl,_⟩|⟨t,j,a,rfl,rfl,_⟩:=h
 ·cases d with
  |g8=>cases (h);rfl
  |bl b=>cases (h);rfl
  |int b=>cases (h);rfl
  |str b=>cases (h);rfl
  |tup l=>obtain⟨a,c,rfl,_⟩:=h;rfl
  |lst l=>obtain⟨a,c,rfl,_⟩:=h;rfl
  |hZ t j=>obtain⟨a,rfl,_⟩:=h;rfl
  |obj C fs=>obtain⟨a,c,rfl,_⟩:=h;rfl
  |fn f=>cases (h);rfl
 ·rfl
 ·rfl
def XG(f:Bool->Bool):R2:=λx y H Q=>(∃b c,x=.bl b/\y=.bl c/\Q (.bl (f (b==c))) H)\/∃c,x=.g8/\y=.bl c/\Q (.bl (f false)) H
def IA:mm X (jF .IsNot) (XG λb=> !b):=by
 intro j s σ H x y v u Q I f d h;obtain ⟨b,c,rfl,rfl,q⟩|⟨c,rfl,rfl,q⟩:=h
 ·cases f;cases d;exact wpAny_isNot_plain rfl ⟨.bl _,H,I,(by cases b<;>cases c<;>rfl),q⟩
 ·cases f;cases d;exact wpAny_isNot_plain rfl ⟨.bl true,H,I,rfl,q⟩
def Lg{K:KA}:gx K ma (λx y H Q=>(y=.g8/\Q (.bl (!decide (x=.g8))) H)\/XG (λb=> !b) x y H Q):=λG H x y n m d f l j c Q q=>by
 unfold ma at c;split at c
 ·cases c;refine .inl ⟨j.g8,?_⟩;rw[Jb l];exact q _ G H (Ext.refl f) rfl
 ·cases c;exact .inr (.inl ⟨_,_,l.bl,j.bl,q _ G H (Ext.refl f) rfl⟩)
 ·cases c;exact .inr (.inr ⟨_,l.g8,j.bl,q _ G H (Ext.refl f) rfl⟩)
 ·cases c
def PC(c:f=NU\/f=ma)(x y d:D)(h:f x y=some d):∃b,d=.bl b:=by
 obtain rfl|rfl:=c
 ·unfold NU at h;split at h<;>first|(cases h;exact⟨_,rfl⟩)|cases h
 ·unfold ma at h;split at h<;>first|(cases h;exact⟨_,rfl⟩)|cases h
noncomputable def Gz:CmpOp->Option (D->D->Option D)
 |.Eq=>some jn
 |.NotEq=>some zq
 |.Lt=>some zp
 |.LtE=>some Vo
 |.Gt=>some BE
 |.GtE=>none
 |.In=>some ot
 |.NotIn=>some bw
 |.Is=>none
 |.IsNot=>some ma
def By(l:Gz c=some f)(j:X.A.units+65<jS):∃r,mm X (jF c) r/\gx (kx X) f r/\∀x y d,f x y=some d->∃b,d=.bl b:=by
 cases c<;>cases l
 ·exact⟨_,QF (by lia),JE,λ_ _ _ h=>Dt h⟩
 ·exact⟨_,QA (by lia),JB,λ_ _ _ h=>Dt h⟩
 ·exact⟨_,WE.or (QD (by lia)),BY λ_ _=>rfl,RY λ_ _=>rfl⟩
 ·exact⟨_,WG,D0,My⟩
 ·exact⟨_,WH,D0,My⟩
 ·exact⟨_,JZ.or IA,Lg,PC (.inr rfl)⟩
 ·exact⟨_,(QE j).or (Z6 (by lia)),BZ,PF⟩
 ·exact⟨_,(U6 j).or (K9 (by lia)),Lh,U1⟩
end
def o6(a:Ev)(C:SC)(e:Expr):En->Res:=match e with
 | .Name x _ => (match slot C x with
  |some i=>aa i
  |none=>a C e)
 |_=>a C e
noncomputable def PM(a:Ev)(C:SC):List Bool->List Expr->En->e9
 |[],[]=>ae
 |m::b,e::c=>au (if m then o6 a C e else a C e) (PM a C b c)
 |_,_=>PK
def J9(a:Ev)(C:SC):List Expr->En->e9
 |[]=>ae
 |e::b=>au (a C e) (J9 a C b)
noncomputable def Eh(T:GT)(C:SC)(x:Str):En->Res:=match slot C x with
 |some i=>bp i
 | none => if ED C x then (match T.qs x with
  |some y=>gC (.str y)
  | none => (match T.fns x with
   |some _=>gC (.fn x)
   |none=>jh))else jh
def J6(f:Expr->En->Res):List Expr->En->Res
 |[]=>jh
 |[a]=>f a
 |a::r=>q9 (f a) (J6 f r)
def Yb(f:Expr->En->Res):List Expr->En->Res
 |[]=>jh
 |[a]=>f a
 |a::r=>GG (f a) (Yb f r)
noncomputable def z0(a:Ev)(C:SC)(l:Expr)(b:List CmpOp)(e:List Expr):En->Res:=match b,e with
 | [d], [r] => (match Gz d with
  |some f=>if ph r then g2 f (o6 a C l) (o6 a C r)else jh
  |none=>jh)
 | [d, c], [m, r] => (match Gz d, Gz c with
  |some f,some g=>if ph r then x6 f g (o6 a C l) (o6 a C m) (o6 a C r)else jh
  |_,_=>jh)
 |_,_=>jh
section
variable{T:GT}{ev tv:Ev}{X:Cx}{C:SC}{B:Hp}{E:XK}{pos:Pos}
def cb(h:jv T ev)(O:lL X C T E)(e:Expr):jc X B (ek (kx X) E) e (o6 ev C e):=by
 have d:=XS (h X C B E e O);cases e with
 |Name x p=>
  show jc X B _ _ (match slot C x with
   |some i=>aa i
   |none=>ev C _)
  cases a:slot C x with
  |none=>exact d
  |some i=>exact OU i (O.var a)
 |_=>exact d
theorem Ce(h:jv T ev)(O:lL X C T E):∀{b:List Bool}{es:List Expr},es.all gc=true->Pz X B (ek (kx X) E) b es (PM ev C b es)
 |[],[],_=>ig
 |[],_::_,_=>MN
 |_::_,[],_=>MN
 |m::b,e::es,a=>by
  rw[iF,gG]at a;cases m with
  |true=>exact d9 (cb h O e) (Ce h O a.2) (ah a.1)
  |false=>exact Ci (h X C B E e O) (Ce h O a.2) (ah a.1)
def Hc(h:jv T ev)(O:lL X C T E):∀{es:List Expr},es.all gc=true->Pz X B (ek (kx X) E) (es.map λ_=>false) es (J9 ev C es):=by
 intro a;induction a with
 |nil=>rintro _;exact ig
 |cons e es b=>
  rintro c
  rw[iF,gG]at c;exact Ci (h X C B E e O) (b c.2) (ah c.1)
def Cj:∀{es:List Expr},Gu (es.map λ_=>false)=true:=by
 intro a;induction a with
 |nil=>exact rfl
 |cons _ es b=>
  show(!false && Gu _)=true;rw[b];rfl
def IQ(O:lL X C T E):fh X B (ek (kx X) E) (.Name x pos) (Eh T C x):=by
 unfold Eh;cases b:slot C x with
 |some i=>exact SF i (O.var b)
 |none=>
  by_cases a:ED C x=true
  ·rw[fM a];obtain⟨g1,g2⟩:=O.gl a;cases d:T.qs x with
   |some y=>
    obtain⟨t,q⟩:=O.qs x y d;exact KQ g1 q g2
   |none=>
    cases c:T.fns x with
    |some s=>
     obtain⟨k,f,g,e,_,q,_⟩:=O.fns x s c;exact SU g1 q g2
    |none=>exact b0
  ·rw[fJ a];exact b0
theorem P0{E:EK}(h:∀e,fh X B E e (f e)):∀{c:List Expr},fh X B E (.BoolOp .And c pos) (J6 f c)
 |[]=>b0
 |[a]=>BL (h a)
 |a::b::r=>SY (h a) (P0 h)
theorem Z7{E:EK}(h:∀e,fh X B E e (f e)):∀{c:List Expr},fh X B E (.BoolOp .Or c pos) (Yb f c)
 |[]=>b0
 |[a]=>BL (h a)
 |a::b::r=>XJ (h a) (Z7 h)
def NV{E:EK}{e:Expr}:EG X B E e jh:=by rintro b a s σ H Q I ⟨G,U,R,q⟩;exact q.elim
theorem P1{E:EK}(h:∀e,Er X B E e (f e)):∀{c:List Expr},EG X B E (.BoolOp .And c pos) (J6 f c)
 |[]=>NV
 |[a]=>BF (h a)
 |a::b::r=>KH (h a) (P1 h)
theorem Z8{E:EK}(h:∀e,Er X B E e (f e)):∀{c:List Expr},EG X B E (.BoolOp .Or c pos) (Yb f c)
 |[]=>NV
 |[a]=>KF (h a)
 |a::b::r=>SD (h a) (Z8 h)
def Xf(h:jv T ev)(O:lL X C T E):fh X B (ek (kx X) E) (.Compare l b j pos) (z0 ev C l b j)/\Er X B (ek (kx X) E) (.Compare l b j pos) (z0 ev C l b j):=by
 unfold z0;split
 ·rename_i o r;cases q:Gz o with
  |none=>exact⟨b0,Ba⟩
  |some f=>
   dsimp only
   by_cases a:ph r=true
   ·rw[fM a];obtain⟨y,g,d,v⟩:=By q O.units;exact⟨SW g d (cb h O l) (cb h O r) (pk a),KY g d v (cb h O l) (cb h O r) (pk a)⟩
   ·rw[fJ a];exact⟨b0,Ba⟩
 ·rename_i o n m r;cases q:Gz o with
  |none=>exact⟨b0,Ba⟩
  |some f=>
   cases p:Gz n with
   |none=>exact⟨b0,Ba⟩
   |some z=>
    dsimp only
    by_cases a:ph r=true
    ·rw[fM a];obtain⟨y,g,d,v⟩:=By q O.units;obtain⟨x,e,c,u⟩:=By p O.units;exact⟨BP g d e c (cb h O l) (cb h O m) (cb h O r) (Dv a),Vg g d e c u (cb h O l) (cb h O m) (cb h O r) (Dv a)⟩
    ·rw[fJ a];exact⟨b0,Ba⟩
 ·exact⟨b0,Ba⟩
end
section
variable{X:Cx}{pins:List (Addr×Obj)}{σ:St}{G H:Hp}{s:fP}{B:Hp}{E:EK}{e a b:Expr}{g h:En->Res}{pos p:Pos}
def mw:List D->Option (List Bool)
 |[]=>some []
 |.bl b::r=>(mw r).map (b::·)
 |_::_=>none
def Jk{K:KA}:∀{j:List D}{bs:List Bool}{c:List V}{f:List fG},mw j=some bs->dg K G j c->Vals c f->f=bs.map sP:=by
 intro l;induction l with
 |nil=>rintro bs c f h d r;cases h;cases (d);cases r;rfl
 |cons d j m=>
  rintro bs c f h dl r
  obtain⟨v,y,rfl,q,u⟩:=dl;cases d with
  |bl b=>
   unfold mw at h;cases e:mw j with
   |none=>rw[e]at h;cases h
   |some x=>
    rw[e]at h;cases h;cases r with
    |cons o n=>
     cases (q);cases (o);rw[fL,m e u n]
  |_=>cases h
def Ex(bs:List Bool)(f:List Bool->(Nat->Bool))(c:f=λbs i=>bs.getD i false):(hJ bs.length).all (f bs)=bs.all id/\(hJ bs.length).any (f bs)=bs.any id:=by
 subst c;have e:(hJ bs.length).map (λi=>bs.getD i false)=bs:=by
  apply pK
  ·simp
  ·intro i j d;simp[gW,d]
 constructor
 ·have:=congrArg (λl=>l.all id) e;simpa[qS]using this
 ·have:=congrArg (λl=>l.any id) e;simpa[qS]using this
inductive wW(K:KA)(an:Bool)(xs:List V)(H:Hp)(Q:VK):Prop
 |mk (G l vs ds bs) (_:xs=[.ref l]) (_:i' K H l vs) (_:dg K G ds vs) (_:mw ds=some bs) (_:Q (.bl (if an then bs.any id else bs.all id)) H):wW K an xs H Q
def Jm{bs:List Bool}{c:Array fG}(e:c.toList=bs.map sP):TruthOf l w A (λi v=>c[i]?=some v) (λi=>bs.getD i false):=by
 intro i v s Q E m n;have d:c.toList[i]?=some v:=by simpa using m
 rw[e,gO]at d;cases j:bs[i]? with
 |none=>rw[j]at d;cases d
 |some b=>
  rw[j]at d;cases d;have f:Q (bs.getD i false) s:=n;rw[gW,j]at f;exact kB f
def Ss(z:X.calm=true):jo X (.builtin "all") (wW (kx X) false):=by
 intro pins s σ H xs L Q I r q;obtain⟨G,l,J,O,bs,rfl,m,dl,C,q⟩:=q;obtain⟨u,rfl,v⟩:=j8 r;cases v;obtain⟨c,n,d,_⟩:=I.list m;have e:=Jk C dl n;have x:l<s.1.1.size:=by obtain⟨o,j,_⟩:=d.isList;exact fS j
 have W:=Walks.list (prog:=X.prog) (w:=X.w) (A:=X.A.in1) (I.ok.hd z) s.1.1.size l (hU x) c.toArray;refine call_all_walk (nT d.isList ⟨s.1.1.size,_,_,_,_,_,λi=>bs.getD i false,rfl,W,⟨⟨_,fO _ rfl,rfl,rfl⟩,d.isList.at λo j=>fC _ j⟩,Jm (by simpa using e),λN M y=>?_⟩);refine⟨.bl _,H,I.kept λb o e=>y b o (by simpa using hU (fS e)) (fC _ e),?_,q⟩;have f:c.toArray.size=bs.length:=by rw[hW,e,fF]
 rw[f,(Ex bs _ rfl).1];rfl
def xk:D->Option D
 |.lst c=>(mw c).map λbs=>.bl (bs.all id)
 |_=>none
def SZ(y:X.calm=true)(v:Gl X "all")(u:X.mg "all"=none)(z:jc X B E e g)(m:gQ [e] X.env=(false,eval e X.env)::gQ [] X.env):fh X B E (.Call (.Name "all" p) [e] [] pos) (g1 xk g):=
 PE.imp (l8 (Ss y) v u PyProof.Rows.boot_all (d9 z ig m) (by decide) (by decide) m rfl) λσ H Q q=>OH (λG H x A d j C c Q q=>by
  cases A with
  |lst n=>
   unfold xk at c;dsimp only at c;cases f:mw n with
   |none=>rw[f]at c;cases c
   |some bs=>
    rw[f]at c;cases c;obtain⟨l,o,rfl,r,dl⟩:=C.lst j;exact⟨G,l,o,n,bs,rfl,r,dl,f,q _ G H (Ext.refl j) rfl⟩
  |_=>cases c) q
end
def CH(x:Str):List D:=x.cps.toList.map λc=>.str ⟨#[c]⟩
def ZJ(x:Str):It:=⟨λi _=>i<x.cps.size,λi H v a=>a=H/\∃c,x.cps[i]?=some c/\v=.str ⟨#[c]⟩,λi _=>x.cps.size<=i⟩
def Pv{P:gX}{w:iI}{K:gA}{tg:Expr}(it:Addr)(x:Str)(t:Tok):Turn P w K tg (ZJ x) [it] it (λi h=>h.IsStrIter it "str_ascii_iterator" x t i) where
 mem:=by simp
 obj:=λi h st b f=>by
  have e:b=it:=by simpa using f
  subst e;obtain⟨o,e,c,d⟩:=st;exact⟨o,e,λv z=>by rw[d]at z;cases z⟩
 keep:=λi h A st k=>let ⟨o,G,r⟩:=st;⟨o,k it (by simp) o G,r⟩
 item:=by
  intro X J C L y i j s σ H E I l st m;obtain⟨f0,u,M,q,p,n⟩:=l it (by simp);have a:i<x.cps.size:=m;refine wpAny_pyNext_ascii_item st (c:=x.cps[i]) (by simp[a]) λA g B=>?_;obtain⟨o,e,c,d⟩:=id g;exact⟨_,rfl,Fv e c d (by decide) ⟨.str ⟨#[x.cps[i]]⟩,H,(I.turned (λb o f e=>(B.2 b f).trans e) f0 u q p n),⟨_,rfl⟩,⟨rfl,_,by simp[a],rfl⟩,g,λb f=>(l b f).1⟩⟩
 done:=by
  intro X J C L y i j s σ H E I l st m;obtain⟨f0,u,M,q,p,n⟩:=l it (by simp);have a:x.cps.size<=i:=m;exact wpAny_pyNext_ascii_end (I.ok.hd y) st (by simp[a]) λA N=>⟨rfl,I.turned (λb o f e=>N b o f e) f0 u q p n⟩
 self:=λ_ _ _ _ _ st h=>wpAny_pyIter_striter_ascii st h
def V7{P:gX}{w:iI}{K:gA}{tg:Expr}(it:Addr)(x:Str)(t:Tok):Turn P w K tg (ZJ x) [it] it (λi h=>h.IsStrIter it "str_iterator" x t i) where
 mem:=by simp
 obj:=λi h st b f=>by
  have e:b=it:=by simpa using f
  subst e;obtain⟨o,e,c,d⟩:=st;exact⟨o,e,λv z=>by rw[d]at z;cases z⟩
 keep:=λi h A st k=>let ⟨o,G,r⟩:=st;⟨o,k it (by simp) o G,r⟩
 item:=by
  intro X J C L y i j s σ H E I l st m;obtain⟨f0,u,M,q,p,n⟩:=l it (by simp);have a:i<x.cps.size:=m;refine wpAny_pyNext_wide_item st (c:=x.cps[i]) (by simp[a]) λA g B=>?_;obtain⟨o,e,c,d⟩:=id g;exact⟨_,rfl,Fv e c d (by decide) ⟨.str ⟨#[x.cps[i]]⟩,H,(I.turned (λb o f e=>(B.2 b f).trans e) f0 u q p n),⟨_,rfl⟩,⟨rfl,_,by simp[a],rfl⟩,g,λb f=>(l b f).1⟩⟩
 done:=by
  intro X J C L y i j s σ H E I l st m;obtain⟨f0,u,M,q,p,n⟩:=l it (by simp);have a:x.cps.size<=i:=m;exact wpAny_pyNext_wide_end (I.ok.hd y) st (by simp[a]) λA N=>⟨rfl,I.turned (λb o f e=>N b o f e) f0 u q p n⟩
 self:=λ_ _ _ _ _ st h=>wpAny_pyIter_striter_wide st h
def Yq{K:KA}{x:Str}{S:Hp->Hp->Prop}:yk K (ZJ x) (CH x) S:=λi G H m b=>by
 unfold CH;refine⟨λd a=>?_,λf=>?_⟩
 ·rw[gO]at a;cases e:x.cps.toList[i]? with
  |none=>rw[e]at a;cases a
  |some c=>
   rw[e]at a;cases a;have g:i<x.cps.size:=by simpa using(List.getElem?_eq_some_iff.mp e).1
   refine⟨g,λv n ⟨z,l,j,h⟩=>?_⟩;subst z;have:x.cps.toList[i]?=some l:=by simpa using j
   rw[e]at this;cases this;exact⟨G,Ext.refl b,h⟩
 ·show x.cps.size<=i;simpa using f
section
variable{X:Cx}{G0 B:Hp}{E:EK}{e a b c tg iter:Expr}{g h:En->Res}{pos p:Pos}
def WY(K:gA)(f:TE):TI:=λσ H R=>f σ H λx d=>(∃a,x=.ref a/\(((∃xs,i' K d a xs)/\R (ZM K a) d)\/((∃xs,mn K d a xs)/\R (ZI K a) d)))\/∃z,x=.str z/\R (ZJ z) d
def Rg{l:Expr}{A:TE}(M:PE X l A):PI X tg l (WY X.K A):=by
 intro m s σ H R I h;refine gp (M m s σ H _ I h) λv f ⟨x,n,d,r,J⟩=>?_;obtain ⟨a,e,⟨⟨xs,y⟩,q⟩|⟨⟨xs,y⟩,q⟩⟩|⟨z,e,q⟩:=J
 ·subst e;cases r;obtain⟨u,G,p,L⟩:=d.list y;refine nT p.isList ?_;refine⟨f.1.1.size,[f.1.1.size],_,_,n,rfl,d.kept λb o e=>fC _ e,Gk a _,⟨_,fO _ rfl,rfl,rfl⟩,λb j=>?_,q⟩;have e:b=f.1.1.size:=by simpa using j
  subst e;exact d.p9 (fQ _) (d.fg.fresh (fQ _))
 ·subst e;cases r;obtain⟨u,G,p,L⟩:=d.tuple y;refine wpAny_pyIter_tuple (p) ?_;refine⟨f.1.1.size,[f.1.1.size],_,_,n,rfl,d.kept λb o e=>fC _ e,El a _,⟨_,fO _ rfl,rfl,rfl⟩,λb j=>?_,q⟩;have e:b=f.1.1.size:=by simpa using j
  subst e;exact d.p9 (fQ _) (d.fg.fresh (fQ _))
 ·subst e;obtain⟨t,rfl⟩:=r;cases C:z.cps.all _
  ·refine wpAny_pyIter_wide C ⟨f.1.1.size,[f.1.1.size],_,_,n,rfl,d.kept λb o e=>fC _ e,V7 _ z t,⟨_,fO _ rfl,rfl,rfl⟩,λb j=>?_,q⟩;have e:b=f.1.1.size:=by simpa using j
   subst e;exact d.p9 (fQ _) (d.fg.fresh (fQ _))
  ·refine wpAny_pyIter_ascii C ⟨f.1.1.size,[f.1.1.size],_,_,n,rfl,d.kept λb o e=>fC _ e,Pv _ z t,⟨_,fO _ rfl,rfl,rfl⟩,λb j=>?_,q⟩;have e:b=f.1.1.size:=by simpa using j
   subst e;exact d.p9 (fQ _) (d.fg.fresh (fQ _))
def Gn:D->Option (List D)
 |.lst d=>some d
 |.tup d=>some d
 |.str x=>some (CH x)
 |_=>none
noncomputable def aj(g:En->Res):En->e9:=λU=>match g U with
 | .ok d => (match Gn d with
  |some f=>.ok f
  |none=>.st)
 |.er c=>.er c
 |.st=>.st
def NJ(q:gy E G H (aj g U) P):ey E G H (g U) λd=>∃f,Gn d=some f/\P f:=by
 unfold aj at q;cases e:g U with
 |ok d=>
  rw[e]at q;dsimp only at q;cases j:Gn d with
  |some f=>rw[j]at q;exact⟨f,j,q⟩
  |none=>rw[j]at q;exact q.elim
 |er c=>rw[e]at q;exact q
 |st=>rw[e]at q;exact q
def Oq(h:UL X B E e g):We X B E tg e (aj g):=PI.imp (Rg h) λσ H R ⟨G,U,I,q⟩=>⟨G,U,I,(NJ q).mono<|by
 rintro d _ ⟨M,f,q⟩ v r o l C
 cases d with
 |lst A=>
  cases f;obtain ⟨a,m,rfl,s,dl⟩|⟨y,a,m,z,rfl,s,dl⟩|⟨t,x,a,z,_⟩:=C
  ·exact .inl ⟨a,rfl,.inl ⟨⟨m,i'.mono l.gh s⟩,q _ r o l (Ny (by rintro L J ⟨j,u⟩ n;exact⟨i'.mono (j.trans n) s,j⟩) dl)⟩⟩
  ·cases z;exact .inl ⟨a,rfl,.inl ⟨⟨m,i'.mono (I.bh.trans l.hh) s⟩,q _ r o l (Ny (by rintro L J ⟨j,u⟩ n;exact⟨i'.mono u s,j⟩) dl)⟩⟩
  ·cases z
 |tup A=>
  cases f;obtain ⟨a,m,rfl,s,dl⟩|⟨y,a,m,z,rfl,s,dl⟩|⟨t,x,a,z,_⟩:=C
  ·exact .inl ⟨a,rfl,.inr ⟨⟨m,mn.of (l.gh _ _ s)⟩,q _ r o l (Yr (by rintro L J ⟨j,u⟩ n;exact⟨mn.of ((j.trans n) _ _ s),j⟩) dl)⟩⟩
  ·cases z
  ·cases z
 |str z=>cases f;exact .inr ⟨z,C.str,q _ r o l Yq⟩
 |g8=>cases f
 |bl _=>cases f
 |int _=>cases f
 |hZ _ _=>cases f
 |obj _ _=>cases f
 |fn _=>cases f⟩
def JK(h:jc X B E e g):Sj X B E tg e (aj g):=PI.imp (Rg h) λσ H R ⟨G,U,y,q⟩=>⟨G,U,y,(NJ q).mono<|by
 rintro d _ ⟨I,f,q⟩ v r o j n
 cases d with
 |lst m=>
  cases f;obtain⟨a,l,rfl,s,dl⟩:=n.lst j.gh;exact .inl ⟨a,rfl,.inl ⟨⟨l,s⟩,q _ r o j (Ny (λC A x u=>⟨i'.mono x.hh s,x.gg⟩) dl)⟩⟩
 |tup m=>
  cases f;obtain⟨a,l,rfl,s,dl⟩:=n.tup j.gh;exact .inl ⟨a,rfl,.inr ⟨⟨l,s⟩,q _ r o j (Yr (λC A x u=>⟨mn.mono x.hh s,x.gg⟩) dl)⟩⟩
 |str z=>cases f;exact .inr ⟨z,n.str,q _ r o j Yq⟩
 |g8=>cases f
 |bl _=>cases f
 |int _=>cases f
 |hZ _ _=>cases f
 |obj _ _=>cases f
 |fn _=>cases f⟩
def C5(d:List mT)(q:mT):Option Nat:=d.findIdx? λy=>iG y q
noncomputable def fo:D->D->Option D
 | .lst xs, d => (match b9 xs, bz d with
  |some f,some q=>if gE f && iB q && decide (xs.length<=fR)then(C5 f q).map λj=>.int (j:Nat)else none
  |_,_=>none)
 |_,_=>none
inductive zL(K:KA)(f:D->D->Option D)(x:V)(vs:List V)(H:Hp)(Q:VK):Prop
 |mk (G dx dy y d) (_:c7 G H) (_:Arg K G H dx x) (_:vs=[y]) (_:Arg K G H dy y) (_:f dx dy=some d) (_:∀v,Den K G d v->Q v H):zL K f x vs H Q
def Uz(hu:X.A.units+65<jS):UK X "list.index" (zL (kx X) fo):=by
 intro ε s σ H x vs v us Q I rx rv q;obtain⟨G,dx,dy,y,d,T,ax,rfl,ay,m,q⟩:=q;obtain⟨u,rfl,ru⟩:=rv.one;cases dx with
 |lst xs=>
  unfold fo at m;dsimp only at m;cases O:b9 xs with
  |none=>rw[O]at m;cases m
  |some r=>
   cases e2:bz dy with
   |none=>rw[O,e2]at m;cases m
   |some L=>
    rw[O,e2]at m;dsimp only at m
    by_cases M:(gE r && iB L && decide (xs.length<=fR))=true
    ·rw[fM M]at m;simp only[gG,decide_eq_true_eq]at M;obtain⟨⟨h1,h2⟩,h3⟩:=M;cases ej:C5 r L with
     |none=>rw[ej]at m;cases m
     |some j=>
      rw[ej]at m;cases m;obtain⟨as,ra⟩:=cx I T ax rx (by unfold bz;rw[O]);obtain⟨bs,rb⟩:=cx I T ay ru e2;cases ra with
      |@list l o f n _ _ g1 g2 g3 g4=>
       obtain⟨cls,dd,data,sl⟩:=o;subst g2 g3;have hm:=SeqAt.readsAll_map r _ _ h1 g4;have C:f.size=r.length:=by rw[<-hm,fF];simp
       obtain⟨w1,w2,w3⟩:=List.findIdx?_eq_some_iff_getElem.mp ej;have J:∀(k:Nat)(N:k<f.size),iG (SeqAt.readOf s.1 f[k]) L=iG (r[k]'(by lia)) L:=λk N=>by
        congr 1
        have:(f.toList.map (SeqAt.readOf s.1))[k]?=r[k]?:=by rw[hm]
        rw[gO,gF (by simpa using N),gF (by lia)]at this;simpa using this
       have hz:r.length<=fR:=by
        have:xs.length=r.length:=by
         obtain⟨l',ξ,rfl,sq,dl⟩:=ax.lst T;cases rx;obtain⟨Γ,U,pl,_⟩:=I.list sq;obtain⟨o',z,Ξ,n',α⟩:=pl.isList;rw[g1]at z;cases z;cases α;rw[dl.length,U.length,<-C];simp
        lia
       have η:(fR:Int)<2 ^ 63 - 1:=by decide
       refine uC PySem.F.slot_list_index ⟨_,g1,rfl⟩ PySem.F.entry_list_index (PySem.F.args_list_index_2 _ _)
        (PySem.SeqAt.list_indexAt l f n dd sl u _ j (by lia) (by lia) ?_ ?_) ⟨g1,λy hy=>SeqAt.items_eqAt g4 rb h1 (mU h2) (qQ h2 hu) y hy,?_⟩
       ·rwa [J j (by lia)]
       ·intro k N Y;rw[J k N];have:=w3 k Y;simpa using this
       ·exact⟨.int j,H,I.tok _,⟨_,rfl⟩,q _ rfl⟩
    ·rw[fJ M]at m;cases m
 |_=>cases m
end
section
variable{X:Cx}{G0 B:Hp}{E:EK}{e a b c tg iter:Expr}{g h:En->Res}{pos p:Pos}
def gM(f:D->D->Option D)(g h:En->Res):En->Res:=λU=>(g U).bind λx=>match x with
 |.lst xs=>(h U).bind λy=>Res.of (f (.lst xs) y)
 |_=>.st
def XM{f:D->D->Option D}{m:Str}{id:String}{ap A:Pos}(slot:Slot "list" m id)(o:typeOf (.builtin id)=pure (.type "method_descriptor"))(O:UK X id (zL (kx X) f))(N:jc X B E a g)(Y:jc X B E e h)
  (hb:mY a m X.env (eval a X.env)=eval a X.env)(r:gc e=true)(T:(ap.endLine==A.line)=true):fh X B E (.Call (.Attribute a m ap) [e] [] A) (gM f g h):=
 PE.imp (A9 kP slot o O N (d9 Y ig (ah r)) hb (by rw[me (by rw[iF,r];rfl)];rfl) T (ah r) rfl) λσ H Q ⟨G,U,R,q⟩=>⟨G,U,R,(ey.bind q).mono λdx _ j x G1 H1 n C=>by
  cases dx with
  |lst xs=>
   obtain⟨l,J,rfl,L,dl⟩:=C.lst n.gh;refine⟨.inl ⟨rfl,J,L⟩,G1,U,R.ext n,?_⟩;have j:=ey.ext n j;unfold au;cases u:h U with
   |ok dy=>
    rw[u]at j;obtain⟨d,ed,M⟩:=ey.of (j);intro ws I H2 z al;obtain⟨y,rfl,ay⟩:=h8.one al;exact⟨I,.lst xs,dy,y,d,z.gh,C.ext z,rfl,ay,ed,λv dn=>M v I H2 (n.trans z) dn⟩
   |er c=>rw[u]at j;exact j
   |st=>rw[u]at j;exact j
  |_=>exact j.elim⟩
def BM{ap d:Pos}(f:X.A.units+65<jS)(j:jc X B E a g)(n:jc X B E e h)(o:j4 a=true)(l:gc e=true)(m:(ap.endLine==d.line)=true):fh X B E (.Call (.Attribute a "index" ap) [e] [] d) (gM fo g h):=
 XM PySem.F.slot_list_index PySem.F.type_list_index (Uz f) j n (l7 o) l m
noncomputable def kf:D->D->Option D
 |.int i,.int j=>if(-(2 ^ 64)<i/\i<2 ^ 64)\/(-(2 ^ 64)<j/\j<2 ^ 64)then some (.int (i * j))else none
 |.str x,.int n=>if x.length * n.toNat<=fR/\-(2 ^ 20)<=n/\n<2 ^ 20 then some (.str (Txt.mul x n))else none
 |_,_=>none
def WN{x:Str}{n:Int}(h:x.length * n.toNat<=fR/\-(2 ^ 20)<=n/\n<2 ^ 20):MulOk x n:=by
 obtain⟨d,q,o⟩:=h;refine⟨?_,λa b=>?_,λa b=>?_⟩
 ·simp only[Bool.or_eq_false_iff,decide_eq_false_iff_not]
  lia
 ·intro l;have f:x.length<=fR:=by
   have:1<=n.toNat:=by lia
   exact iU (Nat.le_mul_of_pos_right _ this) d
  have j:(fR:Int)=2 ^ 24:=rfl;have m:(2 ^ 63 - 1:Int) / n>=2 ^ 43 - 1:=by
   rw[ge_iff_le,Int.le_ediv_iff_mul_le (by lia)]
   lia
  lia
 ·unfold Builtin.Str.tooLong;simp only[gt_iff_lt,decide_eq_false_iff_not,Nat.not_lt];exact d
inductive wQ(K:KA)(x:V)(y:V)(H:Hp)(Q:VK):Prop
 |mk (G dx dy d) (_:c7 G H) (_:Arg K G H dx x) (_:Arg K G H dy y) (_:kf dx dy=some d) (_:∀v G' H',Ext G H G' H'->Den K G' d v->Q v H'):wQ K x y H Q
def IB:mm X (nZ .Mult) (wQ (kx X)):=by
 intro j s σ H x y v u Q I m l q;obtain⟨G,L,J,d,o,z,r,f,q⟩:=q;unfold kf at f;split at f
 ·split at f
  ·rename_i n;cases f;rw[z.int]at m;rw[r.int]at l;exact QB j s σ H _ _ _ _ Q I m l ⟨_,_,rfl,rfl,n,q _ G H (Ext.refl o) rfl⟩
  ·cases f
 ·split at f
  ·rename_i n;cases f;rw[z.str]at m;rw[r.int]at l;obtain⟨t,rfl⟩:=m;obtain⟨C,rfl⟩:=l;exact SB.mul (WN n) λA k=>⟨.str _,H,I.tok _,⟨_,rfl⟩,q _ G H (Ext.refl o) rfl⟩
  ·cases f
 ·cases f
def SM(l:jc X B E a g)(j:jc X B E b h):fh X B E (.BinOp a .Mult b pos) (g2 kf g h):=Lj IB (λG H x y o n d f u r m Q q=>⟨G,o,n,d,f,u,r,m,q⟩) l j
theorem Md:∀{xs:List V}{d:List fG},xs.length=d.length->(∀(i:Nat) x u,xs[i]?=some x->d[i]?=some u->RelV x u)->Vals xs d
 |[],[],_,_=>.nil
 |[],_::_,h,_=>by simp at h
 |_::_,[],h,_=>by simp at h
 |x::xs,u::d,h,f=>.cons (f 0 x u rfl rfl) (Md (by simpa using h) λi y v l j=>f (i+1) y v (by simpa using l) (by simpa using j))
end
inductive m3 where
 |ok (d:D) (U:En)
 |er (c:Str)
 |st
def xc(K:KA)(f B:Hp)(E:EK)(G:Hp)(σ:St)(r:m3)(P:D->Hp->Hp->En->Prop):Prop:=match r with
 |.ok d e=>∀b a,c7 G b->eu K B b a σ e->Ext f B b a->P d b a e
 |.er c=>∀b a,Ext f B b a->E c a
 |.st=>False
inductive zF(K:KA)(G0 B:Hp)(E:EK)(g:En->m3)(σ:St)(H:Hp)(Q:VK):Prop
 |mk (G U) (_:eu K B G H σ U) (_:Ext G0 B G H) (_:xc K G0 B E G σ (g U) λd G' H' _=>∀v,Den K G' d v->Q v H'):zF K G0 B E g σ H Q
inductive B'(K:KA)(G0 B:Hp)(E:EK)(g:En->m3)(σ:St)(H:Hp)(Q:Bool->Hp->Prop):Prop
 |mk (G U) (_:eu K B G H σ U) (_:Ext G0 B G H) (_:xc K G0 B E G σ (g U) λd G' H' _=>∃b,d=.bl b/\Q b H'):B' K G0 B E g σ H Q
abbrev Wo(X:Cx)(a B:Hp)(E:EK)(e:Expr)(g:En->m3):Prop:=PE X e (zF (kx X) a B E g)
abbrev bY(X:Cx)(a B:Hp)(E:EK)(e:Expr)(g:En->m3):Prop:=PT X e (B' (kx X) a B E g)
def Res.ef(r:Res)(U:En):m3:=match r with
 |.ok d=>.ok d U
 |.er c=>.er c
 |.st=>.st
def C9(g:En->Res):En->m3:=λU=>(g U).ef U
section
variable{X:Cx}{G0 B:Hp}{E:EK}{e a b c tg iter:Expr}{g h k:En->Res}{f:En->m3}{pos p:Pos}{ss tt:List Stmt}{F1 F2:En->Out}
def dP{K:KA}{G H:Hp}{σ:St}{U:En}{r:Res}{P:D->Hp->Hp->En->Prop}(R:eu K B G H σ U)(x:Ext G0 B G H)(q:xc K G0 B E G σ (r.ef U) P):ey E G H r λd=>∀l j,Ext G H l j->P d l j U:=by
 cases r with
 |ok d=>exact λl j e=>q l j e.gg (R.ext e) (x.trans e)
 |er c=>exact λl j e=>q l j (x.trans e)
 |st=>exact q
def Qa(h:fh X B E e g):Wo X G0 B E e (C9 g):=PE.imp h (by rintro σ H Q ⟨G,U,R,x,q⟩;exact⟨G,U,R,(dP R x q).mono λd _ q v m l e j=>q m l e v j⟩)
def Bs(c:En->Res)(j d:En->m3):En->m3:=λU=>match c U with
 |.ok (.bl true)=>j U
 |.ok (.bl false)=>d U
 |.ok _=>.st
 |.er c=>.er c
 |.st=>.st
def Xw(y:Er X B E c g)(A:Wo X G0 B E a v)(z:Wo X G0 B E b u):Wo X G0 B E (.IfExp c a b pos) (Bs g v u):=
 PE.imp (Lc y A z) λσ H Q ⟨G,U,R,x,q⟩=>⟨G,U,R,by
  unfold Bs at q;cases o:g U with
  |er c=>rw[o]at q;exact λm l e=>q m l (x.trans e)
  |st=>rw[o]at q;exact q
  |ok d=>
   rw[o]at q;cases d with
   |bl t=>
    cases t with
    |true=>
     refine⟨true,rfl,λr C j=>⟨r,U,R.ext j,x.trans j,?_⟩⟩;cases ef:v U with
     |ok d n=>rw[ef]at q;exact λm l s=>q m l (j.gg.trans s)
     |er c=>rw[ef]at q;exact q
     |st=>rw[ef]at q;exact q
    |false=>
     refine⟨false,rfl,λr C j=>⟨r,U,R.ext j,x.trans j,?_⟩⟩;cases ef:u U with
     |ok d n=>rw[ef]at q;exact λm l s=>q m l (j.gg.trans s)
     |er c=>rw[ef]at q;exact q
     |st=>rw[ef]at q;exact q
   |_=>exact q.elim⟩
def C7(p:D->D->Option D)(f:En->m3)(h:En->Res):En->m3:=λU=>match f U with
 |.ok x d=>((h d).bind λy=>Res.of (p x y)).ef d
 |.er c=>.er c
 |.st=>.st
def PR{m:CmpOp}{l:D->D->Option D}{r:R2}(ho:mm X (jF m) r)(hp:gx (kx X) l r)(n:∀x y d,l x y=some d->∃b,d=.bl b)(ha:Wo X G0 B E a f)(hb:jc X B E b h)(hm:pU m b=false):bY X G0 B E (.Compare a [m] [b] pos) (C7 l f h):=
 PT.imp (Rk ho ha hb hm) λσ H Q ⟨G,U,R,x,q⟩=>⟨G,U,R,x,by
  unfold C7 at q;cases ef:f U with
  |er c=>rw[ef]at q;exact q
  |st=>rw[ef]at q;exact q
  |ok C j=>
   rw[ef]at q;intro J H1 N I M v dn;have q1:xc (kx X) G0 B E J σ (((h j).bind λy=>Res.of (l C y)).ef j) λd L z _=>∃b,d=.bl b/\Q b z:=by
    dsimp only at q;cases o:(h j).bind λy=>Res.of _ with
    |ok d=>rw[o]at q;exact λL z s=>q L z (N.trans s)
    |er c=>rw[o]at q;exact q
    |st=>rw[o]at q;exact q
   refine⟨J,j,I,(ey.bind (dP I M q1)).mono λdy _ O y G2 H2 u ay=>?_⟩;obtain⟨d,A,T⟩:=ey.of O;obtain⟨b,rfl⟩:=n _ _ _ A;refine hp G2 H2 v y C dy _ u.gh (Arg.ext u (.inl dn)) ay A _ λw G3 H3 e3 dw=>?_;obtain⟨b',eb,Y⟩:=T G3 H3 (u.trans e3);cases eb;exact⟨b,dw,Y⟩⟩
def Lq(f:En->m3)(F1 F2:En->Out):En->Out:=λU=>match f U with
 |.ok (.bl true) d=>F1 d
 |.ok (.bl false) d=>F2 d
 |.ok _ _=>.st
 |.er c=>.er c
 |.st=>.st
def YZ(r:bY X G0 B E c f)(v:ym X G0 B E ss F1)(u:ym X G0 B E tt F2):qr X G0 B E (.If c ss tt pos) (Lq f F1 F2):=
 PS.imp (NW r v u) λD σ H ⟨G,U,R,x,q⟩=>⟨G,U,R,x,by
  unfold Lq at q;cases ef:f U with
  |er c=>rw[ef]at q;exact q
  |st=>rw[ef]at q;exact q
  |ok d j=>
   rw[ef]at q;intro o y m n l;cases d with
   |bl t=>
    refine⟨t,rfl,?_⟩;cases t with
    |true=>exact⟨o,j,n,l,ki.same m q⟩
    |false=>exact⟨o,j,n,l,ki.same m q⟩
   |_=>exact q.elim⟩
def vw(i:Nat)(f:En->m3):En->Out:=λU=>match f U with
 |.ok d j=>.nx (j.set i (.pu d))
 |.er c=>.er c
 |.st=>.st
def TJ(o:PS X (.Assign [.Name x j] e pos) (L6 (zF (kx X) G0 B E f) (pb i))):qr X G0 B E (.Assign [.Name x j] e pos) (vw i f):=
 PS.imp o λD σ H ⟨G,U,R,x,q⟩=>⟨G,U,R,x,by
  unfold vw at q;cases ef:f U with
  |er c=>rw[ef]at q;exact q
  |st=>rw[ef]at q;exact q
  |ok d l=>
   rw[ef]at q;intro z y n u m v r;exact q _ z y n (u.set r) m⟩
def tj(f:En->m3):En->Out:=λU=>match f U with
 |.ok _ d=>.nx d
 |.er c=>.er c
 |.st=>.st
def LX(h:Wo X G0 B E e f)(n:mG e none pos.line X.env=pure false):qr X G0 B E (.Expr e pos) (tj f):=
 PS.imp (s9 h n) λD σ H ⟨G,U,R,x,q⟩=>⟨G,U,R,x,by
  unfold tj at q;cases ef:f U with
  |er c=>rw[ef]at q;exact q
  |st=>rw[ef]at q;exact q
  |ok d j=>
   rw[ef]at q;intro u r m o l v y;exact q σ u r m o l⟩
def Ju{j:List (Addr×Obj)}{σ:St}{H:Hp}{s:fP}{a:Addr}{d:List (gd×V)}{k:gd}{v:V}{u r:fG}{A:iR}{E:fG->fP->Prop}{Q:fG->fP->Prop}(I:Inv X j σ H s)(e:H a=some (.dK d))(hl:d.length<fR)(J:RelV (kV k) u)(L:RelV v r)
  (h1:∀m w n,i8 d k=some m->RelV m w->Inv X j σ H n->Q w n)(h2:∀n,i8 d k=none->Inv X j σ (upd H a (.dK (jm d k v))) n->Q r n):
  gK (gR X.prog X.w) A (call (.builtin "dict.setdefault") [.ref a,u,r]) Q E s:=by
 obtain⟨z,y,G,rel,C⟩:=Fo I.fg e;refine qP kZ C.typeIs rV (rM _ _ _) (kt_meets_setdefault _ a (za J) y r)
  ⟨G,C,by rwa [<-rel.length],λw N=>?_,λU h' o O=>?_⟩
 ·have:=rel.val k;rw[N]at this;cases l:i8 d k with
  |none=>rw[l]at this;cases this
  |some m=>rw[l]at this;exact h1 m w _ l this (I.tok _)
 ·have x:=rel.val k;rw[U]at x;have l:i8 d k=none:=by
   cases l:i8 d k with
   |none=>rfl
   |some m=>rw[l]at x;cases x
  refine h2 _ l ?_;have Y:∃q,h'.get? a=some q:=let ⟨q,_,_,T,_⟩:=o;⟨q,T⟩;have M:(jm d k v).length<=fR:=by have:=l6 d k v;lia
  exact yz I (by rw[e];exact lN) O Y (Xt M y (rel.put k L) o)
end
section
variable{X:Cx}{G0 B:Hp}{E:EK}{e a b c tg iter:Expr}{g h k:En->Res}{f:En->m3}{pos p:Pos}
noncomputable def jg(i:Nat)(o n:En->Res):En->m3:=λU=>match U[i]? with
 | some (.od false l) => (match o U with
  | .ok q => (match n U with
   | .ok m => (match bq q with
    | some j => if l.length < fR then (match d8 l j with
     |some d=>.ok d U
     |none=>.ok m (U.set i (.od false (Ar l j m))))else .st
    |none=>.st)
   |.er c=>.er c
   |.st=>.st)
  |.er c=>.er c
  |.st=>.st)
 |_=>.st
def Vj{K:KA}{G:Hp}{l:List (D×D)}{es:List (gd×V)}(dl:il K G l es){j:gd}(h:i8 es j=none):d8 l j=none:=by
 cases e:d8 l j with
 |none=>rfl
 |some d=>
  obtain⟨v,q,_⟩:=(dl.look j).1 d e;rw[h]at q;cases q
def To{i:Nat}{x:Str}{ke ve:Expr}{ap cp:Pos}(hv:PE X (.Name x p) (tw i))(hk:jc X B E ke g)(ζ:fh X B E ve h)(hn:gc ke=true)(η:gc ve=true)(N:(ap.endLine==cp.line)=true):
  Wo X G0 B E (.Call (.Attribute (.Name x p) "setdefault" ap) [ke,ve] [] cp) (jg i g h):=by
 intro o s σ H Q I ⟨G,U,R,ex,q⟩;unfold jg at q;cases ed:U[i]? with
 |none=>rw[ed]at q;exact q.elim
 |some sl=>
  rw[ed]at q;cases sl with
  |od t n=>
   cases t with
   |true=>exact q.elim
   |false=>
    obtain⟨l,es,q1,q2,q3,q4,q5⟩:=R.yL ed;have υ:((lJ cp (gQ [ke,ve] X.env)).all (λx=> !x.1) && (qO cp (nS [] X.env)).all (λx=>x.1.isSome)
     && decide (([ke,ve]).length+([]:List mS).length+(if([]:List mS).isEmpty then 0 else 1)<30))=true:=by
     rw[me (by rw[iF,iF,hn,η];rfl)];rfl
    refine tB rfl υ N lI kZ oM (gp (hv o s σ H (λv M=>v=.ref l/\M=H) I ⟨_,q1,rfl,rfl⟩) λu s1 ⟨v,M,I1,r1,e1,O⟩=>?_);subst e1 O;cases r1;obtain⟨t1,t2,_⟩:=Nu I1 (.inl ⟨es,.inl q2⟩);refine⟨t1,t2,?_⟩;rw[Ed hn η];have qk:ey (E) G M (g U) λA=>ey E G M (h U) λC=>∃j,bq A=some j/\n.length<fR/\xc (kx X) G0 B E G σ (match d8 n j with
     |some d=>.ok d U
     |none=>.ok C (U.set i (.od false (Ar n j C)))) λd L J _=>∀v,Den (kx X) L d v->Q v J:=by
     cases eg:g U with
     |er c=>rw[eg]at q;exact λL J e=>q L J (ex.trans e)
     |st=>rw[eg]at q;exact q
     |ok A=>
      rw[eg]at q;dsimp only at q;show ey E G M (h U) _;cases eh:h U with
      |er c=>rw[eh]at q;exact λL J e=>q L J (ex.trans e)
      |st=>rw[eh]at q;exact q
      |ok C=>
       rw[eh]at q;cases ej:bq A with
       |none=>rw[ej]at q;exact q.elim
       |some j=>
        rw[ej]at q;dsimp only at q
        by_cases N:n.length<fR
        ·rw[fM N]at q;exact⟨j,rfl,N,q⟩
        ·rw[fJ N]at q;exact q.elim
    refine lP rfl (pB (lG (gp (hk o s1 σ M (λy H2=>∃Y A,Ext G M Y H2/\Arg _ Y H2 A y/\ey E G M _ λC=>∃j,bq A=some j/\n.length<fR/\xc _ G0 B E G σ _ λd L J _=>∀v,Den _ L d v->Q v J) I1 ⟨G,U,R,qk.mono λA _ qk y Y H2 O ay=>⟨Y,A,O,ay,qk⟩⟩) λyv s2 ⟨y,H2,I2,ry,Y,A,O,ay,qv⟩=>?_)));refine lG (gp (ζ o s2 σ H2 (λz H3=>∃T C j,Ext Y H2 T H3/\Den _ T C z/\bq A=some j/\n.length<fR/\xc _ G0 B E G σ _ λd L J _=>∀v,Den _ L d v->Q v J) I2 ⟨Y,U,R.ext O,(qv.ext O).mono λC _ ⟨j,ej,N,q⟩ z T H3 e3 dz=>⟨T,C,j,e3,dz,ej,N,q⟩⟩) λzv s3 ⟨z,H3,I3,rz,T,C,j,e3,dz,ej,hsz,q⟩=>oS ?_);have m:=O.trans e3;have h3:=m.hh _ _ q2;have r:=q3.mono m.gg;have R3:=R.ext m;rw[m6 ay ej]at ry;refine Ju I3 h3 (by rwa [<-r.length]) ry rz (λv' w s' ev ξ I'=>?_) λs' ev I'=>?_
    ·cases el:d8 n j with
     |none=>rw[(r.look j).2 el]at ev;cases ev
     |some d=>
      rw[el]at q;obtain⟨v2,z1,z2⟩:=(r.look j).1 d el;rw[z1]at ev;cases ev;exact⟨v',H3,I',ξ,q T H3 m.gg R3 (ex.trans m) v' z2⟩
    ·rw[(Vj r ev)]at q;exact⟨z,_,I',rz,q T _ m.gg (eu.AS R3 ed q1 h3 (r.put dz j)) (Ext.wr (ex.trans m) (m.fr _ _ q2 q4 rfl) q5) z dz⟩
  |no=>exact q.elim
  |pu _=>exact q.elim
  |bo _=>exact q.elim
  |ow _=>exact q.elim
def Qt(d:List (D×D)):List D:=d.map (·.1)
def Td{K:KA}{G:Hp}:∀{j:List (D×D)}{es:List (gd×V)},il K G j es->dg K G (Qt j) (es.map λp=>kV p.1):=by
 intro d;induction d with
 |nil=>rintro es h;rw[h];rfl
 |cons d _ l=>
  obtain⟨_,_⟩:=d
  rintro es ⟨k,v,r,n,o,q,m⟩
  subst n o;refine⟨kV k,_,rfl,?_,l m⟩;cases k<;>rfl
def fq:D->Option D
 |.lst j=>some (.lst j)
 |.tup j=>some (.lst j)
 |.hZ false d=>some (.lst (Qt d))
 |_=>none
def WU{P:gX}{w:iI}{k:gd}{v:fG}(h:(a0 P w).is k v=true):RelV (kV k) v:=by
 rcases cc (h)with ⟨i,t,rfl,rfl⟩|⟨x,t,rfl,rfl⟩
 ·exact⟨t,rfl⟩
 ·exact⟨t,rfl⟩
def Ms(hc:X.calm=true):jo X (.type "list") (λxs H Q=>∃p es,xs=[.ref p]/\H p=some (.dK es)/\∀l,H l=none->Q (.ref l) (upd H l (.lst (es.map λp=>kV p.1)))):=by
 intro L s σ H xs us Q I r h;obtain⟨p,es,rfl,T,q⟩:=h;obtain⟨u,rfl,M⟩:=j8 r;cases M;obtain⟨z,hd,vs,rel,dd⟩:=Fo I.fg T;obtain⟨ep,da⟩:=dd.dictAt;refine PySem.W.kdl_call (PySem.W.kdl_dict (ep:=ep) hd) (I.ok.hd hc) da (by rwa [<-rel.length]) λh' tk v c' Y hS ⟨U,j⟩=>?_;have O:Vals (es.map λp=>kV p.1) v.toList:=by
  refine Md (by rw[fF,rel.length];simp[U]) λi x u d n=>?_;obtain⟨k,y,ek,C⟩:=j i u (by simpa using n);rw[gO]at d;have A:∀{l:List _}{m:List _},KV l m->∀(i:Nat)(p:gd×V)(q:gd×fG),l[i]?=some p->m[i]?=some q->p.1=q.1:=by
   intro l m r;induction r with
   |nil=>intro i p q e;simp at e
   |@cons a b as bs hh t N=>
    intro i p q d n;cases i with
    |zero=>simp at d n;subst d n;exact hh.1
    |succ i=>exact N i p q (by simpa using d) (by simpa using n)
  cases G:es[i]? with
  |none=>rw[G]at d;cases d
  |some J=>
   rw[G]at d;cases d;have:=A rel i J _ G ek;show RelV (kV J.1) u;rw[this];exact WU C
 refine⟨.ref _,_,I.laid (o:=.lst _) Y (fQ _) ⟨by rwa [fF],v.toList,c',O,by simpa using hS⟩,rfl,q _ I.fresh⟩
def La(I:X.calm=true)(C:Gl X "list")(A:X.mg "list"=none)(J:jc X B E e g)(z:gc e=true):FZ X B E (.Call (.Name "list" p) [e] [] pos) (g1 fq g):=
 PE.imp (ni (jo.or Gx (Ms I)) C A PyProof.Rows.boot_list (d9 J ig (ah z)) (by decide) (by decide) (ah z) rfl) λσ H Q ⟨G,U,R,q⟩=>⟨G,U,R,by
  unfold au;unfold g1 at q;cases e:g U with
  |er c=>rw[e]at q;exact q
  |st=>rw[e]at q;exact q
  |ok T=>
   rw[e]at q;obtain⟨d,o,Y,N,u⟩:=ey.of (q);subst N;intro n y H1 j O;obtain⟨v,rfl,x⟩:=h8.one O;unfold fq at o;split at o
   ·cases o;obtain⟨l,n,rfl,r,dl⟩:=x.lst j.gh;exact .inl ⟨l,n,rfl,.inl r,λp m=>u p n y _ (j.trans (Ext.own j.gh _ m)) (cu j.hh m) (cu j.gh m) ai dl⟩
   ·cases o;obtain⟨l,n,rfl,r,dl⟩:=x.tup j.gh;exact .inl ⟨l,n,rfl,.inr r,λp m=>u p n y _ (j.trans (Ext.own j.gh _ m)) (cu j.hh m) (cu j.gh m) ai dl⟩
   ·cases o;obtain⟨l,M,rfl,L,dl⟩:=Arg.vM j.gh x;exact .inr ⟨l,M,rfl,L,λp m=>u p _ y _ (j.trans (Ext.own j.gh _ m)) (cu j.hh m) (cu j.gh m) ai (Td dl)⟩
   ·cases o⟩
def T7:IsL (g1 fq g):=λU d h=>by
 unfold g1 at h;cases e:g U with
 |er c=>rw[e]at h;cases h
 |st=>rw[e]at h;cases h
 |ok l=>
  rw[e]at h;have j:Res.of _=.ok d:=h;unfold fq at j;split at j
  ·cases j;exact⟨_,rfl⟩
  ·cases j;exact⟨_,rfl⟩
  ·cases j;exact⟨_,rfl⟩
  ·cases j
end
section
variable{X:Cx}{G0 B:Hp}{E:EK}{e a b:Expr}{es:List Expr}{g h k:En->Res}{pos p:Pos}
def XQ:fh X B E (.Dict [] [] pos) (gC (.hZ false [])):=
 PE.imp Lb (by rintro σ H Q ⟨G,U,R,q⟩ p c;exact q _ _ _ (Ext.new R.gh _ c) ⟨p,rfl,.inl ⟨rfl,[],ai,rfl⟩⟩)
def Mq:jo X (.type "dict") (λxs H Q=>∃p es,xs=[.ref p]/\H p=some (.dK es)/\∀l,H l=none->Q (.ref l) (upd H l (.dK es))):=by
 intro c s σ H xs A Q I r h;obtain⟨p,es,rfl,m,q⟩:=h;obtain⟨u,rfl,f⟩:=j8 r;cases f;obtain⟨z,v,d,rel,y⟩:=Fo I.fg m;refine kt_call_dict v y (by rwa [<-rel.length]) λC n j=>?_;refine⟨.ref _,_,I.laid (o:=.dK es) (λb u e=>?_) (fQ _) ⟨z,beq_eq_false_iff_ne.mpr (kS (hU I.big)),d,rel,n⟩,rfl,q _ (I.fg.fresh (fQ _))⟩;have x:b≠s.1.1.size:=λz=>by
  subst z;exact jA _ (fS e)
 rw[j.2 b x];exact fC _ e
def eu.yF{K:KA}{G d H f:Hp}{σ:St}{U:En}{i:Nat}{a:Addr}{c:List (D×D)}{es:List (gd×V)}(R:eu K B G H σ U)(e:Ext G H d f)(j:H a=none)(m:d a=none)(l:f a=some (.dK es))(n:il K d c es):eu K B d f (σ.set i (some (.ref a))) (U.set i (.od false c)):=R.wH e j m ⟨a,es,rfl,l,n⟩
inductive zE(K:KA)(B:Hp)(E:EK)(g:En->Res)(σ:St)(H:Hp)(Q:VK):Prop
 |mk (G U) (_:eu K B G H σ U) (_:ey E G H (g U) λd=>∃kvs,d=.hZ false kvs/\∀a es G' H',Ext G H G' H'->H a=none->G' a=none->H' a=some (.dK es)->il K G' kvs es->Q (.ref a) H'):zE K B E g σ H Q
def II(r:Gl X "dict")(o:X.mg "dict"=none)(u:jc X B E e g)(j:gc e=true):PE X (.Call (.Name "dict" p) [e] [] pos) (zE (kx X) B E g):=
 PE.imp (ni Mq r o PyProof.Rows.boot_dict (d9 u ig (ah j)) (by decide) (by decide) (ah j) rfl) λσ H Q ⟨G,U,R,q⟩=>⟨G,U,R,by
  unfold au;cases e:g U with
  |er c=>rw[e]at q;exact q
  |st=>rw[e]at q;exact q
  |ok I=>
   rw[e]at q;obtain⟨n,rfl,m⟩:=q;intro C A J d z;obtain⟨v,rfl,y⟩:=h8.one z;obtain⟨l,es,rfl,x,dl⟩:=Arg.vM d.gh y;exact⟨l,es,rfl,x,λp f=>m p es A _ (d.trans (Ext.own d.gh _ f)) (cu d.hh f) (cu d.gh f) ai dl⟩⟩
def D5(i:Nat)(g:En->Res):En->Out:=λU=>(g U).then λd=>match d with
 |.hZ false c=>.nx (U.set i (.od false c))
 |_=>.st
def LV(l:PS X (.Assign [.Name x c] e pos) (L6 (zE (kx X) B E g) (pb i))):qr X G0 B E (.Assign [.Name x c] e pos) (D5 i g):=
 PS.imp l λD σ H ⟨G,U,R,e,q⟩=>⟨G,U,R,(qf e q).mono λd _ q=>by
  cases d with
  |hZ t f=>
   cases t with
   |false=>exact⟨f,rfl,λa es u r j m o n dl=>q _ u r j.gg (R.yF j m o n dl) (e.trans j)⟩
   |true=>exact q.elim
  |g8=>exact q.elim
  |bl _=>exact q.elim
  |int _=>exact q.elim
  |str _=>exact q.elim
  |tup _=>exact q.elim
  |lst _=>exact q.elim
  |obj _ _=>exact q.elim
  |fn _=>exact q.elim⟩
end
def yd(b:List (D×D))(a:List (gd×D)):List (D×D):=a.foldl (λc p=>Ar c p.1 p.2) b
def PD(K:KA)(G:Hp):List (gd×D)->List (gd×V)->Prop
 |[],[]=>True
 |(j,d)::r,(k,v)::q=>j=k/\Den K G d v/\PD K G r q
 |_,_=>False
theorem PD.merge{K:KA}{G:Hp}:∀{l:List (gd×D)}{q:List (gd×V)}{a:List (D×D)}{es:List (gd×V)},PD K G l q->il K G a es->il K G (yd a l) (Ao es q)
 |[],[],_,_,_,h=>h
 |(j,d)::r,(k,v)::q,a,es,b,h=>by
  obtain⟨e,c,t⟩:=b;subst e;exact PD.merge (l:=r) (q:=q) t (h.put c j)
def ud:entryFor table "dict.update.loop"=some Builtin.«dict.update.loop»:=entryFor_of_tree (by kernel_rfl)
def ji:plainId "dict.update.loop"=true:=by decide+kernel
def Kr(w:iI):Bool:= !(w.params.followText "set-order")
section
variable{prog:gX}{w:iI}{A:iR}{E:fG->fP->Prop}{s:fP}
def IP(x:fG)(h:Q (.ref s.1.1.size) {s with heap:=s.1.push {cls:=.type "set",dict:=none,data:=.set #[] 0 (.fresh 0 0 (Kr w))}}):
  nR (gR prog w) A (.call (.builtin "set.__new__") ⟨[.type "set",x],[]⟩) (wants Q E) s:=by
 refine uJ ?_;refine fB (oE (PySem.F.newCall_set_1 x) (fE ?_));refine⟨kW PySem.F.plain_set_new _,kJ PySem.F.entry_set_new ?_⟩;have a:=sub_set_self
 wp_walk
 refine oB (fE ?_);refine fB (wpAny_alloc (fE (fE ?_)));exact h
end
theorem kq:∀{l:List α}{i:Nat}(h:i<l.length),(l[i]::l.eraseIdx i).Perm l
 |a::r,0,_=>oC _
 |a::r,i+1,h=>by
  have b:i<r.length:=by simpa using h
  exact(pE a _ _).trans ((kq b).cons a)
def Ld(next:Nat->Nat):∀(n k:Nat)(left:List α)(a:Array α),left.length=n->(pickOrder.go next n k left a).toList.Perm (a.toList++left):=by
 intro c;induction c with
 |zero=>
  rintro k left a h
  have:=List.length_eq_zero_iff.mp h;subst this;unfold pickOrder.go;rw[jT]
 |succ n d=>
  rintro k left a h
  unfold pickOrder.go;have b:next k % left.length<left.length:=Nat.mod_lt _ (by lia)
  rw[gF b];refine(d _ _ _ (by rw[List.length_eraseIdx,fM b];lia)).trans ?_;rw[Array.toList_push,oT];refine List.Perm.append_left _ ?_;exact kq b
def Vd(next:Nat->Nat)(xs:Array α):(pickOrder next xs).toList.Perm xs.toList:=by
 have:=Ld next xs.size 0 xs.toList #[] (by simp)
 simpa[pickOrder]using this
noncomputable def rp(w:iI)(a b:Nat)(es:Array (Int×fG)):Array (Int×fG):=if w.params.followText "set-order" then pickOrder (w.params.setOrder a b) es else es
def o4(w:iI)(a b:Nat)(es:Array (Int×fG)):(rp w a b es).toList.Perm es.toList:=by
 unfold rp;split
 ·exact Vd _ _
 ·exact oC _
def qw(h:Heap)(I a:Addr)(slot i n b:Nat):Prop:=h.get? I=some {cls:=.type "set_iterator",data:=.fields #[jR slot,jR i,.ref a,jR n,jR b]}
def ic:Slot "set_iterator" "__next__" "set_iterator.__next__":=
 .of (owner:="set_iterator") (n:="__next__") (by kernel_rfl) (by decide+kernel) (by decide+kernel) (by decide+kernel) (.inl (by decide+kernel)) (by kernel_rfl)
def tu:entryFor table "set_iterator.__next__"=some Builtin.«set_iterator.__next__»:=entryFor_of_tree (by kernel_rfl)
def tq(a:fG):argsOk "set_iterator.__next__" ⟨[a],[]⟩:=by
 kernel_rfl
def zw:Slot "set_iterator" "__iter__" "set_iterator.__iter__":=
 .of (owner:="set_iterator") (n:="__iter__") (by kernel_rfl) (by decide+kernel) (by decide+kernel) (by decide+kernel) (.inl (by decide+kernel)) (by kernel_rfl)
def D7:entryFor table "set.__iter__"=some Builtin.«frozenset.__iter__»:=entryFor_alias (id':="frozenset.__iter__") (by kernel_rfl) rfl (by decide+kernel) (by kernel_rfl)
def D8(a:fG):argsOk "set_iterator.__iter__" ⟨[a],[]⟩:=by
 kernel_rfl
def D9:entryFor table "set_iterator.__iter__"=some Builtin.«dict_keyiterator.__iter__»:=entryFor_alias (id':="dict_keyiterator.__iter__") (by kernel_rfl) (by first|rfl|decide+kernel) (by decide+kernel) (by kernel_rfl)
section
variable{prog:gX}{w:iI}{A:iR}{E:fG->fP->Prop}{s:fP}{a I:Addr}{S:List Nat}{es:Array (Int×fG)}{ep i:Nat}
def qw.ty{slot n:Nat}(h:qw s.1 I a slot i n ep):s.TypeIs (.ref I) "set_iterator":=⟨_,h,rfl⟩
def Lv(e:s.TypeIs (.ref a) "set")(h:Q false s):gK (gR prog w) A (Builtin.List.listLengthHint (.ref a)) Q E s:=by
 refine fB (nN e PySem.F.slot_set_len.lookup ?_);generalize c:("set.__len__")=f
 wp_delta
 subst c;refine fB (lH (b:=true) e sub_set_self ?_);refine sH (λd=>absurd d (by decide)) (λ_=>?_);exact fB (pL e (fE h))
end
end Pu
namespace Pu
open PySem PySem.Spec PyProof.Rows L2 PySem.W
def kn(n:Nat)(b:Nat->Nat->Bool):KasT α->(α->Prop)->Prop
 |.ret a,R=>R a
 |.ask i j k,R=>i<n/\j<n/\kn n b (k (b i j)) R
section
variable{n:Nat}{cmp:Nat->Nat->Bool}
theorem kn.mono{R c:α->Prop}(h:∀a,R a->c a):∀{t:KasT α},kn n cmp t R->kn n cmp t c
 |.ret a,g=>h a g
 |.ask i j k,b=>by obtain⟨g1,g2,d⟩:=b;exact⟨g1,g2,kn.mono h d⟩
theorem kn.bind:∀{t:KasT α},kn n cmp t (λa=>kn n cmp (f a) R)->kn n cmp (t.bind f) R
 |.ret a,g=>g
 |.ask i j k,b=>by obtain⟨g1,g2,c⟩:=b;exact⟨g1,g2,kn.bind c⟩
theorem kn.wp{α:Type}{C:Nat->Nat->(Bool->fP->Prop)->fP->Prop}{R:α->Prop}{Q:α->fP->Prop}{s:fP}(d:∀i j (K:Bool->fP->Prop),i<n->j<n->K (cmp i j) s->C i j K s)(c:∀a,R a->Q a s):
  ∀{t:KasT α},kn n cmp t R->t.kasWp C Q s
 |.ret a,g=>c a g
 |.ask i j k,b=>by obtain⟨g1,g2,e⟩:=b;exact d i j _ g1 g2 (kn.wp d c e)
structure Ord(n:Nat)(cmp:Nat->Nat->Bool):Prop where
 as:∀i j,i<n->j<n->i≠j->cmp j i= !cmp i j
 tr:∀i j k,i<n->j<n->k<n->cmp i j=true->cmp j k=true->cmp i k=true
def At(p:Array Nat)(i:Nat):Nat:=p.getD i 0
def fu(n:Nat)(p:Array Nat):Prop:=p.toList.Perm (hJ n)
def fu.size{p:Array Nat}(h:fu n p):p.size=n:=by
 have:=List.Perm.length_eq h;simpa using this
def Jd{p:Array Nat}(h:i<p.size):At p i=p[i]:=by
 unfold At;simp[sU,h]
def fu.lt{p:Array Nat}(h:fu n p){i:Nat}(a:i<n):At p i<n:=by
 rw[Jd (by rwa [h.size])];exact List.mem_range.mp (h.mem_iff.mp (by simp))
def fu.ne(h:fu n p)(f:i<n)(d:j<n)(e:i≠j):At p i≠At p j:=by
 have b:i<p.size:=by rwa [h.size]
 have a:j<p.size:=by rwa [h.size]
 rw[Jd b,Jd a];intro z;have c:=List.pairwise_iff_getElem.mp ((h.nodup_iff).mpr List.nodup_range);rcases Nat.lt_or_gt_of_ne e with q|q
 ·exact c i j (by simpa using b) (by simpa using a) q (by simpa using z)
 ·exact c j i (by simpa using a) (by simpa using b) q (by simpa using z.symm)
def So(cmp:Nat->Nat->Bool)(p:Array Nat)(m:Nat):Prop:=∀a b,a<b->b<m->cmp (At p a) (At p b)=true
def De(cmp:Nat->Nat->Bool)(p:Array Nat)(m:Nat):Prop:=∀a b,a<b->b<m->cmp (At p b) (At p a)=true
def So.succ(O:Ord n cmp)(c:fu n p)(q:1<=m)(d:m<n)(h:So cmp p m)(j:cmp (At p m) (At p (m - 1))=false):So cmp p (m+1):=by
 intro a b g o
 by_cases f:b<m
 ·exact h a b g f
 ·obtain rfl:b=m:=by lia
  have e:cmp (At p (b - 1)) (At p b)=true:=by
   have:=O.as _ (At p (b - 1)) (c.lt d) (c.lt (by lia)) (c.ne d (by lia) (by lia));rw[this,j];rfl
  by_cases l:a=b - 1
  ·rwa [l]
  ·exact O.tr _ _ _ (c.lt (by lia)) (c.lt (by lia)) (c.lt d) (h a _ (by lia) (by lia)) e
def De.succ(O:Ord n cmp)(c:fu n p)(o:1<=m)(f:m<n)(h:De cmp p m)(g:cmp (At p m) (At p (m - 1))=true):De cmp p (m+1):=by
 intro a b e l
 by_cases d:b<m
 ·exact h a b e d
 ·obtain rfl:b=m:=by lia
  by_cases j:a=b - 1
  ·rwa [j]
  ·exact O.tr _ _ _ (c.lt f) (c.lt (by lia)) (c.lt (by lia)) g (h a _ (by lia) (by lia))
def W0{p:Array Nat}(O:Ord n cmp)(d:fu n p):∀(f m:Nat),1<=m->m+f<=n->So cmp p m->kn n cmp (kas_asc p f m) (λk=>m<=k/\k<=m+f/\So cmp p k/\(k<m+f->cmp (At p k) (At p (k - 1))=true)):=by
 intro b;induction b with
 |zero=>rintro m e j h;exact⟨fQ _,fQ _,h,λz=>by lia⟩
 |succ f c=>
  rintro m e j h
  refine⟨d.lt (show m<n by lia),d.lt (show m - 1<n by lia),?_⟩;show kn n cmp (if cmp (At p m) (At p _)=true then KasT.ret m else kas_asc p f _) _
  by_cases a:cmp (At p m) (At p (m - 1))=true
  ·rw[fM a];exact⟨fQ _,by lia,h,λ_=>a⟩
  ·rw[fJ a];refine(c _ (by lia) (by lia) (h.succ O d e (by lia) (by simpa using a))).mono λk g=>?_;obtain⟨g1,g2,o,l⟩:=g;exact⟨by lia,by lia,o,λz=>l (by lia)⟩
def GV{p:Array Nat}(O:Ord n cmp)(a:fu n p):∀(f m:Nat),2<=m->m+f<=n->De cmp p m->kn n cmp (kas_desc f p m 0) (λr=>r.1=p/\r.2.2=0/\m<=r.2.1/\r.2.1<=m+f/\De cmp p r.2.1):=by
 intro c;induction c with
 |zero=>rintro m u q h;exact⟨rfl,rfl,fQ _,fQ _,h⟩
 |succ f o=>
  rintro m u q h
  have l:At p m<n:=a.lt (by lia);have j:At p (m - 1)<n:=a.lt (by lia);refine⟨l,j,?_⟩;show kn n cmp (if cmp (At p m) (At p _)=true then _
   else .ask (At p _) (At p m) λd=>if d=true then .ret _ else kas_desc f p _ _) _
  by_cases b:cmp (At p m) (At p (m - 1))=true
  ·rw[fM b,fJ (by lia)];refine(o _ (by lia) (by lia) (h.succ O a (by lia) (by lia) b)).mono λr g=>?_;obtain⟨g1,g2,y,x,v⟩:=g;exact⟨g1,g2,by lia,by lia,v⟩
  ·rw[fJ b];have e:cmp (At p (m - 1)) (At p m)=true:=by
    have:=O.as _ _ l j (a.ne (by lia) (by lia) (by lia));rw[this];simpa using b
   refine⟨j,l,?_⟩;dsimp only;rw[fM e];exact⟨rfl,rfl,fQ _,(show m<=m+_ by lia),h⟩
def fu.rev(a:fu n p)(i j:Nat):fu n (kas_rev p i j):=(Array.perm_iff_toList_perm.mp (mirror_perm p i j _)).trans a
def fu.M1(a:fu n p)(i j:Nat):fu n (bubble p i j):=(Array.perm_iff_toList_perm.mp (bubble_perm p i j)).trans a
def Af:At p i=(p[i]?).getD 0:=by
 unfold At;simp[Array.getD_eq_getD_getElem?]
def W3{p:Array Nat}(a:m<=p.size)(b:k<m):At (kas_rev p 0 m) k=At p (m - 1 - k):=by
 rw[Af,Af];unfold kas_rev;rw[getElem?_mirror_all a];rw[fM (by lia)]
 congr 2
 lia
def DR{m:Nat}(O:Ord n cmp)(e:fu n p)(o:1<=m)(u:m<=n)(h:De cmp p m):kn n cmp (kas_tail3 m n p) (λr=>fu n r.2/\1<=r.1/\r.1<=n/\So cmp r.2 r.1):=by
 have d:=e.rev 0 m;have f:So cmp _ m:=λa b l j=>by
  have c:m<=p.size:=by rwa [e.size]
  rw[W3 c (by lia),W3 c j];exact h _ _ (by lia) (by lia)
 refine kn.bind ((W0 O d _ m o (by lia) f).mono λk g=>?_);obtain⟨g1,g2,q,_⟩:=g;exact⟨d,by lia,by lia,q⟩
def Xi{p:Array Nat}(O:Ord n cmp)(c:fu n p)(e:2<=n):kn n cmp (kas_count n p) (λr=>fu n r.2/\1<=r.1/\r.1<=n/\So cmp r.2 r.1):=by
 refine kn.bind ((W0 O c _ 1 (fQ _) (by lia) (λa b o e=>by lia)).mono λm g=>?_);obtain⟨g1,g2,d,q⟩:=g
 by_cases f:(m==n)=true
 ·rw[fM f];exact⟨c,g1,by lia,d⟩
 ·rw[fJ f]
  by_cases u:m>1
  ·rw[fM u];refine⟨c.lt (show 0<n by lia),c.lt (show m - 1<n by lia),?_⟩;have:=d 0 (m - 1) (by lia) (by lia);show kn n cmp (if cmp (At p 0) (At p _)=true then _ else _) _;rw[fM this];exact⟨c,g1,by lia,d⟩
  ·obtain rfl:m=1:=by lia
   refine kn.bind ((GV O c _ 2 (fQ _) (by lia) (λa b o e=>?_)).mono λr g=>?_)
   ·obtain rfl:b=1:=by lia
    obtain rfl:a=0:=by lia
    exact(q (by lia))
   ·obtain⟨l,j,x,v,h⟩:=g;rw[l,j,fJ (by lia)];exact DR O c (by lia) (by lia) h
def AC(O:Ord n cmp)(b:fu n p)(d:k<n)(u:So cmp p k):∀(f l r:Nat),l<=r->r<=k->r - l<=f->(∀a,a<l->cmp (At p a) (At p k)=true)->(∀a,r<=a->a<k->cmp (At p k) (At p a)=true)->
  kn n cmp (kas_place p k f l r) (λm=>m<=k/\(∀a,a<m->cmp (At p a) (At p k)=true)/\(∀a,m<=a->a<k->cmp (At p k) (At p a)=true)):=by
 intro o;induction o with
 |zero=>
  rintro l r y q x j h
  obtain rfl:l=r:=by lia
  exact⟨q,j,h⟩
 |succ f c=>
  rintro l r y q x j h
  unfold kas_place
  by_cases v:l>=r
  ·rw[fM v];obtain rfl:l=r:=by lia
   exact⟨q,j,h⟩
  ·rw[fJ v];refine⟨b.lt d,b.lt (by lia),?_⟩;show kn n cmp (if cmp (At p k) (At p _)=true then kas_place p k f l _ else kas_place p k f _ r) _
   by_cases g:cmp (At p k) (At p ((l+r) / 2))=true
   ·rw[fM g];refine c l _ (by lia) (by lia) (by lia) j λa C A=>?_
    by_cases z:a=(l+r) / 2
    ·rwa [z]
    ·exact O.tr _ _ _ (b.lt d) (b.lt (by lia)) (b.lt (by lia)) g (u _ _ (by lia) A)
   ·rw[fJ g];have e:cmp (At p ((l+r) / 2)) (At p k)=true:=by
     have:=O.as _ (At p ((l+r) / 2)) (b.lt d) (b.lt (by lia)) (b.ne d (by lia) (by lia));rw[this];simpa using g
    refine c _ r (by lia) (by lia) (by lia) (λa B=>?_) h
    by_cases z:a=(l+r) / 2
    ·rwa [z]
    ·exact O.tr _ _ _ (b.lt (by lia)) (b.lt (by lia)) (b.lt d) (u a _ (by lia) (by lia)) e
def W2{p:Array Nat}(c:k<p.size)(d:l<=k)(i:Nat):At (bubble p k (k - l)) i=if i=l then At p k else if l<i/\i<=k then At p (i - 1)else At p i:=by
 rw[Af,getElem?_bubble c _ (by lia),Af,Af,Af];have e:k - (k - l)=l:=by lia
 by_cases a:i=l
 ·subst a;simp[e]
 ·by_cases b:l<i/\i<=k
  ·simp[e,a,b]
  ·simp[e,a,b]
def FM(O:Ord n cmp):∀(f k:Nat)(p:Array Nat),fu n p->1<=k->k+f=n->So cmp p k->kn n cmp (kas_bin f p k) (λq=>fu n q/\So cmp q n):=by
 intro e;induction e with
 |zero=>
  rintro k p d A z c
  obtain rfl:k=n:=by lia
  exact⟨d,c⟩
 |succ f j=>
  rintro k p d A z c
  have y:k<n:=by lia
  refine kn.bind ((AC O d y c k 0 k (iO _) (fQ _) (by lia) (λa h=>by lia) (λa h E=>by lia)).mono λl g=>?_);obtain⟨g1,g2,B⟩:=g;refine j _ _ (d.M1 _ _) (by lia) (by lia) λa b m C=>?_;have o:k<p.size:=by rwa [d.size]
  rw[W2 o g1,W2 o g1]
  by_cases x:a=l
  ·rw[fM x,fJ (by lia),fM (by lia)];exact B _ (by lia) (by lia)
  ·rw[fJ x]
   by_cases v:l<a/\a<=k
   ·rw[fM v,fJ (by lia),fM (by lia)];exact c _ _ (by lia) (by lia)
   ·rw[fJ v]
    by_cases u:b=l
    ·rw[fM u];exact g2 _ (by lia)
    ·rw[fJ u]
     by_cases r:l<b/\b<=k
     ·rw[fM r];exact c _ _ (by lia) (by lia)
     ·rw[fJ r];exact c _ _ m (by lia)
def LM(O:Ord n cmp)(c:2<=n):kn n cmp (kas_sort n) (λq=>fu n q/\So cmp q n):=by
 refine kn.bind ((Xi O (by unfold fu;simp) c).mono λr g=>?_);obtain⟨g1,g2,d,a⟩:=g
 by_cases b:r.1<n
 ·rw[fM b];have:max r.1 1=r.1:=by lia
  rw[this];exact FM O _ _ _ g1 g2 (by lia) a
 ·rw[fJ b];obtain e:r.1=n:=by lia
  rw[e]at a;exact⟨g1,a⟩
end
end Pu
namespace Pu
open PySem PySem.Spec PyProof.Rows L2 PySem.SeqAt PySem.W
def PV(i j:Int):iG (.int i) (.int j)=(i==j):=by rw[iG]
theorem A5:∀(c d:List Int),kC (c.map .int) (d.map .int)=decide (c=d)
 |[],[]=>by simp[kC]
 |[],_::_=>by simp[kC]
 |_::_,[]=>by simp[kC]
 |i::c,j::d=>by
  rw[fL,fL,kC,A5 c d,PV]
  by_cases h:i=j<;>simp[h]
theorem vk:∀(k l:List Int),gi (k.map .int) (l.map .int)=some (decide (k<l))
 |[],[]=>by simp[gi]
 |[],_::_=>by simp[gi]
 |_::_,[]=>by simp[gi]
 |i::k,j::l=>by
  rw[fL,fL,gi,vk k l,PV];show some _=_
  congr 1
  by_cases h:i=j
  ·subst h;simp[kK]
  ·have:(i==j)=false:=by simpa using h
   simp[kK,h]
def iq:∀k:List Int,gE (k.map .int)=true:=by
 intro a;induction a with
 |nil=>exact rfl
 |cons i k b=>
  rw[fL,gE,b];rfl
def uz:∀k:List Int,iC (k.map .int)=0:=by
 intro a;induction a with
 |nil=>exact rfl
 |cons i k b=>
  rw[fL,iC,b];rfl
def xy(x:Str)(c:List Int):List Int:=x.cps.toList.map kU++(-1)::c
theorem B0:∀(a b:List Nat)(c d:List Int),(a.map kU++(-1)::c<b.map kU++(-1)::d)↔(a<b\/(a=b/\c<d))
 |[],[],c,d=>by simp[kK]
 |[],j::b,c,d=>by
  simp only[lA,qB,fL,rN,kK];have g:(-1:Int)<kU j:=Int.lt_of_lt_of_le (by decide) (Int.natCast_nonneg j);have f:([]:List Nat)<j::b:=by simp
  simp only[g,f,true_or]
 |i::a,[],c,d=>by
  simp only[lA,qB,fL,rN,kK];have m:_<=kU i:=Int.natCast_nonneg i;have g:¬kU i<(-1:Int):=λz=>by lia
  have f:kU i≠(-1:Int):=λz=>by lia
  have l:¬(i::a<([]:List Nat)):=by simp
  simp[g,f,l]
 |i::a,j::b,c,d=>by
  simp only[fL,rN,kK,B0 a b c d];have g:(kU i<kU j)↔i<j:=Int.ofNat_lt;have f:(kU i=kU j)↔i=j:=Int.ofNat_inj;rw[g,f];constructor
  ·rintro (h|⟨rfl,h|⟨rfl,h⟩⟩)
   ·exact .inl (.inl h)
   ·exact .inl (.inr ⟨rfl,h⟩)
   ·exact .inr ⟨rfl,h⟩
  ·rintro ((h|⟨rfl,h⟩)|⟨e,h⟩)
   ·exact .inl h
   ·exact .inr ⟨rfl,.inl h⟩
   ·cases e;exact .inr ⟨rfl,.inr ⟨rfl,h⟩⟩
def TF:Nat->List Int->List mT->Prop
 |0,k,xs=>k≠[]/\xs=k.map .int
 |1,k,xs=>∃i c,k=i::c/\xs=[.int i,.tuple (c.map .int)]
 |_,k,xs=>∃x c,k=xy x c/\gH x=true/\xs=[.str x,.tuple (c.map .int)]
def Rw{x y:Str}(e:x.cps.toList=y.cps.toList):x=y:=by
 cases x;cases y;exact congrArg _ (Array.toList_inj.mp e)
def R9(c d:List Int):gi [.tuple (c.map .int)] [.tuple (d.map .int)]=some (decide (c<d)):=by
 have b:EC (.tuple (c.map .int)) (.tuple (d.map .int))=some (decide (c<d)):=vk c d;have a:iG (.tuple (c.map .int)) (.tuple (d.map .int))=decide (c=d):=A5 c d;rw[gi,b,a];show some _=_
 by_cases z:c=d
 ·subst z;simp
 ·simp[z]
def CI(h:TF b k xs)(a:TF b l ys):gi xs ys=some (decide (k<l)):=by
 match b,h,a with
 |0,h,a=>rw[h.2,a.2];exact vk k l
 |1,h,a=>
  obtain⟨i,c,rfl,rfl⟩:=h;obtain⟨j,d,rfl,rfl⟩:=a;rw[gi,R9,PV];show some _=_
  congr 1
  by_cases z:i=j
  ·subst z;simp[kK]
  ·have:(i==j)=false:=by simpa using z
   simp[kK,z]
 |_+2,h,a=>
  obtain⟨x,c,rfl,_,rfl⟩:=h;obtain⟨y,d,rfl,_,rfl⟩:=a;have g:EC (.str x) (.str y)=some (decide (x.cps.toList<y.cps.toList)):=by rw[EC]
  rw[gi,R9,g];have m:iG (.str x) (.str y)=decide (x=y):=by rw[iG];by_cases e:x=y<;>simp[e]
  rw[m]
  congr 1
  have q:decide (xy x c<xy y d)=decide _:=decide_eq_decide.mpr (B0 x.cps.toList y.cps.toList c d);rw[q]
  by_cases z:x=y
  ·subst z;simp[pF]
  ·have f:x.cps.toList≠y.cps.toList:=λe=>z (Rw e);simp[z,f]
def FT(b:Nat)(d:mT):Prop:=if b<2 then∃i,d=.int i else∃x,d=.str x
def B8(h:TF b k xs):gE xs=true/\iC xs<=1/\∃d r,FT b d/\xs=d::r:=by
 match b,h with
 |0,h=>
  obtain⟨a,rfl⟩:=h;refine⟨iq k,by rw[uz];lia,?_⟩;cases k with
  |nil=>exact absurd rfl a
  |cons i c=>exact⟨_,_,⟨i,rfl⟩,rfl⟩
 |1,h=>
  obtain⟨i,c,rfl,rfl⟩:=h;refine⟨?_,?_,_,_,⟨i,rfl⟩,rfl⟩
  ·rw[gE,gE,gE,jC,jC,iq c];rfl
  ·rw[iC,iC,iC,jZ,jZ,uz c];simp
 |_+2,h=>
  obtain⟨x,c,rfl,ok,rfl⟩:=h;refine⟨?_,?_,_,_,by unfold FT;exact⟨x,rfl⟩,rfl⟩
  ·rw[gE,gE,gE,jC,jC,iq c,ok];rfl
  ·rw[iC,iC,iC,jZ,jZ,uz c];simp
section
variable{prog:gX}{w:iI}{A:iR}{E:fG->fP->Prop}{s:fP}
theorem Yv:∀(xs d:List mT)(B u:List fG)(i:Nat)(L bs:List Addr)(c:Bool),ReadsAll s.1 B xs L->ReadsAll s.1 u d bs->gE xs=true->gE d=true->
  A.units+min (iC xs) (iC d)<jS->gi xs d=some c->o=decide (xs.length<d.length)->(i=0->∀x y,xs.head?=some x->d.head?=some y->(∃a b,x=.int a/\y=.int b)\/∃a b,x=.str a/\y=.str b)->Q c s->KatLex prog w A true o Q (B.zip u) i s
 |[],[],B,u,i,L,bs,c,f,e,I,H,p,g,h,J,q=>by
  cases f;cases e;cases g;subst h;exact kat_nil q
 |[],y::d,B,u,i,L,bs,c,f,e,I,H,p,g,h,J,q=>by
  cases f;cases e;cases g;have:o=true:=by rw[h];simp
  subst this;exact kat_nil q
 |x::xs,[],B,u,i,L,bs,c,f,e,I,H,p,g,h,J,q=>by
  cases f;cases e;cases g;have:o=false:=by rw[h];simp
  subst this;exact kat_nil q
 |x::xs,y::d,_,_,i,_,_,c,f,e,I,H,p,g,h,J,q=>by
  have l:x.canLay0=true/\gE xs=true:=by simpa[gE]using I
  have j:y.canLay0=true/\gE d=true:=by simpa[gE]using H
  obtain⟨a,b,N,Y,rfl⟩:=vg g;cases f with
  |@cons v vr _ _ δ γ r U=>
   cases e with
   |@cons v' T _ _ β α C M=>
    refine kat_cons (eqAt_reads x y A s _ _ _ _ r C l.1 j.1 (room_head p) prog w _ _ ?_);cases O:iG x y with
    |true=>
     rw[O,fM rfl]at q;exact kat_yes (Yv xs d _ _ _ _ _ b U M l.2 j.2 (room_tail p) Y (by rw[h];simp) (λz=>by lia) q)
    |false=>
     rw[O,fJ (by simp)]at q;refine kat_no ?_
     by_cases G:i=0
     ·rcases J G x y rfl rfl with ⟨m,n,rfl,rfl⟩|⟨m,n,rfl,rfl⟩
      ·subst G;cases r;cases C;cases N;exact oneLt_int q
      ·subst G;cases r;cases C;cases N;exact oneLt_str q
     ·have:(i==0)=false:=by simpa using G
      rw[this,qR];exact kat_one _ _ (yb x y A s _ _ _ _ a r C l.1 j.1 (room_head p) N prog w _ _ q)
def QP(C:Reads s.1 x (.tuple xs) as)(B:Reads s.1 y (.tuple e) bs)(m:TF b k xs)(g:TF b l e)(hu:A.units+1<jS)(h:Q (decide (k<l)) s):
  gK (gR prog w) A (keyLt' (tuples' true) x y) Q E s:=by
 obtain⟨U,d1,i1,r1,d,O⟩:=B8 m;obtain⟨T,d2,i2,r2,c,N⟩:=B8 g;cases C with
 |@tuple a o z n _ α M h2 L v=>
  cases B with
  |@tuple a' o' f n' _ Y J k2 I p=>
   have H:z.size=xs.length:=by simpa using ReadsAll.length _ _ _ v
   have G:f.size=e.length:=by simpa using ReadsAll.length _ _ _ p
   refine kat_lt M L J I (Yv xs e _ _ 0 _ _ _ v p U T ?_ (CI m g) (by rw[H,G]) (λ_ x y r q=>?_) h)
   ·lia
   ·rw[O]at r;rw[N]at q;cases r;cases q;unfold FT at d c
    by_cases u:b<2
    ·rw[fM u]at d c;obtain⟨i,rfl⟩:=d;obtain⟨j,rfl⟩:=c;exact .inl ⟨_,_,rfl,rfl⟩
    ·rw[fJ u]at d c;obtain⟨i,rfl⟩:=d;obtain⟨j,rfl⟩:=c;exact .inr ⟨_,_,rfl,rfl⟩
def KeysAre(s:fP)(b:Nat):List fG->List (List Int)->Prop
 |[],[]=>True
 |v::a,k::c=>(∃xs d,Reads s.1 v (.tuple xs) d/\TF b k xs)/\KeysAre s b a c
 |_,_=>False
theorem KeysAre.len:∀{c:List fG}{d:List (List Int)},KeysAre s b c d->d.length=c.length
 |[],[],_=>rfl
 |[],_::_,h=>h.elim
 |_::_,[],h=>h.elim
 |v::c,k::d,a=>by obtain⟨_,h⟩:=a;rw[fI,fI,KeysAre.len h]
theorem KeysAre.get:∀{a:List fG}{c:List (List Int)},KeysAre s b a c->∀{i:Nat},i<a.length->∃xs j,Reads s.1 (a.getD i lD) (.tuple xs) j/\TF b (c.getD i []) xs
 |[],_,_,i,h=>by simp at h
 |_::_,[],h,_,_=>h.elim
 |v::a,k::c,e,0,_=>by obtain⟨g,_⟩:=e;exact g
 |v::a,k::c,d,i+1,f=>by
  obtain⟨_,h⟩:=d;have:=KeysAre.get h (by simpa using f);simpa using this
def FV(b:Nat)(v:fG):Prop:=if b<2 then∃n t,v=tP n t else∃x t,v=Value.str x t
theorem KeysAre.v3:∀{e:List fG}{p:List (List Int)},KeysAre s b e p->∃fs,KatTups s.1 e fs/\fs.length=e.length/\∀v∈fs,FV b v
 |[],[],_=>⟨[],.nil,rfl,λv h=>by simp at h⟩
 |[],_::_,h=>h.elim
 |_::_,[],h=>h.elim
 |v::e,k::p,g=>by
  obtain⟨⟨xs,O,r,y⟩,h⟩:=g;obtain⟨fs,J,I,H⟩:=KeysAre.v3 h;obtain⟨_,_,d,q,c,rfl⟩:=B8 y;cases r with
  |@tuple a o m n _ L C B z f=>
   cases j:m.toList with
   |nil=>rw[j]at f;cases f
   |cons u M=>
    rw[j]at f;cases f with
    |cons r N=>
     have G:FV b u:=by
      unfold FT at c;unfold FV
      by_cases x:b<2
      ·rw[fM x]at c⊢;obtain⟨i,rfl⟩:=c;cases r with
       |int _ t=>exact⟨_,_,rfl⟩
      ·rw[fJ x]at c⊢;obtain⟨i,rfl⟩:=c;cases r with
       |str _ t=>exact⟨_,_,rfl⟩
     refine⟨u::fs,KatTups.cons C B z ?_ J,by simp[I],λv l=>?_⟩
     ·have:m.toList[0]?=some u:=by rw[j];rfl
      simpa using this
     ·rcases List.mem_cons.mp l with rfl|l
      ·exact G
      ·exact H v l
def Mx(a:List (List Int))(i j:Nat):Bool:=decide (a.getD i []<a.getD j [])
def AZ{a:List (List Int)}(f:a.Nodup):Ord a.length (Mx a) where
 as:=λi j c b ne=>by
  have e:a.getD i []≠a.getD j []:=by
   rw[show a.getD i []=a[i] by simp[c],show a.getD j []=a[j] by simp[b]];have d:=List.pairwise_iff_getElem.mp f;rcases Nat.lt_or_gt_of_ne ne with q|q
   ·exact d i j c b q
   ·exact(d j i b c q).symm
  unfold Mx
  by_cases z:a.getD i []<a.getD j []
  ·have:¬a.getD j []<a.getD i []:=λy=>pF _ (rS z y);rw[decide_eq_true z,decide_eq_false this];rfl
  ·have:=qC z (kS e);rw[decide_eq_true this,decide_eq_false z];rfl
 tr:=λi j k _ _ _ h g=>by
  exact decide_eq_true (rS (of_decide_eq_true h) (of_decide_eq_true g))
def Gs(prog:gX)(w:iI)(A:iR)(c a:List fG)(R:Array Nat->Prop)(s:fP):Prop:=
 ∀E:fG->fP->Prop,gK (gR prog w) A (keyKind' c.toArray) (λκ d=>d=s/\∀e:fG->fP->Prop,gK (gR prog w) A (sortRuns'.run (SortSt.mk' κ (c.toArray.zip a.toArray) #[] 7 none)) (λr b=>
  b=s/\failedOf r.2=none/\∃p:Array Nat,R p/\p.size=a.length/\(arrOf r.2).map (·.2)=List.toArray (p.toList.map λi=>a.getD i lD)) e s) E s
def TV{f vs:List fG}{d:List (List Int)}(h:f.length=vs.length)(e:KeysAre s b f d)(u:2<=vs.length)(l:vs.length<64)(U:d.Nodup)(Y:A.units+1<jS):
  Gs prog w A f vs (λp=>fu vs.length p/\So (Mx d) p vs.length) s:=by
 intro E;obtain⟨fs,f1,f2,B⟩:=e.v3;have y:∀{T:fG},(T==T)=true->(T !=oH "tuple")=true->_->gK (gR prog w) A _ (λκ c=>c=s/\∀C:fG->fP->Prop,gK (gR prog w) A (sortRuns'.run (SortSt.mk' κ _ #[] 7 none)) (λr a=>
  a=s/\failedOf r.2=none/\∃p:Array Nat,(fu vs.length p/\So _ p vs.length)/\p.size=vs.length/\(arrOf r.2).map _=List.toArray (p.toList.map λi=>vs.getD i lD)) C s) E s:=λ{T} J I H=>by
  refine kat_kind f1 (by lia) H J ?_;rw[I];refine⟨rfl,λC=>?_⟩;have o:=AZ U;rw[e.len,h]at o;refine iP (kat_run (Q:=λst a=>a=s/\failedOf st=none/\∃p:Array Nat,_/\p.size=vs.length/\(arrOf st).map _=List.toArray _)
   (G:=λp c=>c=s/\fu vs.length p/\So (Mx d) p vs.length) h u l (λp st c g1 g2 g3 z=>⟨z.1,g3,p,z.2,g1,kat_snds h g2⟩) ?_) (λ_ _ x=>x) (λ_ _ x=>x)
  refine kn.wp (R:=λp=>fu vs.length p/\So _ p vs.length) (λi j K hi hj q=>?_) (λp r=>⟨rfl,r⟩) (LM o u);obtain⟨xs,as,O,M⟩:=e.get (i:=i) (by lia);obtain⟨ys,bs,N,L⟩:=e.get (i:=j) (by lia);exact QP O N M L Y q
 by_cases m:b<2
 ·refine y (T:=.type "int") (by decide) (by decide) λv g=>?_;have:=B v g;unfold FV at this;rw[fM m]at this;obtain⟨n,t,rfl⟩:=this;exact Looks.of_pure rfl
 ·refine y (T:=.type "str") (by decide) (by decide) λv g=>?_;have:=B v g;unfold FV at this;rw[fJ m]at this;obtain⟨n,t,rfl⟩:=this;exact Looks.of_pure rfl
end
noncomputable def IS(h:Heap)(a:Addr)(b:List fG):Heap:=((h.update a (sS λ_=>(#[]:Array fG))).push (seqObj "tuple" b.toArray 0)).push (seqObj "list" #[] 0)
def Zk{h:Heap}(e:h.get? b=some o)(ne:b≠a):(IS h a c).get? b=some o:=by
 refine fC _ (fC _ ?_);rwa [Heap.get?_update_ne _ _ _ _ ne]
def v9(R:Array Nat->Prop)(a b:List fG):Prop:=(a.length<2/\b=a)\/(2<=a.length/\∃p:Array Nat,R p/\p.size=a.length/\b=p.toList.map λi=>a.getD i lD)
def v9.len{b a:List fG}(h:v9 R b a):a.length=b.length:=by
 obtain ⟨_,rfl⟩|⟨_,p,_,c,rfl⟩:=h
 ·rfl
 ·rw[fF,gN,c]
section
variable{prog:gX}{w:iI}{A:iR}{E:fG->fP->Prop}{s:fP}
def Pc{b:List fG}(m:s.1.get? a=some (seqObj "list" b.toArray n))(G:b.length<=1000)(B:2<=b.length->Gs prog w A b b R {s with heap:=IS s.1 a b})
  (h:∀f:List fG,v9 R b f->P (.done (.ret .none)) {s with heap:=sortedHeap s.1 a b f.toArray}):gK (gR prog w) A (Builtin.«list.sort» ⟨[.ref a],[]⟩) P E s:=by
 have o:b.length<=fR:=by rw[iT];lia
 obtain⟨u,j⟩:∃u,(s.1.update a _).get? a=some (seqObj "list" #[] u):=⟨_,get?_update_seq m λ_=>#[]⟩;have c:(IS s.1 a b).get? a=some _:=fC _ (fC _ j);rw[list_sort_plain];refine fB (listItems_at m rfl (fB (listUpdate_at m rfl ?_ (by simpa using o) (iO _))));refine fB (seqEpoch_at j rfl (fB (qT (fB (wpAny_newList (iX ?_) (iO _))) o)));dsimp only
 by_cases e:b.toArray.size<2
 ·have d:b.length<2:=by simpa using e
  rw[fM e,fM e];refine fB (fE ?_);refine fB (fE ?_);have em:Array.map (λx:Keyed=>x.2) (b.toArray.zip b.toArray)=b.toArray:=by
   apply Array.toList_inj.mp;rw[Array.toList_map,Array.toList_zip];exact List.map_snd_zip (fQ _)
  rw[em];refine fB (seqEpoch_at c rfl (fB (listUpdate_at c rfl ?_ (iO _) (iU (oJ (hW ..)) (by lia)))));simp only[bne_self_eq_false,Bool.false_eq_true,if_false];exact fE (h b (.inl ⟨d,rfl⟩))
 ·have d:2<=b.length:=by simpa using e
  rw[fJ e,fJ e];refine fB (iP (B d _) (λκ v g=>?_) λ_ _ x=>x);obtain⟨rfl,g⟩:=g;refine fB (iP (g _) (λr v g=>?_) λ_ _ x=>x);obtain⟨rfl,z,p,y,q,l⟩:=g;obtain⟨⟨⟩,st⟩:=r;rw[l,z];have C:(p.toList.map λi=>b.getD i lD).length<=fR:=by rwa [fF,gN,q]
  refine fB (seqEpoch_at c rfl (fB (listUpdate_at c rfl ?_ (iO _) (iU (oJ (hW ..)) (by lia)))));simp only[bne_self_eq_false,Bool.false_eq_true,if_false];exact fE (h _ (.inr ⟨d,p,y,q,rfl⟩))
end
def WW:D->Option Int
 |.int i=>some i
 |_=>none
def rg:List D->Option (List Int)
 |[]=>some []
 |d::a=>match WW d,rg a with
  |some i,some r=>some (i::r)
  |_,_=>none
def Kj:D->Option (List Int)
 |.tup a=>match rg a with
  |some (i::r)=>some (i::r)
  |_=>none
 |_=>none
def j9:List D->Option (List (List Int))
 |[]=>some []
 |d::a=>match Kj d,j9 a with
  |some k,some r=>some (k::r)
  |_,_=>none
def Kd:∀{c:List D}{b:List Int},rg c=some b->c=b.map D.int:=by
 intro e;induction e with
 |nil=>rintro b h;cases h;rfl
 |cons d c f=>
  rintro b h
  unfold rg at h;cases a:WW d with
  |none=>rw[a]at h;cases h
  |some i=>
   cases g:rg c with
   |none=>rw[a,g]at h;cases h
   |some r=>
    rw[a,g]at h;cases h;cases d<;>first|(cases a;rw[f g];rfl)|cases a
def HN{k:List Int}(h:Kj d=some k):k≠[]/\d=.tup (k.map D.int):=by
 unfold Kj at h;cases d with
 |tup b=>
  dsimp only at h;cases e:rg b with
  |none=>rw[e]at h;cases h
  |some a=>
   rw[e]at h;cases a with
   |nil=>cases h
   |cons i r=>cases h;exact⟨by simp,by rw[Kd e]⟩
 |_=>cases h
def og(h:j9 (d::c)=some e):∃k r,Kj d=some k/\j9 c=some r/\e=k::r:=by
 unfold j9 at h;cases a:Kj d with
 |none=>rw[a]at h;cases h
 |some k=>
  cases b:j9 c with
  |none=>rw[a,b]at h;cases h
  |some r=>rw[a,b]at h;cases h;exact⟨k,r,rfl,rfl,rfl⟩
def Gj:∀c:List Int,b9 (c.map D.int)=some (c.map kL):=by
 intro a;induction a with
 |nil=>exact rfl
 |cons i r b=>
  rw[fL,b9,b];rfl
section
variable{X:Cx}{pins:List (Addr×Obj)}{σ:St}{G H:Hp}{s:fP}
def Yz(I:Inv X pins σ H s)(j:c7 G H):∀{g:List D}{c:List (List Int)}{a:List V}{b:List fG},j9 g=some c->dg (kx X) G g a->Vals a b->KeysAre s 0 b c:=by
 intro e;induction e with
 |nil=>
  rintro c a b h dl r
  cases h;cases (dl);cases r;trivial
 |cons d g f=>
  rintro c a b h dl r
  obtain⟨k,A,q,p,rfl⟩:=og h;obtain⟨v,z,rfl,u,x⟩:=dl;obtain⟨o,rfl⟩:=HN q;cases r with
  |cons l m=>
   refine⟨?_,f p x m⟩;obtain⟨y,n⟩:=zt I j u l (show bz _=some _ by rw[bz,Gj]);exact⟨_,y,n,o,rfl⟩
end
noncomputable def T5(x:List Int×D):List (List Int×D)->List (List Int×D)
 |[]=>[x]
 |y::r=>if x.1<y.1 then x::y::r else y::T5 x r
def zx(l:List (List Int×D)):List (List Int×D):=l.foldr T5 []
def Fy(x:List Int×D):∀l,(T5 x l).Perm (x::l):=by
 intro a;induction a with
 |nil=>exact .refl _
 |cons y r b=>
  unfold T5;split
  ·exact .refl _
  ·exact((b).cons y).trans (pE x y r)
def k6:∀l,(zx l).Perm l:=by
 intro a;induction a with
 |nil=>exact .refl _
 |cons x r b=>exact(Fy x _).trans ((b).cons x)
def HX:∀{l:List (List Int×D)},l.Pairwise (λa b=>a.1<b.1)->(∀y∈l,y.1≠x.1)->(T5 x l).Pairwise (λa b=>a.1<b.1):=by
 intro e;induction e with
 |nil=>rintro _ _;exact List.pairwise_singleton _ _
 |cons y r f=>
  rintro h g
  unfold T5;obtain⟨j,m⟩:=List.pairwise_cons.mp h;split
  ·rename_i c;refine List.pairwise_cons.mpr ⟨λz d=>?_,h⟩;rcases List.mem_cons.mp d with rfl|d
   ·exact c
   ·exact rS c (j z d)
  ·rename_i c;refine List.pairwise_cons.mpr ⟨λz d=>?_,f m λz d=>g z (.tail _ d)⟩;rcases List.mem_cons.mp ((Fy x r).mem_iff.mp d)with rfl|d
   ·exact(qC c (g y (.head _)))
   ·exact j z d
def zy:∀{l:List (List Int×D)},(l.map (·.1)).Nodup->(zx l).Pairwise (λa b=>a.1<b.1):=by
 intro c;induction c with
 |nil=>rintro _;exact tD
 |cons x r d=>
  rintro h
  obtain⟨j,g⟩:=List.nodup_cons.mp (show(x.1::r.map _).Nodup from h);refine HX (d g) λy f e=>j ?_;rw[<-e];exact List.mem_map_of_mem ((k6 r).mem_iff.mp f)
def nj{d:List (List Int)}{c:List D}{p:Array Nat}(r:d.length=c.length)(v:d.Nodup)(l:fu c.length p)(q:So (Mx d) p c.length):p.toList.map (λi=>c.getD i D.g8)=(zx (d.zip c)).map (·.2):=by
 have e:p.toList.map (λi=>(d.getD i [],c.getD i D.g8))=zx (d.zip c):=by
  have n:(p.toList.map λi=>(d.getD i [],c.getD i D.g8)).Perm (d.zip c):=by
   have:(hJ c.length).map (λi=>(d.getD i [],c.getD i D.g8))=d.zip c:=by
    refine pK (by simp[r]) λi h m=>?_;have:i<c.length:=by simpa using h
    simp[*]
   rw[<-this];exact List.Perm.map _ l
  have o:((d.zip c).map (·.1)).Nodup:=by
   rwa [tT (by omega)]
  refine List.Perm.eq_of_pairwise (λa b _ _ h m=>absurd (rS h m) (pF _)) ?_ (zy o) (n.trans (k6 _).symm);rw[nU,List.pairwise_iff_getElem];intro i j x u g;have f:j<c.length:=by rw[<-l.size];simpa using u
  have:=q i j g f;rw[Jd (by omega),Jd (by omega)]at this;simpa[Mx]using this
 rw[<-e,hV];rfl
end Pu
section
namespace PySem
section
variable{prog:gX}{w:iI}{K:Type}[DecidableEq K]{knd:HeapKind prog w K}{A:iR}{E:fG->fP->Prop}{s:fP}
def tf(u:knd.room A)(c:knd.is s.1 k a)(G:s.1.DictOfH knd d xs)
  (J:∀v,(uH xs k).map (·.2)=some v->Q v {s with toks:=s.toks+knd.draws k})
  (I:uH xs k=none->∀q,q.DictOfH knd d (storedH xs k a dflt)->iJ d s.1 q->Q dflt {s with heap:=q,toks:=s.toks+knd.draws k})
  (B:xs.length<=fR):gK (gR prog w) A (dictSetDefault d (.ref a) dflt) Q E s:=by
 obtain⟨o,M,L,h,H,g,m,l,n⟩:=G;unfold dictSetDefault
 try with_reducible refine iX ?_
 refine fB (knd.pyHash u c ?_);refine fB (wpAny_dictFind_heap u c h g m l n ?_ ?_)
 ·intro b;refine fB (oG (fB (wpAny_updateDictKeys (hz:=by have e:=size_of_entries m;lia) (s:={s with toks:=s.toks+knd.draws k}) h g (fE (I (qU b) _ ⟨_,_,L+1,iV _ h (Obj.isFreed_of_dict (Obj.data_mapDictKeys g _)),
   H.mapDictKeys _,Obj.data_mapDictKeys g _,?_,?_,?_⟩ (iQ ..))))))
  ·rw[storedH_new (qU b)];simp[m,entryOfKey]
  ·rw[storedH_new (qU b)];intro x f;rcases List.mem_append.mp f with f|f
   ·exact knd.keeps (l x f) h g (iQ ..)
   ·simp only[nF]at f;subst f;exact knd.keeps c h g (iQ ..)
  ·rw[storedH_new (qU b)];rw[jK,oU];refine⟨n,by simp,?_⟩;intro x f y r;simp only[fL,lA,nF]at r;subst r;exact λe=>(not_mem_keys_of_get b) (e▸f)
 ·intro j p z;have C:(uH xs k).map (·.2)=some p.2:=by rw[atKey_of_get n z];rfl
  refine fB (mI h g ?_);rw[entry_at m j,z];exact fB (oG (fE (J _ C)))
def vp(knd:HeapKind prog w K)(d a:Addr)(n:(d==lF)=false)(dflt:fG):
  MeetsIn prog w (Builtin.«dict.setdefault» ⟨[.ref d,.ref a,dflt],[]⟩) (λA R s=>knd.room A.in1/\∃k xs,knd.is s.1 k a/\s.1.DictOfH knd d xs/\xs.length<=fR/\
   (∀v,(uH xs k).map (·.2)=some v->R (.ok (.ret v)) {s with toks:=s.toks+knd.draws k})/\
   (uH xs k=none->∀c,c.DictOfH knd d (storedH xs k a dflt)->iJ d s.1 c->R (.ok (.ret dflt)) {s with heap:=c,toks:=s.toks+knd.draws k})):=
 .of_wp<|by
  rintro A R s ⟨l,k,xs,b,g,h,p,o⟩
  refine fB ?_;refine fB (oQ g.typeIs ?_);refine fE ?_;show gK _ _ (if _=true then _ else _) _ _ s;rw[fJ (by rw[n];exact Bool.false_ne_true)];exact fB (tf l b g (λv j=>fE ⟨v,rfl,p v j⟩) (λm c f e=>fE ⟨dflt,rfl,o m c f e⟩) h)
end
end PySem
namespace Pu
open PySem PySem.Spec PyProof.Rows L2
def xi:List D->Option (List gd)
 |[]=>some []
 |d::r=>match bq d,xi r with
  |some k,some a=>some (k::a)
  |_,_=>none
def Yy:∀a:List gd,xi (a.map kD)=some a:=by
 intro b;induction b with
 |nil=>exact rfl
 |cons k a c=>
  show(match bq _,xi _ with
   |some k,some a=>some _
   |_,_=>none)=_
  rw[rh,c]
def Zu:D->Option NK
 |.tup a=>(xi a).map .inr
 |d=>(bq d).map .inl
def Ol:List D->Option aq
 |[]=>some []
 |d::r=>match Zu d,Ol r with
  |some k,some a=>some (k::a)
  |_,_=>none
def bu:D->Option aq
 |.tup a=>Ol a
 |_=>none
def Zv:∀k:NK,Zu (UB k)=some k
 |.inl (.inl _)=>rfl
 |.inl (.inr _)=>rfl
 |.inr a=>by show(xi _).map sW=_;rw[Yy];rfl
def IL:∀a:aq,Ol (a.map UB)=some a:=by
 intro b;induction b with
 |nil=>exact rfl
 |cons k a c=>
  show(match Zu _,Ol _ with
   |some k,some a=>some _
   |_,_=>none)=_
  rw[Zv,c]
def nh(a:aq):bu (kT a)=some a:=IL a
def Hg{K:KA}{G:Hp}:∀{l:List D}{j:List V}{c:List gd},dg K G l j->xi l=some c->j=c.map kV:=by
 intro b;induction b with
 |nil=>rintro _ _ h e;cases e;exact h
 |cons d r f=>
  rintro _ c ⟨v,t,p,o,n⟩ e
  unfold xi at e;cases a:bq d with
  |none=>rw[a]at e;cases e
  |some k=>
   cases g:xi r with
   |none=>rw[a,g]at e;cases e
   |some m=>
    rw[a,g]at e;cases e;rw[p,f n g,m6 (H:=G) (.inl o) a];rfl
def OB{K:KA}{G:Hp}{d:D}{v:V}{k:NK}(h:Den K G d v)(e:Zu d=some k):u0 G k v:=by
 have one:∀{d:D},Den K G d v->(bq d).map sL=some k->u0 G k v:=λ{d} h e=>by
  cases b:bq d with
  |none=>rw[b]at e;cases e
  |some j=>rw[b]at e;cases e;exact m6 (H:=G) (.inl h) b
 cases d with
 |tup c=>
  obtain⟨a,g,rfl,m,f⟩:=h;have e:(xi c).map sW=some k:=e;cases b:xi c with
  |none=>rw[b]at e;cases e
  |some l=>rw[b]at e;cases e;exact⟨a,rfl,by rwa [<-Hg f b]⟩
 |_=>exact one h e
def Jv{K:KA}{G:Hp}:∀{l:List D}{j:List V}{c:aq},dg K G l j->Ol l=some c->wL G c j:=by
 intro b;induction b with
 |nil=>rintro _ _ h e;cases e;exact h
 |cons d r f=>
  rintro _ c ⟨v,t,p,o,n⟩ e
  unfold Ol at e;cases a:Zu d with
  |none=>rw[a]at e;cases e
  |some k=>
   cases g:Ol r with
   |none=>rw[a,g]at e;cases e
   |some m=>
    rw[a,g]at e;cases e;exact⟨v,t,p,OB o a,f n g⟩
noncomputable def jf:List (D×D)->aq->Option D
 |[],_=>none
 |(k,d)::r,j=>if bu k=some j then some d else jf r j
def x8(a:List (D×D))(j:aq):Bool:=a.any λp=>decide (bu p.1=some j)
def Ig(a:List (D×D))(j:aq)(v:D):List (D×D):=if x8 a j=true then a.map (λp=>if bu p.1=some j then(p.1,v)else p)else a++[(kT j,v)]
section
variable{K:KA}{G:Hp}
def iL.length:∀{a:List (D×D)}{es:List (aq×V)},iL K G a es->a.length=es.length:=by
 intro b;induction b with
 |nil=>rintro _ h;rw[h];rfl
 |cons _ _ c=>rintro _ ⟨k,v,r,e,_,_,d⟩;rw[e,fI,fI,c d]
def iL.look:∀{b:List (D×D)}{es:List (aq×V)},iL K G b es->∀j,(∀d,jf b j=some d->∃v,i8 es j=some v/\Den K G d v)/\(jf b j=none->i8 es j=none):=by
 intro a;induction a with
 |nil=>
  rintro es h j
  rw[h];exact⟨λd e=>(by cases e),λ_=>Mc⟩
 |cons a r c=>
  obtain⟨k,d⟩:=a
  rintro es h j
  obtain⟨f,v,t,rfl,rfl,p,q⟩:=h;obtain⟨o,n⟩:=c q j;unfold jf;rw[nh f]
  by_cases e:f=j
  ·subst e;rw[fM rfl];exact⟨λg z=>⟨v,o3 rfl,by cases z;exact p⟩,λz=>by cases z⟩
  ·rw[fJ (λz=>e (gV z))];refine⟨λg z=>?_,λz=>?_⟩
   ·obtain⟨u,m,l⟩:=o g z;exact⟨u,(j7 e).trans m,l⟩
   ·exact(j7 e).trans (n z)
def iL.has:∀{b:List (D×D)}{es:List (aq×V)},iL K G b es->∀j,x8 b j=es.any λg=>decide (g.1=j):=by
 intro a;induction a with
 |nil=>rintro es h j;rw[h];rfl
 |cons a r c=>
  obtain⟨k,n⟩:=a
  rintro es h j
  obtain⟨d,u,t,rfl,rfl,m,l⟩:=h;have f:=c l j;unfold x8 at f⊢;rw[mB,mB,f]
  congr 1
  rw[nh d]
  by_cases e:d=j
  ·simp[e]
  ·rw[decide_eq_false e,decide_eq_false λz=>e (gV z)]
def iL.vB(m:Den K G d v):∀{b:List (D×D)}{es:List (aq×V)},iL K G b es->∀j,iL K G (b.map λp=>if bu p.1=some j then(p.1,d)else p) (es.map λf=>if f.1=j then(f.1,v)else f):=by
 intro a;induction a with
 |nil=>rintro es h j;rw[h];rfl
 |cons a r g=>
  obtain⟨k,q⟩:=a
  rintro es h j
  obtain⟨c,u,t,rfl,rfl,n,o⟩:=h;have l:=g o j;rw[fL,fL];rw[nh c]
  by_cases e:c=j
  ·rw[fM e,fM (by rw[e])];exact⟨c,v,_,rfl,rfl,m,l⟩
  ·rw[fJ e,fJ λz=>e (gV z)];exact⟨c,u,_,rfl,rfl,n,l⟩
def iL.snoc(f:Den K G d v):∀{b:List (D×D)}{es:List (aq×V)},iL K G b es->∀j,iL K G (b++[(kT j,d)]) (es++[(j,v)]):=by
 intro a;induction a with
 |nil=>rintro es h j;rw[h];exact⟨j,v,[],rfl,rfl,f,rfl⟩
 |cons a r c=>
  obtain⟨k,m⟩:=a
  rintro es h j
  obtain⟨e,u,t,rfl,rfl,g,l⟩:=h;exact⟨e,u,_,rfl,rfl,g,c l j⟩
def iL.put(b:Den K G d v)(h:iL K G a es)(j:aq):iL K G (Ig a j d) (jm es j v):=by
 unfold Ig jm;rw[h.has j]
 by_cases e:(es.any λc=>decide (c.1=j))=true
 ·rw[fM e,fM e];exact h.vB b j
 ·rw[fJ e,fJ e];exact h.snoc b j
end
section
variable{X:Cx}{G0 B:Hp}{E:EK}{e a b:Expr}{es:List Expr}{g h k:En->Res}{pos p:Pos}
def ou(i:Nat):En->Out:=λU=>.nx (U.set i (.od true []))
def eu.yG{K:KA}{G H:Hp}{σ:St}{U:En}{i:Nat}{a:Addr}(R:eu K B G H σ U)(c:H a=none):eu K B G (upd H a (.dT [])) (σ.set i (some (.ref a))) (U.set i (.od true [])):=R.wH (Ext.own R.gh _ c) c (cu R.gh c) ⟨a,[],rfl,ai,rfl⟩
def LW(f:PS X (.Assign [.Name x c] (.Dict [] [] p) pos) (L6 DT (pb i))):qr X G0 B E (.Assign [.Name x c] (.Dict [] [] p) pos) (ou i):=
 PS.imp f (by rintro D σ H ⟨G,U,R,e,q⟩;exact λa d=>q _ G _ (c7.refl G) (R.yG d) (e.trans (Ext.own R.gh _ d)))
def eu.wX{K:KA}{G H:Hp}{σ:St}{U:En}{i:Nat}{c:List (D×D)}(R:eu K B G H σ U)(h:U[i]?=some (.od true c)):OA B G H .dT (iL K G c) σ[i]?:=by
 obtain⟨o,d,a,f,m,l,j⟩:=R.sl i _ h;subst m;obtain⟨g,b⟩:=R.own i _ a h rfl d;exact⟨a,f,d,l,j,g,b⟩
def eu.yB{K:KA}{G H:Hp}{σ:St}{U:En}{i:Nat}{f c:List (D×D)}{a:Addr}{es d:List (aq×V)}(R:eu K B G H σ U)(l:U[i]?=some (.od true f))(j:σ[i]?=some (some (V.ref a)))(m:H a=some (.dT es))(dl:iL K G c d):
  eu K B G (upd H a (.dT d)) σ (U.set i (.od true c)):=R.zA l rfl j ⟨a,d,rfl,ai,dl⟩
def Fn{j:List (Addr×Obj)}{σ:St}{H:Hp}{s:fP}{a b:Addr}{f:List (aq×V)}{k:aq}{v:V}{r:fG}{A:iR}{E:fG->fP->Prop}{Q:fG->fP->Prop}(M:A.units+5<jS)(I:Inv X j σ H s)(e:H a=some (.dT f))(C:lz H k b)(hl:f.length<fR)(J:RelV v r)
  (U:∀m w n,i8 f k=some m->RelV m w->Inv X j σ H n->Q w n)(T:∀n,i8 f k=none->Inv X j σ (upd H a (.dT (jm f k v))) n->Q r n):
  gK (gR X.prog X.w) A (call (.builtin "dict.setdefault") [.ref a,.ref b,r]) Q E s:=by
 obtain⟨z,y,xs,rel,G⟩:=P8 I.fg e;have d:=rel.val k;refine qP kZ G.typeIs rV (rM _ _ _) (vp _ a b y r)
  ⟨e8 M,k,xs,sr I.fg C,G,(by rwa [<-mW rel]),λw L=>?_,λO h' u N=>?_⟩
 ·rw[L]at d;cases l:i8 f k with
  |none=>rw[l]at d;cases d
  |some m=>rw[l]at d;exact U m w _ l d (I.tok _)
 ·rw[O]at d;have l:i8 f k=none:=by
   cases l:i8 f k with
   |none=>rfl
   |some m=>rw[l]at d;cases d
  refine T _ l ?_;have o:(jm f k v).length<=fR:=by have:=l6 f k v;lia
  obtain⟨q,es,ep,x,g2,g3,g4,_,Y⟩:=u;refine yz I (by rw[e];exact lN) N ⟨q,x⟩ ⟨o,y,_,(rel.put k C J).keeps λc ys ec=>?_,q,es,ep,x,g2,g3,g4,Y⟩;rwa [ag (Zp ec e (λz=>nomatch z))]
def j3(i:Nat)(n m:En->Res):En->m3:=λU=>match U[i]? with
 | some (.od true f) => (match n U with
  | .ok o => (match m U with
   | .ok l => (match bu o with
    | some j => if f.length < fR then (match jf f j with
     |some d=>.ok d U
     |none=>.ok l (U.set i (.od true (Ig f j l))))else .st
    |none=>.st)
   |.er c=>.er c
   |.st=>.st)
  |.er c=>.er c
  |.st=>.st)
 |_=>.st
def Arg.keys{K:KA}{G H:Hp}{d:D}{v:V}{c:aq}(s:c7 G H)(h:Arg K G H d v)(e:bu d=some c):∃b,v=.ref b/\lz H c b:=by
 cases d with
 |tup n=>
  obtain⟨b,f,m,l,j⟩:=h.yC s;exact⟨b,m,f,l,(Jv j e).mono λ_ _ q=>s _ _ q⟩
 |_=>cases e
noncomputable def Au(i:Nat)(f d:En->Res):En->Out:=λU=>match U[i]? with
 |some (.od true c)=>(d U).then λv=>(f U).then λk=>match bu k with
  |some j=>if c.length<fR then .nx (U.set i (.od true (Ig c j v)))else .st
  |none=>.st
 |_=>.st
def LY{i:Nat}{x:Str}{p d:Pos}{f u:Expr}(hu:X.A.units+5<jS)(hv:PE X (.Name x p) (tw i))(hk:jc X B E f g)(m:fh X B E u h)
  (hs:mG u (some (.Subscript (.Name x p) f d)) pos.line X.env=pure false:=by rfl):qr X G0 B E (.Assign [.Subscript (.Name x p) f d] u pos) (Au i g h):=
 PS.imp (Rj hu hv hk m hs)<|by
  rintro D σ H ⟨G,U,R,C,q⟩
  unfold Au at q;cases n:U[i]? with
  |none=>rw[n]at q;exact q.elim
  |some Q=>
   rw[n]at q;cases Q with
   |od t z=>
    cases t with
    |false=>exact q.elim
    |true=>
     obtain⟨l,es,M,L,J,Y,T⟩:=R.wX n;refine⟨G,U,R,(qf C q).mono λdv _ q v G1 H1 r dn=>⟨.ref l,M,G1,U,R.ext r,(qf (C.trans r) (ki.same r.gg q)).mono λdk _ q y G2 H2 o ay=>?_⟩⟩;have c:=r.trans o;cases I:bu dk with
     |none=>rw[I]at q;exact q.elim
     |some j=>
      rw[I]at q;dsimp only at q
      by_cases N:z.length<fR
      ·rw[fM N]at q;have O:=c.hh _ _ L;obtain⟨b,rfl,hb⟩:=Arg.keys o.gh ay I;refine⟨l,_,rfl,vu.t O hb (by rwa [<-J.length]),?_⟩;exact q σ G2 _ o.gg (eu.yB (R.ext c) n M O ((J.mono c.gg).put (dn.mono o.gg) j)) (Ext.wr (C.trans c) (c.fr _ _ L Y rfl) T)
      ·rw[fJ N]at q;exact q.elim
   |no=>exact q.elim
   |pu _=>exact q.elim
   |bo _=>exact q.elim
   |ow _=>exact q.elim
def Vk{K:KA}{G:Hp}{c:List (D×D)}{es:List (aq×V)}(dl:iL K G c es){j:aq}(h:i8 es j=none):jf c j=none:=by
 cases e:jf c j with
 |none=>rfl
 |some d=>
  obtain⟨v,q,_⟩:=(dl.look j).1 d e;rw[h]at q;cases q
def Nc{i:Nat}{x:Str}{ke ve:Expr}{ap cp:Pos}(hu:X.A.units+5<jS)(hv:PE X (.Name x p) (tw i))(hk:jc X B E ke g)(ζ:fh X B E ve h)(hn:gc ke=true)(η:gc ve=true)(O:(ap.endLine==cp.line)=true):
  Wo X G0 B E (.Call (.Attribute (.Name x p) "setdefault" ap) [ke,ve] [] cp) (j3 i g h):=by
 intro n s σ H Q I ⟨G,U,R,ex,q⟩;unfold j3 at q;cases ed:U[i]? with
 |none=>rw[ed]at q;exact q.elim
 |some sl=>
  rw[ed]at q;cases sl with
  |od t m=>
   cases t with
   |false=>exact q.elim
   |true=>
    obtain⟨l,es,q1,q2,q3,q4,q5⟩:=R.wX ed;have φ:((lJ cp (gQ [ke,ve] X.env)).all (λx=> !x.1) && (qO cp (nS [] X.env)).all (λx=>x.1.isSome)
     && decide (([ke,ve]).length+([]:List mS).length+(if([]:List mS).isEmpty then 0 else 1)<30))=true:=by
     rw[me (by rw[iF,iF,hn,η];rfl)];rfl
    refine tB rfl φ O lI kZ oM (gp (hv n s σ H (λv N=>v=.ref l/\N=H) I ⟨_,q1,rfl,rfl⟩) λu s1 ⟨v,N,I1,r1,e1,M⟩=>?_);subst e1 M;cases r1;obtain⟨t1,t2,_⟩:=Nu I1 (.inr ⟨es,.inl q2⟩);refine⟨t1,t2,?_⟩;rw[Ed hn η];have qk:ey (E) G N (g U) λr=>ey E G N (h U) λC=>∃j,bu r=some j/\m.length<fR/\xc (kx X) G0 B E G σ (match jf m j with
     |some d=>.ok d U
     |none=>.ok C (U.set i (.od true (Ig m j C)))) λd L J _=>∀v,Den (kx X) L d v->Q v J:=by
     cases eg:g U with
     |er c=>rw[eg]at q;exact λL J e=>q L J (ex.trans e)
     |st=>rw[eg]at q;exact q
     |ok r=>
      rw[eg]at q;dsimp only at q;show ey E G N (h U) _;cases eh:h U with
      |er c=>rw[eh]at q;exact λL J e=>q L J (ex.trans e)
      |st=>rw[eh]at q;exact q
      |ok C=>
       rw[eh]at q;cases ej:bu r with
       |none=>rw[ej]at q;exact q.elim
       |some j=>
        rw[ej]at q;dsimp only at q
        by_cases O:m.length<fR
        ·rw[fM O]at q;exact⟨j,rfl,O,q⟩
        ·rw[fJ O]at q;exact q.elim
    refine lP rfl (pB (lG (gp (hk n s1 σ N (λy H2=>∃Y r,Ext G N Y H2/\Arg _ Y H2 r y/\ey E G N _ λC=>∃j,bu r=some j/\m.length<fR/\xc _ G0 B E G σ _ λd L J _=>∀v,Den _ L d v->Q v J) I1 ⟨G,U,R,qk.mono λr _ qk y Y H2 M ay=>⟨Y,r,M,ay,qk⟩⟩) λyv s2 ⟨y,H2,I2,ry,Y,r,M,ay,qv⟩=>?_)));refine lG (gp (ζ n s2 σ H2 (λz H3=>∃T C j,Ext Y H2 T H3/\Den _ T C z/\bu r=some j/\m.length<fR/\xc _ G0 B E G σ _ λd L J _=>∀v,Den _ L d v->Q v J) I2 ⟨Y,U,R.ext M,(qv.ext M).mono λC _ ⟨j,ej,O,q⟩ z T H3 e3 dz=>⟨T,C,j,e3,dz,ej,O,q⟩⟩) λzv s3 ⟨z,H3,I3,rz,T,C,j,e3,dz,ej,hsz,q⟩=>oS ?_);have f:=M.trans e3;have h3:=f.hh _ _ q2;have o:=q3.mono f.gg;have R3:=R.ext f;obtain⟨b,rfl,hb⟩:=Arg.keys M.gh ay ej;cases (ry);refine Fn hu I3 h3 (hb.mono λ_ _ q=>e3.hh _ _ q) (by rwa [<-o.length]) rz (λv' w s' ev ρ I'=>?_) λs' ev I'=>?_
    ·cases el:jf m j with
     |none=>rw[(o.look j).2 el]at ev;cases ev
     |some d=>
      rw[el]at q;obtain⟨v2,z1,z2⟩:=(o.look j).1 d el;rw[z1]at ev;cases ev;exact⟨v',H3,I',ρ,q T H3 f.gg R3 (ex.trans f) v' z2⟩
    ·rw[(Vk o ev)]at q;exact⟨z,_,I',rz,q T _ f.gg (eu.yB R3 ed q1 h3 (o.put dz j)) (Ext.wr (ex.trans f) (f.fr _ _ q2 q4 rfl) q5) z dz⟩
  |no=>exact q.elim
  |pu _=>exact q.elim
  |bo _=>exact q.elim
  |ow _=>exact q.elim
end
noncomputable def DJ:Expr->Bool
 |.Call (.Name x _) _ _ _=>decide (x≠"len") && decide (x≠"int") && decide (x≠"str")
 |.Tuple _ _ _=>true
 |_=>false
noncomputable def Pn:Nat->Expr->List Str
 |0,_=>[]
 |n+1,e=>match e with
  |.Call (.Attribute (.Name x _) m _) (k::r) _ _=>(if(m="setdefault"||m="get") && DJ k then[x]else[])++(r.flatMap (Pn n))
  |.Call (.Attribute o _ _) _ _ _=>Pn n o
  |.Compare l _ a _=>Pn n l++a.flatMap (Pn n)
  |.BoolOp _ b _=>b.flatMap (Pn n)
  |.UnaryOp _ e _=>Pn n e
  |.BinOp l _ r _=>Pn n l++Pn n r
  |_=>[]
def Po:Nat->List Stmt->List Str
 |0,_=>[]
 |n+1,a=>a.flatMap λs=>match s with
  |.For _ it b o _=>Pn n it++Po n b++Po n o
  |.While c b o _=>Pn n c++Po n b++Po n o
  |.If c b o _=>Pn n c++Po n b++Po n o
  |.Assign [.Subscript (.Name x _) k _] v _=>(if DJ k then[x]else[])++Pn n v
  |.Assign _ v _=>Pn n v
  |.Expr e _=>Pn n e
  |.Return (some e) _=>Pn n e
  |_=>[]
end Pu
end
namespace Pu
open PySem PySem.Spec PyProof.Rows L2
noncomputable def ao:D->D->Option D
 |.lst xs,.int i=>uV xs i
 |.tup xs,.int i=>uV xs i
 | .str z, .int i => if z.length <= fR then (match uV z.cps.toList i with
  |some c=>some (.str ⟨#[c]⟩)
  |none=>none)else none
 |.hZ false a,k=>(bq k).bind (d8 a)
 |.hZ true a,k=>(bu k).bind (jf a)
 |_,_=>none
inductive xH(x:V)(y:V)(H:Hp)(Q:VK):Prop
 |mk (a v) (_:x=.ref a) (_:p5 H a y (some v)) (_:Q v H):xH x y H Q
section
variable{X:Cx}{B:Hp}{E:EK}{a b:Expr}{g h:En->Res}{pos:Pos}
def HQ(n:X.A.units+5<jS):wC X xH:=by
 intro value c e s σ H x y v u Q I m j q o;obtain⟨l,w,rfl,f,q⟩:=q;cases m;exact tail_any (Jw I f) PySem.F.slot_dict_getitem.lookup (Ta n I f j λr z p d=>⟨w,H,p,d,q⟩) o
def Arg.xQ{K:KA}{G H:Hp}{c:List (D×D)}{v:V}(s:c7 G H)(h:Arg K G H (.hZ true c) v):∃a es,v=.ref a/\Rd H a (.dT es)/\iL K G c es:=by
 obtain ⟨a,e,d⟩|⟨_,_,_,z,_⟩|⟨j,f,a,z,e,d⟩:=h
 ·obtain ⟨z,_⟩|⟨_,o,es,q,r⟩:=d
  ·cases z
  ·exact⟨a,es,e,.inr ⟨o,s _ _ q⟩,r⟩
 ·cases z
 ·cases z;obtain ⟨z,_⟩|⟨_,es,q,r⟩:=d
  ·cases z
  ·exact⟨a,es,e,.inl q,r⟩
def JC{K:KA}:gx K ao (λx y H Q=>dG K x y H Q\/xH x y H Q):=λG H x y M C d f p o e Q q=>by
 unfold ao at e;split at e
 ·obtain⟨l,r,rfl,u,dl⟩:=p.lst f;obtain⟨v,m,n⟩:=dl.uV e;exact .inl (.inl ⟨l,r,_,v,rfl,o.int,u,m,q _ G H (Ext.refl f) n⟩)
 ·obtain⟨l,r,rfl,u,dl⟩:=p.tup f;obtain⟨v,m,n⟩:=dl.uV e;exact .inl (.inr (.inl ⟨l,r,_,v,rfl,o.int,u,m,q _ G H (Ext.refl f) n⟩))
 ·split at e
  ·rename_i I;split at e
   ·rename_i c L;cases e;exact .inl (.inr (.inr ⟨_,_,c,p.str,o.int,I,L,q _ G H (Ext.refl f) rfl⟩))
   ·cases e
  ·cases e
 ·cases ek:bq C with
  |none=>rw[ek]at e;cases e
  |some j=>
   rw[ek]at e;obtain⟨l,A,rfl,z,dl⟩:=Arg.vM f p;obtain⟨v,m,n⟩:=(dl.look j).1 d e;rw[m6 o ek];refine .inr ⟨l,v,rfl,?_,q _ G H (Ext.refl f) n⟩;rw[<-m];exact p5.k z
 ·cases ek:bu C with
  |none=>rw[ek]at e;cases e
  |some j=>
   rw[ek]at e;obtain⟨l,A,rfl,z,dl⟩:=Arg.xQ f p;obtain⟨v,m,n⟩:=(dl.look j).1 d e;obtain⟨b,rfl,J⟩:=Arg.keys f o ek;refine .inr ⟨l,v,rfl,?_,q _ G H (Ext.refl f) n⟩;rw[<-m];exact .inr ⟨A,j,b,z,rfl,J,rfl⟩
 ·cases e
def XN(c:X.A.units+5<jS)(f:jc X B E a g)(e:jc X B E b h)(d:Gr b:=by intro _ _;rfl):fh X B E (.Subscript a b pos) (g2 ao g h):=PE.imp (XZ (QU.or (HQ c)) f e d) λσ H Q q=>aV JC q
end
end Pu
namespace L2
open PySem PySem.Spec PyProof.Rows
def Inv.drew{X:Cx}{a:List (Addr×Obj)}{σ:St}{H:Hp}{s:fP}(I:Inv X a σ H s)(c:Drawn):Inv X a σ H {s with drawn:=c}:=by
 have:=I.step (g':=s.gens) (d':=c) (t':=s.toks) (ch:=[]) (λ_ z=>nomatch z) (λb o _ _ _ e _=>e) (λb o _ _ _ e _=>⟨o.slots,e⟩) (λb o _ _ n=>n) (λb o _ e=>⟨o,e⟩) (λ_ _ z=>z) (λ_ _ _ z=>z) (λ_ _ z=>z) (λ_ z=>z) I.fg I.bare;exact this
end L2
namespace Pu
open PySem PySem.Spec PyProof.Rows L2 PySem.SeqAt PySem.W
def FA{K:KA}{G:Hp}{a:List D}{b:List V}(dl:dg K G a b):∀{e:List Nat},(∀i∈e,i<a.length)->dg K G (e.map λi=>a.getD i D.g8) (e.map λi=>b.getD i V.g8):=by
 intro c;induction c with
 |nil=>rintro _;exact rfl
 |cons i r g=>
  rintro h
  refine⟨_,_,rfl,?_,g λj m=>h j (.tail _ m)⟩;have f:∀{a:List D}{b:List V}(i:Nat),dg K G a b->i<a.length->Den K G (a.getD i D.g8) (b.getD i V.g8):=by
   intro a;induction a with
   |nil=>intro b i _ h;simp at h
   |cons d a l=>
    intro b i dl h;obtain⟨v,p,rfl,n,o⟩:=dl;cases i with
    |zero=>exact n
    |succ i=>simpa using l i o (by simpa using h)
  exact f i dl (h i (.head _))
def MT{a:List V}{b:List fG}(r:Vals a b):∀{d:List Nat},(∀i∈d,i<a.length)->Vals (d.map λi=>a.getD i V.g8) (d.map λi=>b.getD i lD):=by
 intro c;induction c with
 |nil=>rintro _;exact .nil
 |cons i q f=>
  rintro h
  refine .cons ?_ (f λj l=>h j (.tail _ l));have e:∀{a:List V}{b:List fG}(i:Nat),Vals a b->i<a.length->RelV (a.getD i V.g8) (b.getD i lD):=by
   intro a b i r;induction r generalizing i with
   |nil=>intro h;simp at h
   |cons m t g=>
    intro h;cases i with
    |zero=>exact m
    |succ i=>simpa using g i (by simpa using h)
  exact e i r (h i (.head _))
noncomputable def Nz:D->Option (List Int)
 |.tup [.str x,.tup a]=>if gH x then(rg a).map (xy x)else none
 |_=>none
def kc:List D->Option (List (List Int))
 |[]=>some []
 |d::a=>match Nz d,kc a with
  |some k,some r=>some (k::r)
  |_,_=>none
def HM(h:Nz d=some k):∃x c,gH x=true/\k=xy x c/\d=.tup [.str x,.tup (c.map D.int)]:=by
 unfold Nz at h;split at h
 ·rename_i x a;split at h
  ·rename_i ok;cases e:rg a with
   |none=>rw[e]at h;cases h
   |some c=>rw[e]at h;cases h;exact⟨x,c,ok,rfl,by rw[Kd e]⟩
  ·cases h
 ·cases h
def oh(h:kc (d::c)=some e):∃k r,Nz d=some k/\kc c=some r/\e=k::r:=by
 unfold kc at h;cases a:Nz d with
 |none=>rw[a]at h;cases h
 |some k=>
  cases b:kc c with
  |none=>rw[a,b]at h;cases h
  |some r=>rw[a,b]at h;cases h;exact⟨k,r,rfl,rfl,rfl⟩
def jl(b:List D):Option (Nat×List (List Int)):=match j9 b with
 |some a=>some (0,a)
 |none=>(kc b).map λa=>(2,a)
def Ug:∀{e:List D}{a:List (List Int)},j9 e=some a->a.length=e.length:=by
 intro b;induction b with
 |nil=>rintro a h;cases h;rfl
 |cons d e c=>
  rintro a h
  obtain⟨k,r,_,f,rfl⟩:=og h;rw[fI,fI,c f]
def Uh:∀{e:List D}{a:List (List Int)},kc e=some a->a.length=e.length:=by
 intro b;induction b with
 |nil=>rintro a h;cases h;rfl
 |cons d e c=>
  rintro a h
  obtain⟨k,r,_,f,rfl⟩:=oh h;rw[fI,fI,c f]
def x9{a:List D}{c:List (List Int)}(h:jl a=some (b,c)):c.length=a.length:=by
 unfold jl at h;split at h
 ·rename_i e;cases h;exact Ug e
 ·cases e:kc a with
  |none=>rw[e]at h;cases h
  |some k=>rw[e]at h;cases h;exact Uh e
noncomputable def gj(a:List D):Option (List D):=if a.length<2 then some a else if a.length<64 then(match jl a with
  |some (_,b)=>if b.Nodup then some ((zx (b.zip a)).map (·.2))else none
  |none=>none)else none
noncomputable def md:D->Option D
 |.lst b=>(gj b).map .lst
 |.hZ true a=>(gj (a.map (·.1))).map .lst
 |_=>none
def Ea{a d:List D}(h:gj a=some d):a.length<64/\((a.length<2/\d=a)\/(2<=a.length/\∃b e,jl a=some (b,e)/\e.Nodup/\d=(zx (e.zip a)).map (·.2))):=by
 unfold gj at h
 by_cases g:a.length<2
 ·rw[fM g]at h;cases h;exact⟨by lia,.inl ⟨g,rfl⟩⟩
 ·rw[fJ g]at h
  by_cases c:a.length<64
  ·rw[fM c]at h;cases j:jl a with
   |none=>rw[j]at h;cases h
   |some p=>
    obtain⟨b,e⟩:=p;rw[j]at h;dsimp only at h
    by_cases f:e.Nodup
    ·rw[fM f]at h;cases h;exact⟨c,.inr ⟨by lia,b,e,rfl,f,rfl⟩⟩
    ·rw[fJ f]at h;cases h
  ·rw[fJ c]at h;cases h
section
variable{X:Cx}{pins:List (Addr×Obj)}{σ:St}{G H:Hp}{s:fP}
def Uk(I:Inv X pins σ H s)(m:c7 G H):∀{l:List D}{f:List (List Int)}{a:List V}{b:List fG},kc l=some f->dg (kx X) G l a->Vals a b->KeysAre s 2 b f:=by
 intro g;induction g with
 |nil=>
  rintro f a b h dl r
  cases h;cases (dl);cases r;trivial
 |cons d l j=>
  rintro f a b h dl r
  obtain⟨k,C,u,q,rfl⟩:=oh h;obtain⟨v,B,rfl,y,z⟩:=dl;obtain⟨x,c,ok,rfl,rfl⟩:=HM u;cases r with
  |cons n o=>
   refine⟨?_,j q z o⟩;have e:bz (.tup [.str x,.tup (c.map D.int)])=some (.tuple [.str x,.tuple (c.map kL)]):=by
    rw[bz,b9,b9,b9,bz,bz,Gj]
   obtain⟨A,p⟩:=zt I m y n e;exact⟨_,A,p,x,c,rfl,ok,rfl⟩
def N4(I:Inv X pins σ H s)(a:c7 G H)(h:jl c=some (b,g))(dl:dg (kx X) G c d)(r:Vals d f):KeysAre s b f g:=by
 unfold jl at h;split at h
 ·rename_i e;cases h;exact Yz I a e dl r
 ·cases e:kc c with
  |none=>rw[e]at h;cases h
  |some k=>rw[e]at h;cases h;exact Uk I a e dl r
end
section
variable{X:Cx}{B:Hp}{E:EK}{e:Expr}{g:En->Res}{pos p:Pos}
def Bd{f:List (Addr×Obj)}{σ:St}{G H:Hp}{s:fP}{a:Addr}{h:List D}{Q:VK}(hu:X.A.units+5<jS)(I:Inv X f σ H s)(sg:c7 G H)
  (δ:∀(Q':List fG->fP->Prop)(E':fG->fP->Prop),(∀d' h' u c C n,(∀b o,s.1.get? b=some o->h'.get? b=some o)->Vals C c->dg (kx X) G n C->gj n=some h->Q' c {s with heap:=h',toks:=u,drawn:=d'})->gK (gR X.prog X.w) X.A.in1 (collect (.ref a)) Q' E' s)
  (q:∀p d,H p=none->dg (kx X) G h d->Q (.ref p) (upd H p (.lst d))):gK (gR X.prog X.w) X.A (call (.builtin "sorted") [.ref a]) (EP X f σ Q) X.xe s:=by
 refine Calls.call_function_entry kind_sorted plain_sorted entry_sorted (args_sorted1 _) ?_;refine fB (fE (fB (δ _ _ λd0 j u c C n k1 J dl e=>?_)));obtain⟨ψ,hh⟩:=Ea e;have n1:=J.length.symm;have O:=dl.length.symm;have zl:c.length<=fR:=by rw[iT];lia
 refine fB (wpAny_newList ?_ zl);have I1:Inv X f σ H {s with heap:=j,toks:=u,drawn:=d0}:=(I.drew d0).kept k1;have m:(j.push _).get? j.objs.size=some (seqObj "list" c.toArray 0):=fO _ rfl;have M:∀b o,j.get? b=some o->(j.push (seqObj "list" c.toArray 0)).get? b=some o/\b≠j.objs.size:=λb o e=>⟨fC _ e,hU (fS e)⟩;have hR:2<=c.length->Gs X.prog X.w X.A.in1.in1 c c (λp=>fu c.length p/\∃b l,jl n=some (b,l)/\l.Nodup/\So (Mx l) p c.length/\h=(zx (l.zip n)).map _) {s with heap:=IS _ j.objs.size c,toks:=u,drawn:=d0}:=λh2=>by
  obtain ⟨z,_⟩|⟨_,b,l,N,L,Y⟩:=hh
  ·lia
  ·intro E';refine iP (TV (A:=X.A.in1.in1) (vs:=c) rfl (N4 (I1.kept λb o e=>Zk (M b o e).1 (M b o e).2) sg N dl J) h2 (by lia) L (by show X.A.units+1+1+1<jS;lia) E') (λκ s' g=>⟨g.1,λE2=>iP (g.2 E2) (λr s2 g2=>?_) λ_ _ x=>x⟩) λ_ _ x=>x;obtain⟨g1,g2,p,⟨g3,g4⟩,g5,g6⟩:=g2;exact⟨g1,g2,p,⟨g3,b,l,N,L,g4,Y⟩,g5,g6⟩
 refine fB (iX (iH slot_list_sort ⟨_,m,rfl⟩ entry_list_sort (Pc m (by lia) hR λv ho=>⟨_,rfl,fE ⟨_,rfl,?_⟩⟩) (args_list_sort _)));obtain⟨ep,α⟩:=sortedHeap_at m;have T:∃d,dg (kx X) G h d/\Vals d v:=by
  obtain ⟨z,rfl⟩|⟨z,p,⟨hp,b,l,N,L,hs,Y⟩,φ,rfl⟩:=ho
  ·obtain ⟨_,rfl⟩|⟨z2,_⟩:=hh
   ·exact⟨C,dl,J⟩
   ·lia
  ·have y:fu n.length p:=by rwa [<-O,<-n1]
   have lt:∀i∈p.toList,i<n.length:=λi U=>List.mem_range.mp (y.mem_iff.mp U);rw[Y,<-nj (x9 N) L y (by rwa [<-O,<-n1])];exact⟨_,FA dl lt,MT J λi U=>by rw[O];exact lt i U⟩
 obtain⟨d,d',v'⟩:=T;refine⟨.ref j.objs.size,_,I1.laid (o:=.lst d) (t':=u) (λb o e=>?_) (fQ _) ⟨(by rwa [v'.length,ho.len]),v,ep,v',α⟩,rfl,q _ d (I1.fg.fresh (fQ _)) d'⟩;rw[sortedHeap_old (M b o e).2 (by rw[iN];exact mJ (fS e))];exact(M b o e).1
def Ec(z:X.A.units+5<jS)(I:Inv X d σ H s)(x:c7 G H)(y:Vals u f)(dl:dg (kx X) G v u)(e:gj v=some m)
  (n:∀(j:List fG->fP->Prop)(r:fG->fP->Prop),(∀h l,(∀b o,s.1.get? b=some o->h.get? b=some o)->j f {s with heap:=h,toks:=l})->gK (gR X.prog X.w) X.A.in1 (collect (.ref a)) j r s)
  (q:∀p c,H p=none->dg (kx X) G m c->Q (.ref p) (upd H p (.lst c))):gK (gR X.prog X.w) X.A (call (.builtin "sorted") [.ref a]) (EP X d σ Q) X.xe s:=
 Bd z I x (λj r C=>n j r λh l k=>C s.drawn h l f u v k y dl e) q
def qx(h:Heap)(d:Addr)(es:Array tU)(a:Nat):Prop:=∃o,h.get? d=some o/\o.ExactDict/\o.data=.dict es a
section
variable{prog:gX}{w:iI}{A:iR}{E:fG->fP->Prop}{s:fP}{d:Addr}{es:Array tU}{ep:Nat}
def qx.ty(h:qx s.1 d es ep):s.TypeIs (.ref d) "dict":=let ⟨o,b,a,_⟩:=h;⟨o,b,a.1⟩
def Lp(h:(d==lF)=false)(f:qx s.1 d es ep)
  (j:Q (.ref s.1.1.size) {s with heap:=s.1.push {cls:=.type "dict_keyiterator",data:=.fields #[.ref d,.int 0 0,.int es.size 0,.int ep 0]}}):
  gK (gR prog w) A (uL (.ref d)) Q E s:=by
 have b:=f.ty;obtain⟨o,c,l,a⟩:=id f;refine nV b F.slot_dict_iter (iH F.slot_dict_iter b F.entry_dict_iter ?_ (F.args_dict_iter_1 _));refine fB ?_;refine fB (oQ b ?_);refine fE ?_;show gK _ _ (rG d>>=_) _ _ s;unfold rG;rw[fJ (by rw[h];exact Bool.false_ne_true)];refine fB (fE ?_);refine fB (mI c a ?_);refine fB (oN c a ?_);refine fB (jJ (fE ⟨_,rfl,"dict_keyiterator",_,⟨_,fO _ rfl,rfl⟩,F.slot_dict_keyiterator_next.lookup,?_⟩));simpa[jR]using j
def Lo(a:s.1.IsKeyIter it d i es.size ep)(q:qx s.1 d es ep)(f:i<es.size)
  (v:∀m,m.IsKeyIter it d (i+1) es.size ep->iJ it s.1 m->Q (some es[i].key) {s with heap:=m}):gK (gR prog w) A (pQ (.ref it)) Q E s:=by
 obtain⟨o,l,u,j⟩:=id a;obtain⟨od,c,r,h⟩:=id q;refine fB (kX (iM a.typeIs mN
  (iH mN a.typeIs rW ?_ (rO _))))
 refine fB (fE ?_);refine fB ?_;refine fB ?_
 first|refine fB (mE a.typeIs (fE ?_))|refine fB _
 refine fB (nG l j ?_);have n:lB "dict_keyiterator"=false:=by decide
 show gK _ _ _ _ _ s;refine fB (fE ?_);refine fB (mI c h ?_);rw[fJ (by simp)];refine fB (fE ?_);refine fB (oN c h ?_);rw[fJ (by simp)];refine fE ?_;simp only[by omega,if_false,iZ,gS f];refine fB ?_
 first|refine fB (mE a.typeIs (fE ?_))|refine fB _
 refine fB (wpAny_isOneOf_keyiter a.typeIs ?_);show gK _ _ (setField _ 1 _>>=_) _ _ s;refine fB (kY l j (by simp) ?_);have b:(s.1.update it (tK (·.setIfInBounds 1 (jR (i+1))))).IsKeyIter it d (i+1) es.size ep:=
  ⟨_,iV _ l (Obj.isFreed_of_fields (qD j _)),(Obj.cls_mapFields ..).trans u,by rw[qD j];simp[jR]⟩
 refine fB (iX ?_);refine fB (wpAny_isOneOf_keyiter b.typeIs ?_);exact fE (fE ⟨_,rfl,fE (v _ b (iQ ..))⟩)
def Rn(q:A.handled=none)(a:s.1.IsKeyIter it d es.size es.size ep)(n:qx s.1 d es ep)
  (u:∀l,pG it s.1 l->Q none {s with heap:=l}):gK (gR prog w) A (pQ (.ref it)) Q E s:=by
 obtain⟨o,h,v,j⟩:=id a;obtain⟨od,b,r,c⟩:=id n;refine fB (kX (iM a.typeIs mN
  (iH mN a.typeIs rW ?_ (rO _))))
 refine fB (fE ?_);refine fB ?_;refine fB ?_
 first|refine fB (mE a.typeIs (fE ?_))|refine fB _
 refine fB (nG h j ?_);have f:lB "dict_keyiterator"=false:=by decide
 show gK _ _ _ _ _ s;refine fB (fE ?_);refine fB (mI b c ?_);rw[fJ (by simp)];refine fB (fE ?_);refine fB (oN b c ?_);rw[fJ (by simp)];refine fE ?_;simp only[by omega,if_false,iZ,Array.getElem?_eq_none (fQ es.size)];refine fB ?_
 first|refine fB (mE a.typeIs (fE ?_))|refine fB _
 show gK _ _ (setField _ 0 .none>>=_) _ _ s;refine fB (kY h j (by simp) ?_);refine fB ?_;refine fB (m:=lR _ _) (oE (by first|rfl|(simp only[lR];rfl)) ?_);refine jJ ?_ (by size_fits);refine fB (rT ?_);rw[q];refine fB (fE (tG ?_));refine fB (lH ⟨_,fO _ rfl,rfl⟩ qV ?_);exact fE (u _ (((iQ ..).extBut.push _).push _))
def Wc(y:A.handled=none)(I:Addr)(l:d≠I):Walks prog w A I [I,d] [I] es.size (λi v=>∃e,es[i]?=some e/\v=e.key) (λi h=>h.IsKeyIter I d i es.size ep/\qx h d es ep) where
 sub:=λb a=>by simp at a;simp[a]
 frame:=λ_ _ _ st u=>⟨st.1.at λo e=>u I (by simp) o e,let ⟨o,q,n⟩:=st.2;⟨o,u d (by simp) o q,n⟩⟩
 item:=λi s Q E x st j=>Lo st.1 st.2 x λr f c=>j _ r s.toks ⟨_,gS x,rfl⟩ ⟨f,let ⟨o,q,n⟩:=st.2;⟨o,c.extBut d o l q,n⟩⟩ λb o a e=>c.extBut b o (λh=>a (by simp[h])) e
 done:=λs Q E st j=>Rn y st.1 st.2 λr m=>j r s.toks λb o a e=>m b o (λh=>a (by simp[h])) e
 self:=λ_ _ _ _ st j=>wpAny_pyIter_keyiter st.1 j
def LL(lo:(d==lF)=false):PySem.W.KdlSrc prog w "dict" d d es.size (λi v=>∃e,es[i]?=some e/\v=e.key) (λh=>qx h d es ep) where
 type:=λ_ a=>a.ty
 there:=λ_ a=>let ⟨_,b,_⟩:=a;⟨fS b,fS b⟩
 keep:=λ_ _ a j=>let ⟨o,b,f⟩:=a;⟨o,j d (.inl rfl) o b,f⟩
 notList:=by decide
 notTuple:=by decide
 hint:=λ_ _ _ _ a c=>PySem.W.kdl_hint_dict a.ty c
 iter:=λ_ _ l a=>⟨_,_,(λ_ _ c=>Lp lo a c),Wc l _ (let ⟨_,b,_⟩:=a;hU (fS b)),⟨⟨_,fO _ rfl,rfl,rfl⟩,let ⟨o,b,f⟩:=a;⟨o,fC _ b,f⟩⟩⟩
end
def gT(G H:Hp):Hp:=λb=>match H b with
 |some (.tup a)=>some (.tup a)
 |_=>G b
def Am(h:H b=some (.tup a)):gT G H b=some (.tup a):=by unfold gT;rw[h]
def Hs(h:∀a,H b≠some (.tup a)):gT G H b=G b:=by
 unfold gT;split
 ·rename_i a e;exact absurd e (h a)
 ·rfl
def qi(d:c7 G H):Ext G H (gT G H) H:=by
 refine⟨λb u q=>?_,c7.refl H,λb u q=>?_,λb u q g z=>?_⟩
 ·have:=d b u q
  by_cases c:∃a,u=.tup a
  ·obtain⟨a,rfl⟩:=c;exact Am this
  ·rw[Hs λa e=>c ⟨a,by rw[this]at e;cases e;rfl⟩];exact q
 ·by_cases c:∃a,H b=some (.tup a)
  ·obtain⟨a,e⟩:=c;rw[Am e]at q;rwa [e]
  ·rw[Hs λa e=>c ⟨a,e⟩]at q;exact d b u q
 ·rw[Hs λa e=>by rw[q]at e;cases e;cases z];exact g
def Xo{K:KA}{G:Hp}(k:gd):Den K G (kD k) (kV k):=by cases k<;>exact rfl
def GZ{K:KA}{G:Hp}:∀c:List gd,dg K G (c.map kD) (c.map kV):=by
 intro a;induction a with
 |nil=>exact rfl
 |cons k r b=>exact⟨_,_,rfl,Xo k,b⟩
def Xp{K:KA}{G H:Hp}{k:NK}{v:V}(h:u0 H k v):Den K (gT G H) (UB k) v:=by
 cases k with
 |inl k=>rw[h];exact Xo k
 |inr a=>obtain⟨b,rfl,q⟩:=h;exact⟨b,_,rfl,Am q,GZ a⟩
def Xn{K:KA}{G H:Hp}:∀{d:aq}{c:List V},wL H d c->dg K (gT G H) (d.map UB) c:=by
 intro a;induction a with
 |nil=>rintro _ h;exact h
 |cons _ _ b=>rintro _ ⟨v,t,e,j,f⟩;exact⟨v,t,e,Xp j,b f⟩
def Hi{K:KA}{G H:Hp}{k:aq}{b:Addr}(h:lz H k b):Den K (gT G H) (kT k) (.ref b):=by
 obtain⟨a,d,c⟩:=h;exact⟨b,a,rfl,Am d,Xn c⟩
theorem Hh{K:KA}{G H:Hp}:∀{es:List (aq×V)}{xs:List (aq×Addr×fG)},KT H es xs->dg K (gT G H) (es.map λp=>kT p.1) (xs.map λq=>V.ref q.2.1)/\Vals (xs.map λq=>V.ref q.2.1) (xs.map λq=>kN q.2.1)
 |_,_,.nil=>⟨rfl,.nil⟩
 |_,_,.cons h t=>⟨⟨_,_,rfl,Hi h.2.1,(Hh t).1⟩,.cons rfl (Hh (K:=K) (G:=G) t).2⟩
def Ai{K:KA}{G:Hp}:∀{a:List (D×D)}{es:List (aq×V)},iL K G a es->a.map (·.1)=es.map λp=>kT p.1:=by
 intro b;induction b with
 |nil=>rintro _ h;rw[h];rfl
 |cons _ _ c=>rintro _ ⟨k,v,r,j,f,_,d⟩;rw[j,fL,fL,c d,f]
def TZ(X:Cx):List V->Hp->VK->Prop:=λxs H Q=>(∃a d G h c,xs=[.ref a]/\i' X.K H a d/\c7 G H/\dg (kx X) G h d/\gj h=some c/\∀p b,H p=none->dg (kx X) G c b->Q (.ref p) (upd H p (.lst b)))\/
 ∃a f G c,xs=[.ref a]/\Rd H a (.dT f)/\c7 G H/\gj (f.map λp=>kT p.1)=some c/\∀p b,H p=none->dg (kx X) (gT G H) c b->Q (.ref p) (upd H p (.lst b))
def Mu(J:X.A.units+5<jS)(hc:X.calm=true):jo X (.builtin "sorted") (TZ X):=by
 intro y s σ H xs us Q I r q;obtain ⟨a,vs,G,ds,x,rfl,Y,j,dl,e,q⟩|⟨a,es,G,x,rfl,ha,j,e,q⟩:=q
 ·obtain⟨u,rfl,l⟩:=j8 r;cases l;obtain⟨m,h,pl,_⟩:=I.list Y;have ζ:=(Ea e).1;have n1:=h.length.symm;have n2:=dl.length.symm;have T:m.length<=fR:=by lia
  refine Ec J I j h dl e (λQ' E' n=>collect_list pl.isList (n _ _ λb o e=>?_) T) q;rw[Heap.get?_update_ne _ _ _ _ (hU (fS e))];exact fC _ e
 ·obtain⟨u,rfl,l⟩:=j8 r;cases l;obtain⟨z,hd,xs,rel,o,O,ep,h1,h2,h3,M,_⟩:=(Rd.ok ha I.fg);obtain⟨dl,h⟩:=Hh rel;have C:O.size=xs.length:=by have:=congrArg lT M;simpa using this
  refine Ec J I (qi j).gh h dl e (λQ' E' n=>?_) q;refine sJ (LL hd) (I.ok.hd hc) ⟨o,h1,h2,h3⟩ (by rwa [C,<-mW rel]) λh' U c hk d=>?_;have ew:c.toList=xs.map λq=>kN q.2.1:=by
   refine mK λi=>?_
   by_cases L:i<c.size
   ·have v:c.toList[i]?=some c[i]:=by rw[gZ];exact gS L
    obtain⟨e,e1,e2⟩:=d.2 i c[i] (gS L);have f:O.toList[i]?=some e:=by rwa [gZ]
    rw[M,gO]at f;rw[v,gO,e2];cases N:xs[i]? with
    |none=>rw[N]at f;cases f
    |some q=>rw[N]at f;cases f;rfl
   ·rw[jD (by rw[gN];lia),jD (by rw[fF,<-C,<-d.1];lia)]
  rw[ew];exact n h' U hk
def Vi(y:X.A.units+5<jS)(I:X.calm=true)(C:Gl X "sorted")(z:X.mg "sorted"=none)(J:jc X B E e g)(m:gQ [e] X.env=(false,eval e X.env)::gQ [] X.env):fh X B E (.Call (.Name "sorted" p) [e] [] pos) (g1 md g):=
 PE.imp (l8 (Mu y I) C z PyProof.Rows.boot_sorted (d9 J ig m) (by decide) (by decide) m rfl) λσ H Q q=>OH (λG H x N d b o a Q q=>by
  unfold md at a;split at a
  ·rename_i n;cases e:gj n with
   |none=>rw[e]at a;cases a
   |some c=>
    rw[e]at a;cases a;obtain⟨l,r,rfl,u,dl⟩:=o.lst b;exact .inl ⟨l,r,G,n,c,rfl,u,b,dl,e,λp h f j=>q _ _ _ (Ext.new b _ f) (uy b f j)⟩
  ·rename_i v;cases e:gj _ with
   |none=>rw[e]at a;cases a
   |some c=>
    rw[e]at a;cases a;obtain⟨l,M,rfl,L,dl⟩:=Arg.xQ b o;rw[Ai dl]at e;exact .inr ⟨l,M,G,c,rfl,L,b,e,λp h f j=>q _ _ _ ((qi b).trans (Ext.new (qi b).gh _ f)) (uy (qi b).gh f j)⟩
  ·cases a) q
end
end Pu
namespace Pu
open PySem PySem.Spec PyProof.Rows L2
def Dm(b:Kj d=some k)(a:j9 c=some r):j9 (d::c)=some (k::r):=by
 unfold j9;rw[b,a]
def Do(b:Nz d=some k)(a:kc c=some r):kc (d::c)=some (k::r):=by
 unfold kc;rw[b,a]
def Dn{q b:List D}(p:q.Perm b):∀{a:List (List Int)},j9 q=some a->∃c,j9 b=some c/\(c.zip b).Perm (a.zip q):=by
 induction p with
 |nil=>intro a h;exact⟨a,h,oC _⟩
 |cons x p z=>
  intro a h;obtain⟨k,r,o,n,rfl⟩:=og h;obtain⟨d,f,e⟩:=z n;exact⟨k::d,Dm o f,e.cons _⟩
 |swap x y l=>
  intro a h;obtain⟨k,r,o,n,rfl⟩:=og h;obtain⟨g,d,B,A,rfl⟩:=og n;exact⟨g::k::d,Dm B (Dm o A),pE _ _ _⟩
 |trans E C m j=>
  intro a h;obtain⟨G,f,e⟩:=m h;obtain⟨g,v,u⟩:=j f;exact⟨g,v,u.trans e⟩
def N2{q b:List D}(p:q.Perm b):∀{a:List (List Int)},kc q=some a->∃c,kc b=some c/\(c.zip b).Perm (a.zip q):=by
 induction p with
 |nil=>intro a h;exact⟨a,h,oC _⟩
 |cons x p z=>
  intro a h;obtain⟨k,r,o,n,rfl⟩:=oh h;obtain⟨d,f,e⟩:=z n;exact⟨k::d,Do o f,e.cons _⟩
 |swap x y l=>
  intro a h;obtain⟨k,r,o,n,rfl⟩:=oh h;obtain⟨g,d,B,A,rfl⟩:=oh n;exact⟨g::k::d,Do B (Do o A),pE _ _ _⟩
 |trans E C m j=>
  intro a h;obtain⟨G,f,e⟩:=m h;obtain⟨g,v,u⟩:=j f;exact⟨g,v,u.trans e⟩
def Pb{l d:List (List Int×D)}(p:d.Perm l)(c:(l.map (·.1)).Nodup):zx d=zx l:=by
 exact List.Perm.eq_of_pairwise (λa b _ _ f e=>absurd (rS f e) (pF _)) (zy ((p.map _).nodup_iff.mpr c)) (zy c) ((k6 _).trans (p.trans (k6 _).symm))
def Kl{f a:List D}(p:f.Perm a){m:List (List Int)}(h:jl f=some (b,m)):∃o d,jl a=some (o,d)/\(d.zip a).Perm (m.zip f):=by
 unfold jl at h⊢;cases e:j9 f with
 |some k=>
  rw[e]at h;cases h;obtain⟨g,c,j⟩:=Dn p e;exact⟨0,g,by rw[c],j⟩
 |none=>
  rw[e]at h;cases n:j9 a with
  |some g=>
   obtain⟨q,c,_⟩:=Dn p.symm n;rw[e]at c;cases c
  |none=>
   cases l:kc f with
   |none=>rw[l]at h;cases h
   |some k=>
    rw[l]at h;cases h;obtain⟨g,c,j⟩:=N2 p l;exact⟨2,g,by rw[c];rfl,j⟩
def Eb{e a c:List D}(p:e.Perm a)(h:gj e=some c):gj a=some c:=by
 have y:=p.length_eq;obtain⟨v,u⟩:=Ea h;obtain ⟨n,rfl⟩|⟨n,b,r,m,z,rfl⟩:=u
 ·have:a=c:=by
   match c,a,n,p with
   |[],l,_,p=>exact List.Perm.nil_eq p|>.symm
   |[x],l,_,p=>exact(List.singleton_perm.mp p).symm▸rfl
  rwa [this]
 ·obtain⟨B,d,g,f⟩:=Kl p m;have A:=x9 m;have q:=x9 g;have j:((r.zip e).map (·.1)).Nodup:=by rwa [tT (by lia)]
  have o:d.Nodup:=by
   have:=(f.map (·.1)).nodup_iff.mpr j;rw[tT (by lia)]at this;exact this
  unfold gj;rw[fJ (by lia),fM (by lia),g];dsimp only;rw[fM o,Pb f j]
end Pu
namespace ST
open PySem PySem.SetTable
def Wg(mask:Nat)(p:Probe):Probe:=if p.more>0 then{p with j:=p.j+1,more:=p.more - 1}else
 {p with j:=(leap mask p.i p.perturb).1,more:=runEnd mask (leap mask p.i p.perturb).1 - (leap mask p.i p.perturb).1,i:=(leap mask p.i p.perturb).1,perturb:=(leap mask p.i p.perturb).2}
def it(mask:Nat):Nat->Probe->Probe
 |0,p=>p
 |n+1,p=>it mask n (Wg mask p)
def Nx{mask:Nat}:∀(m n:Nat)(p:Probe),it mask (m+n) p=it mask n (it mask m p):=by
 intro a;induction a with
 |zero=>rintro n p;rw[lS];rfl
 |succ m b=>
  rintro n p
  rw[show m+1+n=(m+n)+1 by lia];exact b n _
def vF(mask:Nat)(h:Int):Probe:={j:=bits h % (mask+1),more:=runEnd mask (bits h % (mask+1)) - bits h % (mask+1),i:=bits h % (mask+1),perturb:=bits h,dummy:=none}
structure Val(mask:Nat)(p:Probe):Prop where
 more:p.more<=9
 i:p.i<=mask
 pt:p.perturb<2 ^ 64
 v5:p.dummy=none
 j:p.j+p.more<=mask
def As{mask i:Nat}(h:i<=mask):i<=runEnd mask i/\runEnd mask i<=mask/\runEnd mask i - i<=9:=by
 unfold runEnd;split<;>lia
def FL(h:Int):bits h<2 ^ 64:=by
 unfold bits
 lia
def Cb(mask:Nat)(h:Int):Val mask (vF mask h):=by
 have e:bits h % (mask+1)<=mask:=Nat.le_of_lt_succ (Nat.mod_lt _ (Nat.succ_pos _));obtain⟨c,b,a⟩:=As e;exact⟨a,e,FL h,rfl,by show bits h % _+(runEnd mask _ - bits h % _)<=mask;lia⟩
def Dp(mask:Nat)(p:Probe):Nat:=(p.i * 5+1+p.perturb / 32) % (mask+1)
def Kq(mask:Nat)(p:Probe):Probe:={p with j:=Dp mask p,more:=runEnd mask (Dp mask p) - Dp mask p,i:=Dp mask p,perturb:=p.perturb / 32}
def Ab{mask:Nat}{p:Probe}(v:Val mask p):Val mask (Kq mask p):=by
 have e:Dp mask p<=mask:=Nat.le_of_lt_succ (Nat.mod_lt _ (Nat.succ_pos _));obtain⟨c,b,a⟩:=As e;exact⟨a,e,sT (Nat.div_le_self _ _) v.pt,v.v5,by show Dp mask p+(runEnd mask _ - Dp mask p)<=mask;lia⟩
def MU{mask:Nat}{p:Probe}(v:Val mask p):Val mask (Wg mask p):=by
 unfold Wg;split
 ·exact⟨by have:=v.more;show p.more - 1<=9;lia,v.i,v.pt,v.v5,by have:=v.j;show p.j+1+(p.more - 1)<=mask;lia⟩
 ·exact Ab v
def EV{mask:Nat}:∀(n:Nat){p:Probe},Val mask p->Val mask (it mask n p):=by
 intro a;induction a with
 |zero=>rintro _ v;exact v
 |succ n b=>rintro _ v;exact b (MU v)
def Qp{mask:Nat}:∀(k:Nat)(p:Probe),p.more=k->it mask (k+1) p=Kq mask p:=by
 intro a;induction a with
 |zero=>
  rintro p h
  show Wg mask p=_;unfold Wg;rw[fJ (by lia)];rfl
 |succ k b=>
  rintro p h
  show it mask (k+1) _=_;have e:Wg mask p={p with j:=p.j+1,more:=p.more - 1}:=by unfold Wg;rw[fM (by lia)]
  rw[b _ (by rw[e];show p.more - 1=k;lia),e];rfl
def I0(mask:Nat):Nat->Probe->Probe
 |0,p=>p
 |n+1,p=>I0 mask n (Kq mask p)
def PB{mask:Nat}:∀(k:Nat){p:Probe},Val mask p->∃m,m<=10 * k/\it mask m p=I0 mask k p:=by
 intro a;induction a with
 |zero=>rintro p v;exact⟨0,by lia,rfl⟩
 |succ k b=>
  rintro p v
  obtain⟨m,d,c⟩:=b (Ab v);have:=v.more;exact⟨p.more+1+m,by lia,by rw[Nx,Qp _ p rfl,c];rfl⟩
def Qz{mask:Nat}:∀(m n:Nat)(p:Probe),I0 mask (m+n) p=I0 mask n (I0 mask m p):=by
 intro a;induction a with
 |zero=>rintro n p;rw[lS];rfl
 |succ m b=>
  rintro n p
  rw[show m+1+n=(m+n)+1 by lia];exact b n _
def Sb{mask:Nat}:∀(n:Nat){p:Probe},Val mask p->Val mask (I0 mask n p):=by
 intro a;induction a with
 |zero=>rintro _ v;exact v
 |succ n b=>rintro _ v;exact b (Ab v)
def Za{mask:Nat}:∀(k:Nat)(p:Probe),(I0 mask k p).perturb=p.perturb / 32 ^ k:=by
 intro a;induction a with
 |zero=>rintro p;rw[Nat.pow_zero,Nat.div_one];rfl
 |succ k b=>
  rintro p
  show(I0 mask k _).perturb=_;rw[b,Nat.pow_succ,Nat.mul_comm,<-Nat.div_div_eq_div_mul];rfl
def lc(mask:Nat):Nat->Nat->Nat
 |0,i=>i
 |n+1,i=>lc mask n ((i * 5+1) % (mask+1))
def Oa{mask:Nat}:∀(m n i:Nat),lc mask (m+n) i=lc mask n (lc mask m i):=by
 intro a;induction a with
 |zero=>rintro n p;rw[lS];rfl
 |succ m b=>
  rintro n p
  rw[show m+1+n=(m+n)+1 by lia];exact b n _
theorem Od{mask:Nat}:∀(k:Nat){p:Probe},p.perturb=0->p.j=p.i->(I0 mask k p).i=lc mask k p.i/\(I0 mask k p).j=lc mask k p.i
 |0,p,h,e=>⟨rfl,e⟩
 |k+1,p,h,e=>by
  have:=Od (mask:=mask) k (p:=Kq mask p) (by show p.perturb / 32=0;rw[h]) rfl;have a:(Kq mask p).i=(p.i * 5+1) % (mask+1):=by show _ % _=_;rw[h]
  rw[a]at this;exact this
def Z9(mask:Nat):Nat->Nat->List Nat
 |0,_=>[]
 |n+1,i=>i::Z9 mask n ((i * 5+1) % (mask+1))
def Q5{mask j:Nat}:∀{n i:Nat},j∈Z9 mask n i->∃k,k<n/\lc mask k i=j:=by
 intro a;induction a with
 |zero=>rintro i h;cases h
 |succ n b=>
  rintro i h
  rcases List.mem_cons.mp h with h|h
  ·exact⟨0,by lia,h.symm⟩
  ·obtain⟨k,d,c⟩:=b h;exact⟨k+1,by lia,c⟩
def Mk(mask:Nat):Prop:=mask=7\/mask=31\/mask=127
def JY{mask:Nat}(a:Mk mask):(∀j,j<=mask->j∈Z9 mask (mask+1) 0)/\lc mask (mask+1) 0=0:=by
 have g:∀m,((hJ (m+1)).all λj=>(Z9 m _ 0).contains j)=true->∀j,j<=m->j∈Z9 m (m+1) 0:=λm h j b=>by
  have:=List.all_eq_true.mp h j (List.mem_range.mpr (by lia));simpa using this
 obtain rfl|rfl|rfl:=a
 ·exact⟨g _ (by decide+kernel),by decide+kernel⟩
 ·exact⟨g _ (by decide+kernel),by decide+kernel⟩
 ·exact⟨g _ (by decide+kernel),by decide+kernel⟩
def Kp{mask i j:Nat}(f:Mk mask)(l:i<=mask)(g:j<=mask):∃k,k<=mask/\lc mask k i=j:=by
 obtain⟨c,m⟩:=JY f;obtain⟨a,o,e⟩:=Q5 (c i l);obtain⟨b,n,d⟩:=Q5 (c j g)
 by_cases h:a<=b
 ·exact⟨b - a,by lia,by rw[<-e,<-Oa,show a+_=b by lia,d]⟩
 ·exact⟨mask+1 - a+b,by lia,by rw[<-e,<-Oa,show a+_=(mask+1)+b by lia,Oa,m,d]⟩
def VH{mask j:Nat}{p:Probe}(e:Mk mask)(v:Val mask p)(f:j<=mask):∃m,m<10 * turns mask/\(it mask m p).j=j:=by
 have b:(I0 mask 13 p).perturb=0:=by
  rw[Za];exact Nat.div_eq_of_lt (iD v.pt (by decide))
 have a:(I0 mask 13 p).j=(I0 mask 13 p).i:=by
  rfl
 obtain⟨k,h,d⟩:=Kp e (Sb 13 v).i f;obtain⟨m,g,c⟩:=PB (13+k) v;refine⟨m,by unfold turns;lia,?_⟩;rw[c,Qz,(Od k b a).2,d]
abbrev vN(xs:Array Nat):Prop:=xs.toList.Pairwise (· <·)
def vN.lt{xs:Array Nat}(h:vN xs){a b x y:Nat}(c:a<b)(e:xs[a]?=some x)(d:xs[b]?=some y):x<y:=by
 rw[<-gZ]at e d;obtain⟨g,rfl⟩:=List.getElem?_eq_some_iff.mp e;obtain⟨f,rfl⟩:=List.getElem?_eq_some_iff.mp d;exact List.pairwise_iff_getElem.mp h a b g f c
def vN.inj(h:vN xs){a b x:Nat}(d:xs[a]?=some x)(c:xs[b]?=some x):a=b:=by
 rcases oV a b with z|z|z
 ·exact absurd (h.lt z d c) (jA _)
 ·exact z
 ·exact absurd (h.lt z c d) (jA _)
def W6{xs:Array Nat}(h:vN xs):∀(d lo c:Nat),c<=xs.size->lo<=c->c - lo<=d->(∀k x,k<lo->xs[k]?=some x->x<j)->(∀k x,c<=k->xs[k]?=some x->j<=x)->
  below.go xs j d lo c<=xs.size/\(∀k x,k<below.go xs j d lo c->xs[k]?=some x->x<j)/\(∀k x,below.go xs j d lo c<=k->xs[k]?=some x->j<=x):=by
 intro n;induction n with
 |zero=>
  rintro lo c l u r a b
  have:lo=c:=by lia
  subst this;exact⟨l,a,b⟩
 |succ d f=>
  rintro lo c l u r a b
  unfold below.go
  by_cases o:lo<c
  ·rw[fM o];have p:(lo+c) / 2<xs.size:=by lia
   have m:xs[(lo+c) / 2]?=some (xs.getD ((lo+c) / 2) j):=by
    simp[sU,p]
   by_cases g:xs.getD ((lo+c) / 2) j<j
   ·rw[fM g];refine f _ c l (by lia) (by lia) (λk x q e=>?_) b;rcases mV k _ with z|z
    ·exact Nat.lt_trans (h.lt z e m) g
    ·have:k=(lo+c) / 2:=by lia
     subst this;rw[m]at e;cases e;exact g
   ·rw[fJ g];refine f lo _ (by lia) (by lia) (by lia) a (λk x q e=>?_);rcases mV _ k with z|z
    ·have:=h.lt z m e;lia
    ·have:k=(lo+c) / 2:=by lia
     subst this;rw[m]at e;cases e;lia
  ·rw[fJ o];have:lo=c:=by lia
   subst this;exact⟨l,a,b⟩
def yu{xs:Array Nat}(h:vN xs):below xs j<=xs.size/\(∀k x,k<below xs j->xs[k]?=some x->x<j)/\(∀k x,below xs j<=k->xs[k]?=some x->j<=x):=
 W6 h xs.size 0 xs.size (fQ _) (by lia) (by lia) (λk x b=>by lia) λk x b a=>by
  obtain⟨z,_⟩:=Array.getElem?_eq_some_iff.mp a
  lia
def W5(h:vN xs)(e:xs[i]?=some j):below xs j=i:=by
 obtain⟨_,d,c⟩:=yu h;rcases oV i _ with z|z|z
 ·exact absurd (d i j z e) (jA _)
 ·exact z.symm
 ·have b:below xs j<xs.size:=by
   obtain⟨q,_⟩:=Array.getElem?_eq_some_iff.mp e
   lia
  have a:=gS b;have:=c _ _ (fQ _) a;have:=h.lt z a e
  lia
def Gf{t:jV}(h:vN t.place)(e:t.place[i]?=some j):t.slot j=.live i:=by
 unfold slot;rw[W5 h e];rw[fM (by rw[e];exact beq_self_eq_true _)]
def O9{t:jV}(a:t.dummies=#[])(e:j∉t.place.toList):t.slot j=.empty:=by
 unfold slot;rw[fJ (λz=>e (by
  have z:t.place[below t.place j]?=some j:=by simpa using z
  rw[<-gZ]at z;exact iE z)),a]
 rfl
def O8{t:jV}(h:vN t.place)(b:t.dummies=#[])(j:Nat):(∃i,t.place[i]?=some j/\t.slot j=.live i)\/(j∉t.place.toList/\t.slot j=.empty):=by
 by_cases e:j∈t.place.toList
 ·obtain⟨i,a⟩:=kQ e;rw[gZ]at a;exact .inl ⟨i,a,Gf h a⟩
 ·exact .inr ⟨e,O9 b e⟩
def AD:∀(n:Nat)(l:List Nat),l.length<n->∃j,j<n/\j∉l:=by
 intro a;induction a with
 |zero=>rintro l h;lia
 |succ n b=>
  rintro l h
  by_cases e:n∈l
  ·obtain⟨j,d,c⟩:=b _ (by rw[List.length_erase_of_mem e];have:=List.length_pos_of_mem e;lia);exact⟨j,by lia,λz=>c ((List.mem_erase_of_ne (by lia)).mpr z)⟩
  ·exact⟨n,by lia,e⟩
theorem Qj{t:jV}(n:vN t.place)(q:t.dummies=#[]):∀(fuel:Nat)(p:Probe),p.dummy=none->(∃m,m<fuel/\(it t.mask m p).j∉t.place.toList)->
  ∃m,m<fuel/\(∀a,a<m->∃i,t.place[i]?=some (it t.mask a p).j/\hashAt i≠h)/\
   (((it t.mask m p).j∉t.place.toList/\probe.go t hashAt h fuel p=some (.empty (it t.mask m p).j none))\/
    ∃i,t.place[i]?=some (it t.mask m p).j/\hashAt i=h/\probe.go t hashAt h fuel p=some (.candidate (it t.mask m p).j i (it t.mask (m+1) p)))
 |0,p,_,f=>by obtain⟨m,x,_⟩:=f;lia
 |fuel+1,p,o,e=>by
  obtain⟨g,x,r⟩:=e;rcases O8 n q p.j with ⟨i,b,d⟩|⟨b,d⟩
  ·by_cases c:hashAt i=h
   ·refine⟨0,by lia,λa z=>by lia,.inr ⟨i,b,c,?_⟩⟩;unfold probe.go;rw[d];dsimp only;rw[fM (by rw[c];exact beq_self_eq_true _)];rfl
   ·have v:g≠0:=λz=>by
     subst z;rw[<-gZ]at b;exact r (iE b)
    obtain⟨k,rfl⟩:∃k,g=k+1:=⟨g - 1,by lia⟩;have l:(Wg t.mask p).dummy=none:=by unfold Wg;split<;>exact o
    obtain⟨m,B,u,A⟩:=Qj (h:=h) n q fuel _ l ⟨k,by lia,r⟩;have y:probe.go t hashAt h (fuel+1) p=probe.go t hashAt h fuel (Wg t.mask p):=by
     rw[probe.go,d];dsimp only;rw[fJ (by simpa using c)];rfl
    refine⟨m+1,by lia,λa z=>?_,?_⟩
    ·cases a with
     |zero=>exact⟨i,b,c⟩
     |succ a=>exact u a (by lia)
    ·rwa [y]
  ·refine⟨0,by lia,λa z=>by lia,.inl ⟨b,?_⟩⟩;unfold probe.go;rw[d];rw[o];rfl
def gq(mask:Nat)(h:Int)(m:Nat):Nat:=(it mask m (vF mask h)).j
def Q8{mask m:Nat}{h:Int}:gq mask h m<=mask:=by
 have:=(EV m (Cb mask h)).j;unfold gq
 lia
structure u7(t:jV)(hs:List Int):Prop where
 mask:Mk t.mask
 v5:t.dummies=#[]
 len:t.place.size=hs.length
 rise:vN t.place
 le:∀j∈t.place.toList,j<=t.mask
 room:t.place.size<=t.mask
 reach:∀q∈t.place.toList.zip hs,∃m,gq t.mask q.2 m=q.1/\∀m',m'<m->gq t.mask q.2 m'∈t.place.toList
def u7.fits{t:jV}{a:List Int}(T:u7 t a):t.place.size=a.length/\t.fill<=t.mask:=by
 refine⟨T.len,?_⟩;unfold fill;rw[T.v5];exact T.room
def u7.empty{t:jV}(T:u7 t c)(p:Probe)(v:Val t.mask p):∃m,m<10 * turns t.mask/\(it t.mask m p).j∉t.place.toList:=by
 obtain⟨j,e,d⟩:=AD (t.mask+1) t.place.toList (by have:=T.room;rw[gN];lia);obtain⟨m,b,a⟩:=VH T.mask v (j:=j) (by lia);exact⟨m,b,by rwa [a]⟩
def u7.probe{t:jV}(T:u7 t l)(hashAt:Nat->Int)(h:Int)(m:Nat):∃c,m<=c/\(∀d,m<=d->d<c->∃i,t.place[i]?=some (gq t.mask h d)/\hashAt i≠h)/\
   ((gq t.mask h c∉t.place.toList/\t.probe hashAt h (it t.mask m (vF t.mask h))=some (.empty (gq t.mask h c) none))\/
   ∃i,t.place[i]?=some (gq t.mask h c)/\hashAt i=h/\t.probe hashAt h (it t.mask m (vF t.mask h))=some (.candidate (gq t.mask h c) i (it t.mask (c+1) (vF t.mask h)))):=by
 have v:=EV m (Cb t.mask h);obtain⟨k,j,g,f⟩:=Qj (h:=h) T.rise T.v5 _ _ v.v5 (T.empty _ v);have e:∀n,_=it t.mask _ (vF t.mask h):=λn=>(Nx m n _).symm;refine⟨m+k,by lia,λd a b=>?_,?_⟩
 ·have:=g (d - m) (by lia);rw[e,show m+_=d by lia]at this;exact this
 ·rw[e,e]at f;exact f
def u7.first{t:jV}(T:u7 t a)(h:Int):∃M,M<10 * turns t.mask/\gq t.mask h M∉t.place.toList:=T.empty _ (Cb t.mask h)
def DC{mask:Nat}(h:Mk mask):10 * turns mask<=1420:=by
 rcases h with rfl|rfl|rfl<;>decide
def ft(xs:Array α)(p:Nat)(x:α):(insertAt xs p x).toList=xs.toList.take p++x::xs.toList.drop p:=by
 unfold insertAt;simp[List.extract_eq_drop_take];exact List.take_of_length_le (by simp)
def B6{l:List α}:y∈l.take p++x::l.drop p↔y=x\/y∈l:=by
 rw[lC,iK];constructor
 ·rintro (h|h|h)
  ·exact .inr (List.mem_of_mem_take h)
  ·exact .inl h
  ·exact .inr (List.mem_of_mem_drop h)
 ·rintro (h|h)
  ·exact .inr (.inl h)
  ·rw[<-rH p l,lC]at h;obtain h|h:=h
   ·exact .inl h
   ·exact .inr (.inr h)
def MR{l:List α}{r:List β}(a:l.length=r.length):(l.take p++x::l.drop p).zip (r.take p++y::r.drop p)=(l.zip r).take p++(x,y)::(l.zip r).drop p:=by
 rw[List.zip_append (by rw[oA,oA,a]),List.zip_cons_cons];unfold List.zip;rw[List.take_zipWith,List.drop_zipWith]
def u7.put{t:jV}(T:u7 t d)(C:gq t.mask h m∉t.place.toList)(G:∀c,c<m->gq t.mask h c∈t.place.toList)(o:t.place.size+1<=t.mask):
  ∃p,p<=d.length/\(t.put (gq t.mask h m)).2=p/\u7 (t.put (gq t.mask h m)).1 (d.take p++h::d.drop p)/\(t.put (gq t.mask h m)).1={t with place:=insertAt t.place p (gq t.mask h m),dummies:=#[]}:=by
 obtain⟨L,I,H⟩:=yu T.rise;have E:has t.dummies (gq t.mask h m)=false:=by rw[T.v5];rfl
 have B:(t.put (gq t.mask h m)).1={t with place:=insertAt t.place (below t.place (gq t.mask h m)) (gq t.mask h m),dummies:=#[]}:=by
  unfold SetTable.put;rw[E,T.v5];rfl
 refine⟨below t.place _,by rwa [<-T.len],rfl,?_,B⟩;rw[B];generalize J:below t.place _=p at *;have r:t.place.toList.length=d.length:=by exact T.len
 have lt:∀x∈t.place.toList.take p,x<gq t.mask h m:=λx b=>by
  obtain⟨i,a⟩:=kQ b;rw[List.getElem?_take]at a;split at a
  ·rename_i z;rw[gZ]at a;exact I i x z a
  ·cases a
 have A:∀x∈t.place.toList.drop p,gq t.mask h m<x:=λx b=>by
  obtain⟨i,a⟩:=kQ b;rw[List.getElem?_drop,gZ]at a;have v:=H _ x (nC p i) a;have u:x≠gq t.mask h m:=λz=>by
   subst z;rw[<-gZ]at a;exact C (iE a)
  lia
 have n:(t.place.toList.take p).Pairwise (· <·)/\(t.place.toList.drop p).Pairwise (· <·):=by
  have:=T.rise;unfold vN at this;rw[<-rH p t.place.toList,List.pairwise_append]at this;exact⟨this.1,this.2.1⟩
 refine⟨T.mask,rfl,?_,?_,?_,?_,?_⟩
 ·rw[<-gN,ft];simp only[gI,oA,fI,nA,r]
 ·show((insertAt t.place p _).toList).Pairwise _;rw[ft,List.pairwise_append];refine⟨n.1,List.pairwise_cons.mpr ⟨A,n.2⟩,λx b y e=>?_⟩;rcases List.mem_cons.mp e with rfl|e
  ·exact lt x b
  ·exact Nat.lt_trans (lt x b) (A y e)
 ·rw[ft];intro j l;rcases B6.mp l with rfl|l
  ·exact Q8
  ·exact T.le j l
 ·rw[<-gN,ft];simp only[gI,oA,fI,nA,gN]
  lia
 ·rw[ft,MR r];intro q f;rcases B6.mp f with rfl|f
  ·exact⟨m,rfl,λk g=>B6.mpr (.inr (G k g))⟩
  ·obtain⟨c,v,u⟩:=T.reach q f;exact⟨c,v,λk g=>B6.mpr (.inr (u k g))⟩
def V3(d a:Nat)(led:Bool):u7 (.fresh d a led) []:=⟨.inl rfl,rfl,rfl,tD,(λj c=>absurd (show j∈([]:List Nat)from c) (by simp)),iO _,(λq b=>absurd (b) (by simp))⟩
structure Own(mask:Nat)(owner:Array (Option Nat))(L:List Nat):Prop where
 size:owner.size=mask+1
 nd:L.Nodup
 le:∀j∈L,j<=mask
 at_:∀(j i:Nat),owner[j]?=some (some i)↔L[i]?=some j
def Own.none{mask:Nat}{a:Array (Option Nat)}{L:List Nat}(O:Own mask a L){j:Nat}(f:j<=mask):(a.getD j (some 0)).isNone=true↔j∉L:=by
 have b:j<a.size:=by rw[O.size];lia
 have d:a.getD j (some 0)=a[j]:=by simp[sU,b]
 rw[d];cases e:a[j]with
 |none=>
  refine⟨λ_ z=>?_,λ_=>rfl⟩;obtain⟨i,c⟩:=kQ z;have:=(O.at_ j i).mpr c;rw[gS b,e]at this;cases this
 |some i=>
  refine⟨λz=>(by cases z),λz=>absurd (iE ((O.at_ j i).mp ?_)) z⟩;rw[gS b,e]
def Yo{mask:Nat}:∀(k:Nat)(p:Probe),k<=p.more->(it mask k p).j=p.j+k:=by
 intro a;induction a with
 |zero=>rintro p _;exact rfl
 |succ k b=>
  rintro p h
  show(it mask k _).j=_;have e:Wg mask p={p with j:=p.j+1,more:=p.more - 1}:=by unfold Wg;rw[fM (by lia)]
  rw[e,b _ (by show k<=p.more - 1;lia)];show p.j+1+k=p.j+_
  lia
def Ng:(∀k,(hJ n).find? f=some k->k<n/\f k=true/\∀a,a<k->f a=false)/\((hJ n).find? f=none->∀k,k<n->f k=false):=by
 refine⟨λk h=>?_,λh k g=>?_⟩
 ·have j:=List.mem_range.mp (List.mem_of_find?_eq_some h);refine⟨j,(List.find?_some h),λa e=>?_⟩;obtain⟨_,d,bs,c,l⟩:=List.find?_eq_some_iff_append.mp h;have m:d.length=k:=by
   have b:(hJ n)[d.length]?=some k:=by rw[c];simp
   rw[sI (by
    have:=congrArg lT c;simp at this
    lia)]at b
   exact gV b
  have:a∈d:=by
   have b:(hJ n)[a]?=some a:=sI (by lia);rw[c,jB (by lia)]at b;exact iE b
  simpa using l a this
 ·have:=List.find?_eq_none.mp h k (List.mem_range.mpr g);simpa using this
def GH{mask:Nat}{c:Array (Option Nat)}{L:List Nat}(O:Own mask c L):∀(g:Nat)(p:Probe),Val mask p->p.j=p.i->p.more=runEnd mask p.i - p.i->(∃k,k<g/\(I0 mask k p).j∉L)->
  ∃m,layClean.free mask c g p.i p.perturb=some (it mask m p).j/\(it mask m p).j∉L/\∀d,d<m->(it mask d p).j∈L:=by
 intro l;induction l with
 |zero=>rintro p _ _ _ ⟨k,h,_⟩;lia
 |succ g o=>
  rintro p v A em ⟨k,hk,C⟩
  obtain⟨T,Q,N⟩:=As v.i;obtain⟨M,J⟩:=Ng (f:=λk=>(c.getD _ _).isNone);unfold layClean.free;cases e:(hJ _).find? λk=>(c.getD _ _).isNone with
  |some q=>
   obtain⟨U,H,G⟩:=M q e;have r:∀x,x<=q->(it mask x p).j=p.i+x:=λx hx=>by rw[Yo x p (by lia),A]
   refine⟨q,by rw[r q (fQ _)],?_,λd B=>?_⟩
   ·rw[r q (fQ _)];exact(O.none (by lia)).mp H
   ·rw[r d (by lia)];refine nL λz=>?_;have:=(O.none (by lia)).mpr z;have:=G d B
    simp_all
  |none=>
   have all:=J e;have ne:k≠0:=λz=>by
    subst z;refine C ?_;refine nL λz=>?_;have E:p.i+0∉L:=by rwa [Nat.add_zero,<-A]
    have a:=all 0 (by lia);have b:=(O.none (by lia)).mpr E
    simp_all
   obtain⟨n,rfl⟩:∃n,k=n+1:=⟨k - 1,by lia⟩;obtain⟨m,m1,Y,I⟩:=o _ (Ab v) rfl rfl ⟨n,by lia,C⟩;have u:∀x,it mask _ p=it mask x _:=λx=>by rw[Nx,Qp _ p rfl]
   refine⟨p.more+1+m,?_,?_,λd B=>?_⟩
   ·rwa [u]
   ·rwa [u]
   ·rcases mV d (p.more+1)with z|z
    ·rw[Yo d p (by lia),A];refine nL λy=>?_;have a:=all d (by lia);have b:=(O.none (by lia)).mpr y
     simp_all
    ·have:=I (d - (p.more+1)) (by lia);rw[<-u,show p.more+1+_=d by lia]at this;exact this
def GI{mask:Nat}{a:Array (Option Nat)}{L:List Nat}(f:Mk mask)(O:Own mask a L)(o:L.length<=mask)(h:Int):
  ∃m,layClean.free mask a (turns mask) (bits h % (mask+1)) (bits h)=some (gq mask h m)/\gq mask h m∉L/\∀c,c<m->gq mask h c∈L:=by
 obtain⟨j,n,l⟩:=AD (mask+1) L (by lia);have v:=Cb mask h;have d:(I0 mask 13 (vF mask h)).perturb=0:=by
  rw[Za];exact Nat.div_eq_of_lt (iD v.pt (by decide))
 have b:(I0 mask 13 (vF mask h)).j=(I0 mask 13 (vF mask h)).i:=by
  rfl
 obtain⟨k,g,e⟩:=Kp f (Sb 13 v).i (show j<=mask by lia);exact GH O _ _ v rfl rfl ⟨13+k,by unfold turns;lia,by rwa [Qz,(Od k d b).2,e]⟩
def Own.snoc{mask:Nat}{c:Array (Option Nat)}{L:List Nat}(O:Own mask c L){j:Nat}(m:j<=mask)(f:j∉L):Own mask (c.setIfInBounds j (some L.length)) (L++[j]):=by
 have g:j<c.size:=by rw[O.size];lia
 refine⟨by rw[Array.size_setIfInBounds];exact O.size,?_,?_,λx i=>?_⟩
 ·rw[oU];exact⟨O.nd,by simp,λa l b h=>by rw[List.mem_singleton.mp h];exact λz=>f (z▸l)⟩
 ·intro x d;rcases List.mem_append.mp d with d|d
  ·exact O.le x d
  ·rwa [List.mem_singleton.mp d]
 ·rw[Array.getElem?_setIfInBounds]
  by_cases e:j=x
  ·subst e;rw[fM rfl,fM g];constructor
   ·intro z;cases z;simp
   ·intro z;rcases oV i L.length with y|y|y
    ·rw[jB y]at z;exact absurd (iE z) f
    ·rw[y]
    ·have:=(List.getElem?_eq_some_iff.mp z).1;simp at this
     lia
  ·rw[fJ e,O.at_];rcases mV i L.length with y|y
   ·rw[jB y]
   ·rw[iY y,jD y];constructor
    ·intro z;cases z
    ·intro z;have:=List.mem_singleton.mp (iE z);exact absurd this.symm e
theorem Ko{mask:Nat}(o:Mk mask):∀(f:List Int)(a:Array (Option Nat))(L:List Nat)(c:List Int),Own mask a L->L.length=c.length->L.length+f.length<=mask->
  (∀q∈L.zip c,∃m,gq mask q.2 m=q.1/\∀d,d<m->gq mask q.2 d∈L)->
  ∃b e,f.foldl (init:=some (a,L.length)) (λn h=>do
    let (a,k) <-n;let j <-layClean.free mask a (turns mask) (bits h % (mask+1)) (bits h)
    pure (a.setIfInBounds j (some k),k+1))=some (b,e.length)/\Own mask b e/\e.length=(c++f).length/\
   ∀q∈e.zip (c++f),∃m,gq mask q.2 m=q.1/\∀d,d<m->gq mask q.2 d∈e
 |[],a,L,c,O,l,_,r=>⟨a,L,rfl,O,by rwa [jT],by rwa [jT]⟩
 |h::f,a,L,c,O,l,E,r=>by
  rw[fI]at E;obtain⟨m,y,x,v⟩:=GI o O (by lia) h;have A:(L++[gq mask h m]).length=L.length+1:=by simp
  obtain⟨b,e,u,H,G,p⟩:=Ko o f _ _ (c++[h]) (O.snoc Q8 x) (by simp[l]) (by lia) (λq g=>by
   rw[List.zip_append l,List.zip_cons_cons,List.zip_nil_left]at g;rcases List.mem_append.mp g with g|g
   ·obtain⟨k,C,B⟩:=r q g;exact⟨k,C,λd z=>mD _ (B d z)⟩
   ·rw[List.mem_singleton.mp g];exact⟨m,rfl,λd z=>mD _ (v d z)⟩)
  refine⟨b,e,?_,H,by rw[G];simp,by
   rw[oT]at p;exact p⟩
  rw[oO];rw[A]at u;rw[<-u]
  congr 1
  show(layClean.free mask a _ _ _).bind _=_;rw[y];rfl
def cV(mask:Nat):Own mask (Array.replicate (mask+1) none) []:=by
 refine⟨by simp,lQ,λj a=>(by cases a),λj i=>?_⟩;constructor
 ·intro h;rw[Array.getElem?_replicate]at h;split at h<;>cases h
 ·intro h;cases h
def Uo{mask:Nat}(e:Mk mask)(b:Array Int)(f:b.size<=mask):∃a L,layClean mask b=some a/\Own mask a L/\L.length=b.size/\
  ∀q∈L.zip b.toList,∃m,gq mask q.2 m=q.1/\∀c,c<m->gq mask q.2 c∈L:=by
 obtain⟨a,L,l,j,h,g⟩:=Ko e b.toList _ [] [] (cV mask) rfl (by simpa using f) (λq d=>by cases d);refine⟨a,L,?_,j,by simpa using h,by simpa using g⟩;unfold layClean;rw[<-Array.foldl_toList];exact congrArg _ l
def A8(mask:Nat)(a:Array (Option Nat)):List (Nat×Nat):=(hJ (mask+1)).filterMap λj=>(a.getD j none).map (j,·)
def oj{mask:Nat}{a:Array (Option Nat)}{L:List Nat}(O:Own mask a L){q:Nat×Nat}:q∈A8 mask a↔L[q.2]?=some q.1:=by
 have e:∀j,j<mask+1->a[j]?=some (a.getD j none):=λj b=>by
  have d:j<a.size:=by rwa [O.size]
  simp[sU,d]
 unfold A8;rw[List.mem_filterMap];constructor
 ·rintro ⟨j,b,h⟩
  have b:=List.mem_range.mp b;cases c:a.getD j none with
  |none=>rw[c]at h;cases h
  |some i=>
   rw[c]at h;cases h;exact(O.at_ j i).mp (by rw[e j b,c])
 ·intro h;have b:=Nat.lt_succ_of_le (O.le _ (iE h));refine⟨q.1,List.mem_range.mpr b,?_⟩;have:=(O.at_ q.1 q.2).mpr h;rw[e _ b]at this;rw[gV this];rfl
def Qy(mask:Nat)(c:Array (Option Nat)):(A8 mask c).Pairwise λa b=>a.1<b.1:=by
 unfold A8;rw[List.pairwise_filterMap];refine tH ?_ List.pairwise_lt_range;intro a b f x e y d;cases h:c.getD a none with
 |none=>rw[h]at e;cases e
 |some i=>
  cases g:c.getD b none with
  |none=>rw[g]at d;cases d
  |some k=>
   rw[h]at e;rw[g]at d;cases e;cases d;exact f
def HE{mask:Nat}(u:Mk mask)(e:Array Int)(E:e.size<=mask)(T y:Nat)(led plain:Bool):∃g d,laid mask T y led plain e=some (g,d)/\g.mask=mask/\g.led=led/\g.plain=plain/\
  d.toList.Perm (hJ e.size)/\u7 g (d.toList.map λi=>e.toList.getD i 0):=by
 obtain⟨c,L,Q,O,Y,N⟩:=Uo u e E;refine⟨_,_,by unfold laid;rw[Q];rfl,rfl,rfl,rfl,?_,?_⟩
 ·refine(pH ?_ List.nodup_range).mpr λi=>?_
  ·rw[List.Nodup,nU];refine List.Pairwise.imp_of_mem ?_ (Qy mask c);intro a b M I J z;have o:=(oj O).mp M;rw[z,((oj O).mp I)]at o;have:=gV o
   lia
  ·rw[pM,List.mem_range];constructor
   ·rintro ⟨q,f,rfl⟩
    have:=(List.getElem?_eq_some_iff.mp ((oj O).mp f)).1
    lia
   ·intro v;have r:i<L.length:=by lia
    exact⟨(L[i],i),(oj O).mpr (gF r),rfl⟩
 ·have n:∀j,j∈(A8 mask c).map (·.1)↔j∈L:=λj=>by
   rw[pM];constructor
   ·rintro ⟨q,f,rfl⟩;exact iE ((oj O).mp f)
   ·intro h;obtain⟨i,v⟩:=kQ h;exact⟨(j,i),(oj O).mpr v,rfl⟩
  have p:((A8 mask c).map (·.1)).Pairwise (· <·):=by rw[nU];exact Qy mask c
  have U:(A8 mask c).length=e.size:=by have:=((pH (tH (λh=>hU h) p) O.nd).mpr n).length_eq;rw[fF]at this;lia
  refine⟨u,rfl,?_,p,λj G=>O.le j ((n j).mp G),?_,?_⟩
  ·simp
  ·show((A8 mask c).map _).toArray.size<=mask;simp
   lia
  ·intro q f;rw[hV,List.zip_map',pM]at f;obtain⟨x,l,rfl⟩:=f;have l:=(oj O).mp l;have r:=(List.getElem?_eq_some_iff.mp l).1;have H:e.toList[x.2]?=some (e.toList.getD x.2 0):=by
    rw[gW,gF (by rw[gN];lia)];rfl
   obtain⟨m,B,A⟩:=N _ (by
    have:(L.zip e.toList)[x.2]?=some (x.1,e.toList.getD x.2 0):=by rw[List.getElem?_zip_eq_some];exact⟨l,H⟩
    exact iE this)
   exact⟨m,B,λC z=>(n _).mpr (A C z)⟩
structure qy(t:jV)(hs:List Int):Prop extends u7 t hs where
 loose:t.place.size * 5<t.mask * 3
def Vw(b a:Nat)(led:Bool):qy (.fresh b a led) []:=⟨V3 b a led,by show 0 * 5<7 * 3;decide⟩
def qy.yH{t:jV}(S:qy t a):t.place.size+1<=t.mask:=by
 have:=S.loose;rcases S.mask with e|e|e<;>rw[e]at this⊢<;>lia
def Bf{t:jV}(a:t.dummies=#[]):t.tooFull=decide (t.place.size * 5>=t.mask * 3):=by
 unfold tooFull fill;rw[a];rfl
def qy.yI{t:jV}{c:Array Int}(T:u7 t c.toList)(h:(t.place.size - 1) * 5<t.mask * 3)(f:t.tooFull=true)(u:c.size<=76):
  sizeAbove (grown c.size)<=fR/\∃d a,t.relaid c (grown c.size)=some (d,a)/\d.led=t.led/\d.plain=t.plain/\a.toList.Perm (hJ c.size)/\qy d (a.toList.map λi=>c.toList.getD i 0):=by
 rw[Bf T.v5]at f;have f:=of_decide_eq_true f;have o:=T.len;rw[gN]at o;have g:∀n b,sizeAbove (grown n) - 1=b->n=c.size->Mk b->n * 5<b * 3->n<=b->sizeAbove (grown n)<=fR->sizeAbove (grown c.size)<=fR/\∃d a,t.relaid c (grown c.size)=some (d,a)/\d.led=t.led/\d.plain=t.plain/\a.toList.Perm (hJ c.size)/\qy d (a.toList.map λi=>c.toList.getD i 0):=by
  intro n b e v mk lo le m;subst v;refine⟨m,?_⟩;obtain⟨d,a,x,r,q,p,l,j⟩:=HE mk c le t.finger _ t.led t.plain;refine⟨d,a,?_,q,p,l,j,?_⟩
  ·unfold relaid;rwa [e]
  ·rw[j.len,r];rwa [fF,l.length_eq,jI]
 obtain e|e|e:=T.mask
 ·exact g 5 31 (by decide) (by lia) (.inr (.inl rfl)) (by decide) (by decide) (by decide)
 ·exact g 19 127 (by decide) (by lia) (.inr (.inr rfl)) (by decide) (by decide) (by decide)
 ·lia
end ST
namespace L2
open PySem PySem.Spec PyProof.Rows
def RI:gd->Bool
 |.inl _=>true
 |.inr _=>false
def cU:NK->Bool
 |.inl k=>RI k
 |.inr a=>a.all RI
def UA(k:aq):Bool:=k.all cU
section
variable{prog:gX}{w:iI}{A:iR}{E:fG->fP->Prop}{s:fP}
def Ql(n:Nat)(h:(a0 prog w).is k v=true):tJ n v=pure (RI k):=by
 rcases cc h with ⟨i,t,rfl,rfl⟩|⟨x,t,rfl,rfl⟩
 ·rw[hashByValue_scannable n rfl];rfl
 ·rw[hashByValue_scannable n rfl];rfl
def GE{c:List gd}(d:oF (a0 prog w) s.1 c a)(h:Q (c.all RI) s):gK (gR prog w) A (tJ (n+1) (.ref a)) Q E s:=by
 have z:=d.typeIs;obtain⟨o,j,H,u,_,y,x⟩:=d;refine fB (nN z F.slot_tuple_hash.lookup ?_);refine fB (iS u y ?_);refine fB ?_;rw[<-lU];refine kR _ (λrest r f=>r.1=none/\f=s/\∃left,ItemsAre (a0 prog w) left rest/\left.all RI=c.all RI) _ ?_ ?_ _ _ ⟨rfl,rfl,c,x,rfl⟩
 ·rintro v rest r f ⟨m,rfl,left,l,b⟩
  cases l with
  |@cons k B g p d q=>
   rw[Ql n d];rw[iF]at b;cases e:RI k with
   |true=>
    rw[e,Bool.true_and]at b;exact fE ⟨rfl,rfl,g,q,b⟩
   |false=>
    rw[e,Bool.false_and]at b;refine fE (fE ?_);rw[<-b]at h;exact h
 ·rintro ⟨G,C⟩ f ⟨m,rfl,left,l,b⟩
  subst m;cases l;refine fE ?_;rw[<-b]at h;exact h
def PJ(z:eT prog w s.1 l a)(h:Q (UA l) s):gK (gR prog w) A (tJ 8 (.ref a)) Q E s:=by
 obtain⟨o,m,O,u,G,C,B⟩:=z;refine fB (nN (⟨o,u,G⟩) F.slot_tuple_hash.lookup ?_);refine fB (iS u C ?_);refine fB ?_;rw[<-lU];refine kR _ (λrest r d=>r.1=none/\d=s/\∃left,gL prog w s.1 left rest/\left.all cU=UA l) _ ?_ ?_ _ _ ⟨rfl,rfl,l,B,rfl⟩
 ·rintro v rest r d ⟨p,rfl,left,j,g⟩
  cases left with
  |nil=>cases (j)
  |cons k f=>
   obtain⟨y,t,e,x,n⟩:=j;cases e;refine fB ?_;have H:gK (gR prog w) A (tJ 7 v) (λb c=>b=cU k/\c=d) E d:=by
    cases k with
    |inl k=>rw[Ql _ x];exact fE ⟨rfl,rfl⟩
    |inr L=>obtain⟨b,rfl,q⟩:=x;exact GE q ⟨rfl,rfl⟩
   refine iP H (λb c ⟨J,I⟩=>?_) λ_ _ q=>q;subst I;rw[iF,<-J]at g;cases b with
   |true=>
    exact fE ⟨rfl,rfl,f,n,g⟩
   |false=>
    refine fE (fE ?_);rw[<-g]at h;exact h
 ·rintro ⟨N,M⟩ d ⟨p,rfl,left,j,g⟩
  subst p;cases left with
  |cons k f=>obtain⟨y,t,e,_⟩:=j;cases e
  |nil=>
   refine fE ?_;rw[<-g]at h;exact h
def Q3(n:Nat)(h:(a0 prog w).is k v=true):nW n v=pure false:=by
 rcases cc h with ⟨i,t,rfl,rfl⟩|⟨x,t,rfl,rfl⟩<;>(cases n<;>rfl)
def IJ(b:oF (a0 prog w) s.1 l a)(h:Q false s):gK (gR prog w) A (nW (n+1) (.ref a)) Q E s:=by
 have x:=b.typeIs;obtain⟨o,e,C,p,_,u,q⟩:=b;unfold nW;refine fB (pL x ?_);show gK _ _ ((if("tuple"=="tuple")=true then pure true else isSubtype (.type "tuple") (.type "tuple"))>>=_) _ _ s;refine fB (fE ?_);refine fB (iS p u ?_);refine fB ?_;rw[<-lU];refine kR _ (λrest r c=>r.1=none/\c=s/\∃left,ItemsAre (a0 prog w) left rest) _ ?_ ?_ _ _ ⟨rfl,rfl,l,q⟩
 ·rintro v rest r c ⟨f,rfl,left,g⟩
  cases g with
  |@cons k y d j b m=>
   rw[Q3 n b];refine fB (fE ?_);exact fE ⟨rfl,rfl,d,m⟩
 ·rintro ⟨B,z⟩ c ⟨f,rfl,left,g⟩
  subst f;exact fE h
def Z0(x:eT prog w s.1 u a)(h:Q false s):gK (gR prog w) A (nW 8 (.ref a)) Q E s:=by
 obtain⟨o,g,N,n,B,z,y⟩:=x;unfold nW;refine fB (pL (⟨o,n,B⟩) ?_);show gK _ _ ((if("tuple"=="tuple")=true then pure true else isSubtype (.type "tuple") (.type "tuple"))>>=_) _ _ s;refine fB (fE ?_);refine fB (iS n z ?_);refine fB ?_;rw[<-lU];refine kR _ (λrest r d=>r.1=none/\d=s/\∃left,gL prog w s.1 left rest) _ ?_ ?_ _ _ ⟨rfl,rfl,u,y⟩
 ·rintro v rest r d ⟨m,rfl,left,l⟩
  cases left with
  |nil=>cases (l)
  |cons k f=>
   obtain⟨J,t,e,p,j⟩:=l;cases e;refine fB ?_;have C:gK (gR prog w) A (nW 7 v) (λb c=>b=false/\c=d) E d:=by
    cases k with
    |inl k=>rw[Q3 _ p];exact fE ⟨rfl,rfl⟩
    |inr I=>obtain⟨b,rfl,q⟩:=p;exact IJ q ⟨rfl,rfl⟩
   refine iP C (λb c ⟨H,G⟩=>?_) λ_ _ q=>q;subst H G;exact fE ⟨rfl,rfl,f,j⟩
 ·rintro ⟨M,L⟩ d ⟨m,rfl,left,l⟩
  subst m;exact fE h
def UP(l:eT prog w s.1 k b)(e:∀y∈n,∃c a,y=.ref c/\eT prog w s.1 a c)(h:Q false s):gK (gR prog w) A (searchCouldBeSeen (.ref b) n) Q E s:=by
 refine fB ?_;refine kR _ (λrest r d=>r.1=none/\d=s/\∀y∈rest,∃c a,y=.ref c/\eT prog w s.1 a c) _ ?_ ?_ _ _ ⟨rfl,rfl,e⟩
 ·rintro v rest r d ⟨j,rfl,f⟩
  obtain⟨c,a,rfl,m⟩:=f v fN;have g:∀y∈rest,∃c a,y=.ref c/\eT prog w d.1 a c:=λy e=>f y (fH _ e);dsimp only;split
  ·exact fE ⟨rfl,rfl,g⟩
  ·refine fB (D2 l ?_);refine fB (D2 m ?_);refine fB (Z0 l ?_);refine fB (Z0 m ?_);exact fE ⟨rfl,rfl,g⟩
 ·rintro ⟨p,o⟩ d ⟨j,rfl,f⟩
  subst j;exact fE h
inductive yX(prog:gX)(w:iI)(h:Heap)(e:Int×fG)(k:aq):Prop
 |mk (_:e.1=(ar prog w).hash k) (b) (_:e.2=.ref b) (_:eT prog w h k b):yX prog w h e k
def h7(prog:gX)(w:iI)(h:Heap):List (Int×fG)->List aq->Prop
 |[],a=>a=[]
 |e::b,a=>Cn (yX prog w h e) (h7 prog w h b) a
theorem h7.len:∀{es:List (Int×fG)}{a:List aq},h7 prog w h es a->es.length=a.length
 |[],a,e=>by rw[e];rfl
 |_::_,_,⟨k,r,e,_,t⟩=>by rw[e,fI,fI,t.len]
theorem h7.get:∀{es:List (Int×fG)}{d:List aq}{i:Nat}{e:Int×fG},h7 prog w h es d->es[i]?=some e->∃k,d[i]?=some k/\yX prog w h e k
 |[],_,_,_,_,q=>by simp at q
 |_::_,_,0,e,b,q=>by obtain⟨k,r,c,f,t⟩:=b;subst c;simp at q;subst q;exact⟨k,rfl,f⟩
 |_::_,_,i+1,e,a,q=>by
  obtain⟨k,r,c,f,t⟩:=a;subst c;obtain⟨l,j,g⟩:=h7.get t (by simpa using q);exact⟨l,by simpa using j,g⟩
structure qt(prog:gX)(w:iI)(h:Heap)(a:Addr)(ks:List aq)(es:Array (Int×fG))(ep:Nat)(t:jV):Prop where
 at_:h.get? a=some {cls:=.type "set",dict:=none,data:=.set es ep t}
 tab:ST.qy t (es.toList.map (·.1))
 x':h7 prog w h es.toList ks
 nd:ks.Nodup
def qt.fits{es:Array (Int×fG)}{t:jV}(S:qt prog w h a d es e t):t.fits es.size=true:=by
 obtain⟨c,b⟩:=S.tab.tou7.fits;unfold tL;rw[gG];exact⟨by rw[c];simp,decide_eq_true b⟩
def BX{es:Array (Int×fG)}{f:Nat->Int}{t:jV}{h:Int}{p:SetTable.Probe}(a:∀i,f i=(es[i]?.map (·.1)).getD 0):t.probe f h p=t.probe (λi=>(es[i]?.map (·.1)).getD 0) h p:=by
 rw[funext a]
def Zz{t:jV}(h:ST.Mk t.mask):t.gaveWay=false:=by
 unfold SetTable.gaveWay;rcases h with e|e|e<;>rw[e]<;>rfl
end
section
variable{prog:gX}{w:iI}{A:iR}{E:fG->fP->Prop}{s:fP}{a b:Addr}{ks:List aq}{es:Array (Int×fG)}{ep:Nat}{t:jV}{k:aq}
def Mj(t:jV)(ks:List aq)(k:aq)(h:Int)(m:Nat):Prop:=∀c,c<m->∃(i:Nat) (d:aq),t.place[i]?=some (ST.gq t.mask h c)/\ks[i]?=some d/\d≠k
def qt.t5(S:qt prog w s.1 a ks es ep t){i j:Nat}(e:t.place[i]?=some j):∃v c,es[i]?=some v/\ks[i]?=some c/\yX prog w s.1 v c:=by
 have g:i<es.size:=by
  have:=(Array.getElem?_eq_some_iff.mp e).1;have l:=S.tab.len;simp at l
  lia
 have h:es.toList[i]?=some es[i]:=by rw[gZ];exact gS g
 obtain⟨c,f,d⟩:=S.x'.get h;exact⟨es[i],c,by rwa [<-gZ],f,d⟩
def Vt(hr:(ar prog w).room A)(S:qt prog w s.1 a ks es ep t)(L:eT prog w s.1 k b){Q:SetFound->fP->Prop}(h1:k∈ks->Q (.there none) s)
  (h2:∀m,ST.gq t.mask ((ar prog w).hash k) m∉t.place.toList->Mj t ks k ((ar prog w).hash k) m->Q (.free (ST.gq t.mask ((ar prog w).hash k) m) false) s)
  (M:Nat) (hM:ST.gq t.mask ((ar prog w).hash k) M∉t.place.toList):∀(d g m:Nat)(h:Option SetTable.Probe),M - m<d->m<=M->d<=g->h.getD (t.probeStart ((ar prog w).hash k))=ST.it t.mask m (ST.vF t.mask ((ar prog w).hash k))->
   Mj t ks k ((ar prog w).hash k) m->gK (gR prog w) A (setSearchFrom a (.ref b) ((ar prog w).hash k) true g h) Q E s:=by
 generalize hh:(ar prog w).hash k=p at *;intro d;induction d with
 |zero=>
  intro g m h e1
  lia
 |succ d ih=>
  intro g m h e1 e2 e3 e4 ps;obtain⟨g,rfl⟩:∃f,g=f+1:=⟨g - 1,by lia⟩;refine fB (kE S.at_ rfl S.fits ?_);dsimp only;rw[Zz S.tab.mask];rw[e4,BX]
  ·obtain⟨n,q1,q2,q3⟩:=S.tab.tou7.probe (λi=>(es[i]?.map (·.1)).getD 0) p m;have C:∀{i j:Nat},t.place[i]?=some j->j∈t.place.toList:=λe=>by
    rw[<-gZ]at e;exact iE e
   have le:n<=M:=by
    rcases mV M n with z|z
    ·obtain⟨i,l,_⟩:=q2 M e2 z;exact absurd (C l) hM
    ·exact z
   have r:Mj t ks k p n:=λo J=>by
    rcases mV o m with z|z
    ·exact ps o z
    ·obtain⟨i,l,G⟩:=q2 o z J;obtain⟨v,q,B,u,T,O⟩:=S.t5 l;refine⟨i,q,l,u,λH=>G ?_⟩;subst H;rw[B];show v.1=p;rw[T,hh]
   obtain ⟨l,G⟩|⟨i,l,G,H⟩:=q3
   ·rw[G];exact fE (h2 n l r)
   ·rw[H];obtain⟨v,q,B,u,T,c,O,N⟩:=S.t5 l;obtain⟨vh,vv⟩:=v;subst O;have lt:n<M:=by
     rcases mV n M with z|z
     ·exact z
     ·have:n=M:=by lia
      subst this;exact absurd (C l) hM
    have Y:=ST.Gf S.tab.rise l;have U:t.sameMemory t.moves t.mask=some true:=by unfold SetTable.sameMemory;rw[fM (beq_self_eq_true _)]
    have ts:∀y∈(es.filter λx=>x.fst==p).toList.map (λx=>x.snd),∃c q,y=.ref c/\eT prog w s.1 q c:=λy hy=>by
     obtain⟨x,hx,rfl⟩:=List.mem_map.mp hy;obtain⟨i,hi⟩:=kQ (show x∈es.toList by simpa using((show x∈es/\x.fst=p by simpa using hx).1));obtain⟨I,_,_,c',e5,e6⟩:=S.x'.get hi;exact⟨c',I,e5,e6⟩
    dsimp only;cases hl:t.led with
    |true=>
     rw[B];refine fB (iX ((ar prog w).eqBool hr N L ?_));refine fB (kE S.at_ rfl S.fits ?_)
     by_cases ek:q=k
     ·subst ek;simp only[decide_true,Bool.and_self,if_true];exact fE (h1 (iE u))
     ·simp only[ek,decide_false,qR,Bool.false_eq_true,if_false];rw[U];simp only[if_true];rw[Y];dsimp only;rw[B];refine fB (wpAny_isSame_ref_self ?_);simp only[if_true];refine fB (fE ?_);refine ih g _ _ (by lia) (by lia) (by lia) rfl λo J=>?_;rcases mV o n with z|z
      ·exact r o z
      ·have:o=n:=by lia
       subst this;exact⟨i,q,l,u,ek⟩
    |false=>
     refine fB (UP L ts ?_);rw[B];refine fB (iX ((ar prog w).eqBool hr N L ?_));refine fB (kE S.at_ rfl S.fits ?_)
     by_cases ek:q=k
     ·subst ek;simp only[decide_true,Bool.and_self,if_true];exact fE (h1 (iE u))
     ·simp only[ek,decide_false,qR,Bool.false_eq_true,if_false];rw[U];simp only[if_true];rw[Y];dsimp only;rw[B];refine fB (wpAny_isSame_ref_self ?_);simp only[if_true];refine fB (fE ?_);refine ih g _ _ (by lia) (by lia) (by lia) rfl λo J=>?_;rcases mV o n with z|z
      ·exact r o z
      ·have:o=n:=by lia
       subst this;exact⟨i,q,l,u,ek⟩
  ·intro i;rfl
def Nn(S:qt prog w s.1 a ks es ep t){i:Nat}{k:aq}(h:ks[i]?=some k):∃j,t.place[i]?=some j/\(j,(ar prog w).hash k)∈t.place.toList.zip (es.toList.map (·.1)):=by
 have n:=(List.getElem?_eq_some_iff.mp h).1;have l:=S.x'.len;have g:=S.tab.len;rw[fF]at g;have c:i<t.place.size:=by lia
 obtain⟨v,m,f,d,e,_⟩:=S.t5 (gS c);rw[h]at d;cases d;refine⟨t.place[i],gS c,?_⟩;have:(t.place.toList.zip (es.toList.map (·.1)))[i]?=some (t.place[i],(ar prog w).hash k):=by
  rw[List.getElem?_zip_eq_some];refine⟨by rw[gZ];exact gS c,?_⟩;rw[gO,gZ,f];show some v.1=_;rw[e]
 exact iE this
def CO(C:(ar prog w).room A)(S:qt prog w s.1 a ks es ep t)(G:eT prog w s.1 k b){Q:SetFound->fP->Prop}(I:k∈ks->Q (.there none) s)
  (H:k∉ks->∀m,ST.gq t.mask ((ar prog w).hash k) m∉t.place.toList->(∀d,d<m->ST.gq t.mask ((ar prog w).hash k) d∈t.place.toList)->Q (.free (ST.gq t.mask ((ar prog w).hash k) m) false) s):
  gK (gR prog w) A (setSearch a (.ref b) ((ar prog w).hash k) true) Q E s:=by
 obtain⟨M,L,M2⟩:=S.tab.tou7.first _
 have:=ST.DC S.tab.mask;refine Vt C S G I (λm f l=>?_) M M2 100000 100000 0 none (by lia) (by lia) (by lia) rfl (λd q=>by lia);have c:∀{i j:Nat},t.place[i]?=some j->j∈t.place.toList:=λe=>by
  rw[<-gZ]at e;exact iE e
 refine H (λz=>?_) m f λd q=>?_
 ·obtain⟨J,r⟩:=kQ z;obtain⟨j,p,B⟩:=Nn S r;obtain⟨h,o,v⟩:=S.tab.reach _ B;have lt:h<m:=by
   rcases oV h m with y|y|y
   ·exact y
   ·subst y;rw[o]at f;exact absurd (c p) f
   ·exact absurd (v m y) f
  obtain⟨i,x,g,n,u⟩:=l h lt;rw[o]at g;have:=S.tab.rise.inj g p;subst this;rw[r]at n;cases n;exact u rfl
 ·obtain⟨i,x,g,_⟩:=l d q;exact c g
end
section
variable{prog:gX}{w:iI}{A:iR}{E:fG->fP->Prop}{s:fP}{a b:Addr}{ks:List aq}{es:Array (Int×fG)}{ep:Nat}{t:jV}{k:aq}
def V4{h g:Heap}{d:Addr}{o:Obj}{es ep j}(p:h.get? d=some o)(u:o.data=.set es ep j)(m:iJ d h g){ks:List gd}{b:Addr}(q:oF (a0 prog w) h ks b):oF (a0 prog w) g ks b:=by
 obtain⟨l,c,n,f,v,e,r⟩:=q;refine⟨l,c,n,(m.2 _ ?_).trans f,v,e,r⟩
 rintro rfl
 obtain rfl:=gV (f.symm.trans p);rw[u]at e;exact nomatch e
def Zw{h f:Heap}{o:Obj}{es ep g}(l:h.get? d=some o)(m:o.data=.set es ep g)(j:iJ d h f):∀{k:NK}{v:fG},Bu prog w h k v->Bu prog w f k v
 |.inl k,v,e=>e
 |.inr ks,v,c=>by obtain⟨b,e,q⟩:=c;exact⟨b,e,V4 l m j q⟩
def U0{h j:Heap}{o:Obj}{es ep l}(n:h.get? d=some o)(p:o.data=.set es ep l)(m:iJ d h j):∀{ks:aq}{g:List fG},gL prog w h ks g->gL prog w j ks g:=by
 intro c;induction c with
 |nil=>rintro _ e;exact e
 |cons _ _ f=>rintro _ ⟨v,t,e,r,q⟩;exact⟨v,t,e,Zw n p m r,f q⟩
def Ue{h m:Heap}{d:Addr}{o:Obj}{es ep p}(j:h.get? d=some o)(l:o.data=.set es ep p)(g:iJ d h m){ks:aq}{b:Addr}(q:eT prog w h ks b):eT prog w m ks b:=by
 obtain⟨r,c,n,f,v,e,u⟩:=q;refine⟨r,c,n,(g.2 _ ?_).trans f,v,e,U0 j l g u⟩
 rintro rfl
 obtain rfl:=gV (f.symm.trans j);rw[l]at e;exact nomatch e
def Fp{h g:Heap}{o:Obj}{es ep j}(n:h.get? d=some o)(p:o.data=.set es ep j)(m:iJ d h g):∀{l:List (Int×fG)}{ks:List aq},h7 prog w h l ks->h7 prog w g l ks:=by
 intro c;induction c with
 |nil=>rintro _ e;exact e
 |cons _ _ f=>rintro _ ⟨k,r,e,⟨x,b,v,u⟩,q⟩;exact⟨k,r,e,⟨x,b,v,Ue n p m u⟩,f q⟩
theorem h7.app:∀{l d:List (Int×fG)}{ks c:List aq},h7 prog w h l ks->h7 prog w h d c->h7 prog w h (l++d) (ks++c)
 |[],_,ks,_,e,q=>by rwa [e]
 |_::_,_,_,_,⟨k,r,e,g,f⟩,q=>by subst e;exact⟨k,r++_,rfl,g,f.app q⟩
theorem h7.take:∀{l:List (Int×fG)}{ks:List aq}(n:Nat),h7 prog w h l ks->h7 prog w h (l.take n) (ks.take n)
 |_,_,0,_=>by simp[h7]
 |[],ks,n+1,e=>by rw[e];simp[h7]
 |_::_,_,n+1,c=>by obtain⟨k,r,e,f,d⟩:=c;subst e;exact⟨k,r.take n,rfl,f,d.take n⟩
theorem h7.drop:∀{l:List (Int×fG)}{ks:List aq}(n:Nat),h7 prog w h l ks->h7 prog w h (l.drop n) (ks.drop n)
 |_,_,0,e=>e
 |[],ks,n+1,e=>by rw[e];simp[h7]
 |_::_,_,n+1,c=>by obtain⟨k,r,e,f,d⟩:=c;subst e;exact d.drop n
theorem h7.pick{l:List (Int×fG)}{ks:List aq}(q:h7 prog w h l ks):∀(c:List Nat),(∀i∈c,i<l.length)->h7 prog w h (c.map λi=>l.getD i (0,.none)) (c.map λi=>ks.getD i [])
 |[],_=>rfl
 |i::r,d=>by
  have e:=gF (d i fN);obtain⟨k,f,m⟩:=q.get e;refine⟨ks.getD i [],r.map _,rfl,?_,q.pick r λj g=>d j (fH _ g)⟩;show yX prog w h (l.getD i _) _;rwa [gW,gW,e,f]
def l9{l:List α}:(hJ l.length).map (λi=>l.getD i d)=l:=by
 apply mK;intro i;rw[gO];rcases mV i l.length with h|h
 ·simp[gW,h]
 ·rw[jD (by simpa using h),jD h];rfl
def yf{l:List α}{order:List Nat}(h:order.Perm (hJ l.length)):(order.map λi=>l.getD i d).Perm l:=by
 have:=h.map λi=>l.getD i d;rw[l9]at this;exact this
theorem X6{l:List α}:∀{c:List Nat},(∀i∈c,i<l.length)->c.filterMap (λi=>l[i]?)=c.map λi=>l.getD i d
 |[],_=>rfl
 |i::r,h=>by
  have e:=h i fN;rw[mP,gF e,fL,X6 (d:=d) λj f=>h j (fH _ f)];simp[gW,e]
def KD{u:Heap}(S:u.get? a=some {cls:=.type "set",dict:=none,data:=.set es ep t})(p:s.1=u)(T:ST.u7 t (es.toList.map (·.1)))(I:h7 prog w u es.toList ks)(N:ks.Nodup)(e:(t.place.size - 1) * 5<t.mask * 3)(j:t.tooFull=true)(α:es.size<=76)
  (h:∀v f l x g,iJ a s.1 v->qt prog w v a f l x g->f.Perm ks->(∀r,h7 prog w r es.toList ks->h7 prog w r l.toList f)->g.plain=t.plain->g.led=t.led->Q () {s with heap:=v}):gK (gR prog w) A (setRelay a (SetTable.grown es.size)) Q E s:=by
 subst p;have fits:t.fits es.size=true:=by
  obtain⟨Y,U⟩:=T.fits;unfold tL;rw[gG];exact⟨by rw[Y];simp,decide_eq_true U⟩
 have J:(es.map (·.1)).toList=es.toList.map (·.1):=by simp
 have y:(es.map (·.1)).size=es.size:=by simp
 obtain⟨G,g,c,C,M,L,o,r6⟩:=ST.qy.yI (by rwa [J]) e j (by rwa [y]);rw[y]at G C o;have m:∀i∈c.toList,i<es.toList.length:=λi q=>by
  have:=List.mem_range.mp (o.mem_iff.mp q);exact this
 have n:(c.filterMap (es[·]?)).toList=c.toList.map λi=>es.toList.getD i (0,.none):=by
  rw[Array.toList_filterMap];have:(λi=>es[i]?)=λ(i:Nat)=>es.toList[i]?:=by funext i;rw[gZ]
  rw[this];exact X6 m
 have sz:(c.filterMap (es[·]?)).size=es.size:=by
  rw[<-gN,n,fF,o.length_eq,jI]
 refine fB (kE S rfl fits ?_);dsimp only;rw[fJ (Nat.not_lt.mpr G),C];refine fB (oE (a:=(c.filterMap (es[·]?),g)) ?_ ?_)
 ·show(if _=true then _ else _)=_;rw[fJ (by rw[sz];simp)]
 ·have O:(c.filterMap (es[·]?)).size<=fR:=by rw[sz,iT];lia
  refine wpAny_storeSet_of S rfl ?_ O;have B:=iQ s.1 a (Obj.putSet (c.filterMap (es[·]?)) g);have H:=I.len;refine h _ _ _ _ _ B ⟨(iV _ S rfl),?_,?_,?_⟩ ?_ (λr z=>by rw[n];exact z.pick _ m) L M
  ·have:(c.filterMap (es[·]?)).toList.map (·.1)=c.toList.map λi=>(es.map (·.1)).toList.getD i 0:=by
    rw[n,hV];refine iA λi q=>?_;have:=m i q;rw[J];show(es.toList.getD i _).1=(es.toList.map _).getD i 0;rw[gW,gW,gO,gF this];rfl
   rwa [this]
  ·rw[n];exact Fp S rfl B (I.pick _ m)
  ·exact(yf (d:=[]) (order:=c.toList) (by rwa [<-H,gN])).nodup_iff.mpr N
  ·exact yf (by rwa [<-H,gN])
def zf{l:List α}:(l.take p++x::l.drop p).Perm (x::l):=by
 have:=List.perm_middle (a:=x) (l₁:=l.take p) (l₂:=l.drop p);rw[rH]at this;exact this
def MO(hr:(ar prog w).room A)(S:qt prog w s.1 a ks es ep t)(y:k∉ks->ks.length<76)(Y:eT prog w s.1 k b)
  (h1:k∈ks->Q false s)
  (h2:k∉ks->∀x h o q r,iJ a s.1 x->qt prog w x a h o q r->h.Perm (k::ks)->(∀f,h7 prog w f es.toList ks->eT prog w f k b->h7 prog w f o.toList h)->r.plain=(t.plain && UA k)->r.led=t.led->Q true {s with heap:=x}):
  gK (gR prog w) A (setAddHashed a (.ref b) ((ar prog w).hash k)) Q E s:=by
 refine iX (fB (kE S.at_ rfl S.fits ?_));dsimp only;have bs:byScan (.ref b) es=false:=rfl;rw[bs];refine fB (CO hr S Y (λz=>?_) λz m m1 m2=>?_)
 ·exact fE (h1 z)
 refine fB (kE S.at_ rfl S.fits ?_);have y:=y z;obtain⟨p,p1,p2,g,J⟩:=S.tab.tou7.put m1 m2 S.tab.yH;rw[p2];generalize (t.put _).1=n at g J;have T:n.plain=t.plain:=by rw[J]
 have q2:n.led=t.led:=by rw[J]
 have q3:n.mask=t.mask:=by rw[J]
 have l1:=S.x'.len;have l2:=S.tab.len;rw[fF]at l2;have v:(oW es p _).toList=es.toList.take p++((ar prog w).hash k,kN b)::es.toList.drop p:=ST.ft _ _ _;have sz:(oW es p ((ar prog w).hash k,kN b)).size=es.size+1:=by
  rw[<-gN,v,zf.length_eq,fI,gN]
 have hz:(oW es p ((ar prog w).hash k,kN b)).size<=fR:=by rw[sz,iT];rw[gN]at l1;lia
 have f:(oW es p ((ar prog w).hash k,kN b)).toList.map (·.1)=(es.toList.map (·.1)).take p++(ar prog w).hash k::(es.toList.map (·.1)).drop p:=by
  rw[v,jK,fL,List.map_take,List.map_drop]
 rw[<-f]at g;generalize oW es p _=l at v sz hz f g;have fl:∀(F:Bool->Sem Bool),(∀L,(n.plain && L)=(t.plain && UA k)->gK _ A _ Q E s)->gK _ A (if n.plain=true then tJ 8 _>>=F else _>>=F) Q E s:=λF hR=>by
  split
  ·rename_i c;exact fB (PJ Y (hR _ (by rw[T])))
  ·rename_i c;have c:n.plain=false:=by simpa using c
   refine fB (fE (hR true ?_));rw[T]at c;rw[T,c];rfl
 refine fl _ λL G=>?_;obtain⟨e,α,I,r2,r3,r4⟩:∃e,(if L=true then n else{n with plain:=false})=e/\ST.u7 e _/\e.plain=(t.plain && UA k)/\e.led=t.led/\e.mask=t.mask:=by
  cases L with
  |true=>exact⟨n,fM rfl,g,by rw[<-G,Bool.and_true],q2,q3⟩
  |false=>exact⟨{n with plain:=false},fJ (by decide),⟨g.mask,g.v5,g.len,g.rise,g.le,g.room,g.reach⟩,by rw[<-G,qR],q2,q3⟩
 rw[α];refine fB (wpAny_storeSet_of S.at_ rfl ?_ hz);have g1:=iV (Obj.putSet l e) S.at_ rfl;have O:=iQ s.1 a (Obj.putSet l e);have C:h7 prog w (s.1.update a (Obj.putSet l e)) l.toList (ks.take p++k::ks.drop p):=by
  rw[v];refine Fp S.at_ rfl O ((S.x'.take p).app ⟨k,_,rfl,⟨rfl,b,rfl,Y⟩,S.x'.drop p⟩)
 have B:∀f,h7 prog w f es.toList ks->eT prog w f k b->h7 prog w f l.toList _:=λf H M=>by
  rw[v];exact(H.take p).app ⟨k,_,rfl,⟨rfl,b,rfl,M⟩,H.drop p⟩
 have u:(ks.take p++k::ks.drop p).Nodup:=zf.nodup_iff.mpr (List.nodup_cons.mpr ⟨z,S.nd⟩);have ps:e.place.size=t.place.size+1:=by
  have:=I.len;rw[fF,gN]at this;rw[gN]at l2
  lia
 by_cases j:e.tooFull=true
 ·rw[j];rw[<-sz];refine fB (KD g1 rfl I C u (by rw[ps,r4];exact S.tab.loose) j (by rw[gN]at l1;lia) λx h o q r N S' pp ee e1 e2=>?_);refine fE (h2 z x h o q r (O.trans N) S' (pp.trans zf) (λf H M=>ee f (B f H M)) (e1.trans r2) (e2.trans r3))
 ·have d:e.tooFull=false:=by simpa using j
  rw[d];have U:e.place.size * 5<e.mask * 3:=by
   rw[ST.Bf I.v5]at d;have:=of_decide_eq_false d
   lia
  exact fE (h2 z _ _ _ _ _ O ⟨g1,⟨I,U⟩,C,u⟩ zf B r2 r3)
end
def x8(T:List aq)(k:aq):Bool:=T.any λx=>decide (x=k)
def rf:x8 T k=true↔k∈T:=by
 unfold x8;rw[List.any_eq_true];constructor
 ·rintro ⟨x,a,e⟩;rwa [<-of_decide_eq_true e]
 ·intro h;exact⟨k,h,decide_eq_true rfl⟩
def xa(T:List aq)(k:aq):List aq:=if x8 T k then T else T++[k]
def ug(a:List aq):List aq:=a.foldl xa []
def HW(T:List aq)(k:aq):T.length<=(xa T k).length:=by
 unfold xa;split
 ·exact fQ _
 ·simp
def GJ:∀(c:List aq)(T:List aq),T.length<=(c.foldl xa T).length:=by
 intro a;induction a with
 |nil=>rintro T;exact fQ _
 |cons k r b=>rintro T;exact iU (HW T k) (b _)
section
variable{prog:gX}{w:iI}
def DG{h f:Heap}(m:∀c o,h.get? c=some o->f.get? c=some o)(q:oF (a0 prog w) h j b):oF (a0 prog w) f j b:=by
 obtain⟨g,a,n,d,p,e,l⟩:=q;exact⟨g,a,n,m _ _ d,p,e,l⟩
def IM{h d:Heap}(m:∀c o,h.get? c=some o->d.get? c=some o):∀{k:NK}{v:fG},Bu prog w h k v->Bu prog w d k v
 |.inl k,v,e=>e
 |.inr f,v,a=>by obtain⟨b,e,q⟩:=a;exact⟨b,e,DG m q⟩
def Zs{h g:Heap}(m:∀c o,h.get? c=some o->g.get? c=some o):∀{f:aq}{d:List fG},gL prog w h f d->gL prog w g f d:=by
 intro a;induction a with
 |nil=>rintro _ e;exact e
 |cons _ _ b=>rintro _ ⟨v,t,e,l,j⟩;exact⟨v,t,e,IM m l,b j⟩
def zb{h f:Heap}(m:∀c o,h.get? c=some o->f.get? c=some o)(q:eT prog w h j b):eT prog w f j b:=by
 obtain⟨g,a,n,d,p,e,l⟩:=q;exact⟨g,a,n,m _ _ d,p,e,Zs m l⟩
inductive vD(prog:gX)(w:iI)(h0 h:Heap)(a:Addr)(T:List aq):Prop
 |mk (ks es ep t) (_:h.get? a=some {cls:=.type "set",dict:=none,data:=.set es ep t}) (_:ST.qy t (es.toList.map (·.1))) (_:h7 prog w h0 es.toList ks) (_:ks.Nodup) (_:ks.Perm T) (_:t.led=Pu.Kr w) (_:t.plain=T.all UA):vD prog w h0 h a T
def Xy{h g:Heap}(m:∀c o,h.get? c=some o->g.get? c=some o):∀{l:List (Int×fG)}{f:List aq},h7 prog w h l f->h7 prog w g l f:=by
 intro a;induction a with
 |nil=>rintro _ e;exact e
 |cons _ _ d=>rintro _ ⟨k,r,e,⟨q,b,p,n⟩,j⟩;exact⟨k,r,e,⟨q,b,p,zb m n⟩,d j⟩
end
section
variable{prog:gX}{w:iI}{A:iR}{R:Result->fP->Prop}{I:Addr}{fp wr:List Addr}{P:Nat->fG->Prop}{St:Nat->Heap->Prop}{kz:List aq}{h0:Heap}
def V8(W:Walks prog w A.in1 I fp wr kz.length P St)(hu:(ar prog w).room A.in1)(a:Addr)(ha:a∉fp)(O:∀c o,h0.get? c=some o->c≠a/\c∉wr)(hP:∀i v,P i v->∃k b,kz[i]?=some k/\v=.ref b/\eT prog w h0 k b):
  ∀(rest:List aq)(i:Nat)(s:fP)(T:List aq),kz.drop i=rest->i<=kz.length->St i s.1->(∀c o,h0.get? c=some o->s.1.get? c=some o)->vD prog w h0 s.1 a T->(rest.foldl xa T).length<=76->
   (∀h j,(∀b o,b≠a->b∉wr->s.1.get? b=some o->h.get? b=some o)->vD prog w h0 h a (rest.foldl xa T)->R (.ok (.ret .none)) {s with heap:=h,toks:=j})->
   nR (gR prog w) A (.builtin "set.update.loop" ⟨[.ref a,.ref I],[]⟩) R s:=by
 have J:a∉wr:=λz=>ha (W.sub _ z);intro rest;induction rest with
 |nil=>
  intro i s T H hi st L hT N Q;have ε:i=kz.length:=by
   have:=congrArg lT H;rw[nA,jM]at this
   lia
  subst ε;refine kJ pR ?_;refine fB (W.done s _ _ st λh j p=>?_);obtain⟨u,U,Y,t,g,q,q2,q3,q4,q5,q6⟩:=hT;exact fE (Q h j (λb o _ O e=>p b o O e) ⟨u,U,Y,t,p a _ J g,q,q2,q3,q4,q5,q6⟩)
 |cons n rest ih=>
  intro i s T H hi st L hT N Q;have l:i<kz.length:=by
   have:=congrArg lT H;rw[nA,fI]at this
   lia
  have δ:kz[i]?=some n:=by
   have:(kz.drop i)[0]?=some n:=by rw[H];rfl
   simpa using this
  have G:kz.drop (i+1)=rest:=by
   have:(kz.drop i).drop 1=rest:=by rw[H];rfl
   rw[List.drop_drop]at this;exact this
  refine kJ pR ?_;refine fB (W.item i s _ _ l st λv h1 Θ hv y f=>?_);obtain⟨k,b,e1,rfl,p⟩:=hP i v hv;rw[δ]at e1;cases e1;have d:∀c o,h0.get? c=some o->h1.get? c=some o:=λc o e=>f c o (O c o e).2 (L c o e);obtain⟨u,U,Y,t,g,so,el,nd,B,le,pl⟩:=hT;have S1:qt prog w h1 a u U Y t:=⟨f a _ J g,so,Xy d el,nd⟩;refine fB (iX ?_);refine iX (fB ((ar prog w).pyHash hu (zb d p) ?_));have fl:=GJ rest (xa T n);have η:(rest.foldl xa _).length<=76:=N
  by_cases E:n∈u
  ·have M:xa T n=T:=by unfold xa;rw[fM (rf.mpr (B.mem_iff.mp E))]
   refine MO hu S1 (λz=>absurd E z) (zb d p) (λ_=>?_) λz=>absurd E z;refine fE ⟨kW pS _,ih _ _ _ G l y d (by rw[M];exact⟨u,U,Y,t,S1.at_,so,el,nd,B,le,pl⟩) N λh j m r=>?_⟩;exact Q h j (λc o x C e=>m c o x C (f c o C e)) r
  ·have M:xa T n=T++[n]:=by unfold xa;rw[fJ (λz=>(λz=>E (B.mem_iff.mpr z)) (rf.mp z))]
   rw[M]at fl η;have θ:u.length<76:=by
    rw[B.length_eq];simp at fl
    lia
   refine MO hu S1 (λ_=>θ) (zb d p) (λz=>absurd z E) λ_ h2 β ι ν t' sb S2 pp ee μ κ=>?_;refine fE ⟨kW pS _,ih _ _ _ G l (W.frame _ _ _ y λc x o e=>?_) (λc o e=>?_) ⟨β,ι,ν,t',S2.at_,S2.tab,ee h0 el p,S2.nd,?_,κ.trans le,?_⟩ N λh j m r=>?_⟩
   ·rwa [sb.2 c (λz:c=a=>ha (z▸x))]
   ·rw[sb.2 c (O c o e).1];exact d c o e
   ·rw[M];exact(pp.trans (B.cons n)).trans (List.perm_append_singleton n T).symm
   ·rw[μ,pl,M,List.all_append];simp
   ·refine Q h j (λc o x C e=>m c o x C ?_) r;rw[sb.2 c x];exact f c o C e
end
end L2
namespace Pu
open PySem PySem.Spec PyProof.Rows L2
def KeysIn(a:gX)(w:iI)(h:Heap):List fG->List aq->Prop
 |[],c=>c=[]
 |v::d,c=>∃k r b,c=k::r/\v=.ref b/\eT a w h k b/\KeysIn a w h d r
theorem KeysIn.len:∀{c:List fG}{a:List aq},KeysIn d w h c a->c.length=a.length
 |[],a,e=>by rw[show a=[]from e];rfl
 |_::_,_,⟨k,r,b,e,_,_,t⟩=>by rw[e,fI,fI,t.len]
theorem KeysIn.get:∀{f:List fG}{g:List aq}{i:Nat}{v:fG},KeysIn a w h f g->f[i]?=some v->∃k b,g[i]?=some k/\v=.ref b/\eT a w h k b
 |[],_,_,_,_,q=>by simp at q
 |_::_,_,0,v,d,q=>by obtain⟨k,r,b,e,l,j,t⟩:=d;subst e;simp at q;subst q;exact⟨k,b,rfl,l,j⟩
 |_::_,_,i+1,v,c,q=>by
  obtain⟨k,r,b,e,l,j,t⟩:=c;subst e;obtain⟨o,p,n,m⟩:=KeysIn.get (i:=i) t (by simpa using q);exact⟨o,p,by simpa using n,m⟩
section
variable{prog:gX}{w:iI}{A:iR}{E:fG->fP->Prop}{s:fP}
def Sz{L:Heap}{a:Array fG}(hu:A.units+12<jS)(hh:A.handled=none)(hl:s.1.IsList l a)(hi:KeysIn prog w L a.toList y)(hm:∀c o,L.get? c=some o->s.1.get? c=some o)(hs:(ug y).length<=76)
  (h:∀(d:Heap)(g:Nat),vD prog w L d s.1.1.size (ug y)->(∀c o,c<s.1.1.size->s.1.get? c=some o->d.get? c=some o)->Q (.ref s.1.1.size) {s with heap:=d,toks:=g}):
  gK (gR prog w) A (call (.type "set") [.ref l]) Q E s:=by
 obtain⟨c0,υ,ξ⟩:=PySem.F.called_set.mro;have α:=PySem.F.called_set.made;have ν:=PySem.F.called_set.sub;refine wpAny_call (uJ ?_);show gK _ _ (callAny (.type "set") _) _ _ _;refine fE ⟨Code.quiet_builtin _ (by decide+kernel),kJ PySem.F.entry_type_call ?_⟩;rw[Around.under_plain (weight_type_call_type "set" [.ref l] []) rfl];have Γ:=PySem.F.called_set.notType;have Φ:=PySem.F.called_set.canCreate;have Ξ:=PySem.F.typeCall_set_1 (.ref l)
 repeat (any_goals (first|assumption|wp_step))
 refine oK (IP (.ref l) (E:=E) (Q:=λobj n=>obj=.ref s.1.1.size/\n={s with heap:=s.1.push {cls:=.type "set",dict:=none,data:=.set #[] 0 (.fresh 0 0 (Kr w))}}) ⟨rfl,rfl⟩) λr n U=>?_;cases r with
 |error e=>exact U
 |ok fl=>
  cases fl with
  |ret obj=>
   obtain⟨rfl,rfl⟩:=U;generalize p:s.1.push {cls:=.type "set",dict:=none,data:=.set #[] 0 (.fresh 0 0 (Kr w))}=f;have j:f.objs.size=s.1.1.size+1:=by rw[<-p,iN]
   have T:∀c o,s.1.get? c=some o->f.get? c=some o:=λc o e=>by rw[<-p];exact fC _ e
   have hS:f.get? s.1.1.size=some {cls:=.type "set",dict:=none,data:=.set #[] 0 (.fresh 0 0 (Kr w))}:=by rw[<-p];exact fO _ rfl
   have hT:tM {s with heap:=f} (.ref s.1.1.size) "set":=⟨_,hS,rfl⟩;have Δ:=PySem.F.called_set.init.lookup;have Ω:=PySem.F.called_set.init.bind (.ref s.1.1.size)
   repeat (any_goals (first|assumption|wp_step))
   refine oK (codeAny_call_builtin (R:=wants (λr m=>r=.none/\∃d g,m={s with heap:=d,toks:=g}/\vD prog w L d s.1.1.size (ug y)/\(∀c o,c<s.1.1.size->s.1.get? c=some o->d.get? c=some o)) E)
    PySem.F.called_set.init.plain PySem.F.entry_set_init (check_set_init_1 hT ?_)) λx m b=>?_
   ·have G:l<s.1.1.size:=by
     obtain⟨o,e,_⟩:=hl;exact fS e
    have ε:A.in1.in1.in1.handled=none:=by simp[hh]
    have C:l≠f.objs.size:=by rw[j];exact hU (mJ G)
    have ζ:s.1.1.size∉[f.objs.size,l]:=by
     rw[j];simp only[iK,lW,or_false,not_or];exact⟨hU (lV _),jH G⟩
    have len:a.size=y.length:=by rw[<-gN];exact hi.len
    have ι:∀{h2:Heap}{oI:Obj},h2=f.push oI->∀(d:Heap)(g:Nat),(∀c o,c≠s.1.1.size->c∉[f.objs.size]->h2.get? c=some o->d.get? c=some o)->∀c o,c<s.1.1.size->s.1.get? c=some o->d.get? c=some o:=λ{h2 oI} e2 d g hk c o hc e=>by
     refine hk c o (hU hc) (by rw[j];simp;lia) ?_;rw[e2];exact fC _ (T c o e)
    obtain⟨ol,Y,J,nl,I⟩:=hl;obtain⟨κ,N,O,M⟩:=ol;simp only at J I;subst J;subst I;have B:=T _ _ Y;have q1:=PySem.F.sub_list_set;have q2:=PySem.F.sub_list_frozenset;have q3:(oH "list"==oH "dict")=false:=by decide
    have H:f.IsList l a:=⟨_,B,rfl,nl,rfl⟩;unfold Builtin.«set.__init__» noKeywords Builtin.Frozenset.updateFrom;generalize η:uL=PI
    wp_walk
    subst η;refine nT H (fB (wpAny_runValue ?_));have W:=Walks.list (prog:=prog) (w:=w) ε f.objs.size l C a;rw[len]at W;refine V8 (h0:=L) W (show A.units+1+1+1+4<jS by lia) s.1.1.size ζ (λc o e=>⟨hU (fS (hm c o e)),λz=>hU (mJ (fS (hm c o e))) ((List.mem_singleton.mp z).trans j)⟩) (λi v hv=>hi.get (by rw[gZ];exact hv)) y 0 _ [] rfl (iO _) ⟨⟨_,fO _ rfl,rfl,rfl⟩,H.push _⟩ (λc o e=>fC _ (T c o (hm c o e))) ⟨[],#[],0,_,fC _ hS,ST.Vw _ _ _,rfl,lQ,oC _,rfl,rfl⟩ hs λd g hk q=>?_;refine fE ?_;show gK _ _ (ret lD) _ _ _;exact fE ⟨rfl,d,g,rfl,q,ι rfl d g hk⟩
   ·cases x with
    |error e=>exact b
    |ok u=>
     cases u with
     |ret r=>
      obtain⟨rfl,d,g,rfl,q,γ⟩:=b
      repeat (any_goals (first|assumption|wp_step))
      exact h _ _ q γ
     |_=>exact b.elim
  |_=>exact U.elim
end
section
variable{prog:gX}{w:iI}{A:iR}{E:fG->fP->Prop}{s:fP}
def ZN{a:Source}{n:Nat}{Q:Nat->fP->Prop}(b:n≠0)(h:∀i d,i<n->Q i {s with drawn:=d}):gK (gR prog w) A (choose a n) Q E s:=λΓ p c=>by
 unfold choose;exact⟨b,h _ _ (Nat.mod_lt _ (Nat.pos_of_ne_zero b))⟩
theorem Se{α:Type}:∀(n:Nat)(xs:List α)(s:fP){Q:List α->fP->Prop},xs.length=n->(∀b d,b.Perm xs->Q b {s with drawn:=d})->gK (gR prog w) A (drawOrder n xs) Q E s
 |0,xs,s,Q,a,h=>by
  have:=List.length_eq_zero_iff.mp a;subst this;exact fE (h [] s.drawn (oC _))
 |n+1,[],s,Q,a,h=>by cases a
 |n+1,x::r,s,Q,a,h=>by
  refine fB (ZN (by simp) λi d c=>?_);rw[gF c];refine fB (Se n _ _ (by rw[List.length_eraseIdx_of_lt c,a];rfl) λb f e=>?_);exact fE (h _ f ((e.cons _).trans (kq c)))
end
def Ae(h:Heap)(a:Addr)(es:Array (Int×fG))(b:Nat)(t:jV):Prop:=h.get? a=some {cls:=.type "set",dict:=none,data:=.set es b t}
def uS(h:Heap)(I T a:Addr)(i n b:Nat):Prop:=h.get? I=some {cls:=.type "set_iterator",data:=.fields #[.ref T,jR i,.ref a,jR n,jR b]}
def I8(h:Heap)(T:Addr)(a:List Nat):Prop:=h.get? T=some {cls:=.type "tuple",data:=.seq (a.map λ(i:Nat)=>jR i).toArray}
section
variable{prog:gX}{w:iI}{A:iR}{E:fG->fP->Prop}{s:fP}{a I T:Addr}{es:Array (Int×fG)}{ep i:Nat}{t:jV}{ys:List Nat}
def uS.ty(h:uS s.1 I T a i n ep):s.TypeIs (.ref I) "set_iterator":=⟨_,h,rfl⟩
def GU(g:t.fits es.size=true)(f:Ae s.1 a es ep t)(l:I8 s.1 T ys)(b:uS s.1 I T a i es.size ep)(h:ys[i]?=some p)(j:es[p]?=some e)
  (m:∀d,uS d I T a (i+1) es.size ep->iJ I s.1 d->Q (some e.2) {s with heap:=d}):gK (gR prog w) A (pQ (.ref I)) Q E s:=by
 refine fB (kX (iM b.ty ic (iH ic b.ty tu ?_ (tq _))));refine fB (fE ?_);refine fB (nG b rfl ?_);dsimp only[jR];refine fB (mR f rfl g ?_);rw[fJ (by simp)];refine fB (iS l rfl ?_);dsimp only;have n:((ys.map λ(i:Nat)=>jR i).toArray)[((i:Nat):Int).toNat]?=some (tP p 0):=by
  rw[iZ,List.getElem?_toArray,gO,h];rfl
 rw[n];refine fB ?_;refine fB (kE f rfl g ?_);dsimp only;rw[fJ (by simp),iZ,j];refine fE ?_;have c:=b;refine fB (kY c rfl (by simp) ?_);refine fE ⟨e.2,rfl,fE (m _ ?_ (iQ ..))⟩;unfold uS;rw[(iV _ c rfl)];rfl
def PY(f:A.handled=none)(g:t.fits es.size=true)(e:Ae s.1 a es ep t)(h:I8 s.1 T ys)(n:ys.length=es.size)(b:uS s.1 I T a es.size es.size ep)
  (j:∀d,pG I s.1 d->Q none {s with heap:=d}):gK (gR prog w) A (pQ (.ref I)) Q E s:=by
 refine fB (kX (iM b.ty ic (iH ic b.ty tu ?_ (tq _))));refine fB (fE ?_);refine fB (nG b rfl ?_);refine fB (mR e rfl g ?_);rw[fJ (by simp)];refine fB (iS h rfl ?_);dsimp only;have l:((ys.map λ(i:Nat)=>jR i).toArray)[((es.size:Nat):Int).toNat]?=none:=by
  rw[iZ,List.getElem?_toArray,gO,jD (by lia)];rfl
 rw[l];have c:=b;refine fB (kY c rfl (by simp) ?_);refine fB (kY (iV _ c rfl) rfl (by simp[tK]) ?_);refine fB ?_;refine fB (m:=lR _ _) (oE (by first|rfl|(simp only[lR];rfl)) ?_);refine jJ ?_ (by size_fits);refine fB (rT ?_);rw[f];refine fB (fE (tG ?_));refine fB (lH ⟨_,fO _ rfl,rfl⟩ qV ?_);exact fE (j _ ((((iQ ..).trans (iQ ..)).extBut.push _).push _))
def ER(z:A.handled=none)(x:t.fits es.size=true)(j:ys.Perm (hJ es.size))(l:a≠I)(m:T≠I):Walks prog w A I [I,a,T] [I] es.size (λi v=>∃p e,ys[i]?=some p/\es[p]?=some e/\v=e.2) (λi h=>uS h I T a i es.size ep/\Ae h a es ep t/\I8 h T ys) where
 sub:=λb c=>by simp at c;simp[c]
 frame:=λ_ _ _ st n=>⟨n I (by simp) _ st.1,n a (by simp) _ st.2.1,n T (by simp) _ st.2.2⟩
 item:=λi s Q E C st g=>by
  have B:ys.length=es.size:=by rw[j.length_eq,jI]
  have u:ys[i]?=some (ys[i]'(by lia)):=gF _;have c:ys[i]'(by lia)<es.size:=List.mem_range.mp (j.mem_iff.mp (nD _));have y:es[ys[i]'(by lia)]?=some (es[ys[i]'(by lia)]'c):=gS _;exact GU x st.2.1 st.2.2 st.1 u y λr f d=>g _ r s.toks ⟨_,_,u,y,rfl⟩ ⟨f,(d.2 a l).trans st.2.1,(d.2 T m).trans st.2.2⟩ λb o c e=>d.extBut b o (λh=>c (by simp[h])) e
 done:=λs Q E st g=>PY z x st.2.1 st.2.2 (by rw[j.length_eq,jI]) st.1 λr q=>g r s.toks λb o c e=>q b o (λh=>c (by simp[h])) e
 self:=λi s Q E st g=>by
  refine nV st.1.ty zw (iH zw st.1.ty D9 ?_ (D8 _));exact fE ⟨_,rfl,"set_iterator",_,st.1.ty,ic.lookup,g⟩
end
structure n7(w:iI)(es:Array (Int×fG))(t:jV):Prop where
 fits:t.fits es.size=true
 rise:ST.vN t.place
 led:t.led=Kr w
 pl:w.params.followText "set-order"=true\/(!t.plain && decide (es.size>1))=false
def n7.size{es:Array (Int×fG)}{t:jV}(N:n7 w es t):t.place.size=es.size:=by
 have:=N.fits;unfold tL at this;rw[gG]at this;simpa using this.1
def n7.walk{es:Array (Int×fG)}{t:jV}(N:n7 w es t):sV t.place 0=0/\∀i,i<es.size->sV t.place (t.place.getD i 0+1)=i+1:=by
 have a:∀i,i<t.place.size->t.place[i]?=some (t.place.getD i 0):=λi b=>by
  simp[sU,b]
 refine⟨?_,λi b=>?_⟩
 ·obtain⟨e,c,d⟩:=ST.yu (j:=0) N.rise;refine nL λz=>?_;have:=c 0 _ (by lia) (a 0 (by lia))
  lia
 ·rw[<-N.size]at b;obtain⟨e,c,d⟩:=ST.yu (j:=t.place.getD i 0+1) N.rise;rcases oV (sV t.place (t.place.getD i 0+1)) (i+1)with z|z|z
  ·have:=d i _ (by lia) (a i b);lia
  ·exact z
  ·have g:=c _ _ z (a _ (by lia));have f:=N.rise.lt (lV i) (a i b) (a (i+1) (by lia))
   lia
noncomputable def ox(w:iI)(t:jV)(i:Nat):Nat:=if w.params.followText "set-order" then 0 else if i=0 then 0 else t.place.getD (i - 1) 0+1
section
variable{prog:gX}{w:iI}{A:iR}{E:fG->fP->Prop}{s:fP}{a I:Addr}{es:Array (Int×fG)}{ep i:Nat}{t:jV}
def Rh(N:n7 w es t)(m:Ae s.1 a es ep t)(r:i<=es.size)
  (h:Q (((rp w a ep es)[i]?).map λe=>(e.2,ox w t (i+1))) s):gK (gR prog w) A (setNext a (ox w t i) i ep) Q E s:=by
 have n:=N.fits;refine fB (kE m rfl n ?_);refine fB (fB (oB (fE ?_)));cases b:w.params.followText "set-order" with
 |true=>
  have j:rp w a ep es=pickOrder (w.params.setOrder a ep) es:=by unfold rp;rw[fM b]
  have d:∀i,ox w t i=0:=λi=>by unfold ox;rw[fM b]
  rw[j,d]at h;rw[d];have f:(⟨(gR prog w).prog,(gR prog w).w.params⟩:Setting).params.followText "set-order"=true:=b;rw[f];simp only[if_true,bne_self_eq_false,Bool.false_eq_true,if_false];refine fB ?_;refine fB (kE m rfl n ?_);refine fB (fB (oB (fE ?_)));rw[f];refine fB (oB (fE ?_));exact fE h
 |false=>
  have j:rp w a ep es=es:=by unfold rp;rw[fJ (by rw[b];decide)]
  have d:∀i,ox w t i=if i=0 then 0 else t.place.getD _ 0+1:=λi=>by unfold ox;rw[fJ (by rw[b];decide)]
  have f:(⟨(gR prog w).prog,(gR prog w).w.params⟩:Setting).params.followText "set-order"=false:=b;have p:Kr w=true:=by unfold Kr;rw[b];rfl
  have bl:sV t.place (ox w t i)=i:=by
   obtain⟨u,q⟩:=N.walk;rw[d]
   by_cases z:i=0
   ·rwa [fM z,z]
   ·rw[fJ z,q _ (by lia)];lia
  rw[j]at h;rw[f];simp only[Bool.false_eq_true,if_false];refine sH (λz=>?_) λ_=>?_
  ·have l:(!t.plain && decide _)=true:=z;obtain y|y:=N.pl
   ·rw[b]at y;cases y
   ·rw[y]at l;cases l
  ·refine fB ?_;have o:(!t.led && !es.isEmpty)=false:=by
    have:=N.led.trans p;rw[this];rfl
   wp_delta
   rw[o];refine fE (fE ?_);rw[bl];cases g:es[i]? with
   |none=>
    rw[g]at h;exact h
   |some e=>
    rw[g]at h;have c:i<t.place.size:=by
     have:=(Array.getElem?_eq_some_iff.mp g).1;have:=N.size
     lia
    rw[gS c];have:ox w t (i+1)=t.place[i]+1:=by
     rw[d,fJ (by lia)];simp[sU,c]
    rw[this]at h;exact h
def JJ(N:n7 w es t)(f:Ae s.1 a es ep t)(b:qw s.1 I a (ox w t i) i es.size ep)(g:(rp w a ep es)[i]?=some e)
  (j:∀d,qw d I a (ox w t (i+1)) (i+1) es.size ep->iJ I s.1 d->Q (some e.2) {s with heap:=d}):gK (gR prog w) A (pQ (.ref I)) Q E s:=by
 have h:i<=es.size:=by
  have m:=(Array.getElem?_eq_some_iff.mp g).1;have l:=(o4 w a ep es).length_eq;rw[gN,gN]at l
  lia
 refine fB (kX (iM b.ty ic (iH ic b.ty tu ?_ (tq _))));refine fB (fE ?_);refine fB (nG b rfl ?_);dsimp only[jR];refine fB (mR f rfl N.fits ?_);rw[fJ (by simp)];refine fB (Rh N f h ?_);rw[iZ ep,g];have c:=b;refine fB (kY c rfl (by simp) ?_);have g1:=iV (tK (·.setIfInBounds 0 (tP ((ox w t (i+1))) 0))) c rfl;refine fB (kY g1 rfl (by simp[tK]) ?_);refine fE ⟨e.2,rfl,fE (j _ ?_ ((iQ ..).trans (iQ ..)))⟩;unfold qw;rw[(iV _ g1 rfl)];rfl
def RH(f:A.handled=none)(N:n7 w es t)(c:Ae s.1 a es ep t)(b:qw s.1 I a (ox w t es.size) es.size es.size ep)
  (h:∀e,pG I s.1 e->Q none {s with heap:=e}):gK (gR prog w) A (pQ (.ref I)) Q E s:=by
 have g:(rp w a ep es)[es.size]?=none:=by
  have d:=(o4 w a ep es).length_eq;rw[gN,gN]at d;rw[<-d];simp
 refine fB (kX (iM b.ty ic (iH ic b.ty tu ?_ (tq _))));refine fB (fE ?_);refine fB (nG b rfl ?_);refine fB (mR c rfl N.fits ?_);rw[fJ (by simp)];refine fB (Rh N c (fQ _) ?_);rw[iZ ep,g];refine fB (kY b rfl (by simp) ?_);refine fB ?_;refine fB (m:=lR _ _) (oE (by first|rfl|(simp only[lR];rfl)) ?_);refine jJ ?_ (by size_fits);refine fB (rT ?_);rw[f];refine fB (fE (tG ?_));refine fB (lH ⟨_,fO _ rfl,rfl⟩ qV ?_);exact fE (h _ (((iQ ..).extBut.push _).push _))
def JI(N:n7 w es t)(b:Ae s.1 a es ep t)
  (g:Q (.ref s.1.1.size) {s with heap:=s.1.push {cls:=.type "set_iterator",data:=.fields #[jR (0:Nat),jR (0:Nat),.ref a,jR (es.size:Nat),jR (ep:Nat)]}}):gK (gR prog w) A (uL (.ref a)) Q E s:=by
 have f:s.TypeIs (.ref a) "set":=⟨_,b,rfl⟩;have c:=N.fits;refine nV f oR (iH oR f D7 ?_ (PySem.F.args_set_iter_1 _));unfold Builtin.«frozenset.__iter__» Builtin.Frozenset.slot0 slotArgs;simp only[tV,Bool.not_true,Bool.false_eq_true,↓reduceIte,bind_assoc,jM,bne_self_eq_false];refine fB (fE ?_)
 try dsimp only
 refine fB (fE ?_);refine fB (fB (mR b rfl c (fE ?_)));refine fB ?_;refine fB (kE b rfl c ?_);refine fB (fB (oB (fE (fE ?_))));refine sH (λz=>?_) λ_=>?_
 ·exfalso;rw[gG]at z;have e:(!t.plain && decide _)=true:=z.2;have d:(!(w.params.followText "set-order"))=true:=z.1;obtain y|y:=N.pl
  ·rw[y]at d;cases d
  ·rw[y]at e;cases e
 ·refine fB (fE (fB (wpAny_setEpoch_of b rfl c ?_)));refine fB (jJ (fE ⟨_,rfl,"set_iterator",_,⟨_,fO _ rfl,rfl⟩,ic.lookup,g⟩) (by size_fits))
def EO(q:A.handled=none)(N:n7 w es t)(j:a≠I):Walks prog w A I [I,a] [I] es.size (λi v=>∃e,(rp w a ep es)[i]?=some e/\v=e.2) (λi h=>qw h I a (ox w t i) i es.size ep/\Ae h a es ep t) where
 sub:=λb c=>by simp at c;simp[c]
 frame:=λ_ _ _ st n=>⟨n I (by simp) _ st.1,n a (by simp) _ st.2⟩
 item:=λi s Q E u st g=>by
  have r:=(o4 w a ep es).length_eq;rw[gN,gN]at r;have p:_[i]?=some ((rp w a ep es)[i]'(by lia)):=gS _;exact JJ N st.2 st.1 p λm f d=>g _ m s.toks ⟨_,p,rfl⟩ ⟨f,(d.2 a j).trans st.2⟩ λb o c e=>d.extBut b o (λh=>c (by simp[h])) e
 done:=λs Q E st g=>RH q N st.2 st.1 λm l=>g m s.toks λb o c e=>l b o (λh=>c (by simp[h])) e
 self:=λi s Q E st g=>by
  refine nV st.1.ty zw (iH zw st.1.ty D9 ?_ (D8 _));exact fE ⟨_,rfl,"set_iterator",_,st.1.ty,ic.lookup,g⟩
def GS(d:t.fits es.size=true)(n:w.params.followText "set-order"=false)(j:(!t.plain && decide (es.size>1))=true)(m:es.size<=76)(c:Ae s.1 a es ep t)
  (l:∀(b:List Nat) e h,b.Perm (hJ es.size)->h=(s.1.push {cls:=.type "tuple",data:=.seq (b.map λ(i:Nat)=>jR i).toArray}).push {cls:=.type "set_iterator",data:=.fields #[.ref s.1.1.size,jR (0:Nat),.ref a,jR (es.size:Nat),jR (ep:Nat)]}->Q (.ref (s.1.1.size+1)) {s with heap:=h,drawn:=e}):gK (gR prog w) A (uL (.ref a)) Q E s:=by
 have g:s.TypeIs (.ref a) "set":=⟨_,c,rfl⟩;refine nV g oR (iH oR g D7 ?_ (PySem.F.args_set_iter_1 _));unfold Builtin.«frozenset.__iter__» Builtin.Frozenset.slot0 slotArgs;simp only[tV,Bool.not_true,Bool.false_eq_true,↓reduceIte,bind_assoc,jM,bne_self_eq_false];refine fB (fE ?_)
 try dsimp only
 refine fB (fE ?_);refine fB (fB (mR c rfl d (fE ?_)));refine fB ?_;refine fB (kE c rfl d ?_);refine fB (fB (oB (fE (fE ?_))));refine sH (λ_=>?_) λz=>?_
 ·refine fB (Se es.size _ _ (jI) λb e f=>?_);have o:b.length<=76:=by rwa [f.length_eq,jI]
  refine fB (qT ?_ (by rw[fF,iT];lia));refine fB (wpAny_setEpoch_of (fC _ c) rfl d ?_);refine fB (jJ (fE ⟨_,rfl,"set_iterator",_,⟨_,fO _ rfl,rfl⟩,ic.lookup,?_⟩) (by size_fits));rw[iN];exact l b e _ f rfl
 ·exfalso;refine z ?_;rw[gG];exact⟨by show(!(w.params.followText "set-order"))=true;rw[n];rfl,j⟩
end
section
variable{prog:gX}{w:iI}{A:iR}{E:fG->fP->Prop}{s:fP}{a L:Addr}{es:Array (Int×fG)}{ep:Nat}{t:jV}
abbrev NF(b:List Nat)(es:Array (Int×fG)):Nat->fG->Prop:=λi v=>∃p e,b[i]?=some p/\es[p]?=some e/\v=e.2
def Te(hh:A.handled=none)(hf:t.fits es.size=true)(bt:w.params.followText "set-order"=false)(hd:(!t.plain && decide (es.size>1))=true)(U:es.size<=76)(C:Ae s.1 a es ep t)(m:L≠a)(c:fG)(c0:Nat)
  (hL:s.1.get? L=some {cls:=.type "list",data:=.seq #[] c0})
  (hR:∀j G O y h c',uR j (hJ es.size)->(∀b o,b≠L->s.1.get? b=some o->O.get? b=some o)->O.get? L=some {cls:=.type "list",dict:=none,data:=.seq h c',slots:=#[]}->ItemsOf (NF j es) h es.size->R (.ok (.ret c)) {s with heap:=O,toks:=y,drawn:=G}):
  gK (gR prog w) A.in1 (Builtin.List.listExtendWith (.ref L) (.ref a) c)
   (λQ B=>match Q with|.done f=>R (.ok f) B|.again p=>p.quiet=true/\nR (gR prog w) A p R B) (λe B=>R (.error e) B) s:=by
 have q:=fS hL;have zn:es.size<=fR:=by rw[iT];lia
 refine fB (pL ⟨_,C,rfl⟩ ?_);have n1:Builtin.List.listSameRef (.ref L) (.ref a)=false:=by simp[Builtin.List.listSameRef,m]
 have n2:(oH "set"==oH "list")=false:=by decide
 have n3:(oH "set"==oH "tuple")=false:=by decide
 simp only[n1,n2,n3,Bool.or_false,Bool.false_eq_true,if_false];refine fB (GS hf bt hd U C λj G x hp Y=>?_);have H:∀b o,s.1.get? b=some o->x.get? b=some o:=λb o e=>by
  rw[Y];exact fC _ (fC _ e)
 have M:I8 x s.1.1.size j:=by
  rw[Y];exact fC _ (fO _ rfl)
 have N:uS x (s.1.1.size+1) s.1.1.size a 0 es.size ep:=by
  rw[Y];have:((s.1.push {cls:=.type "tuple",data:=.seq (j.map λ(i:Nat)=>jR i).toArray}).push {cls:=.type "set_iterator",data:=.fields #[.ref s.1.1.size,jR 0,.ref a,jR _,jR _]}).get? (s.1.push {cls:=.type "tuple",data:=.seq (j.map λ(i:Nat)=>jR i).toArray}).objs.size=some {cls:=.type "set_iterator",data:=.fields #[.ref s.1.1.size,jR 0,.ref a,jR es.size,jR ep]}:=fO _ rfl;rw[iN]at this;exact this
 have r:=H _ _ C;have v:=H _ _ hL;have J:L∉[s.1.1.size+1,a,s.1.1.size]:=by
  simp only[iK,lW,or_false,not_or];exact⟨hU (mJ q),m,hU q⟩
 have run:∀(n:Heap)(p y:Nat),(uS n (s.1.1.size+1) s.1.1.size a 0 es.size ep/\Ae n a es ep t/\I8 n s.1.1.size j)->(∀b o,b≠L->s.1.get? b=some o->n.get? b=some o)->n.get? L=some {cls:=.type "list",data:=.seq #[] p}->
   nR (gR prog w) A (.builtin "list.extend.loop" ⟨[.ref L,.ref (s.1.1.size+1),c],[]⟩) R {s with heap:=n,toks:=y,drawn:=G}:=by
  intro n p y st kp g;refine codeAny_extend_loopS (ER (w:=w) (A:=A.in1) (ep:=ep) (t:=t) (a:=a) (I:=s.1.1.size+1) (T:=s.1.1.size) (by simpa using hh) hf hp (hU (mJ (fS (C)))) (hU (lV _))).toS zn L J c es.size 0 _ #[] p rfl (iO _) st g (ItemsOf.nil _) λs3 h c3 mv g3 ia=>?_;rw[Moved.eq_with mv];refine hR j G s3.1 s3.toks h c3 hp (λb o l e=>mv.1 b o (λz=>?_) (kp b o l e)) g3 ia;rcases List.mem_cons.mp z with z|z
  ·exact l z
  ·have:=fS e;rw[List.mem_singleton.mp z]at this;exact jA _ (Nat.lt_of_succ_lt this)
 refine fB (iX (Lv ⟨_,(r),rfl⟩ ?_));refine fB (oG ?_);refine fB ?_;refine fB (nQ v rfl ?_);have u:=iV (sS (·.push lD)) v rfl;refine nQ u rfl ?_;have d:∀b o,b≠L->x.get? b=some o->((x.update L (sS (·.push lD))).update L (sS (·.pop))).get? b=some o:=λb o l e=>by
  rwa [kI _ _ (kS l),kI _ _ (kS l)]
 refine fE ⟨kW PySem.F.plain_extend_loop _,run _ _ _ ⟨d _ _ (λz=>J (by simp[z])) N,d _ _ (kS m) r,d _ _ (λz=>J (by simp[z])) M⟩ (λb o l e=>d b o l (H b o e)) (iV _ u rfl)⟩
end
section
variable{prog:gX}{w:iI}{A:iR}{E:fG->fP->Prop}{s:fP}{a L:Addr}{es:Array (Int×fG)}{ep:Nat}{t:jV}
def M5(N:A.handled=none)(O:t.fits es.size=true)(U:w.params.followText "set-order"=false)(Q:(!t.plain && decide (es.size>1))=true)(G:es.size<=76)(I:Ae s.1 a es ep t)
  (J:∀h l d j c,uR h (hJ es.size)->(∀b o,s.1.get? b=some o->d.get? b=some o)->ItemsOf (NF h es) c es.size->R c.toList {s with heap:=d,toks:=j,drawn:=l}):gK (gR prog w) A (collect (.ref a)) R E s:=by
 have v:=fS (I);refine fB (wpAny_runValue (kJ PyProof.Rows.entry_proto_collect' ?_));refine fB (jJ ?_);refine fE ⟨kW PySem.F.plain_list_iadd _,kJ PyProof.Rows.entry_list_iadd' ?_⟩;generalize M:s.1.push {cls:=.type "list",data:=.seq ([]).toArray}=B;have T:B.get? s.1.1.size=some {cls:=.type "list",data:=.seq #[]}:=by rw[<-M];exact fO _ rfl
 have H:∀b o,s.1.get? b=some o->B.get? b=some o:=λb o e=>by rw[<-M];exact fC _ e
 have z:=Te (prog:=prog) (w:=w) (A:=A) (s:={s with heap:=B}) (L:=s.1.1.size) (a:=a)
  (R:=λq u=>∃h l d j c m,q=.ok _/\u={s with heap:=d,toks:=j,drawn:=l}/\uR h _/\(∀b o,s.1.get? b=some o->d.get? b=some o)/\d.get? s.1.1.size=some {cls:=.type "list",dict:=none,data:=.seq c m,slots:=#[]}/\ItemsOf (NF h es) c es.size)
  N O U Q G (H _ _ I) (jH v) (.ref s.1.1.size) 0 T λh l d j c m p r g n=>⟨h,l,d,j,c,m,rfl,rfl,p,λb o e=>r b o (hU (fS e)) (H b o e),g,n⟩
 refine iP z (λC u x=>?_) λe u x=>?_
 ·cases C with
  |done f=>
   obtain⟨h,l,d,j,c,m,e,rfl,p,r,g,n⟩:=x;cases e;refine fB (wpAny_load g ?_);exact fE (J h l d j c p r n)
  |again c1=>
   refine⟨x.1,oK x.2 λq Y y=>?_⟩;obtain⟨h,l,d,j,c,m,rfl,rfl,p,r,g,n⟩:=y;refine fB (wpAny_load g ?_);exact fE (J h l d j c p r n)
 ·obtain⟨h,l,d,j,c,m,e,_⟩:=x;cases e
def TC(N:n7 w es t):PySem.W.KdlSrc prog w "set" a a es.size (λi v=>∃e,(rp w a ep es)[i]?=some e/\v=e.2) (λh=>Ae h a es ep t) where
 type:=λ_ b=>⟨_,b,rfl⟩
 there:=λ_ b=>⟨fS (b),fS (b)⟩
 keep:=λ_ _ b d=>d a (.inl rfl) _ b
 notList:=by decide
 notTuple:=by decide
 hint:=λ_ _ _ _ b c=>Lv ⟨_,b,rfl⟩ c
 iter:=λA s f b=>⟨_,_,(λ_ _ c=>JI N b c),EO f N (hU (fS (b))),⟨by
  have:ox w t 0=0:=by unfold ox;split<;>rfl
  rw[this];exact fO _ rfl,fC _ b⟩⟩
end
section
variable{prog:gX}{w:iI}{A:iR}{E:fG->fP->Prop}{s:fP}{a:Addr}
def Xz{l z:List (Int×fG)}(p:l.Perm z):∀{b:List aq},h7 prog w h l b->∃c,c.Perm b/\h7 prog w h z c:=by
 induction p with
 |nil=>intro b q;exact⟨b,oC _,q⟩
 |cons x p G=>
  rintro b ⟨k,r,e,u,o⟩
  subst e;obtain⟨v,j,g⟩:=G o;exact⟨k::v,j.cons k,k,v,rfl,u,g⟩
 |swap x y l=>
  rintro b ⟨k,r,e,u,d,f,I,o,H⟩
  subst e;subst I;exact⟨d::k::f,pE _ _ _,d,k::f,rfl,o,k,f,rfl,u,H⟩
 |trans L J n m=>
  intro b q;obtain⟨M,j,g⟩:=n q;obtain⟨d,C,B⟩:=m g;exact⟨d,C.trans j,B⟩
def Xx:∀{l:List (Int×fG)}{d:List aq},h7 prog w h l d->KeysIn prog w h (l.map (·.2)) d:=by
 intro c;induction c with
 |nil=>rintro d e;exact e
 |cons _ _ f=>rintro _ ⟨k,r,e,⟨_,b,m,j⟩,g⟩;exact⟨k,r,b,e,m,j,f g⟩
def Lu{T:List aq}(hh:A.handled=none)(S:vD prog w h0 s.1 a T)(κ:T.length<=76)
  (hR:∀M n q O h,(∀b o,s.1.get? b=some o->n.get? b=some o)->uR h T->KeysIn prog w h0 O h->R O {s with heap:=n,toks:=q,drawn:=M}):gK (gR prog w) A (collect (.ref a)) R E s:=by
 obtain⟨ks,f,I,t,g,Q,el,nd,U,le,pl⟩:=S;have ln:f.size=T.length:=by rw[<-U.length_eq,<-el.len,gN]
 have hf:t.fits f.size=true:=by
  obtain⟨h1,h2⟩:=Q.tou7.fits;unfold tL;rw[gG];exact⟨by rw[h1];simp,decide_eq_true h2⟩
 have zn:f.size<=fR:=by rw[iT];lia
 have x:∀(l:List _),l.Perm f.toList->∃h,uR h T/\KeysIn prog w h0 _ h:=λl y=>by
  obtain⟨C,u,r⟩:=Xz y.symm el;exact⟨C,u.trans U,Xx r⟩
 by_cases L:w.params.followText "set-order"=false/\(!t.plain && decide (f.size>1))=true
 ·refine M5 hh hf L.1 L.2 (by lia) g λB M n q c y G Y=>?_;have yl:B.length=f.size:=by rw[y.length_eq,jI]
  have H:c.toList=(B.map λi=>f.toList.getD i (0,.none)).map (·.2):=by
   refine mK λi=>?_
   by_cases v:i<c.size
   ·have m:c.toList[i]?=some c[i]:=by rw[gZ];exact gS v
    obtain⟨p,e,J,z,e3⟩:=Y.2 i c[i] (gS v);rw[m,gO,gO,J,e3];rw[<-gZ]at z;simp only[sG,gW,z,Option.getD_some]
   ·rw[jD (by rw[gN];lia),jD (by rw[fF,fF,yl,<-Y.1];lia)]
  obtain⟨h,u,r⟩:=x _ (yf (order:=B) (d:=_) (by exact y));rw[H];exact hR M n q _ h G u r
 ·have N:n7 w f t:=⟨hf,Q.rise,le,by
   cases bt:w.params.followText "set-order" with
   |true=>exact .inl rfl
   |false=>
    cases e:(!t.plain && decide (f.size>1))with
    |false=>exact .inr rfl
    |true=>exact absurd ⟨bt,e⟩ L⟩
  refine sJ (TC N) hh g zn λn q c G j=>?_;have H:c.toList=(rp w a I f).toList.map (·.2):=by
   refine mK λi=>?_
   by_cases v:i<c.size
   ·have m:c.toList[i]?=some c[i]:=by rw[gZ];exact gS v
    obtain⟨e,J,z⟩:=j.2 i c[i] (gS v);rw[m,gO,gZ,J,z];rfl
   ·rw[jD (by rw[gN];lia),jD (by rw[fF,((o4 w a I f).length_eq),gN,<-j.1];lia)]
  obtain⟨h,u,r⟩:=x _ (o4 w a I f);rw[H];exact hR s.drawn n q _ h G u r
end
def F8(x:Option HO)(o:Obj):Obj:=match x with
 |some (.tup _)=>o
 |_=>{o with data:=.freed}
def Vc(h:∀a,x≠some (.tup a)):(F8 x o).data=.freed:=by
 unfold F8;split
 ·rename_i a;exact absurd rfl (h a)
 ·rfl
def Js(H:Hp)(h:Heap):Heap:={h with objs:=h.objs.mapIdx λi o=>F8 (H i) o}
def Yd{h:Heap}{o:Obj}(e:h.objs[b]?=some o)(a:o.data≠.freed):h.get? b=some o:=by
 unfold Heap.get?;rw[e];obtain⟨c,d,f,g⟩:=o;cases f<;>first|rfl|exact absurd rfl a
def Ye{h:Heap}{o:Obj}(e:h.get? b=some o):h.objs[b]?=some o/\o.data≠.freed:=by
 unfold Heap.get? at e;cases a:h.objs[b]? with
 |none=>rw[a]at e;cases e
 |some f=>
  rw[a]at e;obtain⟨c,d,g,j⟩:=f;cases g<;>first|(cases e;exact⟨rfl,λz=>nomatch z⟩)|cases e
def FD{h:Heap}(e:h.get? b=some o)(a:H b=some (.tup f)):(Js H h).get? b=some o:=by
 obtain⟨d,c⟩:=Ye e;refine Yd ?_ c;show(h.objs.mapIdx λi o=>F8 (H i) o)[b]?=some o;rw[Array.getElem?_mapIdx,d];rw[a];rfl
def Cu{h:Heap}(e:(Js H h).get? b=some o):h.get? b=some o/\∃d,H b=some (.tup d):=by
 obtain⟨n,m⟩:=Ye e;have a:(h.objs.mapIdx λi o=>F8 (H i) o)[b]?=some o:=n;rw[Array.getElem?_mapIdx]at a;cases f:h.objs[b]? with
 |none=>rw[f]at a;cases a
 |some j=>
  rw[f]at a;have g:F8 (H b) j=o:=gV a
  by_cases c:∃d,H b=some (.tup d)
  ·obtain⟨d,l⟩:=c;rw[l]at g;subst g;exact⟨Yd f m,d,l⟩
  ·have:=Vc (o:=j) λd z=>c ⟨d,z⟩;rw[g]at this;exact absurd this m
section
variable{P:gX}{w:iI}{G H:Hp}{h:Heap}{K:KA}
def Pt(H:Hp):Hp:=gT (λ_=>none) H
def GC(ok:n0 P w H h):n0 P w (Pt H) (Js H h):=by
 intro a o e
 by_cases c:∃b,H a=some (.tup b)
 ·obtain⟨b,f⟩:=c;rw[show Pt H a=some _ from Am f]at e;cases e;obtain⟨z,d,r,g,l,j⟩:=(ok a _ f);exact⟨z,d,r,g,FD l f,j⟩
 ·rw[show Pt H a=none from Hs λb z=>c ⟨b,z⟩]at e;cases e
def HL(ok:n0 P w H h)(q:lz H k b):eT P w (Js H h) k b:=sr (GC ok) (q.mono λb xs e=>Am e)
def BA(r:RelV x (.ref b)):x=.ref b:=by
 cases x<;>first|(cases r;rfl)|(obtain⟨_,z⟩:=r;cases z)|cases r
def Qs(e:(a0 P w).is k v=true)(r:RelV x v):x=kV k:=by
 rcases cc e with ⟨i,t,rfl,rfl⟩|⟨y,t,rfl,rfl⟩
 ·cases x<;>first|(obtain⟨_,z⟩:=r;cases z;rfl)|(obtain⟨_,z⟩:=r;cases z)|cases r
 ·cases x<;>first|(obtain⟨_,z⟩:=r;cases z;rfl)|(obtain⟨_,z⟩:=r;cases z)|cases r
theorem Dk:∀{b:List gd}{a:List fG}{xs:List V},ItemsAre (a0 P w) b a->Vals xs a->xs=b.map kV
 |_,_,_,.nil,r=>by cases r;rfl
 |_,_,_,.cons f d,r=>by
  cases r with
  |cons e c=>rw[Qs f e,Dk d c,fL]
def DI(ok:n0 P w H h){d:List gd}(q:oF (a0 P w) (Js H h) d b):H b=some (.tup (d.map kV)):=by
 obtain⟨o,c,n,e,z,m,l⟩:=q;obtain⟨u,v,f⟩:=Cu e;obtain⟨_,j,r,x,g,p,y,a⟩:=(ok b _ f);rw[u]at g;cases g;rw[m]at a;cases a;rw[f,Dk (by simpa using l) r]
def Zx(ok:n0 P w H h):∀{f:aq}{a:List V}{c:List fG},gL P w (Js H h) f c->Vals a c->wL H f a:=by
 intro d;induction d with
 |nil=>rintro a c e r;rw[e]at r;cases r;rfl
 |cons k f g=>
  rintro a c ⟨v,t,e,q,m⟩ r
  subst e;cases r with
  |cons j l=>
   refine⟨_,_,rfl,?_,g m l⟩;cases k with
   |inl k=>exact Qs q j
   |inr n=>obtain⟨b,rfl,q⟩:=q;exact⟨b,BA j,DI ok q⟩
def Yw(ok:n0 P w H h)(q:eT P w (Js H h) j b):lz H j b:=by
 obtain⟨o,c,n,e,z,p,m⟩:=q;obtain⟨v,g,d⟩:=Cu e;obtain⟨_,l,r,x,f,u,y,a⟩:=(ok b _ d);rw[v]at f;cases f;rw[p]at a;cases a;exact⟨g,d,Zx ok (by simpa using m) r⟩
def N3(j:∀k b,eT P w n k b->lz H k b):∀{g:List fG}{d:List aq},KeysIn P w n g d->∃a,Vals a g/\dg K (gT G H) (d.map kT) a:=by
 intro c;induction c with
 |nil=>rintro d e;rw[e];exact⟨[],.nil,rfl⟩
 |cons _ _ f=>
  rintro _ ⟨k,r,b,p,o,q,t⟩
  subst p o;obtain⟨a,m,l⟩:=f t;exact⟨.ref b::a,.cons rfl m,⟨_,_,rfl,Hi (j k b q),l⟩⟩
def ZH(H:Hp):List V->List aq->Prop
 |[],a=>a=[]
 |v::c,a=>∃k r b,a=k::r/\v=.ref b/\lz H k b/\ZH H c r
def Ui(ok:n0 P w H h):∀{f:List V}{a:List fG}{c:List aq},ZH H f c->Vals f a->KeysIn P w (Js H h) a c:=by
 intro d;induction d with
 |nil=>rintro a c e r;cases r;exact e
 |cons v f g=>
  rintro a c ⟨k,l,b,o,n,q,t⟩ r
  subst o n;cases r with
  |cons m j=>exact⟨k,l,b,rfl,m,HL ok q,g t j⟩
def kr:List D->Option (List aq)
 |[]=>some []
 |d::a=>match bu d,kr a with
  |some k,some r=>some (k::r)
  |_,_=>none
def WS(o:c7 G H):∀{g:List D}{c:List V}{f:List aq},dg K G g c->kr g=some f->ZH H c f:=by
 intro j;induction j with
 |nil=>rintro c f dl e;cases e;rw[dl];rfl
 |cons d g l=>
  rintro c f ⟨v,A,q,x,y⟩ e
  subst q;unfold kr at e;cases a:bu d with
  |none=>rw[a]at e;cases e
  |some k=>
   cases m:kr g with
   |none=>rw[a,m]at e;cases e
   |some r=>
    rw[a,m]at e;cases e;cases d with
    |tup B=>
     obtain⟨b,n,rfl,p,u⟩:=x;exact⟨k,r,b,rfl,rfl,lz.mono (λb xs z=>o b _ z) ⟨n,p,Jv u a⟩,l y m⟩
    |_=>cases a
noncomputable def yg(d:D):Option D:=match d with
 |.lst b=>(kr b).bind λa=>if(ug a).length<=76 then(gj ((ug a).map kT)).map .lst else none
 |_=>none
def gw(d:D):Option D:=yg d
end
section
variable{X:Cx}
inductive w5(X:Cx)(H0:Hp)(p:Addr)(T:List aq)(h:Heap):Prop
 |mk (h0) (_:vD X.prog X.w h0 h p T) (_:∀k b,eT X.prog X.w h0 k b->lz H0 k b):w5 X H0 p T h
def GO(X:Cx)(a:Hp)(p:Addr)(T:List aq):HO:=.ext (w5 X a p T)
inductive vG(X:Cx)(xs:List V)(H:Hp)(Q:VK):Prop
 |mk (a vs kz) (_:xs=[.ref a]) (_:i' X.K H a vs) (_:ZH H vs kz) (_:(ug kz).length<=76) (_:∀p,H p=none->Q (.ref p) (upd H p (GO X H p (ug kz)))):vG X xs H Q
def Mt(Y:X.calm=true)(T:X.A.units+12<jS):jo X (.type "set") (vG X):=by
 intro d s σ H xs us Q I r q;obtain⟨a,vs,kz,rfl,n,N,p,q⟩:=q;obtain⟨u,rfl,B⟩:=j8 r;cases B;obtain⟨O,v,M,_⟩:=I.list n;refine Sz T (I.ok.hd Y) M.isList (by simpa using Ui I.fg N v) (λc o e=>(Cu e).1) p λh' m h U=>?_;refine⟨.ref s.1.1.size,_,I.laid (o:=GO X H s.1.1.size _) (t':=m) (λb o e=>U b o (fS e) e) (fQ _) ?_,rfl,q _ (I.fg.fresh (fQ _))⟩;refine⟨⟨_,h,λk b z=>Yw I.fg z⟩,?_,λh1 h2 ⟨h0,x,y⟩ k=>⟨h0,?_,y⟩⟩
 ·obtain⟨f,j,l,t,g,_⟩:=h;exact⟨_,g⟩
 ·obtain⟨f,j,l,t,g,q,L,J,G,E,C⟩:=x;exact⟨f,j,l,t,k _ g,q,L,J,G,E,C⟩
inductive s8(X:Cx)(xs:List V)(H:Hp)(Q:VK):Prop
 |mk (p T H0 G ds') (_:xs=[.ref p]) (_:H p=some (GO X H0 p T)) (_:(∀b ys,H0 b=some (.tup ys)->H b=some (.tup ys))) (_:c7 G H) (_:T.length<=76) (_:gj (T.map kT)=some ds') (_:∀q vs',H q=none->dg (kx X) (gT G H) ds' vs'->Q (.ref q) (upd H q (.lst vs'))):s8 X xs H Q
def Jn(v:X.A.units+5<jS)(C:X.calm=true):jo X (.builtin "sorted") (s8 X):=by
 intro d s σ H xs O Q I r q;obtain⟨p,T,H0,G,M,rfl,B,x,h,c,L,q⟩:=q;obtain⟨u,rfl,l⟩:=j8 r;cases l;obtain⟨⟨Y,E,a⟩,_,_⟩:=I.fg p _ B;refine Bd v I (qi h).gh (λQ' E' y=>?_) q;refine Lu (I.ok.hd C) E c λN J g f U o m n=>?_;obtain⟨e,j,dl⟩:=N3 (G:=G) (H:=H) (λk b z=>(a k b z).mono x) n;exact y N J g f e _ o j dl (Eb ((m.map kT).symm) L)
end
section
variable{X:Cx}{B:Hp}{E:EK}{e:Expr}{g:En->Res}{pos p pos' p':Pos}
def Pa(o:c7 G H)(U:Arg (kx X) G H C x)(A:yg C=some d)(q:∀v L J,Ext G H L J->Den (kx X) L d v->Q v J):
  vG X [x] H λx Y=>s8 X [x] Y Q:=by
 cases C with
 |lst I=>
  have h:((kr I).bind λj=>if(ug j).length<=76 then(gj _).map D.lst else none)=some d:=A;cases r:kr I with
  |none=>rw[r]at h;cases h
  |some j=>
   rw[r]at h;have c:(if(ug j).length<=76 then(gj _).map D.lst else none)=some d:=h
   by_cases f:(ug j).length<=76
   ·rw[fM f]at c;cases u:gj _ with
    |none=>rw[u]at c;cases c
    |some y=>
     rw[u]at c;cases c;obtain⟨a,N,rfl,O,dl⟩:=U.lst o;refine⟨a,N,j,rfl,O,WS o dl r,f,λp z=>?_⟩;have n:=Ext.own o (GO X H p (ug j)) z;refine⟨p,ug j,H,G,y,rfl,ai,λb ys e=>?_,n.gh,f,u,λq' M l T=>?_⟩
     ·rwa [ag (bj e z)]
     ·have m:=qi n.gh;exact q _ _ _ (n.trans (m.trans (Ext.new m.gh _ l))) (uy m.gh l T)
   ·rw[fJ f]at c;cases c
 |_=>cases A
def Vh(j:X.A.units+12<jS)(f:X.calm=true)(m:Gl X "sorted")(l:X.mg "sorted"=none)(b:Gl X "set")(a:X.mg "set"=none)(n:jc X B E e g)(c:gQ [e] X.env=(false,eval e X.env)::gQ [] X.env):
  fh X B E (.Call (.Name "sorted" p) [.Call (.Name "set" p') [e] [] pos'] [] pos) (g1 yg g):=
 PE.imp (l8 (Jn (by lia) f) m l PyProof.Rows.boot_sorted (jb (ni (Mt f j) b a PyProof.Rows.boot_set (d9 n ig c) (by decide) (by decide) c rfl) oq rfl) (by decide) (by decide) rfl rfl) λσ H Q q=>
  OH (rr:=λxs H Q=>vG X xs H λx u=>s8 X [x] u Q) (λG H x v d h r o Q q=>Pa h r o q) q
end
end Pu
namespace L2
open PySem PySem.Spec PyProof.Rows
section
variable{X:Cx}{pins:List (Addr×Obj)}{σ:St}{H:Hp}{s:fP}{h':Heap}{t':Nat}{fs:List Addr}
def Inv.wD(I:Inv X pins σ H s)(f:∀b∈fs,oe X pins H b)(k:∀b o,b∉fs->s.1.get? b=some o->h'.get? b=some o):Inv X pins σ H {s with heap:=h',toks:=t'}:=by
 have old:∀{b:Addr}{o:HO},H b=some o->b∉fs:=λ{b o} q c=>by
  rw[(f b c).1]at q;cases q
 refine I.step (ch:=fs) (λb c=>?_) (λb o _ _ a q _=>k b o a q) (λb o _ _ a q _=>⟨o.slots,k b o a q⟩) (λb o _ q n=>n) (λb o a q=>⟨o,k b o a q⟩)
  (λb h q=>q) (λb o v q=>q) (λb y q=>q) (λm p=>?_) (λb j q=>?_) I.bare
 ·obtain⟨f0,B,L,A,x,u⟩:=f b c;exact⟨A,B,x,u⟩
 ·obtain⟨o,C,E,l,r⟩:=p;exact⟨o,C,E,k _ o (λc=>(f _ c).2 rfl) l,r⟩
 ·refine(I.fg b j q).uX (λd e g r=>k d e ?_ r) (λd z=>z) (λd h z=>z) λd J G z=>z;obtain z|z:=g
  ·rw[z];exact old q
  ·exact old z
def Inv.sy(I:Inv X pins σ H s)(g:∀b∈fs,oe X pins H b)(k:∀b o,b∉fs->s.1.get? b=some o->h'.get? b=some o){x y:V}{u v:fG}(p:h'.get? s.1.1.size=some {cls:=.type "tuple",data:=.seq #[u,v]})(B:RelV x u)(A:RelV y v):
  Inv X pins σ (upd H s.1.1.size (.tup [x,y])) {s with heap:=h',toks:=t'}:=by
 have old:∀{b:Addr}{o:HO},H b=some o->b∉fs:=λ{b o} q a=>by
  rw[(g b a).1]at q;cases q
 have c:∀{b:Addr}{o:HO},H b=some o->upd H s.1.1.size (.tup [x,y]) b=some o:=λq=>(ag (bj q (I.fg.fresh (fQ _)))).trans q;refine I.step (ch:=fs) (λb a=>?_) (λb o _ _ d q _=>k b o d q) (λb o _ _ d q _=>⟨o.slots,k b o d q⟩) (λb o _ q n=>?_) (λb o d q=>⟨o,k b o d q⟩)
  (λb j q=>c q) (λb o v q=>c q) (λb y q=>c q) (λm E=>?_) (λb l q=>?_) I.bare
 ·obtain⟨f0,M,U,L,J,G⟩:=g b a;exact⟨L,M,J,G⟩
 ·rwa [ag (hU (fS q))]
 ·obtain⟨o,N,O,C,r⟩:=E;exact⟨o,N,O,k _ o (λa=>(g _ a).2 rfl) C,r⟩
 ·by_cases a:b=s.1.1.size
  ·subst a;rw[ai]at q;cases q;exact⟨by rw[iT];simp,[u,v],.cons B (.cons A .nil),_,p,rfl,0,rfl⟩
  ·rw[ag a]at q;refine(I.fg b l q).uX (λe f h r=>k e f ?_ r) (λe z=>c z) (λe j z=>c z) λe T Q z=>c z;obtain z|z:=h
   ·rw[z];exact old q
   ·exact old z
end
end L2
namespace Pu
open PySem PySem.Spec PyProof.Rows L2
def bW(K:gA)(a:Addr):It:=
 ⟨λi H=>∃xs x,i' K H a xs/\xs[i]?=some x,λi H v b=>∃p x,H p=none/\v=.ref p/\b=upd H p (.tup [.int (i:Int),x])/\∀xs,i' K H a xs->xs[i]?=some x,λi H=>∃xs,i' K H a xs/\xs.length<=i⟩
def eE(e it a:Addr)(i:Nat)(h:Heap):Prop:=(∃old,IsEnum h e it (i:Int) old)/\h.IsListIter it a i
def V6{P:gX}{w:iI}{K:gA}{B:List Expr}{k1}{tp:Pos}(a e it:Addr)(m:e≠it):Turn P w K (.Tuple B k1 tp) (bW K a) [e,it] e (eE e it a) where
 mem:=by simp
 obj:=λi h st b c=>by
  obtain⟨⟨old,d⟩,o,M,U,hd⟩:=st;rcases List.mem_cons.mp c with rfl|c
  ·exact⟨_,d,λv z=>by
    cases z⟩
  ·have e:b=it:=by simpa using c
   subst e;exact⟨o,M,λv z=>by rw[hd]at z;cases z⟩
 keep:=λi h h' st k=>⟨let ⟨old,d⟩:=st.1;⟨old,k e (by simp) _ d⟩,st.2.at λo q=>k it (by simp) o q⟩
 item:=by
  intro X Y J hK U i g s σ H E I l st O;subst Y J hK;obtain⟨xs,x,A,hx⟩:=O;obtain⟨G,C,p,hz⟩:=I.list A;obtain⟨u,hu,ru⟩:=C.get hx;obtain⟨⟨old,d⟩,f⟩:=st;obtain⟨f0,f1,f2,f3,f4,f5⟩:=l e (by simp);obtain⟨g0,g1,g2,g3,g4,g5⟩:=l it (by simp);have y:=fS d;refine wpAny_pyNext_enum_item d f p.isList (by simpa using hu) m λh1 T n L ξ N=>?_;refine⟨_,rfl,wpAny_letOwnedTupleGo_enum T λh2 Q sb=>?_⟩;have j:=sb;have ch:∀b,b∉[e,it]->b≠e/\b≠it:=λb c=>by simpa using c
  have I2:Inv X g σ (upd H s.1.1.size (.tup [.int _,x])) {s with heap:=h2,toks:=s.toks+1}:=I.sy l (λb o c q=>(λb o r β q=>j.extBut b o r (N b o r β q)) b o (ch b c).1 (ch b c).2 q) (j.extBut _ _ (jH y) L) ⟨_,rfl⟩ ru;refine⟨.ref s.1.1.size,_,I2,rfl,⟨_,x,(I.fg.fresh (fQ _)),rfl,rfl,λys hy=>by rwa [I.u3 hy A]⟩,⟨⟨u,?_⟩,?_⟩,λb c=>?_⟩
  ·have:((i+1:Nat):Int)=(i:Int)+1:=by push_cast;rfl
   exact Q
  ·exact n.at λo q=>j.extBut it o (kS m) q
  ·have z:=(l b c).1;have:b<s.1.1.size:=by
    rcases List.mem_cons.mp c with rfl|c
    ·exact y
    ·have z:b=it:=by simpa using c
     subst z;obtain⟨o,M,_⟩:=f;exact fS M
   rwa [ag (hU this)]
 done:=by
  intro X Y J hK U i g s σ H E I l st O;subst Y J hK;obtain⟨xs,A,hx⟩:=O;obtain⟨G,C,p,hz⟩:=I.list A;obtain⟨⟨old,d⟩,f⟩:=st;obtain⟨g0,g1,g2,g3,g4,g5⟩:=l it (by simp);have hl:=C.length;exact wpAny_pyNext_enum_end (I.ok.hd U) d f p.isList (by simp;lia) λh' eb=>⟨rfl,I.turned (λb o c e=>eb b o c e) g0 g1 g3 g4 g5⟩
 self:=λ_ _ _ _ _ st h=>let ⟨_,d⟩:=st.1;wpAny_pyIter_enum d h
def ue:Nat->List D->List D
 |_,[]=>[]
 |i,d::r=>.tup [.int (i:Int),d]::ue (i+1) r
theorem Fs:∀(i:Nat)(a:List D),(ue i a).length=a.length
 |_,[]=>rfl
 |i,d::r=>by rw[ue,fI,fI,Fs]
theorem Fq:∀(i j:Nat)(a:List D),(ue i a)[j]?=(a[j]?).map λd=>.tup [.int ((i+j:Nat):Int),d]
 |_,_,[]=>by simp[ue]
 |i,0,d::r=>by simp[ue]
 |i,j+1,d::r=>by
  rw[ue,jQ,jQ,Fq _ j r];rw[show i+1+j=i+(j+1) by lia]
section
variable{X:Cx}{B:Hp}{E:EK}{e:Expr}{g:En->Res}{pos p tp:Pos}{xX:List Expr}{k1:Nat}
def Yp{K:KA}{a:Addr}{o:Hp}{l:List D}{b:List V}{S:Hp->Hp->Prop}(h:∀G H,S G H->c7 G H->i' K H a b/\c7 o G)(dl:dg K o l b):yk K (bW K a) (ue 0 l) S:=λi G H u f=>by
 obtain⟨q,g⟩:=h G H u f;refine⟨λd c=>?_,λr=>⟨b,q,by rw[Fs]at r;rwa [<-dl.length]⟩⟩;rw[Fq,lS]at c;cases j:l[i]? with
 |none=>rw[j]at c;cases c
 |some L=>
  rw[j]at c;cases c;obtain⟨v,n,J⟩:=dl.get j;refine⟨⟨b,v,q,n⟩,λx M ⟨p,y,m,I,C,A⟩=>?_⟩;subst I C;have z:=A b q;rw[n]at z;cases z;exact⟨_,Ext.new f _ m,n9 f m (dg.append (dg.one (d:=.int _) rfl) (dg.one (J.mono g)))⟩
end
section
variable{prog:gX}{w:iI}{A:iR}{E:fG->fP->Prop}{s:fP}
def mi{a}(b:tW s.1 it t i)(j:pO s.1 t a)(h:a[i]?=some x)
  (m:∀g,tW g it t (i+1)->iJ it s.1 g->Q x {s with heap:=g}):gK (gR prog w) A (nM (.ref it)) Q E s:=by
 obtain⟨o,d,l,c⟩:=id b;obtain⟨n,e,_,p,f⟩:=j;refine fB (iM b.typeIs pT (iH pT b.typeIs entry_tupleiter_next ?_ (args_tupleiter_next _)));show gK _ _ (field _ 0>>=_) _ _ s;refine fB (jG d c rfl ?_);refine fB (jG d c rfl ?_);refine fB (iS e f ?_);simp only[iZ,h];refine fB (kY d c (by simp) (fE ⟨x,rfl,fE (m _ ?_ (iQ ..))⟩));exact⟨_,iV _ d (Obj.isFreed_of_fields (qD c _)),(Obj.cls_mapFields ..).trans l,by
  rw[qD c];simp[jR]⟩
def om{a}(j:A.handled=none)(b:tW s.1 it t i)(n:pO s.1 t a)(l:a[i]?=none)
  (p:∀h e,pG it s.1 h->(∃o,h.get? e=some o/\o.cls=.type "StopIteration")->E (.ref e) {s with heap:=h}):gK (gR prog w) A (nM (.ref it)) Q E s:=by
 obtain⟨o,d,u,g⟩:=id b;obtain⟨q,c,_,r,f⟩:=n;refine fB (iM b.typeIs pT (iH pT b.typeIs entry_tupleiter_next ?_ (args_tupleiter_next _)));show gK _ _ (field _ 0>>=_) _ _ s;refine fB (jG d g rfl ?_);refine fB (jG d g rfl ?_);refine fB (iS c f ?_);simp only[iZ,l];refine fB (oG (fB (kY d g (by simp) ?_)));refine fB ?_;refine fB (m:=lR _ _) (oE (by first|rfl|(simp only[lR];rfl)) ?_);refine jJ ?_ (by size_fits);refine fB (rT ?_)
 first|rw[j]|rw[j]
 refine fB (fE (tG ?_));exact p _ _ (((iQ ..).extBut.push _).push _) ⟨_,fO _ rfl,rfl⟩
def EH(f0 a:fG)(TI TO:Addr):Obj:={cls:=.type "zip",dict:=none,data:=.fields #[f0,a,.bool false,.ref TI,.ref TO],slots:=#[]}
structure Src(It:Heap->Nat->Nat->Nat->Prop)(Sq:Heap->Nat->Array fG->Prop):Prop where
 ie:∀{h h':Heap}{a b l i},It h a l i->pG b h h'->a≠b->It h' a l i
 se:∀{h h':Heap}{a b xs},Sq h a xs->pG b h h'->a≠b->Sq h' a xs
 nx:∀{prog:gX}{w:iI}{A:iR}{E:fG->fP->Prop}{s:fP}{it l i:Nat}{xs:Array fG}{x:fG}{Q:fG->fP->Prop},It s.1 it l i->Sq s.1 l xs->xs[i]?=some x->(∀h',It h' it l (i+1)->iJ it s.1 h'->Q x {s with heap:=h'})->gK (gR prog w) A (nM (.ref it)) Q E s
 en:∀{prog:gX}{w:iI}{A:iR}{E:fG->fP->Prop}{s:fP}{it l i:Nat}{xs:Array fG}{Q:fG->fP->Prop},A.handled=none->It s.1 it l i->Sq s.1 l xs->xs[i]?=none->(∀h' e,pG it s.1 h'->(∃o,h'.get? e=some o/\o.cls=.type "StopIteration")->E (.ref e) {s with heap:=h'})->gK (gR prog w) A (nM (.ref it)) Q E s
def YT:Src tW pO:=⟨IsTupIter.extBut,IsTup.extBut,mi,om⟩
def YU:Src Heap.IsListIter Heap.IsList:=⟨Heap.IsListIter.extBut,Heap.IsList.extBut,qW,wpAny_nextOf_list_end⟩
structure ZG(It:Heap->Nat->Nat->Nat->Prop)(h:Heap)(z TI TO i1 i2 l1 l2 k:Nat)(f0 f1:fG):Prop where
 hz:h.get? z=some (EH f0 f1 TI TO)
 hI:IsPair h TI (.ref i1) (.ref i2)
 hO:∃a b,IsPair h TO a b
 h1:It h i1 l1 k
 h2:tW h i2 l2 k
abbrev UJ(h:Heap)(z TI TO d c b a k:Nat)(f0:fG):Prop:=ZG tW h z TI TO d c b a k f0 (.bool false)
abbrev ZL:=ZG Heap.IsListIter
def Cd{e:Addr}{Q:Option fG->fP->Prop}(b:∃o,s.1.get? e=some o/\o.cls=.type "StopIteration")(h:Q none s):
  gK (gR prog w) A (do if(<-isInstance (.ref e) (.type "StopIteration"))then pure (Option.none:Option fG)else throw (.ref e)) Q E s:=by
 obtain⟨o,a,c⟩:=b;exact fB (lH ⟨o,a,c⟩ qV (fE h))
def Si{It:Heap->Nat->Nat->Nat->Prop}{Sq:Heap->Nat->Array fG->Prop}(S:Src It Sq){z TI TO u q J I k:Nat}{xs ys:Array fG}{x y:fG}{Q:Option fG->fP->Prop}(D:rX z TI TO u q J I)(Z:ZG It s.1 z TI TO u q J I k .none (.bool false))
  (β:Sq s.1 J xs)(α:pO s.1 I ys)(hx:xs[k]?=some x)(hy:ys[k]?=some y)
  (hQ:∀B,ZG It B z TI TO u q J I (k+1) (jR s.1.1.size) (.bool false)->IsPair B s.1.1.size x y->B.objs.size=s.1.1.size+1->
   (∀c o,c≠z->c≠TO->c≠u->c≠q->s.1.get? c=some o->B.get? c=some o)->Q (some (.ref s.1.1.size)) {s with heap:=B}):
  gK (gR prog w) A (pQ (.ref z)) Q E s:=by
 obtain⟨j,v,⟨a,b,γ⟩,h1,h2⟩:=Z;have hT:s.TypeIs (.ref z) "zip":=⟨_,j,rfl⟩;refine fB (kX (iM hT mO (iH mO hT rP ?_ (qX _))));show gK _ _ (field _ 2>>=_) _ _ _;refine fB (jG j rfl rfl ?_);refine fB (jG j rfl rfl ?_);refine fB (iS v rfl ?_);refine fB ?_;refine fB (jG j rfl rfl (fE ?_));refine fB (oG ?_);refine fB (jG j rfl rfl ?_);refine fB (jL j (by simp) λg1 O d=>?_);replace O:g1.get? z=some _:=O;refine fB ?_;refine fB (fB (tN ?_));refine fB (S.nx (S.ie h1 d.extBut D.i1z) (S.se β d.extBut D.l1z) hx λg2 p2 h=>fE ?_);have t2:=h.extBut _ _ D.TOi1 (d.extBut _ _ D.TOz γ);refine fB (iS t2 rfl ?_);refine fB (rY t2 λg3 T g=>?_);replace T:IsPair g3 TO x b:=T;refine fB (pI (fE ?_));refine fB (fB (tN ?_));refine fB (mi (((h2.extBut d.extBut D.i2z).extBut h.extBut D.i12.symm).extBut g.extBut D.TOi2.symm) (((α.extBut d.extBut D.l2z).extBut h.extBut D.l2i1).extBut g.extBut D.l2TO) hy λg4 p4 p=>fE ?_);have t4:=p.extBut _ _ D.TOi2 T;refine fB (iS t4 rfl ?_);refine fB (rY t4 λC H n=>?_);replace H:IsPair C TO x y:=H;refine fB (pI (fE (fE ?_)));refine fB (iS H rfl ?_);refine fB (qT ?_);have sz:C.objs.size=s.1.1.size:=by rw[n.1,p.1,g.1,h.1,d.1]
 have k5:∀c o,c≠z->c≠TO->c≠u->c≠q->s.1.get? c=some o->C.get? c=some o:=λc o f M c3 c4 e=>n.extBut _ _ M (p.extBut _ _ c4 (g.extBut _ _ M (h.extBut _ _ c3 (d.extBut _ _ f e))));have z5:=n.extBut _ _ D.TOz.symm (p.extBut _ _ D.i2z.symm (g.extBut _ _ D.TOz.symm (h.extBut _ _ D.i1z.symm O)));have l:=fS z5;refine fB ?_;refine fB (jL (fC _ z5) (by simp) λg7 N Y=>?_);replace N:g7.get? z=some _:=N;refine jL N (by simp) λL G U=>?_;replace G:L.get? z=some _:=G;have m:∀c o,c≠z->C.get? c=some o->L.get? c=some o:=λc o f e=>U.extBut _ _ f (Y.extBut _ _ f (fC _ e));have t8:=U.extBut _ _ (jH l) (Y.extBut _ _ (jH l) (fO _ rfl));have n8:L.objs.size=C.objs.size+1:=by rw[U.1,Y.1,iN]
 rw[sz]at G t8 n8;refine fE ⟨_,rfl,fE ?_⟩;rw[sz];exact hQ L ⟨G,m _ _ D.TIz (k5 _ _ D.TIz D.TITO D.TIi1 D.TIi2 v),⟨x,y,m _ _ D.TOz H⟩,S.ie (S.ie (S.ie (S.ie p2 g.extBut D.TOi1.symm) p.extBut D.i12) n.extBut D.TOi1.symm) m D.i1z,let ⟨o,e,r⟩:=(p4.extBut n.extBut D.TOi2.symm);⟨o,m _ o D.i2z e,r⟩⟩ t8 n8 λc o f M c3 c4 e=>m c o f (k5 c o f M c3 c4 e)
def Sg{It:Heap->Nat->Nat->Nat->Prop}{Sq:Heap->Nat->Array fG->Prop}(S:Src It Sq){z TI TO G C B y k:Nat}{xs u:Array fG}{Q:Option fG->fP->Prop}(hh:A.handled=none)(D:rX z TI TO G C B y)(Z:ZG It s.1 z TI TO G C B y k .none (.bool false))
  (n:Sq s.1 B xs)(I:pO s.1 y u)(p:xs[k]?=none\/u[k]?=none)
  (hQ:∀h',(∀c o,c≠z->c≠TO->c≠G->c≠C->s.1.get? c=some o->h'.get? c=some o)->Q none {s with heap:=h'}):gK (gR prog w) A (pQ (.ref z)) Q E s:=by
 obtain⟨m,M,⟨a,b,L⟩,h1,h2⟩:=Z;have hT:s.TypeIs (.ref z) "zip":=⟨_,m,rfl⟩;refine fB (kX (iM hT mO (iH mO hT rP ?_ (qX _))));show gK _ _ (field _ 2>>=_) _ _ _;refine fB (jG m rfl rfl ?_);refine fB (jG m rfl rfl ?_);refine fB (iS M rfl ?_);refine fB ?_;refine fB (jG m rfl rfl (fE ?_));refine fB (oG ?_);refine fB (jG m rfl rfl ?_);refine fB (jL m (by simp) λg1 r g=>?_);replace r:g1.get? z=some _:=r;refine fB ?_;refine fB (fB (tN ?_));cases H:xs[k]? with
 |none=>
  refine fB (S.en hh (S.ie h1 g.extBut D.i1z) (S.se n g.extBut D.l1z) H λg2 e j J=>?_);obtain⟨v,d,f⟩:=J;have U:=j _ _ D.i1z.symm r;have N:e≠z:=λx=>by subst x;rw[U]at d;cases d;simp[EH]at f
  refine jL U (by simp) λg3 _ l=>?_;exact Cd ⟨v,l.extBut _ _ N d,f⟩ (hQ _ λc o q _ O _ x=>l.extBut _ _ q (j _ _ O (g.extBut _ _ q x)))
 |some x=>
  have hy:u[k]?=none:=by obtain h|h:=p;rw[H]at h;cases h;exact h
  refine fB (S.nx (S.ie h1 g.extBut D.i1z) (S.se n g.extBut D.l1z) H λg2 p2 j=>fE ?_);have Y:=j.extBut _ _ D.TOi1 (g.extBut _ _ D.TOz L);refine fB (iS Y rfl ?_);refine fB (rY Y λg3 t3 l=>?_);refine fB (pI (fE ?_));refine fB (fB (tN ?_));refine fB (om hh (((h2.extBut g.extBut D.i2z).extBut j.extBut D.i12.symm).extBut l.extBut D.TOi2.symm) (((I.extBut g.extBut D.l2z).extBut j.extBut D.l2i1).extBut l.extBut D.l2TO) hy λg4 e s4 J=>?_);obtain⟨v,d,f⟩:=J;have T:=s4 _ _ D.i2z.symm (l.extBut _ _ D.TOz.symm (j.extBut _ _ D.i1z.symm r));have N:e≠z:=λx=>by subst x;rw[T]at d;cases d;simp[EH]at f
  refine jL T (by simp) λg5 _ s5=>?_;exact Cd ⟨v,s5.extBut _ _ N d,f⟩ (hQ _ λc o q c2 O c4 x=>s5.extBut _ _ q (s4 _ _ c4 (l.extBut _ _ c2 (j.extBut _ _ O (g.extBut _ _ q x)))))
end
section
variable{prog:gX}{w:iI}{A:iR}{E:fG->fP->Prop}{s:fP}
def Nw(l:Addr):Obj:={cls:=.type "tuple_iterator",data:=.fields #[.ref l,.int 0 0]}
def NI(h:Heap):Obj:={cls:=.type "tuple",data:=.seq #[.ref h.objs.size,.ref (h.objs.size+1)]}
def VV:Obj:={cls:=.type "tuple",data:=.seq #[.none,.none]}
noncomputable def aB(h:Heap):Obj:={cls:=.type "zip",data:=.fields #[.none,.bool false,.bool false,.ref (h.objs.size+2),.ref (h.objs.size+3)]}
def zH(h:Heap)(b a:Addr):Heap:=((((h.push (Nw b)).push (Nw a)).push (NI h)).push VV).push (aB h)
def Og(b a:Addr)(xs j:Array fG):
  Meets (Builtin.«zip.__new__» ⟨[.type "zip",.ref b,.ref a],[]⟩) (λ_ R s=>pO s.1 b xs/\pO s.1 a j/\
   R (.ok (.ret (.ref (s.1.1.size+4)))) {s with heap:=zH s.1 b a}):=
 .of_wp λprog w A R s h=>by
  obtain⟨n,g,d,m,os⟩:=s;obtain⟨e,c,h⟩:=h;have l:=sub_zip;have f:pO (Shared.heap ⟨n.push {cls:=.type "tuple_iterator",data:=.fields #[.ref b,.int 0 0]},g,d,m,os⟩) a j:=IsTup.push c _
  wp_walk using iter_tuple e,iter_tuple f
  refine⟨_,rfl,?_⟩;simp only[iN];exact h
def S3(f:pO s.1 b xs)(e:pO s.1 a p)
  (h:∀d,UJ d (s.1.1.size+4) (s.1.1.size+2) (s.1.1.size+3) s.1.1.size (s.1.1.size+1) b a 0 .none->d.objs.size=s.1.1.size+5->(∀c o,s.1.get? c=some o->d.get? c=some o)->Q (.ref (s.1.1.size+4)) {s with heap:=d}):
  gK (gR prog w) A (call (.type "zip") [.ref b,.ref a]) Q E s:=by
 refine callType_new F.called_zip (by decide) (F.typeCall_zip_2 _ _) (F.newCall_zip_2 _ _) (λobj=>F.args_object_init_3 obj _ _) F.entry_zip_new (Og b a xs p) ⟨f,e,?_⟩;have m:(s.1.push (Nw b)).objs.size=s.1.1.size+1:=iN ..;have l:((s.1.push (Nw b)).push (Nw a)).objs.size=s.1.1.size+2:=by rw[iN,m]
 have j:(((s.1.push (Nw b)).push (Nw a)).push (NI s.1)).objs.size=s.1.1.size+3:=by rw[iN,l]
 have g:((((s.1.push (Nw b)).push (Nw a)).push (NI s.1)).push VV).objs.size=s.1.1.size+4:=by rw[iN,j]
 have q:(zH s.1 b a).objs.size=s.1.1.size+5:=by unfold zH;rw[iN,g]
 have n:(zH s.1 b a).get? (s.1.1.size+4)=some (aB s.1):=by rw[<-g];exact fO _ rfl
 have r:(zH s.1 b a).get? (s.1.1.size+3)=some VV:=by rw[<-j];exact fC _ (fO _ rfl)
 have u:(zH s.1 b a).get? (s.1.1.size+2)=some (NI s.1):=by rw[<-l];exact fC _ (fC _ (fO _ rfl))
 have g2:(zH s.1 b a).get? (s.1.1.size+1)=some (Nw a):=by rw[<-m];exact fC _ (fC _ (fC _ (fO _ rfl)))
 exact⟨⟨_,n,rfl⟩,h _ ⟨n,u,⟨_,_,r⟩,⟨_,(fC _ (fC _ (fC _ (fC _ (fO _ rfl))))),rfl,rfl⟩,⟨_,g2,rfl,rfl⟩⟩ q λc o x=>fC _ (fC _ (fC _ (fC _ (fC _ x))))⟩
end
def bU(K:gA)(l m:Addr):It:=
 ⟨λi H=>∃xs a x y,mn K H l xs/\mn K H m a/\xs[i]?=some x/\a[i]?=some y,λi H v b=>∃p x y,H p=none/\v=.ref p/\b=upd H p (.tup [x,y])/\(∀xs,mn K H l xs->xs[i]?=some x)/\∀a,mn K H m a->a[i]?=some y,λi H=>∃xs a,mn K H l xs/\mn K H m a/\(xs.length<=i\/a.length<=i)⟩
def ZG.at{h j:Heap}{z TI TO d c g f k:Nat}{f0:fG}(Z:UJ h z TI TO d c g f k f0)(e:∀b∈[z,TI,TO,d,c],∀o,h.get? b=some o->j.get? b=some o):UJ j z TI TO d c g f k f0:=
 ⟨e z (by simp) _ Z.hz,e TI (by simp) _ Z.hI,let ⟨a,b,q⟩:=Z.hO;⟨a,b,e TO (by simp) _ q⟩,let ⟨o,q,r⟩:=Z.h1;⟨o,e d (by simp) o q,r⟩,let ⟨o,q,r⟩:=Z.h2;⟨o,e c (by simp) o q,r⟩⟩
def ZG.there{h:Heap}{z TI TO e d m l k:Nat}{f0:fG}(Z:UJ h z TI TO e d m l k f0):∀b∈[z,TI,TO,e,d],∃o,h.get? b=some o/\∀v,o.data≠.cell v:=λb p=>by
 obtain⟨n,r,⟨a,c,q⟩,⟨A,j,_,x⟩,⟨y,g,_,u⟩⟩:=Z;have:b=z\/b=TI\/b=TO\/b=e\/b=d:=by simpa using p
 obtain rfl|rfl|rfl|rfl|rfl:=this
 ·exact⟨_,n,λv z=>by have f:=z;cases f⟩
 ·exact⟨_,r,λv z=>by cases z⟩
 ·exact⟨_,q,λv z=>by cases z⟩
 ·exact⟨_,j,λv z=>by rw[x]at z;cases z⟩
 ·exact⟨_,g,λv z=>by rw[u]at z;cases z⟩
def DD{P:gX}{w:iI}{K:gA}{L:List Expr}{k1}{tp:Pos}{z TI TO n m C B:Addr}(D:rX z TI TO n m C B):Turn P w K (.Tuple L k1 tp) (bU K C B) [z,TI,TO,n,m] z (λi h=>UJ h z TI TO n m C B i .none) where
 mem:=by simp
 obj:=λi h Z=>Z.there
 keep:=λi h h' Z e=>Z.at e
 item:=by
  intro X hP hw hK hc i r s σ H E I G Z hg;subst hP hw hK;obtain⟨xs,ys,x,y,j,g,hx,hy⟩:=hg;obtain⟨U,N,p,hz⟩:=I.tuple j;obtain⟨T,l,O,Y⟩:=I.tuple g;obtain⟨u,hu,ru⟩:=N.get hx;obtain⟨v,hv,M⟩:=l.get hy;have A:∀b∈[z,TI,TO,n,m],b<s.1.1.size:=λb f=>let ⟨o,q,_⟩:=Z.there b f;fS q;refine Si YT D Z p O (by simpa using hu) (by simpa using hv) λh1 Z1 t1 n1 e1=>?_;refine⟨_,rfl,wpAny_letOwnedTupleGo_zip Z1.hz λh2 z2 sb=>?_⟩;have d:=sb;have Q:∀b o,b∉[z,TI,TO,n,m]->s.1.get? b=some o->h2.get? b=some o:=λb o f q=>by
   obtain⟨J,c2,c3,c4,c5⟩:=(λb f=>by simpa using f) b f;exact d.extBut b o J (e1 b o J c3 c4 c5 q)
  have Z2:UJ h2 z TI TO n m C B (i+1) .none:=by
   obtain⟨hz,hI,⟨a,c,hO⟩,⟨o1,q1,r1⟩,⟨o2,q2,r2⟩⟩:=Z1;exact⟨z2,d.extBut _ _ D.TIz hI,⟨a,c,d.extBut _ _ D.TOz hO⟩,⟨o1,d.extBut _ _ D.i1z q1,r1⟩,⟨o2,d.extBut _ _ D.i2z q2,r2⟩⟩
  refine⟨.ref s.1.1.size,_,(I.sy (t':=s.toks) G Q (d.extBut _ _ (jH (A z (by simp))) t1) ru M),rfl,⟨_,x,y,(I.fg.fresh (fQ _)),rfl,rfl,λzs hy=>by rwa [I.pv hy j],λzs α=>by rwa [I.pv α g]⟩,Z2,λb f=>?_⟩;rw[ag (hU (A b f))];exact(G b f).1
 done:=by
  intro X hP hw hK hc i r s σ H E I G Z hg;subst hP hw hK;obtain⟨xs,ys,j,g,hx⟩:=hg;obtain⟨U,N,p,hz⟩:=I.tuple j;obtain⟨T,l,O,Y⟩:=I.tuple g;have hl:=N.length;have hl':=l.length;refine Sg YT (I.ok.hd hc) D Z p O (by obtain h|h:=hx;exact .inl (by simp;lia);exact .inr (by simp;lia)) λh' eb=>⟨rfl,?_⟩;have Q:∀b o,b∉[z,TI,TO,n,m]->s.1.get? b=some o->h'.get? b=some o:=λb o f q=>by
   obtain⟨J,c2,c3,c4,c5⟩:=(λb f=>by simpa using f) b f;exact eb b o J c3 c4 c5 q
  exact I.wD G Q
 self:=λ_ _ _ _ _ Z h=>tX Z.hz h
def Ad:List D->List D->List D
 |x::r,y::q=>.tup [x,y]::Ad r q
 |_,_=>[]
theorem Mf:∀(a es:List D)(i:Nat){d:D},(Ad a es)[i]?=some d->∃x y,a[i]?=some x/\es[i]?=some y/\d=.tup [x,y]
 |[],es,i,d,h=>by simp[Ad]at h
 |x::r,[],i,d,h=>by simp[Ad]at h
 |x::r,y::q,0,d,h=>by simp[Ad]at h;exact⟨x,y,rfl,rfl,h.symm⟩
 |x::r,y::q,i+1,d,h=>by
  exact Mf r q i h
theorem Mg:∀(a es:List D),(Ad a es).length=min a.length es.length
 |[],es=>by simp[Ad]
 |x::r,[]=>by simp[Ad]
 |x::r,y::q=>by simp only[Ad,fI,Mg r q];lia
def Nl(r:En->e9):En->e9:=λU=>match r U with
 |.ok [.tup b,.tup a]=>.ok (Ad b a)
 |.er c=>.er c
 |_=>.st
section
variable{X:Cx}{B:Hp}{E:EK}{e e':Expr}{g h:En->Res}{pos p tp:Pos}{xX:List Expr}{k1:Nat}
def dY(q:gy E G H (Nl r U) P):gy E G H (r U) λl=>∃b es,l=[.tup b,.tup es]/\P (Ad b es):=by
 unfold Nl at q;cases e:r U with
 |ok l=>
  rw[e]at q;split at q
  ·rename_i a;cases a;exact⟨_,_,rfl,q⟩
  ·rename_i a;cases a
  ·exact q.elim
 |er c=>rw[e]at q;exact q
 |st=>rw[e]at q;exact q
def QW{K:KA}{a b:Addr}{n:Hp}{m es:List D}{c f:List V}{S:Hp->Hp->Prop}(h:∀G H,S G H->c7 G H->mn K H a c/\mn K H b f/\c7 n G)(dl:dg K n m c)(C:dg K n es f):yk K (bU K a b) (Ad m es) S:=λi G H J j=>by
 obtain⟨q,l,g⟩:=h G H J j;refine⟨λd Q=>?_,λI=>⟨c,f,q,l,by rw[Mg]at I;rw[<-dl.length,<-C.length];lia⟩⟩;obtain⟨x0,y0,U,T,rfl⟩:=Mf m es i Q;obtain⟨v,r,Y⟩:=dl.get U;obtain⟨u,A,du⟩:=C.get T;refine⟨⟨c,f,v,u,q,l,r,A⟩,λx H' ⟨p,y,y',o,O,N,M,L⟩=>?_⟩;subst O N;have z:=M c q;rw[r]at z;cases z;have z:=L f l;rw[A]at z;cases z;exact⟨_,Ext.new j _ o,n9 j o (dg.append (dg.one (Y.mono g)) (dg.one (du.mono g)))⟩
def RJ(hg:Gl X "zip")(hm:X.mg "zip"=none)(h1:jc X B E e g)(h2:jc X B E e' h)(n1:gc e=true)(n2:gc e'=true):
  We X B E (.Tuple xX k1 tp) (.Call (.Name "zip" p) [e,e'] [] pos) (Nl (au g (au h ae))):=by
 intro y s σ H R I ⟨G,U,Rr,q⟩;refine Call_ (vd I hg hm (by decide+kernel:lZ "zip"=some (.type "zip")) (kM (gp ((d9 h1 (d9 h2 ig (ah n2)) (ah n1)) pos y s σ H (λf j=>∃a b,f=[.ref a,.ref b]/\(∃xs,mn X.K j a xs)/\(∃ys,mn X.K j b ys)/\R (bU X.K a b) j) I ⟨G,U,Rr,(dY q).mono λl _ ⟨ds,es,ed,q⟩ v L j C ax=>?_⟩) λM c ⟨f,j,J,r1,a,b,C,⟨xs,hq⟩,⟨ys,Q⟩,q1⟩=>?_) (ah n1) ?_))
 ·subst ed;obtain⟨v1,v2,rfl,a1,a2⟩:=h8.two ax;obtain ⟨a,f,rfl,s,dl⟩|⟨Y,a,f,z,_⟩|⟨t,O,a,z,_⟩:=a1
  ·obtain ⟨b,M,rfl,s',el⟩|⟨Y,a,f,z,_⟩|⟨t,O,a,z,_⟩:=a2
   ·have t1:∀{o n:Hp},c7 L o->c7 o n->mn (kx X) n a f:=λd m=>.inl (.inl (m _ _ (d _ _ s)));have t2:∀{o n:Hp},c7 L o->c7 o n->mn (kx X) n b M:=λd m=>.inl (.inl (m _ _ (d _ _ s')));exact⟨a,b,rfl,⟨f,t1 (c7.refl L) C.gh⟩,⟨M,t2 (c7.refl L) C.gh⟩,q _ L j C (QW (by rintro o n ⟨d,x2⟩ m;exact⟨t1 d m,t2 d m,d⟩) dl el)⟩
   ·cases z
   ·cases z
  ·cases z
  ·cases z
 ·subst C;obtain⟨u,r,rfl,ru,rr⟩:∃u r,M=u::r/\RelV _ u/\Vals [.ref b] r:=by
   cases r1 with
   |cons h t=>exact⟨_,_,rfl,h,t⟩
  obtain⟨u2,rfl,N⟩:=j8 rr;cases ru;cases N;obtain⟨ρ,rv,pl,_⟩:=J.tuple hq;obtain⟨ξ,θ,x,_⟩:=J.tuple Q;have la:@LT.lt Nat _ a c.1.1.size:=pl.lt;have lb:@LT.lt Nat _ b c.1.1.size:=x.lt;refine S3 pl x λh' Z τ T=>?_;have D:rX (c.1.1.size+4) (c.1.1.size+2) (c.1.1.size+3) c.1.1.size (c.1.1.size+1) a b:=by
   constructor<;>first|exact hU (by lia)|exact jH (by lia)
  refine tX Z.hz ⟨c.1.1.size+4,_,_,_,j,rfl,J.kept T,DD D,Z,λb hb=>?_,q1⟩;have A:c.1.1.size<=b:=by
   have:b=c.1.1.size+4\/b=c.1.1.size+2\/b=c.1.1.size+3\/b=c.1.1.size\/b=c.1.1.size+1:=by simpa using hb
   rcases this with z|z|z|z|z<;>subst z<;>first|exact nC _ _|exact fQ _
  exact J.p9 A (J.fg.fresh A)
 ·exact vz (by rw[iF,n2];rfl)
end
section
variable{prog:gX}{w:iI}{A:iR}{E:fG->fP->Prop}{s:fP}{d:Addr}{es:Array tU}{ep:Nat}
def H8(d:Addr)(b:(d==lF)=false):
  MeetsIn prog w (Builtin.«dict.items» ⟨[.ref d],[]⟩) (λ_ R s=>(∃es ep,qx s.1 d es ep)/\
   R (.ok (.ret (.ref s.1.1.size))) {s with heap:=s.1.push {cls:=.type "dict_items",data:=.fields #[.ref d]}}):=
 .of_wp<|by
  rintro A R s ⟨⟨es,ep,a⟩,h⟩
  refine fB ?_;refine fB (oQ a.ty ?_);refine fE ?_;unfold rG;rw[fJ (by rw[b];exact Bool.false_ne_true)];refine fB (fE ?_);exact fB (jJ (fE ⟨_,rfl,h⟩))
def Oz{v:Addr}{Q:fG->fP->Prop}(c:s.1.IsItemsView v d)(h:qx s.1 d es ep)
  (l:Q (.ref s.1.1.size) {s with heap:=s.1.push {cls:=.type "dict_itemiterator",data:=.fields #[.none,.bool false,.ref d,.int 0 0,.int es.size 0,.int ep 0,.none,.none]}}):
  gK (gR prog w) A (uL (.ref v)) Q E s:=by
 obtain⟨m,e,j,f⟩:=id c;obtain⟨o,g,n,a⟩:=id h;refine nV c.typeIs F.slot_dict_items_iter (iH F.slot_dict_items_iter c.typeIs F.entry_dict_items_iter ?_ (F.args_dict_items_iter_1 _));refine fB (fE ?_);refine fB ?_;refine fB (jG e f rfl (fE ?_));refine fB ?_;refine fB (mI g a ?_);refine fB (oN g a ?_);have b:lB "dict_itemiterator"=true:=by decide
 simp only[b,if_true];refine jJ (fE ⟨_,rfl,"dict_itemiterator",_,⟨_,fO _ rfl,rfl⟩,F.slot_dict_itemiterator_next.lookup,?_⟩)
  (by simp only[sizeOk,pZ,hW,gI,fI,jM,iT];lia)
 simpa[jR,pZ]using l
def O0{it:Addr}{i:Nat}{ok ov:fG}{Q:Option fG->fP->Prop}(I:qE s.1 it d i es.size ep ok ov)(hm:qx s.1 d es ep)(Y:i<es.size)
   (hQ:∀h',IsItemIterOut h' it d (i+1) es.size ep es[i].key es[i].val s.1.1.size->
   h'.get? s.1.1.size=some {cls:=.type "tuple",data:=.seq #[es[i].key,es[i].val]}->h'.objs.size=s.1.1.size+1->
   (∀b o,b≠it->s.1.get? b=some o->h'.get? b=some o)->Q (some (.ref s.1.1.size)) {s with heap:=h'}):
  gK (gR prog w) A (pQ (.ref it)) Q E s:=by
 obtain⟨L,g,dr,tk,os⟩:=s;obtain⟨od,U,ι,α⟩:=id hm;have hT:tM ⟨L,g,dr,tk,os⟩ (.ref it) "dict_itemiterator":=⟨_,I,rfl⟩;refine fB (kX (iM hT mF
  (iH mF hT rQ ?_ (rB _))))
 refine fB (fE ?_);refine fB ?_;refine fB ?_
 first|refine fB (lX hT (fE ?_))|refine fB _
 refine fB (nG I rfl ?_);have η:lB "dict_itemiterator"=true:=by decide
 show gK _ _ _ _ _ _;refine fB (fE ?_);refine fB (mI U α ?_);rw[fJ (by simp)];refine fB (fE ?_);refine fB (oN U α ?_);rw[fJ (by simp)];refine fE ?_;simp only[by omega,if_false,iZ,gS Y];refine fB ?_
 first|refine fB (lX hT (fE ?_))|refine fB _
 refine fB (qY hT ?_);show gK _ _ (setField _ 3 (jR (_+1))>>=_) _ _ ⟨L,g,dr,tk,os⟩;refine fB (jL I (by simp) λp m l=>?_);replace l:iJ it L p:=l;replace m:qE p it d (i+1) es.size ep ok ov:=by
  have e:((i+1:Nat):Int)=(i:Int)+1:=by omega
  unfold qE;simpa[jR]using m
 have H:tM ⟨p,g,dr,tk,os⟩ (.ref it) "dict_itemiterator":=⟨_,m,rfl⟩;refine fB (iX ?_);refine fB (qY H ?_);refine fB (qY H ?_);refine fB (qT ?_);have j:qE (p.push {cls:=.type "tuple",data:=.seq #[es[i].key,es[i].val]}) it d _ es.size ep ok ov:=fC _ m;generalize r:p.push {cls:=.type "tuple",data:=.seq #[es[i].key,es[i].val]}=n at j;have q:=l.1;have J:=fS I;have N:n.get? L.objs.size=some {cls:=.type "tuple",data:=.seq #[es[i].key,es[i].val]}:=by rw[<-r,<-q];exact fO _ rfl
 have M:n.objs.size=L.objs.size+1:=by rw[<-r,iN,q]
 have O:∀b o,b≠it->L.get? b=some o->n.get? b=some o:=λb o T e=>by rw[<-r];exact fC _ (l.extBut b o T e)
 show gK _ _ _ _ _ ⟨n,g,dr,tk,os⟩;rw[q];refine fB ?_;refine fB (jG j rfl rfl (fE ?_));refine fB (jG j rfl rfl ?_);refine fB (jG j rfl rfl ?_);refine fB (jL j (by simp) λG y h=>?_);replace h:iJ it n G:=h;replace y:qE G it d _ es.size ep es[i].key ov:=y;refine fB (jL y (by simp) λC x f=>?_);replace f:iJ it G C:=f;replace x:qE C it d _ es.size ep es[i].key es[i].val:=x;refine fB (jL x (by simp) λB v c=>?_);replace c:iJ it C B:=c;replace v:IsItemIterOut B it d _ es.size ep es[i].key es[i].val L.objs.size:=v;refine fB (jL v (by simp) λz u a=>?_);replace a:iJ it B z:=a;replace u:IsItemIterOut z it d _ es.size ep es[i].key es[i].val L.objs.size:=u;refine fB (pI (fE (fE ⟨_,rfl,fE (hQ z u ?_ ?_ ?_)⟩)))
 ·exact a.extBut _ _ (jH J) (c.extBut _ _ (jH J) (f.extBut _ _ (jH J) (h.extBut _ _ (jH J) N)))
 ·rw[a.1,c.1,f.1,h.1,M]
 ·exact λb o T e=>a.extBut b o T (c.extBut b o T (f.extBut b o T (h.extBut b o T (O b o T e))))
def Oy{it:Addr}{ok j:fG}{Q:Option fG->fP->Prop}(n:A.handled=none)(a:qE s.1 it d es.size es.size ep ok j)(l:qx s.1 d es ep)
  (p:∀h,pG it s.1 h->Q none {s with heap:=h}):gK (gR prog w) A (pQ (.ref it)) Q E s:=by
 obtain⟨od,c,o,e⟩:=id l;have f:s.TypeIs (.ref it) "dict_itemiterator":=⟨_,a,rfl⟩;refine fB (kX (iM f mF
  (iH mF f rQ ?_ (rB _))))
 refine fB (fE ?_);refine fB ?_;refine fB ?_
 first|refine fB (lX f (fE ?_))|refine fB _
 refine fB (nG a rfl ?_);have g:lB "dict_itemiterator"=true:=by decide
 show gK _ _ (if _=true then _ else _) _ _ s;refine fB (fE ?_);refine fB (mI c e ?_);rw[fJ (by simp)];refine fB (fE ?_);refine fB (oN c e ?_);rw[fJ (by simp)];refine fE ?_;simp only[by omega,if_false,iZ,Array.getElem?_eq_none (fQ es.size)];refine fB ?_
 first|refine fB (lX f (fE ?_))|refine fB _
 show gK _ _ (setField _ 2 .none>>=_) _ _ s;refine fB (kY a rfl (by simp) ?_);refine fB ?_;refine fB (m:=lR _ _) (oE (by first|rfl|(simp only[lR];rfl)) ?_);refine jJ ?_ (by size_fits);refine fB (rT ?_);rw[n];refine fB (fE (tG ?_));refine fB (lH (b:=true) ⟨_,fO _ rfl,rfl⟩ qV ?_);exact fE (p _ (((iQ ..).extBut.push _).push _))
end
inductive G6(P:gX)(w:iI)(H:Hp)(h:Heap)(a:Addr)(o:Obj)(es:List (aq×V)):Prop
 |mk (_:(a==lF)=false) (_:es.length<=fR) (_:h.get? a=some o) (_:o.ExactDict) (xs dt ep) (_:KT H es xs) (_:o.data=.dict dt ep) (_:dt.toList=xs.map (entryOfKey (ar P w))) (_:dt.size=es.length):G6 P w H h a o es
def wj{P:gX}{w:iI}{H:Hp}{h:Heap}{a:Addr}{o:Obj}{es:List (aq×V)}(ok:n0 P w H h)(e:H a=some (.nk o (.dT es))):G6 P w H h a o es:=by
 obtain⟨d,z,f,xs,rel,n,m,l,c,j,g,b,_⟩:=(ok a _ e);rw[d]at c;cases c;refine⟨f,z,d,j,xs,m,l,rel,g,b,?_⟩;have:=congrArg lT b;rw[fF,gN]at this;rw[this,<-mW rel]
theorem N6{H:Hp}:∀{es:List (aq×V)}{xs:List (aq×Addr×fG)},KT H es xs->∀{i:Nat}{p:aq×V},es[i]?=some p->∃q,xs[i]?=some q/\lz H p.1 q.2.1/\RelV p.2 q.2.2
 |_,_,.nil,i,p,e=>by simp at e
 |_,_,.cons r t,0,p,e=>by simp at e;subst e;exact⟨_,rfl,r.2.1,r.2.2⟩
 |_,_,.cons r t,i+1,p,e=>by simp at e;simpa using N6 t e
def Qb{P:gX}{w:iI}{a:Array tU}{xs:List (aq×Addr×fG)}(h:a.toList=xs.map (entryOfKey (ar P w))){i:Nat}{q:aq×Addr×fG}(b:xs[i]?=some q)(c:i<a.size):a[i].key=.ref q.2.1/\a[i].val=q.2.2:=by
 have e:a.toList[i]?=some a[i]:=by rw[gZ];exact gS c
 rw[h,gO,b]at e;rw[<-(gV e)];exact⟨rfl,rfl⟩
def bX(o:Obj)(a:Addr):It:=
 ⟨λi H=>∃c,H a=some (.nk o (.dT c))/\i<c.length,λi H x d=>d=H/\∃c p b,H a=some (.nk o (.dT c))/\c[i]?=some p/\x=.ref b/\lz H p.1 b,λi H=>∃c,H a=some (.nk o (.dT c))/\c.length<=i⟩
def V5{P:gX}{w:iI}{K:gA}{tg:Expr}{o:Obj}{a it:Addr}{x:Array tU}{ep:Nat}(f:o.data=.dict x ep):Turn P w K tg (bX o a) [it] it (λi h=>h.IsKeyIter it a i x.size ep/\i<=x.size) where
 mem:=by simp
 obj:=λi h st b l=>by
  have e:b=it:=by simpa using l
  subst e;obtain⟨⟨o,e,c,d⟩,_⟩:=st;exact⟨o,e,λv z=>by rw[d]at z;cases z⟩
 keep:=λi h h' st k=>⟨let ⟨o,ho,r⟩:=st.1;⟨o,k it (by simp) o ho,r⟩,st.2⟩
 item:=by
  intro X hP hw hK U i m s σ H E I p st G;obtain⟨es,u,C⟩:=G;obtain⟨f0,O,f2,N,M,L⟩:=p it (by simp);obtain⟨hd,z,J,A,xs,T,Q,rel,n,Y,y⟩:=wj I.fg u;rw[f]at n;cases n;have j:i<x.size:=by rwa [y]
  refine Lo st.1 ⟨o,J,A,f⟩ j λh' g B=>?_;obtain⟨ob,e,c,dd⟩:=id g;obtain⟨q,hq,tk,_⟩:=N6 rel (gF C);obtain⟨ek,_⟩:=Qb Y hq j;refine⟨_,rfl,Fv e c dd (by decide) ⟨.ref q.2.1,H,(I.turned (λb o l e=>(B.2 b l).trans e) f0 O N M L),by rw[ek];exact rfl,⟨rfl,es,_,_,u,gF C,rfl,tk⟩,⟨g,j⟩,λb l=>(p b l).1⟩⟩
 done:=by
  intro X hP hw hK U i m s σ H E I p st G;obtain⟨es,u,C⟩:=G;obtain⟨f0,O,f2,N,M,L⟩:=p it (by simp);obtain⟨hd,z,J,A,xs,T,Q,rel,n,Y,y⟩:=wj I.fg u;rw[f]at n;cases n;have e:=uI st.2 (by rwa [y]);subst e;exact Rn (I.ok.hd U) st.1 ⟨o,J,A,f⟩ λh' eb=>⟨rfl,I.turned (λb o l e=>eb b o l e) f0 O N M L⟩
 self:=λ_ _ _ _ _ st h=>wpAny_pyIter_keyiter st.1 h
def QZ{K:KA}{o:Obj}{a:Addr}{r:Hp}{c:List (D×D)}{es:List (aq×V)}{S:Hp->Hp->Prop}(h:∀G H,S G H->c7 G H->H a=some (.nk o (.dT es))/\c7 r G)(dl:iL K r c es):yk K (bX o a) (c.map (·.1)) S:=λi G H y l=>by
 obtain⟨q,g⟩:=h G H y l;rw[Ai dl];refine⟨λd f=>?_,λv=>⟨es,q,by rwa [fF]at v⟩⟩;rw[gO]at f;cases j:es[i]? with
 |none=>rw[j]at f;cases f
 |some p=>
  rw[j]at f;cases f;refine⟨⟨es,q,(List.getElem?_eq_some_iff.mp j).1⟩,λx C ⟨e,A,B,b,m,n,z,u⟩=>?_⟩;subst e z;rw[q]at m;cases m;rw[j]at n;cases n;exact⟨_,qi l,Hi u⟩
def bV(o:Obj)(a:Addr):It:=
 ⟨λi H=>∃c,H a=some (.nk o (.dT c))/\i<c.length,λi H x d=>∃c p b y,H a=some (.nk o (.dT c))/\c[i]?=some p/\lz H p.1 b/\H y=none/\x=.ref y/\d=upd H y (.tup [.ref b,p.2]),λi H=>∃c,H a=some (.nk o (.dT c))/\c.length<=i⟩
def Pw{P:gX}{w:iI}{K:gA}{A:List Expr}{k1}{tp:Pos}{o:Obj}{a it:Addr}{y:Array tU}{ep:Nat}(f:o.data=.dict y ep):
  Turn P w K (.Tuple A k1 tp) (bV o a) [it] it (λi h=>(∃ok l,qE h it a i y.size ep ok l)/\i<=y.size) where
 mem:=by simp
 obj:=λi h st b c=>by
  have e:b=it:=by simpa using c
  subst e;obtain⟨⟨ok,l,e⟩,_⟩:=st;exact⟨_,e,λv z=>by cases z⟩
 keep:=λi h h' st k=>⟨let ⟨ok,l,e⟩:=st.1;⟨ok,l,k it (by simp) _ e⟩,st.2⟩
 item:=by
  intro X hP hw hK U i g s σ H E I u st J;obtain⟨N,x,r⟩:=J;obtain⟨f0,f1,f2,f3,f4,f5⟩:=u it (by simp);obtain⟨hd,z,L,G,xs,Q,O,rel,p,Y,C⟩:=wj I.fg x;rw[f]at p;cases p;have j:i<y.size:=by rwa [C]
  obtain⟨⟨ok,l,d⟩,_⟩:=st;obtain⟨q,hq,tk,rv⟩:=N6 rel (gF r);obtain⟨ek,M⟩:=Qb Y hq j;have n:=fS d;refine O0 d ⟨o,L,G,f⟩ j λh1 B t1 n1 e1=>?_;refine⟨_,rfl,wpAny_letOwnedTupleGo_items B λh2 z2 sb=>?_⟩;have m:=sb;have k2:∀b o,b∉[it]->s.1.get? b=some o->h2.get? b=some o:=λb o c q=>by
   have c:b≠it:=by simpa using c
   exact m.extBut b o c (e1 b o c q)
  have T:=m.extBut _ _ (jH n) t1;rw[ek,M]at T;have I2:Inv X g σ (upd H s.1.1.size (.tup [.ref q.2.1,(N[i]'r).2])) {s with heap:=h2}:=I.sy u k2 T rfl rv;refine⟨.ref s.1.1.size,_,I2,rfl,⟨N,_,_,_,x,gF r,tk,(I.fg.fresh (fQ _)),rfl,rfl⟩,⟨⟨_,_,z2⟩,j⟩,λb c=>?_⟩;have e:b=it:=by simpa using c
  subst e;rwa [ag (hU n)]
 done:=by
  intro X hP hw hK U i g s σ H E I u st J;obtain⟨N,x,r⟩:=J;obtain⟨f0,f1,f2,f3,f4,f5⟩:=u it (by simp);obtain⟨hd,z,L,G,xs,Q,O,rel,p,Y,C⟩:=wj I.fg x;rw[f]at p;cases p;have e:=uI st.2 (by rwa [C]);subst e;obtain⟨⟨ok,l,d⟩,_⟩:=st;exact Oy (I.ok.hd U) d ⟨o,L,G,f⟩ λh' eb=>⟨rfl,I.turned (λb o c e=>eb b o c e) f0 f1 f3 f4 f5⟩
 self:=λ_ _ _ _ _ st h=>let ⟨_,_,e⟩:=st.1;PySem.W.kcp_self e h
def Dj(p:D×D):D:=.tup [p.1,p.2]
theorem iL.get{K:KA}{G:Hp}:∀{a:List (D×D)}{es:List (aq×V)},iL K G a es->∀{i:Nat}{p:D×D},a[i]?=some p->∃k v,es[i]?=some (k,v)/\p.1=kT k/\Den K G p.2 v
 |[],_,_,i,p,e=>by simp at e
 |_::_,_,c,0,p,e=>by obtain⟨k,v,r,d,h,g,f⟩:=c;simp at e;subst e;subst d;exact⟨k,v,rfl,h,g⟩
 |_::_,_,b,i+1,p,e=>by
  obtain⟨k,v,r,d,h,g,f⟩:=b;subst d;simpa using iL.get f e
def QY{K:KA}{o:Obj}{a:Addr}{z:Hp}{c:List (D×D)}{es:List (aq×V)}{S:Hp->Hp->Prop}(h:∀G H,S G H->c7 G H->H a=some (.nk o (.dT es))/\c7 z G)(dl:iL K z c es):yk K (bV o a) (c.map Dj) S:=λi G H E j=>by
 obtain⟨q,g⟩:=h G H E j;have C:c.length=es.length:=by have:=congrArg lT (Ai dl);simpa using this
 refine⟨λd f=>?_,λB=>⟨es,q,by rw[fF]at B;rwa [<-C]⟩⟩;rw[gO]at f;cases l:c[i]? with
 |none=>rw[l]at f;cases f
 |some p=>
  rw[l]at f;cases f;obtain⟨k,v,r,ek,M⟩:=dl.get l;refine⟨⟨es,q,(List.getElem?_eq_some_iff.mp r).1⟩,λx O ⟨J,N,b,y,m,u,A,n,I,L⟩=>?_⟩;subst I L;rw[q]at m;cases m;rw[r]at u;cases u;have e:=(qi j).gh;refine⟨_,(qi j).trans (Ext.new e _ n),?_⟩;refine n9 e n ⟨_,_,rfl,?_,_,_,rfl,M.mono (g.trans (qi j).gg),rfl⟩;rw[ek];exact Hi A
def ij(g:En->Res):En->e9:=λU=>match g U with
 |.ok (.hZ true a)=>.ok (a.map (·.1))
 |.er c=>.er c
 |r=>aj (λ_=>r) U
def m9(g:En->Res):En->e9:=λU=>match g U with
 |.ok (.hZ true a)=>.ok (a.map Dj)
 |.er c=>.er c
 |_=>.st
section
variable{X:Cx}{B:Hp}{E:EK}{o e tg:Expr}{g:En->Res}{ap cp tp:Pos}{xX:List Expr}{k1:Nat}
def HU{G H:Hp}{U:En}{P:List D->Prop}(q:gy E G H (m9 g U) P):ey E G H (g U) λd=>∃a,d=.hZ true a/\P (a.map Dj):=by
 unfold m9 at q;cases e:g U with
 |ok d=>
  rw[e]at q;split at q
  ·rename_i b;cases b;exact⟨_,rfl,q⟩
  ·rename_i b;cases b
  ·exact q.elim
 |er c=>rw[e]at q;exact q
 |st=>rw[e]at q;exact q
def AG(ha:fh X B E o g)(r:j4 o=true)(hl:(ap.endLine==cp.line)=true):We X B E (.Tuple xX k1 tp) (.Call (.Attribute o "items" ap) [] [] cp) (m9 g):=by
 intro j s σ H R I ⟨G,U,Rr,q⟩;refine wpAny_Call_method0_late (l7 r) hl (gp (ha j s σ H (λx f=>∃a c n,x=.ref a/\f a=some (.nk c (.dT n))/\R (bV c a) f) I ⟨G,U,Rr,(HU q).mono λd _ ⟨α,ed,q⟩ v G1 f N dn=>?_⟩) λv h ⟨x,f,Q,Y,a,c,n,ex,ea,q⟩=>?_)
 ·subst ed;obtain⟨a,rfl,⟨z,_⟩|⟨_,c,n,L,dl⟩⟩:=dn
  ·cases z
  ·exact⟨a,c,n,rfl,N.gh _ _ L,q _ G1 f N (QY (λG2 H2 x T=>⟨T _ _ (x.1 _ _ L),x.1⟩) dl)⟩
 ·subst ex;cases Y;obtain⟨hd,z,m,l,xs,O,M,rel,y,h4,hz⟩:=wj Q.fg ea;have J:h.TypeIs (.ref a) "dict":=⟨c,m,l.1⟩;refine⟨"dict","dict.items",lI,PySem.F.slot_dict_items,PySem.F.type_dict_items,J,λb e2=>by cases e2;exact⟨c,m,l.2.1⟩,lP rfl (PySem.evalArgs_none ?_)⟩;refine qP PySem.F.slot_dict_items J PySem.F.entry_dict_items (PySem.F.args_dict_items_1 _) (H8 a hd) ⟨⟨O,M,c,m,l,y⟩,?_⟩;have C:∀(u:Obj) b p,h.1.get? b=some p->(h.1.push u).get? b=some p:=λu b p e=>fC _ e;have A:=Q.kept (t':=h.toks) (C {cls:=.type "dict_items",data:=.fields #[.ref a]});refine Oz (es:=O) (ep:=M) ⟨_,fO _ rfl,rfl,rfl⟩ ⟨c,C _ _ _ m,l,y⟩ ?_;refine⟨_,[_],_,_,f,rfl,A.kept λb o e=>fC _ e,Pw y,⟨⟨.none,.none,fO _ rfl⟩,iO _⟩,λb r=>?_,q⟩;have e:b=(h.1.push {cls:=.type "dict_items",data:=.fields #[.ref a]}).objs.size:=by simpa using r
  subst e;exact A.p9 (fQ _) (A.fg.fresh (fQ _))
def Re(T:fh X B E e g)(N:We X B E tg e (aj g)):We X B E tg e (ij g):=by
 intro f s σ H R I ⟨G,U,A,q⟩
 by_cases p:∃d,g U=.ok (.hZ true d)
 ·obtain⟨d,j⟩:=p;unfold ij at q;rw[j]at q;refine gp (T f s σ H (λx l=>∃a h m,x=.ref a/\l a=some (.nk h (.dT m))/\R (bX h a) l) I ⟨G,U,A,?_⟩) λv J ⟨x,l,n,L,a,h,m,ex,ea,q⟩=>?_
  ·rw[j];intro v G1 l y dn;obtain⟨a,rfl,⟨z,_⟩|⟨_,h,m,u,dl⟩⟩:=dn
   ·cases z
   ·exact⟨a,h,m,rfl,y.gh _ _ u,q _ G1 l y (QZ (λG2 H2 x C=>⟨C _ _ (x.1 _ _ u),x.1⟩) dl)⟩
  ·subst ex;cases L;obtain⟨O,z,Y,M,xs,dt,ep,rel,r,h4,hz⟩:=wj n.fg ea;refine Lp O ⟨h,Y,M,r⟩ ?_;refine⟨_,[_],_,_,l,rfl,n.kept λb o e=>fC _ e,V5 r,⟨⟨_,fO _ rfl,rfl,rfl⟩,iO _⟩,λb Q=>?_,q⟩;have e:b=J.1.1.size:=by simpa using Q
   subst e;exact n.p9 (fQ _) (n.fg.fresh (fQ _))
 ·refine N f s σ H R I ⟨G,U,A,?_⟩;unfold ij at q;split at q
  ·rename_i d j;exact absurd ⟨d,j⟩ p
  ·rename_i c j;unfold aj;rwa [j]
  ·exact q
end
section
variable{prog:gX}{w:iI}{A:iR}{E:fG->fP->Prop}{s:fP}{r d:Addr}{n:Nat}{T:String}{P:Nat->fG->Prop}{OK:Heap->Prop}
def Cq{Q:fG->fP->Prop}(K:PySem.W.KdlSrc prog w T r d n P OK)(B:A.handled=none)(j:OK s.1)(x:n<=fR)(C:(oH T==oH "tuple")=false)
  (h:∀(l:Heap)(m:Nat)(a:Array fG),(∀b o,s.1.get? b=some o->l.get? b=some o)->ItemsOf P a n->Q (.ref l.objs.size) {s with heap:=l.push {cls:=.type "tuple",data:=.seq a},toks:=m}):
  gK (gR prog w) A (call (.type "tuple") [.ref r]) Q E s:=by
 refine callType_codes (Q₁:=λobj c=>c.TypeIs obj "tuple"/\Q obj c) F.called_tuple (F.typeCall_tuple_1 _) F.entry_object_init ?_ λobj c f=>?_
 ·refine uJ ?_;show gK _ A.in1.in1 (do checkBuiltinCall "tuple.__new__" ⟨[.type "tuple",.ref r],[]⟩;again (.builtin "tuple.__new__" ⟨[.type "tuple",.ref r],[]⟩)) _ _ s;refine fB (oE (F.newCall_tuple_1 _) (fE ⟨kW F.plain_tuple_new _,kJ F.entry_tuple_new ?_⟩));rw[rZ F.plain_tuple_new _];have u:=sub_tuple_self;have p:=init_tuple_lookup;have y:=madeHere_tuple;have q:s.TypeIs (.ref r) T:=K.type _ j
  wp_walk using pL q,sJ (A:=A.in1.in1) (n:=n) K (show A.in1.in1.handled=none from B) j x
  intro l m a z g;show gK _ _ (Builtin.Tuple.tupleExact a.toList.toArray>>=λv=>ret v) _ _ _;unfold Builtin.Tuple.tupleExact;refine fB (jJ ?_ (by show a.toList.toArray.size<=fR;simp only[Array.toArray_toList];rw[g.1];exact x));refine fE ?_;have e:a.toList.toArray=a:=by simp
  rw[e];exact⟨⟨_,fO _ rfl,rfl⟩,h l m a z g⟩
 ·exact⟨f.1,F.args_object_init_2 obj _,object_init_meets F.called_tuple.init.lookup F.called_tuple.made (by decide) prog w A.in1 _ c ⟨f.1,rfl,f.2⟩⟩
end
def ZF(p a:Addr):HO:=.ext λh=>h.IsValuesView p a
section
variable{X:Cx}
inductive wN(x:V)(xs:List V)(H:Hp)(Q:VK):Prop
 |mk (a es) (_:x=.ref a) (_:xs=[]) (_:H a=some (.dK es)) (_:∀p,H p=none->Q (.ref p) (upd H p (ZF p a))):wN x xs H Q
def IR:UK X "dict.values" wN:=by
 intro d s σ H x xs v p Q I j l h;obtain⟨a,A,rfl,rfl,n,q⟩:=h;cases j;have c:=l.zero;subst c;obtain⟨z,m,g,rel,f⟩:=Fo I.fg n;refine qP PySem.F.slot_dict_values f.typeIs PySem.F.entry_dict_values (PySem.F.args_dict_values_1 _) (meets_dict_values (a0 X.prog X.w) a m) ⟨⟨g,f⟩,?_⟩;refine⟨.ref s.1.1.size,_,I.laid (a:=s.1.1.size) (o:=ZF s.1.1.size a) (t':=s.toks) (λb o e=>fC _ e) (fQ _) ⟨⟨_,fO _ rfl,rfl,rfl⟩,⟨_,fO _ rfl⟩,by rintro y u ⟨o,e,r⟩ k;exact⟨o,k o e,r⟩⟩,rfl,q _ (I.fg.fresh (fQ _))⟩
inductive wO(xs:List V)(H:Hp)(Q:VK):Prop
 |mk (p a es) (_:xs=[.ref p]) (_:H p=some (ZF p a)) (_:H a=some (.dK es)) (_:∀q,H q=none->Q (.ref q) (upd H q (.tup (es.map (·.2))))):wO xs H Q
theorem Qv:∀{es:List (gd×V)}{a:List (gd×fG)},KV es a->Vals (es.map (·.2)) (a.map (·.2))
 |_,_,.nil=>.nil
 |_,_,.cons r t=>.cons r.2 (Qv t)
def S0(J:X.calm=true):jo X (.type "tuple") wO:=by
 intro g s σ H xs Y Q I r q;obtain⟨p,a,v,rfl,C,L,q⟩:=q;obtain⟨u,rfl,y⟩:=j8 r;cases y;obtain⟨B,_⟩:=I.fg p _ C;obtain⟨z,hd,h,rel,A,T,M,U⟩:=Fo I.fg L;have E:h.length=v.length:=(mW rel).symm;refine Cq (PySem.W.kdl_values (r:=p) (d:=a) (kvs:=h) (ep:=M) (knd:=a0 X.prog X.w)) (I.ok.hd J) ⟨B,A,T,U⟩ (by rw[E];exact z) (by decide) λl m c G f=>?_;have x:Inv X g σ H {s with heap:=l,toks:=m}:=I.kept G;have N:c.toList=h.map (·.2):=by
  refine mK λi=>?_
  by_cases n:i<c.size
  ·have j:c.toList[i]?=some c[i]:=by rw[gZ];exact gS n
   obtain⟨k,O⟩:=f.2 i c[i] (gS n);rw[j,gO,O];rfl
  ·rw[jD (by rw[gN];lia),jD (by rw[fF,<-f.1];lia)]
 refine⟨.ref l.objs.size,_,x.laid (a:=l.objs.size) (o:=.tup (v.map (·.2))) (t':=m) (λb o e=>fC _ e) (fQ _) ⟨by rw[fF];exact z,c.toList,by rw[N];exact Qv rel,?_⟩,rfl,q _ (x.fg.fresh (fQ _))⟩;rw[Array.toArray_toList];exact IsTup.new _ _
end
def wt:D->Option D
 |.hZ false a=>some (.tup (a.map (·.2)))
 |_=>none
def il.vals{K:KA}{G:Hp}:∀{b:List (D×D)}{es:List (gd×V)},il K G b es->dg K G (b.map (·.2)) (es.map (·.2)):=by
 intro a;induction a with
 |nil=>rintro _ h;rw[show _=[]from h];exact rfl
 |cons a _ c=>obtain⟨_,_⟩:=a;rintro _ ⟨k,v,r,f,_,e,d⟩;subst f;exact⟨v,_,rfl,e,c d⟩
section
variable{X:Cx}{B:Hp}{E:EK}{o:Expr}{g:En->Res}{pos p ap cp:Pos}
def KJ(x:X.calm=true)(u:Gl X "tuple")(n:X.mg "tuple"=none)(z:jc X B E o g)(y:j4 o=true)(r:(ap.endLine==cp.line)=true):
  fh X B E (.Call (.Name "tuple" p) [.Call (.Attribute o "values" ap) [] [] cp] [] pos) (g1 wt g):=
 PE.imp (ni (S0 x) u n qJ (jb (RW lI PySem.F.slot_dict_values PySem.F.type_dict_values IR z (l7 y) r) oq rfl) (by decide) (by decide) rfl rfl) λσ H Q q=>by
  obtain⟨G,U,R,q⟩:=q;refine⟨G,U,R,(ey.bind q).mono λd _ q v L J h A=>?_⟩;obtain⟨I,f,q⟩:=ey.of q;cases d with
  |hZ t m=>
   cases t with
   |true=>cases f
   |false=>
    cases f;obtain⟨l,e,rfl,b,dl⟩:=Arg.vM h.gh A;refine⟨.inr (.inr (.inl ⟨rfl,.inl ⟨e,b⟩⟩)),l,e,rfl,rfl,b,λp j=>⟨p,l,e,rfl,ai,?_,λC a=>?_⟩⟩
    ·rw[ag (bj b j)];exact b
    ·have c:=Ext.own h.gh (ZF p l) j;exact q _ _ _ ((h.trans c).trans (Ext.new c.gh _ a)) (n9 c.gh a dl.vals)
  |_=>cases f
end
end Pu
namespace Pu
open PySem PySem.Spec PyProof.Rows L2 PySem.SeqAt PySem.W
section
variable{prog:gX}{w:iI}{A:iR}{R:Result->fP->Prop}{I:Addr}{fp wr:List Addr}{n:Nat}{P:Nat->fG->Prop}{St:Nat->Heap->Prop}
def VU(prog:gX)(w:iI)(A:iR)(P:Nat->fG->Prop)(St:Nat->Heap->Prop)(c:Nat->Nat->Bool):Prop:=
 ∀k i j b a (s:fP) (Q:fG->fP->Prop) (E:fG->fP->Prop),St k s.1->P i b->P j a->Q (.bool (c i j)) s->gK (gR prog w) A (richCompare .Lt b a) Q E s
def Ux(W:Walks prog w A.in1 I fp wr n P St)(N:Nat->Nat->Bool)(C:VU prog w A.in1 P St N)(S:Addr)(G:S∉fp):
  ∀(k j:Nat)(s:fP)(q:fG)(c:Nat),n - (j+1)=k->j+1<=n->St (j+1) s.1->P (sM N j) q->
  s.1.get? S=some {cls:=.type "list",dict:=none,data:=.seq #[q,q] c,slots:=#[]}->
  (∀v M J,P (sM N (n - 1)) v->(∀b o,b∉wr->b≠S->s.1.get? b=some o->M.get? b=some o)->R (.ok (.ret v)) {s with heap:=M,toks:=J})->
  nR (gR prog w) A (.builtin "min.loop" ⟨[.ref I,.none,.ref S],[]⟩) R s:=by
 have E:S∉wr:=λh=>G (W.sub _ h);have Q:(toString "min"++toString ".loop":String)="min.loop":=by decide
 intro k;induction k with
 |zero=>
  intro j s q c hk hj r x H L;have B:j+1=n:=by lia
  refine kJ tY ?_;refine fB (iS H rfl ?_);refine fB (qZ (W.done s _ _ (B▸r) λM J d=>?_));have p:=d S _ E H;refine fB ?_;refine nQ p rfl (fB (pI (fE ?_)));refine L q _ J (by rwa [<-B]) λb o a f e=>(kI _ _ (kS f)).trans (d b o a e)
 |succ k T=>
  intro j s q c hk hj r x H L;have u:j+1<n:=by lia
  refine kJ tY ?_;refine fB (iS H rfl ?_);refine fB (qZ (W.item _ s _ _ u r λv M J Y l d=>?_));have p:=d S _ E H;show gK _ A.in1 (tryCatch _ _>>=_) _ _ _;refine fB (qZ (iX (fB (C _ _ _ v q _ _ _ l Y x ?_))));refine fB (iX (kB ?_));refine fB (pI (fE ?_));cases U:N _ _ with
  |true=>
   refine fB ?_;refine nQ p rfl (fB (pI ?_));refine fE ⟨kW rR _,T _ _ v _ (by lia) u (W.frame _ _ _ l λb γ o e=>?_) (by simp only[sM,U,if_true];exact Y) (iV _ p rfl) λO z g y m=>?_⟩
   ·exact(kI _ _ (λh:S=b=>G (by rwa [h]))).trans e
   ·exact L O z g y λb o a f e=>m b o a f ((kI _ _ (kS f)).trans (d b o a e))
  |false=>
   refine fB (pI ?_);refine fE ⟨kW rR _,T _ _ q c (by lia) u l (by simp only[sM,U,Bool.false_eq_true,if_false];exact x) p λO z g y m=>?_⟩;exact L O z g y λb o a f e=>m b o a f (d b o a e)
end
section
variable{prog:gX}{w:iI}{A:iR}{E:fG->fP->Prop}{s:fP}
def Sx{x:fG}{Q:fG->fP->Prop}
   (h:gK (gR prog w) A.in1 (uL x) (λit a=>∃I u wr n P St y,it=.ref I/\Walks prog w A.in1 I u wr n P St/\St 0 a.1/\(∀b∈u,b<a.1.1.size)/\0<n/\VU prog w A.in1 P St y/\
   ∀v H J,P (sM y (n - 1)) v->(∀b o,b∉wr->a.1.get? b=some o->H.get? b=some o)->Q v {a with heap:=H,toks:=J}) E s):
  gK (gR prog w) A (call (.builtin "min") [x]) Q E s:=by
 have c:(toString "min"++toString ".loop":String)="min.loop":=by decide
 refine call_function_tree F.kind_min F.plain_min F.entry_min (F.args_min1 _) ?_;refine fB (oE (rfl) ?_);refine fB (fE ?_);refine fB (iP h (λit a g=>?_) λ_ _ e=>e);obtain⟨I,u,wr,n,P,St,y,rfl,W,z,B,L,p,T⟩:=g;refine fB (jJ ?_);have d:a.1.1.size∉u:=λN=>jA _ (B _ N);rw[c];refine fE ⟨kW rR _,?_⟩;refine kJ tY ?_;refine fB (iS (fO _ rfl) rfl ?_);refine fB (qZ (W.item 0 _ _ _ L (W.frame _ _ _ z λb _ o e=>fC _ e) λv H J U j m=>?_));have r:=m a.1.1.size _ (λh=>d (W.sub _ h)) (fO _ rfl);show gK _ A.in1 (updateSeq a.1.1.size _>>=_) _ _ _;refine fB ?_;refine nQ r rfl ?_;refine fE ⟨kW rR _,Ux W y p a.1.1.size d _ 0 _ v _ rfl L (W.frame _ _ _ j λb O o e=>?_) U (iV _ r rfl) λM G f C l=>?_⟩
 ·exact(kI _ _ (λh:a.1.1.size=b=>d (by rwa [h]))).trans e
 ·exact T M G f C λb o q e=>l b o q (hU (fS e)) ((kI _ _ (jH (fS e))).trans (m b o q (fC _ e)))
def Walks.zU{I:Addr}{j wr:List Addr}{n:Nat}{P:Nat->fG->Prop}{St:Nat->Heap->Prop}{ts:List Addr}{OK:Heap->Prop}(W:Walks prog w A I j wr n P St)(p:∀b∈ts,b∉wr)
  (g:∀h c,OK h->(∀b∈ts,∀o,h.get? b=some o->c.get? b=some o)->OK c):Walks prog w A I (j++ts) wr n P (λi h=>St i h/\OK h) where
 sub:=λb a=>mD _ (W.sub b a)
 frame:=λi h c st k=>⟨W.frame i h c st.1 λb a=>k b (mD _ a),g h c st.2 λb a=>k b (jX _ a)⟩
 item:=λi s Q E m st d=>W.item i s Q E m st.1 λv c l q f k=>d v c l q ⟨f,g _ _ st.2 λb a o e=>k b o (p b a) e⟩ k
 done:=λs Q E st d=>W.done s Q E st.1 d
 self:=λi s Q E st d=>W.self i s Q E st.1 d
end
def dI(x y:Bool×Int):Nat->Bool
 |0=>iG (.bool x.1) (.bool y.1)
 |_=>iG (.int x.2) (.int y.2)
def dH(x y:Bool×Int):Nat->Bool
 |0=>decide (b2i x.1<b2i y.1)
 |_=>decide (x.2<y.2)
def WQ(x y:Bool×Int):Bool:=zd (dI x y) (dH x y) false [0,1]
def vo:List D->Option (List (Bool×Int))
 |[]=>some []
 |.tup [.bl b,.int i]::r=>(vo r).map ((b,i)::·)
 |_=>none
def qp:D->Option D
 | .lst b => (match vo b with
  |some a=>if a=[]then none else b[sM (λi j=>WQ (a.getD i (false,0)) (a.getD j (false,0))) (a.length - 1)]?
  |none=>none)
 |_=>none
inductive u9(h:Heap)(v:fG)(p:Bool×Int):Prop
 |mk (a dd n sl t) (_:v=.ref a) (_:h.get? a=some {cls:=.type "tuple",dict:=dd,data:=.seq #[.bool p.1,.int p.2 t] n,slots:=sl}):u9 h v p
def Oo:∀{g:List D}{a:List (Bool×Int)},vo g=some a->g=a.map λp=>.tup [.bl p.1,.int p.2]:=by
 intro c;induction c with
 |nil=>rintro a h;cases h;rfl
 |cons d r f=>
  rintro a h
  unfold vo at h;split at h
  ·rename_i z;cases z
  ·rename_i b i j z;cases z;cases e:vo r with
   |none=>rw[e]at h;cases h
   |some l=>rw[e]at h;cases h;rw[f e];rfl
  ·cases h
def IW{c:gX}{w:iI}{A:iR}{s:fP}{u v:fG}{x y:Bool×Int}{Q:fG->fP->Prop}{E:fG->fP->Prop}(I:A.units+5<jS)(pu:u9 s.1 u x)(C:u9 s.1 v y)(q:Q (.bool (WQ x y)) s):
  gK (gR c w) A (richCompare .Lt u v) Q E s:=by
 obtain⟨a,H,n,z,t,rfl,o⟩:=pu;obtain⟨b,f,G,d,g,rfl,m⟩:=C;have l:∀(B:Bool),Reads s.1 _ _ []:=λB=>.bool B;have h:∀(i:Int)(k:Tok),Reads s.1 _ _ []:=λi k=>.int i k;refine richCompare_meets_room ⟨_,o,rfl⟩ ⟨_,m,rfl⟩ F.slot_tuple_lt F.entry_tuple_lt (F.args_tuple_lt_2 _ _) (DH a b #[.bool x.1,.int x.2 t] #[.bool y.1,.int y.2 g] n G H f z d (dI x y) (dH x y)) ⟨o,m,λj p r=>⟨?_,λ_=>?_⟩,?_⟩ (by lia)
 ·have e:j=0\/j=1:=by have:j<2:=p;lia
  obtain rfl|rfl:=e
  ·exact eqAt_reads _ _ _ _ _ _ _ _ (l x.1) (l y.1) rfl rfl (by simp only[jZ];lia)
  ·exact eqAt_reads _ _ _ _ _ _ _ _ (h x.2 t) (h y.2 g) rfl rfl (by simp only[jZ];lia)
 ·have e:j=0\/j=1:=by have:j<2:=p;lia
  obtain rfl|rfl:=e
  ·exact λc w E Q q=>(PyProof.Rows.lt_bool q)
  ·exact λc w E Q q=>(PyProof.Rows.lt_int q)
 ·exact⟨(λx=>nomatch x),q⟩
section
variable{X:Cx}{B:Hp}{E:EK}{e:Expr}{g:En->Res}{pos p:Pos}
inductive wR(X:Cx)(xs:List V)(H:Hp)(Q:VK):Prop
 |mk (a vs G ds d) (_:xs=[.ref a]) (_:i' X.K H a vs) (_:c7 G H) (_:dg (kx X) G ds vs) (_:qp (.lst ds)=some d) (_:(∀v,Den (kx X) G d v->Q v H)):wR X xs H Q
def Sy(L:X.A.units+20<jS)(hc:X.calm=true):jo X (.builtin "min") (wR X):=by
 intro η s σ H xs us Q I r q;obtain⟨a,vs,G,ds,d,rfl,sq,sg,dl,y,q⟩:=q;obtain⟨u,rfl,N⟩:=j8 r;cases N;unfold qp at y;dsimp only at y;cases ep:vo ds with
 |none=>rw[ep]at y;cases y
 |some m=>
  rw[ep]at y;dsimp only at y
  by_cases x:m=[]
  ·rw[fM x]at y;cases y
  rw[fJ x]at y;have T:=Oo ep;obtain⟨f,Y,pl,hz⟩:=I.list sq;have al:=fS ((pl.isList).choose_spec.1);have len:f.length=m.length:=by rw[<-Y.length,<-dl.length,T,fF]
  have get:∀(i:Nat) v,f[i]?=some v->u9 s.1 v _:=λi v C=>by
   have U:i<m.length:=by rw[<-len];exact(List.getElem?_eq_some_iff.mp C).1
   have hd:ds[i]?=some (.tup [.bl (m.getD i (false,0)).1,.int (m.getD i (false,0)).2]):=by rw[T,gO,gF U,gW,gF U];rfl
   obtain⟨w,hw,b,ws,rfl,l,v1,r1,rfl,d1,v2,r2,rfl,d2,rfl⟩:=dl.get hd;obtain⟨u,L,N⟩:=Y.get hw;rw[C]at L;cases L;cases N;obtain⟨_,Ψ,z1,⟨cl,M,dt,J⟩,z3,z4,n,z5⟩:=(I.fg b _ (sg _ _ l));subst z4 z5;rw[d1,d2]at z1;cases z1 with
   |cons q1 t1=>
    cases t1 with
    |cons q2 t2=>
     cases t2;cases (q1);obtain⟨t,rfl⟩:=(q2);exact⟨b,M,n,J,t,rfl,z3⟩
  have O:∀b∈f.filterMap (λv=>match v with|.ref b=>some b|_=>none),b<s.1.1.size:=λb l=>by
   obtain⟨v,C,e⟩:=List.mem_filterMap.mp l;obtain⟨i,U⟩:=kQ C;obtain⟨c,M,n,J,t,rfl,z⟩:=get i v U;cases e;exact fS z
  refine Sx (nT pl.isList ⟨_,_,_,_,_,_,(λi j=>WQ (m.getD i (false,0)) (m.getD j (false,0))),rfl,Walks.zU (ts:=f.filterMap (λv=>match v with|.ref b=>some b|_=>none)) (OK:=λh=>∀(i:Nat) v,f[i]?=some v->u9 h v (m.getD i (false,0))) (Walks.list (A:=X.A.in1) (I.ok.hd hc) _ a (hU al) f.toArray) (λb l z=>?_) (λh h' ok k i v C=>?_),⟨⟨⟨_,fO _ rfl,rfl,rfl⟩,pl.isList.push _⟩,λi v C=>?_⟩,λb l=>?_,by rw[hW,len];exact(List.length_pos_iff.mpr x),λk i j vi vj s' Q' E' st pi pj q'=>?_,λv h' tk hP hk=>?_⟩)
  ·have:b=s.1.1.size:=by simpa using z
   exact jA _ (this▸O b l)
  ·obtain⟨c,M,n,J,t,rfl,z⟩:=ok i v C;exact⟨c,M,n,J,t,rfl,k c (List.mem_filterMap.mpr ⟨_,iE C,rfl⟩) _ z⟩
  ·obtain⟨c,M,n,J,t,rfl,z⟩:=get i v C;exact⟨c,M,n,J,t,rfl,fC _ z⟩
  ·rw[iN];rcases List.mem_append.mp l with l|l
   ·rcases List.mem_cons.mp l with rfl|l
    ·exact lV _
    ·rcases List.mem_cons.mp l with rfl|l
     ·exact mJ al
     ·cases l
   ·exact mJ (O b l)
  ·exact IW (by show X.A.units+1+5<_;lia) (st.2 i vi (by simpa using pi)) (st.2 j vj (by simpa using pj)) q'
  ·have β:∀b o,s.1.get? b=some o->h'.get? b=some o:=λb o e=>by
    refine hk b o (λhm=>?_) (fC _ e);rcases List.mem_cons.mp hm with z|hm
    ·exact absurd (z▸fS e) (jA _)
    ·cases hm
   rw[hW,len]at hP;have δ:f[sM (λi j=>WQ (m.getD i (false,0)) (m.getD j (false,0))) (m.length - 1)]?=some v:=by simpa using hP
   obtain⟨w,hw,dw⟩:=dl.get y;obtain⟨u,L,N⟩:=Y.get hw;rw[δ]at L;cases L;exact⟨w,H,I.kept β,N,q w dw⟩
def KL(j:X.A.units+20<jS)(o:X.calm=true)(n:Gl X "min")(m:X.mg "min"=none)(r:jc X B E e g)(b:gQ [e] X.env=(false,eval e X.env)::gQ [] X.env):fh X B E (.Call (.Name "min" p) [e] [] pos) (g1 qp g):=
 PE.imp (l8 (Sy j o) n m (by decide+kernel) (d9 r ig b) (by decide) (by decide) b rfl) λσ H Q q=>OH (λG H x u d a C c Q q=>by
  cases u with
  |lst z=>
   obtain⟨l,f,rfl,h,dl⟩:=C.lst a;exact⟨l,f,G,z,d,rfl,h,a,dl,c,λv y=>q v G H (Ext.refl a) y⟩
  |_=>cases c) q
end
end Pu
namespace Pu
open PySem PySem.Spec PyProof.Rows L2
section
variable{prog:gX}{w:iI}{A:iR}{E:fG->fP->Prop}{s:fP}
def Bh{M:Model}{a:Addr}{Q:Option Obj->fP->Prop}(h:Q (s.1.get? a) s):gK M A (loadIfAlive a) Q E s:=λΓ p _=>h
def MQ{z TI TO m l C B k a:Nat}{xs U:Array fG}{x y G:fG}{oa:Obj}{Q:Option fG->fP->Prop}(D:rX z TI TO m l C B)(Z:ZL s.1 z TI TO m l C B k (jR a) G)(ha:s.1.get? a=some oa)
  (L:s.1.IsList C xs)(J:pO s.1 B U)(hx:xs[k]?=some x)(hy:U[k]?=some y)
  (hQ:∀p,ZL p z TI TO m l C B (k+1) (jR a) (.bool true)->IsPair p s.1.1.size x y->p.objs.size=s.1.1.size+1->
   (∀c o,c≠z->c≠TO->c≠m->c≠l->s.1.get? c=some o->p.get? c=some o)->Q (some (.ref s.1.1.size)) {s with heap:=p}):
  gK (gR prog w) A (pQ (.ref z)) Q E s:=by
 obtain⟨g,n,⟨u,v,M⟩,h1,h2⟩:=Z;have hT:s.TypeIs (.ref z) "zip":=⟨_,g,rfl⟩;refine fB (kX (iM hT mO (iH mO hT rP ?_ (qX _))));show gK _ _ (field _ 2>>=_) _ _ _;refine fB (jG g rfl rfl ?_);refine fB (jG g rfl rfl ?_);refine fB (iS n rfl ?_);refine fB ?_;refine fB (jG g rfl rfl ?_);refine fB (Bh ?_);rw[iZ,ha];refine fB (jG g rfl (x:=G) rfl ?_);refine iP (show gK _ _ _ (λb Y=>b=false/\∃g1,Y={s with heap:=g1}/\g1.get? z=some (EH (jR a) (.bool true) TI TO)/\iJ z s.1 g1) _ s from ?_) (λb Y ⟨eb,g1,es,H,d⟩=>?_) λ_ _ x=>x
 ·by_cases e:(G !=.bool true)=true
  ·rw[fM e];exact fB (jL g (by simp) λg1 H d=>fE ⟨rfl,g1,rfl,H,d⟩)
  ·have e':G=.bool true:=by simpa using e
   subst e';exact fE ⟨rfl,s.1,rfl,g,rfl,λ_ _=>rfl⟩
 ·subst eb es;refine fB (fB (fB (iX ?_)));refine fB (qW (h1.extBut d.extBut D.i1z) (L.extBut d.extBut D.l1z) hx λg2 p2 f=>fE (fE ?_));refine fB (fB (iX ?_));refine fB (mi ((h2.extBut d.extBut D.i2z).extBut f.extBut D.i12.symm) ((J.extBut d.extBut D.l2z).extBut f.extBut D.l2i1) hy λq p4 h=>fE (fE (fE ?_)));replace f:iJ m g1 g2:=f;replace h:iJ l g2 q:=h;show gK _ _ (newTuple [x,y]>>=_) _ _ _;refine fB (qT (fE ⟨_,rfl,fE ?_⟩));have sz:q.objs.size=s.1.1.size:=by rw[h.1,f.1,d.1]
  have I:∀c o,c≠z->c≠m->c≠l->s.1.get? c=some o->q.get? c=some o:=λc o T O N e=>h.extBut _ _ N (f.extBut _ _ O (d.extBut _ _ T e));have j:∀c o,q.get? c=some o->(q.push {cls:=.type "tuple",data:=.seq #[x,y]}).get? c=some o:=λc o e=>fC _ e;rw[sz];refine hQ _ ⟨j _ _ (h.extBut _ _ D.i2z.symm (f.extBut _ _ D.i1z.symm H)),j _ _ (I _ _ D.TIz D.TIi1 D.TIi2 n),⟨u,v,j _ _ (I _ _ D.TOz D.TOi1 D.TOi2 M)⟩,let ⟨o,e,r⟩:=(p2.extBut h.extBut D.i12);⟨o,j _ o e,r⟩,let ⟨o,e,r⟩:=p4;⟨o,j _ o e,r⟩⟩ ?_ ?_ λc o T c2 O N e=>j _ _ (I c o T O N e)
  ·rw[<-sz];exact fO _ rfl
  ·rw[iN,sz]
def MP{z TI TO m y r q k a:Nat}{xs p:Array fG}{n:fG}{oa:Obj}{Q:Option fG->fP->Prop}(N:A.handled=none)(D:rX z TI TO m y r q)(Z:ZL s.1 z TI TO m y r q k (jR a) n)(ha:s.1.get? a=some oa)
  (j:s.1.IsList r xs)(C:pO s.1 q p)(l:xs[k]?=none\/p[k]?=none)
  (T:∀Y,(∀c o,c≠z->c≠TO->c≠m->c≠y->s.1.get? c=some o->Y.get? c=some o)->Q none {s with heap:=Y}):gK (gR prog w) A (pQ (.ref z)) Q E s:=by
 obtain⟨g,H,⟨u,v,ε⟩,U,h2⟩:=Z;have O:s.TypeIs (.ref z) "zip":=⟨_,g,rfl⟩;refine fB (kX (iM O mO (iH mO O rP ?_ (qX _))));show gK _ _ (field _ 2>>=_) _ _ _;refine fB (jG g rfl rfl ?_);refine fB (jG g rfl rfl ?_);refine fB (iS H rfl ?_);refine fB ?_;refine fB (jG g rfl rfl ?_);refine fB (Bh ?_);rw[iZ,ha];refine fB (jG g rfl (x:=n) rfl ?_);refine iP (show gK _ _ _ (λb M=>b=false/\∃g1,M={s with heap:=g1}/\g1.get? z=some (EH (jR a) (.bool true) TI TO)/\iJ z s.1 g1) _ s from ?_) (λb M ⟨eb,g1,es,L,d⟩=>?_) λ_ _ x=>x
 ·by_cases e:(n !=.bool true)=true
  ·rw[fM e];exact fB (jL g (by simp) λg1 L d=>fE ⟨rfl,g1,rfl,L,d⟩)
  ·have e':n=.bool true:=by simpa using e
   subst e';exact fE ⟨rfl,s.1,rfl,g,rfl,λ_ _=>rfl⟩
 ·subst eb es;refine fB (fB (fB (iX ?_)));cases B:xs[k]? with
  |none=>
   refine fB (wpAny_nextOf_list_end N (U.extBut d.extBut D.i1z) (j.extBut d.extBut D.l1z) B λg2 e f G=>?_);exact Cd G (T _ λc o J _ I _ x=>f _ _ I (d.extBut _ _ J x))
  |some x=>
   have hy:p[k]?=none:=by obtain h|h:=l;rw[B]at h;cases h;exact h
   refine fB (qW (U.extBut d.extBut D.i1z) (j.extBut d.extBut D.l1z) B λg2 p2 f=>fE (fE ?_));replace f:iJ m g1 g2:=f;refine fB (fB (iX ?_));refine fB (om N ((h2.extBut d.extBut D.i2z).extBut f.extBut D.i12.symm) ((C.extBut d.extBut D.l2z).extBut f.extBut D.l2i1) hy λg4 e s4 G=>?_);exact Cd G (T _ λc o J _ I c4 x=>s4 _ _ c4 (f.extBut _ _ I (d.extBut _ _ J x)))
end
def Ku:typeLookup (.type "zip") "keys"=pure none:=am_miss_of_fast (by decide+kernel)
def Az:typeLookup (.type "zip") "__getattr__"=pure none:=by rw[typeLookup_type,builtinLookup_eq_fast];kernel_rfl
def Hn:entryFor table "zip.__getattribute__"=some Builtin.«object.__getattribute__»:=
 entryFor_alias (id':="object.__getattribute__") (by kernel_rfl) rfl (by decide+kernel) (by kernel_rfl)
def Kb(a:Addr)(f:Array fG)(u:Tok):
  Meets (Builtin.«object.__getattribute__» ⟨[.ref a,.str "keys" u],[]⟩) (λA R s=>s.1.get? a=some {cls:=.type "zip",dict:=none,data:=.fields f,slots:=#[]}/\raisesAttr (.ref a) "keys" A R s):=
 Meets.of_wp λe w A R s b=>by
  obtain⟨l,g,d,h,os⟩:=s;obtain⟨j,b⟩:=b;have m:(⟨l,g,d,h,os⟩:fP).TypeIs (.ref a) "zip":=⟨_,j,rfl⟩;have c:=Ku;unfold Builtin.«object.__getattribute__»
  repeat (any_goals (first|assumption|wp_step))
  exact wpAny_raiseAttrError (A:=A.in1) b.1 b.2 (attrMsg_fits (by decide+kernel) (by rw[iT];decide))
def K3{c:gX}{w:iI}{A:iR}{E:fG->fP->Prop}{h:Heap}{g:Array GenState}{d:Drawn}{t:Nat}{os:OsState}{a:Addr}{l:Array fG}{Q:Option fG->fP->Prop}(n:h.get? a=some {cls:=.type "zip",dict:=none,data:=.fields l,slots:=#[]})(u:A.handled=none)
  (q:∀j p,(∀b m,h.get? b=some m->j.get? b=some m)->Q none ⟨j,g,d,p,os⟩):gK (gR c w) A (getAttr? (.ref a) "keys") Q E ⟨h,g,d,t,os⟩:=by
 have r:(⟨h,g,d,t,os⟩:fP).TypeIs (.ref a) "zip":=⟨_,n,rfl⟩;have G:=sub_AttributeError;have C:=F.slot_zip_getattribute.lookup;have B:=F.slot_zip_getattribute.bind (.ref a);have z:=Az;unfold getAttr? getAttrBy? getAttrBy
 repeat (any_goals (first|assumption|((with_reducible show gK _ _ (call (Value.builtin "zip.__getattribute__") _ _) _ _ _);refine uC F.slot_zip_getattribute r Hn (F.args_zip_getattribute_2 _ _) (Kb a l _) ⟨n,u,λj o e f=>?_⟩)|wp_step))
 obtain⟨x,v,y⟩:=f.there;show gK _ _ (getattributeRaised _ _ _ _ _ _ _) _ _ _;unfold getattributeRaised
 repeat (any_goals (first|assumption|wp_step))
 exact q j _ f.keeps
section
variable{prog:gX}{w:iI}{A:iR}{E:fG->fP->Prop}{s:fP}
def Up(l:Addr):Obj:={cls:=.type "list_iterator",data:=.fields #[.ref l,.int 0 0]}
def VW(h:Heap)(b a:Addr):Heap:=((((h.push (Up b)).push (Nw a)).push (NI h)).push VV).push (aB h)
def Ky(a b:Addr)(xs l:Array fG):
  Meets (Builtin.«zip.__new__» ⟨[.type "zip",.ref a,.ref b],[]⟩) (λ_ R s=>s.1.IsList a xs/\pO s.1 b l/\
   R (.ok (.ret (.ref (s.1.1.size+4)))) {s with heap:=VW s.1 a b}):=
 .of_wp λprog w A R s h=>by
  obtain⟨o,g,d,m,os⟩:=s;obtain⟨e,c,h⟩:=h;have n:=sub_zip;have j:Heap.IsList (Shared.heap ⟨o,g,d,m,os⟩) a xs:=e;have f:pO (Shared.heap ⟨o.push {cls:=.type "list_iterator",data:=.fields #[.ref a,.int 0 0]},g,d,m,os⟩) b l:=IsTup.push c _
  wp_walk using nT j,iter_tuple f
  refine⟨_,rfl,?_⟩;simp only[iN];exact h
def Mv{a b:Addr}{xs g:Array fG}{Q:fG->fP->Prop}(e:s.1.IsList a xs)(d:pO s.1 b g)
  (h:∀f,ZL f (s.1.1.size+4) (s.1.1.size+2) (s.1.1.size+3) s.1.1.size (s.1.1.size+1) a b 0 .none (.bool false)->(∀c o,s.1.get? c=some o->f.get? c=some o)->Q (.ref (s.1.1.size+4)) {s with heap:=f}):
  gK (gR prog w) A (call (.type "zip") [.ref a,.ref b]) Q E s:=by
 refine callType_new F.called_zip (by decide) (F.typeCall_zip_2 _ _) (F.newCall_zip_2 _ _) (λobj=>F.args_object_init_3 obj _ _) F.entry_zip_new (Ky a b xs g) ⟨e,d,?_⟩;have m:(s.1.push (Up a)).objs.size=s.1.1.size+1:=iN ..;have l:((s.1.push (Up a)).push (Nw b)).objs.size=s.1.1.size+2:=by rw[iN,m]
 have j:(((s.1.push (Up a)).push (Nw b)).push (NI s.1)).objs.size=s.1.1.size+3:=by rw[iN,l]
 have p:((((s.1.push (Up a)).push (Nw b)).push (NI s.1)).push VV).objs.size=s.1.1.size+4:=by rw[iN,j]
 have n:(VW s.1 a b).get? (s.1.1.size+4)=some (aB s.1):=by rw[<-p];exact fO _ rfl
 have q:(VW s.1 a b).get? (s.1.1.size+3)=some VV:=by rw[<-j];exact fC _ (fO _ rfl)
 have r:(VW s.1 a b).get? (s.1.1.size+2)=some (NI s.1):=by rw[<-l];exact fC _ (fC _ (fO _ rfl))
 have g2:(VW s.1 a b).get? (s.1.1.size+1)=some (Nw b):=by rw[<-m];exact fC _ (fC _ (fC _ (fO _ rfl)))
 have g1:(VW s.1 a b).get? s.1.1.size=some (Up a):=fC _ (fC _ (fC _ (fC _ (fO _ rfl))));exact⟨⟨_,n,rfl⟩,h _ ⟨n,r,⟨_,_,q⟩,⟨_,g1,rfl,rfl⟩,⟨_,g2,rfl,rfl⟩⟩ λc o x=>fC _ (fC _ (fC _ (fC _ (fC _ x))))⟩
end
section
variable{prog:gX}{w:iI}{A:iR}{R:Result->fP->Prop}{z TI TO i1 i2 l1 l2:Nat}{xs ys:Array fG}{ps:List (gd×fG)}
def MS(hh:A.handled=none)(D:rX z TI TO i1 i2 l1 l2)(d:Addr)(T:∀b∈[z,TI,TO,i1,i2,l1,l2],d≠b)(hz:ps.length<=fR)(hn:ps.length=min xs.size ys.size)
  (hP:∀(j:Nat) kv,ps[j]?=some kv->∃x,xs[j]?=some x/\(a0 prog w).is kv.1 x=true/\ys[j]?=some kv.2):
  ∀(rest:List (gd×fG))(i:Nat)(s:fP)(m:List (gd×fG)),ps.drop i=rest->i<=ps.length->(∃f0 N,ZL s.1 z TI TO i1 i2 l1 l2 i f0 N/\((f0=.none/\N=.bool false)\/∃a:Nat,f0=jR a/\(∃I,s.1.get? a=some I)/\a∉[d,z,TO,i1,i2]))->
   s.1.IsList l1 xs->pO s.1 l2 ys->s.1.DictOf (a0 prog w) d m->m.length<=i->
   (∀y tk,(∀b o,b∉[d,z,TO,i1,i2]->s.1.get? b=some o->y.get? b=some o)->y.DictOf (a0 prog w) d (merged m rest)->R (.ok (.ret .none)) {s with heap:=y,toks:=tk})->
   nR (gR prog w) A (.builtin "dict.update.loop" ⟨[.ref d,.ref z,jR i,.none],[]⟩) R s:=by
 have dz':d≠z/\d≠TI/\d≠TO/\d≠i1/\d≠i2/\d≠l1/\d≠l2:=⟨T z (by simp),T TI (by simp),T TO (by simp),T i1 (by simp),T i2 (by simp),T l1 (by simp),T l2 (by simp)⟩;obtain⟨d1,d2,d3,d4,d5,d6,d7⟩:=dz';have J:∀{b:Addr},b∉[d,z,TO,i1,i2]->b≠d/\b≠z/\b≠TO/\b≠i1/\b≠i2:=λ{b} h=>by simpa using h
 intro rest;induction rest with
 |nil=>
  intro i s m E hi Q hL p hT hk hR;have ω:i=ps.length:=by
   have:=congrArg lT E;rw[nA,jM]at this
   lia
  subst ω;have M:xs[ps.length]?=none\/ys[ps.length]?=none:=by
   by_cases e:xs.size<=ps.length
   ·exact .inl (by simp[e])
   ·have:ys.size<=ps.length:=by lia
    exact .inr (by simp[this])
  have C:∀y,(∀c o,c≠z->c≠TO->c≠i1->c≠i2->s.1.get? c=some o->y.get? c=some o)->gK (gR prog w) A.in1 (Builtin.Dict.addKeywords d []>>=λ_=>ret lD) (λC H=>match C with|.done f=>R (.ok f) H|.again c'=>c'.quiet=true/\nR (gR prog w) A c' R H) (λe H=>R (.error e) H) {s with heap:=y}:=λy B=>by
   refine fB (fE (fE (hR y s.toks (λb o hb e=>?_) ?_)))
   ·obtain⟨c1,c2,c3,c4,c5⟩:=J hb;exact B b o c2 c3 c4 c5 e
   ·obtain⟨o,es,ep,q,h2⟩:=hT;exact⟨o,es,ep,B d o d1 d3 d4 d5 q,h2⟩
  refine kJ ud ?_;rw[rZ ji _];show gK _ A.in1 (pQ (.ref z)>>=_) _ _ s;obtain⟨f0,N,Z,⟨rfl,rfl⟩|⟨a,rfl,⟨I,Y⟩,U⟩⟩:=Q
  ·exact fB (Sg YU hh D Z hL p M λy B=>C y B)
  ·exact fB (MP hh D Z Y hL p M λy B=>C y B)
 |cons n rest ih=>
  intro i s m E hi Q hL p hT hkl hR;have ψ:i<ps.length:=by
   have:=congrArg lT E;rw[nA,fI]at this
   lia
  have χ:ps[i]?=some n:=by
   have:(ps.drop i)[0]?=some n:=by rw[E];rfl
   simpa using this
  have Γ:ps.drop (i+1)=rest:=by
   have:(ps.drop i).drop 1=rest:=by rw[E];rfl
   rw[List.drop_drop]at this;exact this
  obtain⟨x,hx,υ,hy⟩:=hP i n χ;refine kJ ud ?_;rw[rZ ji _];show gK _ A.in1 (pQ (.ref z)>>=_) _ _ s;have σ:z<s.1.1.size:=by obtain⟨_,_,Z,_⟩:=Q;exact fS Z.hz
  have β:TO<s.1.1.size:=by obtain⟨_,_,Z,_⟩:=Q;obtain⟨_,_,e⟩:=Z.hO;exact fS e
  have ζ:i1<s.1.1.size:=by obtain⟨_,_,Z,_⟩:=Q;obtain⟨_,e,_⟩:=Z.h1;exact fS e
  have ε:i2<s.1.1.size:=by obtain⟨_,_,Z,_⟩:=Q;obtain⟨_,e,_⟩:=Z.h2;exact fS e
  have dlt:d<s.1.1.size:=by obtain⟨_,_,_,e,_⟩:=hT;exact fS e
  have δ:s.1.1.size∉[d,z,TO,i1,i2]:=by
   simp only[iK,lW,or_false,not_or];exact⟨jH dlt,jH σ,jH β,jH ζ,jH ε⟩
  have L:∀q f0 N,ZL q z TI TO i1 i2 l1 l2 (i+1) f0 N->(∃a:Nat,f0=jR a/\(∃I,q.get? a=some I)/\a∉[d,z,TO,i1,i2])->IsPair q s.1.1.size x n.2->(∀c o,c≠z->c≠TO->c≠i1->c≠i2->s.1.get? c=some o->q.get? c=some o)->
    gK (gR prog w) A.in1 (holding [kN s.1.1.size] (do
     let γ <-(Builtin.Dict.pairItems (.ref s.1.1.size)).tryCatch λe=>do
      if !(<-isInstance e (.type "TypeError"))then throw e
      rule "dict.update.element-no-sequence"
      raiseError "TypeError" s!"cannot convert dictionary update sequence element #{(i : Int)} to a sequence"
     match γ with
     |[k,v]=>holding [k,v] (dictSet d k v)
     |l=>do
      rule "dict.update.element-length"
      raiseError "ValueError" s!"dictionary update sequence element #{(i : Int)} has length {l.length}; 2 is required")>>=λ_=>again (.builtin "dict.update.loop" ⟨[.ref d,.ref z,jR ((i:Int)+1),.none],[]⟩)) (λC H=>match C with|.done f=>R (.ok f) H|.again c'=>c'.quiet=true/\nR (gR prog w) A c' R H) (λe H=>R (.error e) H) {s with heap:=q}:=by
   intro q f0 N Z1 al O g;have Ξ:q.DictOf (a0 prog w) d m:=by
    obtain⟨o,es,ep,z1,z2⟩:=hT;exact⟨o,es,ep,g d o d1 d3 d4 d5 z1,z2⟩
   have Δ:tM {s with heap:=q} (.ref s.1.1.size) "tuple":=⟨_,O,rfl⟩;refine fB (iX ?_);refine fB (qZ ?_);unfold Builtin.Dict.pairItems;refine fB (pL Δ ?_);rw[fM (by decide)];refine fB (iS O rfl (fE ?_));show gK _ A.in1 (holding [x,n.2] (dictSet d x n.2)) _ _ _;refine iX (wpAny_dictSet_pairs (hsz:=by lia) υ Ξ λh2 Θ sb=>?_);refine fE ⟨kW ji _,?_⟩;have ei:jR ((i:Int)+1)=jR ((i+1:Nat):Int):=by push_cast;rfl
   rw[ei];have G:∀c o,c≠d->q.get? c=some o->h2.get? c=some o:=λc o hc e=>(sb.2 c hc).trans e;refine ih (i+1) _ (stored m n.1 n.2) Γ ψ ?_ ?_ ?_ Θ ?_ λy tk hk p=>?_
   ·obtain⟨a,rfl,⟨I,Y⟩,U⟩:=al;obtain⟨b1,b2,⟨u,v,b3⟩,b4,b5⟩:=Z1;exact⟨_,N,⟨G _ _ (kS d1) b1,G _ _ (kS d2) b2,⟨u,v,G _ _ (kS d3) b3⟩,let ⟨o,e,r⟩:=b4;⟨o,G _ o (kS d4) e,r⟩,let ⟨o,e,r⟩:=b5;⟨o,G _ o (kS d5) e,r⟩⟩,.inr ⟨a,rfl,⟨I,G _ _ (J U).1 Y⟩,U⟩⟩
   ·obtain⟨o,e,r⟩:=hL;exact⟨o,G _ o (kS d6) (g _ o D.l1z D.l1TO D.l1i1 D.l1i2 e),r⟩
   ·obtain⟨o,e,r⟩:=p;exact⟨o,G _ o (kS d7) (g _ o D.l2z D.l2TO D.l2i1 D.l2i2 e),r⟩
   ·have:=stored_length_le m n.1 n.2;lia
   ·refine hR y tk (λc o hc e=>hk c o hc ?_) p;obtain⟨c1,c2,c3,c4,c5⟩:=J hc;exact G c o c1 (g c o c2 c3 c4 c5 e)
  obtain⟨f0,N,Z,⟨rfl,rfl⟩|⟨a,rfl,⟨I,Y⟩,U⟩⟩:=Q
  ·refine fB (Si YU D Z hL p hx hy λq Z1 O n1 g=>?_);exact L q _ _ Z1 ⟨s.1.1.size,rfl,⟨_,O⟩,δ⟩ O g
  ·refine fB (MQ D Z Y hL p hx hy λq Z1 O n1 g=>?_);obtain⟨c1,c2,c3,c4,c5⟩:=J U;exact L q _ _ Z1 ⟨a,rfl,⟨I,g a I c2 c3 c4 c5 Y⟩,U⟩ O g
end
section
variable{prog:gX}{w:iI}{A:iR}{E:fG->fP->Prop}{s:fP}
def Mr{z TI TO p n m l:Nat}{xs G:Array fG}{ps:List (gd×fG)}{Q:fG->fP->Prop}(hh:A.handled=none)(D:rX z TI TO p n m l)(Z:ZL s.1 z TI TO p n m l 0 .none (.bool false))
  (y:s.1.IsList m xs)(q:pO s.1 l G)(hz:ps.length<=fR)(hn:ps.length=min xs.size G.size)
  (hP:∀(j:Nat) J,ps[j]?=some J->∃x,xs[j]?=some x/\(a0 prog w).is J.1 x=true/\G[j]?=some J.2)
  (h:∀B tk,B.DictOf (a0 prog w) s.1.1.size (merged [] ps)->(∀c o,c∉[z,TO,p,n]->s.1.get? c=some o->B.get? c=some o)->Q (.ref s.1.1.size) {s with heap:=B,toks:=tk}):
  gK (gR prog w) A (call (.type "dict") [.ref z]) Q E s:=by
 refine callType_codes (Q₁:=λobj f=>obj=.ref s.1.1.size/\f={s with heap:=s.1.push {cls:=.type "dict",data:=.dict #[]}}) F.kt_called_dict (F.kt_typeCall_dict_1 _) F.entry_dict_init (kt_code_dict_new _ ⟨rfl,rfl⟩) ?_
 rintro obj f ⟨rfl,rfl⟩
 have d:(s.1.push {cls:=.type "dict",data:=.dict #[]}).DictOf (a0 prog w) s.1.1.size []:=Heap.DictOf.new s.1;generalize N:s.1.push {cls:=.type "dict",data:=.dict #[]}=h1 at d⊢;have L:∀c o,s.1.get? c=some o->h1.get? c=some o:=λc o e=>by rw[<-N];exact fC _ e
 refine⟨d.typeIs,F.args_dict_init_2 _ _,?_⟩;refine fB ?_;refine fB (oQ d.typeIs ?_);refine fE ?_;show gK _ _ _ _ _ _;refine fB (pL (⟨_,L _ _ Z.hz,rfl⟩) ?_);obtain⟨M,g,dr,tk,os⟩:=s;refine fB (K3 (L _ _ Z.hz) (by simpa using hh) λO H k2=>?_);refine fB (oG ?_);have a:∀c o,M.get? c=some o->O.get? c=some o:=λc o e=>k2 _ _ (L _ _ e);have Z2:ZL O z TI TO p n m l 0 .none (.bool false):=by
  obtain⟨b1,b2,⟨u,v,Y⟩,U,T⟩:=Z;exact⟨a _ _ b1,a _ _ b2,⟨u,v,a _ _ Y⟩,let ⟨o,e,r⟩:=U;⟨o,a _ o e,r⟩,let ⟨o,e,r⟩:=T;⟨o,a _ o e,r⟩⟩
 refine fB (tX (Z2.hz) ?_);refine fE ⟨kW ji _,?_⟩;have lt:∀b∈[z,TI,TO,p,n,m,l],b<M.objs.size:=λb C=>by
  obtain⟨b1,b2,⟨u,v,Y⟩,⟨_,U,_⟩,⟨_,T,_⟩⟩:=Z;obtain⟨_,b6,_⟩:=y;obtain⟨_,b7,_⟩:=q;simp only[iK,lW,or_false]at C;obtain rfl|rfl|rfl|rfl|rfl|rfl|rfl:=C
  ·exact fS b1
  ·exact fS b2
  ·exact fS Y
  ·exact fS U
  ·exact fS T
  ·exact fS b6
  ·exact fS b7
 refine MS (A:=A.in1) (hh) D M.objs.size (λb C=>jH (lt b C)) hz hn hP ps 0 ⟨O,g,dr,H,os⟩ [] rfl (iO _) ⟨_,_,Z2,.inl ⟨rfl,rfl⟩⟩ (let ⟨o,e,r⟩:=y;⟨o,a _ o e,r⟩) (let ⟨o,e,r⟩:=q;⟨o,a _ o e,r⟩) (let ⟨o,es,ep,e,r⟩:=d;⟨o,es,ep,k2 _ _ e,r⟩) (iO _) λB I hk hD=>⟨rfl,h B I hD λc o hc e=>hk c o (λhm=>?_) (a _ _ e)⟩;rcases List.mem_cons.mp hm with rfl|hm
 ·exact jA _ (fS e)
 ·exact hc hm
end
def Ep:List D->List D->Option (List (gd×D))
 | k :: b, v :: a => (match bq k, Ep b a with
  |some j,some l=>some ((j,v)::l)
  |_,_=>none)
 |_,_=>some []
def si(r:En->e9):En->Res:=λU=>match r U with
 | .ok [.lst a, .tup b] => (match Ep a b with
  |some l=>if a.length<=fR then .ok (.hZ false (yd [] l))else .st
  |none=>.st)
 |.er c=>.er c
 |_=>.st
theorem Mh{X:Cx}{G:Hp}:∀{A es:List D}{l:List (gd×D)}{f g:List V}{b a:List fG},Ep A es=some l->dg (kx X) G A f->dg (kx X) G es g->Vals f b->Vals g a->
  ∃(c:List (gd×V)) (m:List (gd×fG)),KV c m/\PD (kx X) G l c/\m.length=min b.length a.length/\∀(j:Nat) d,m[j]?=some d->∃x,b[j]?=some x/\(a0 X.prog X.w).is d.1 x=true/\a[j]?=some d.2
 |[],es,l,f,g,b,a,h,dl,p,o,n=>by
  cases h;cases (dl);cases o;exact⟨[],[],.nil,lN,by simp,λj d e=>by simp at e⟩
 |k::z,[],l,f,g,b,a,h,dl,p,o,n=>by
  cases h;cases (p);cases n;exact⟨[],[],.nil,lN,by simp,λj d e=>by simp at e⟩
 |k::z,v::q,l,f,g,b,a,h,dl,p,o,n=>by
  unfold Ep at h;cases ek:bq k with
  |none=>rw[ek]at h;cases h
  |some j=>
   cases u:Ep z q with
   |none=>rw[ek,u]at h;cases h
   |some t=>
    rw[ek,u]at h;cases h;obtain⟨v0,Y,rfl,I,E⟩:=dl;obtain⟨B,ur,rfl,C,y⟩:=p;cases o with
    |cons U T=>
     cases n with
     |cons Q O=>
      obtain⟨c,m,N,M,L,J⟩:=Mh u E y T O;have r:=m6 (H:=G) (.inl I) ek;subst r;refine⟨(j,B)::c,(j,_)::m,.cons ⟨rfl,Q⟩ N,⟨rfl,C,M⟩,by simp[L],λi d e=>?_⟩;cases i with
      |zero=>
       simp at e;subst e;exact⟨_,rfl,za U,rfl⟩
      |succ i=>simpa using J i d (by simpa using e)
section
variable{X:Cx}{B:Hp}{E:EK}{a b:Expr}{g h:En->Res}{pos p pos' p':Pos}
def PZ{G H:Hp}{U:En}{r:En->e9}{P:D->Prop}(q:ey E G H (si r U) P):gy E G H (r U) λl=>∃d es m,l=[.lst d,.tup es]/\Ep d es=some m/\d.length<=fR/\P (.hZ false (yd [] m)):=by
 unfold si at q;cases e:r U with
 |ok l=>
  rw[e]at q;split at q
  ·rename_i d es j;cases j;cases n:Ep d es with
   |none=>rw[n]at q;exact q.elim
   |some m=>
    rw[n]at q;dsimp only at q
    by_cases f:d.length<=fR
    ·rw[fM f]at q;exact⟨d,es,m,rfl,n,f,q⟩
    ·rw[fJ f]at q;exact q.elim
  ·rename_i j;cases j
  ·exact q.elim
 |er c=>rw[e]at q;exact q
 |st=>rw[e]at q;exact q
inductive He(X:Cx)(G H:Hp)(Q:VK)(vs:List V)(H1:Hp):Prop
 |mk (a b:Addr) (xs ys:List V) (G1:Hp) (ds es:List D) (m) (_:vs=[.ref a,.ref b]) (_:i' X.K H1 a xs) (_:mn X.K H1 b ys) (_:Ext G H G1 H1) (_:dg (kx X) G1 ds xs) (_:dg (kx X) G1 es ys) (_:Ep ds es=some m) (_:ds.length<=fR) (_:∀v G' H',Ext G H G' H'->Den (kx X) G' (.hZ false (yd [] m)) v->Q v H'):He X G H Q vs H1
def BO(hc:X.calm=true)(hg:Gl X "dict")(hm:X.mg "dict"=none)(δ:Gl X "zip")(β:X.mg "zip"=none)(h1:jc X B E a g)(y:jc X B E b h)(n1:gc a=true)(n2:gc b=true):
  fh X B E (.Call (.Name "dict" p) [.Call (.Name "zip" p') [a,b] [] pos'] [] pos) (si (au g (au h ae))):=by
 intro f s σ H Q I ⟨G,U,Rr,q⟩;refine Call_ (vd I hg hm (by decide+kernel:lZ "dict"=some (.type "dict")) (kM ?_ rfl rfl));refine lG ?_;refine Call_ (vd I δ β (by decide+kernel:lZ "zip"=some (.type "zip")) (kM (gp ((d9 h1 (d9 y ig (ah n2)) (ah n1)) pos' f s σ H (He X G H Q) I ⟨G,U,Rr,(PZ q).mono λl _ ⟨ds,es,m,ed,ez,hz,q⟩ v G1 H1 z ax=>?_⟩) λL c ⟨vs,H1,A,r1,l1,Y,xs,ys,G1,ds,es,m,z,hq,α,J,dl,el,ez,hz,q1⟩=>?_) (ah n1) ?_))
 ·subst ed;obtain⟨v1,v2,rfl,a1,a2⟩:=h8.two ax;obtain⟨la,vs,rfl,sq,dl⟩:=a1.lst z.gh;obtain⟨lb,L,rfl,M,el⟩:=a2.tup z.gh;exact⟨la,lb,vs,L,G1,ds,es,m,rfl,sq,M,z,dl,el,ez,hz,q⟩
 ·subst z;obtain⟨u,r,rfl,ru,rr⟩:∃u r,L=u::r/\RelV _ u/\Vals [.ref Y] r:=by
   cases r1 with
   |cons h t=>exact⟨_,_,rfl,h,t⟩
  obtain⟨u2,rfl,O⟩:=j8 rr;cases ru;cases O;obtain⟨its,rv,T,_⟩:=A.list hq;obtain⟨jts,N,n,_⟩:=A.tuple α;have la:@LT.lt Nat _ l1 c.1.1.size:=fS ((T.isList).choose_spec.1);have lb:@LT.lt Nat _ Y c.1.1.size:=n.lt;obtain⟨x,ps,c1,c2,c3,c4⟩:=Mh ez dl el rv N;refine Mv T.isList n λC Z d=>?_;have D:rX (c.1.1.size+4) (c.1.1.size+2) (c.1.1.size+3) c.1.1.size (c.1.1.size+1) l1 Y:=by
   constructor<;>first|exact hU (by lia)|exact jH (by lia)
  have I2:=A.kept (t':=c.toks) d;refine oS ?_;have I0:ps.length<=ds.length:=by rw[c3,<-rv.length,<-dl.length];lia
  refine Mr (ps:=ps) (s:={c with heap:=C}) (A.ok.hd hc) D Z (let ⟨o,e,r⟩:=T.isList;⟨o,d _ o e,r⟩) (let ⟨o,e,r⟩:=n;⟨o,d _ o e,r⟩) (by lia) (by rw[c3];simp) (λj kv e=>by simpa using c4 j kv e) λy tk hD hk=>?_;have zk:(Ao [] x).length<=fR:=by
   have h1:=E9 x [];have y:=mW c1;simp only[jM]at h1
   lia
  have Ψ:c.1.1.size+4<C.objs.size:=fS Z.hz;have fr:=I2.fg.fresh (fQ _);have I3:Inv X f σ (upd H1 C.objs.size (.dK (Ao [] x))) {c with heap:=y,toks:=tk}:=by
   have kp:∀b o,c.1.get? b=some o->y.get? b=some o:=λb o e=>hk b o (λhm=>by
    have lb':@LT.lt Nat _ b c.1.1.size:=fS e;simp only[iK,lW,or_false]at hm
    lia) (d b o e)
   exact A.laid (t':=tk) kp (by lia) ⟨zk,beq_eq_false_iff_ne.mpr (kS (hU I2.big)),_,c1.merge .nil,hD⟩
  refine⟨.ref C.objs.size,_,I3,rfl,q1 _ _ _ (J.trans (Ext.new J.gh _ fr)) ⟨_,rfl,.inl ⟨rfl,_,ai,?_⟩⟩⟩;exact il.mono (bx (cu J.gh fr) _) (c2.merge rfl)
 ·exact vz (by rw[iF,n2];rfl)
end
def _root_.L2.Inv.freeze{X:Cx}{f:List (Addr×Obj)}{σ:St}{H:Hp}{s:fP}{a:Addr}{es:List (aq×V)}(I:Inv X f σ H s)(e:H a=some (.dT es)):∃o,s.1.get? a=some o/\Inv X f σ (upd H a (.nk o (.dT es))) s:=by
 obtain⟨z,N,xs,rel,o,T,Q,r,O⟩:=P8 I.fg e;have G:∀{b:Addr},H b=none->b≠a:=λq z=>by rw[z,e]at q;cases q
 have no:∀{b:Addr}{u:HO},H b=some u->u≠.dT es->b≠a:=λq z y=>by rw[y,e]at q;cases q;exact z rfl
 have l:∀b g,H b=some (.tup g)->upd H a (.nk o (.dT es)) b=some _:=λb g q=>by rwa [ag (no q λz=>nomatch z)]
 have j:∀b d u,H b=some (.nk d u)->upd H a (.nk o (.dT es)) b=some _:=λb d u q=>by rwa [ag (no q λz=>nomatch z)]
 have L:∀b y,H b=some (.own y)->upd H a (.nk o (.dT es)) b=some _:=λb y q=>by rwa [ag (no q λz=>nomatch z)]
 have h:∀b,H b=none->upd H a (.nk o (.dT es)) b=none:=λb q=>by rwa [ag (G q)]
 have st:∀b u,H b=some u->kb X.prog X.w _ s.1 b u:=λb u q=>(I.fg b u q).uX (λ_ _ _ z=>z) (λc z=>L c _ z) l j;refine⟨o,r,I.ok,I.os,I.bare,⟨I.base.keep,I.base.slot,λb d q n J=>h b (I.base.free b d q n J),I.base.there,λb g q=>l b g (I.base.q0 b g q),λb d u q=>j b d u (I.base.mu b d u q),λb q z=>?_⟩,I.loc,I.cell,h _ I.free,λx c q=>(I.p7 x c q).elim (λz=>.inl (h _ z)) (by rintro ⟨A,d,v⟩;exact .inr ⟨A,d,j _ _ _ v⟩),λp M=>?_,λb u q=>?_,I.len⟩
 ·have q:=I.base.qh b q z;rwa [ag (no q λz=>nomatch z)]
 ·obtain⟨E,C,B⟩:=I.pin p M;exact⟨E,h _ C,B⟩
 ·by_cases m:b=a
  ·subst m;rw[ai]at q;cases q;exact⟨r,st b _ e⟩
  ·rw[ag m]at q;exact st b u q
section
variable{K:KA}{B G0 G H:Hp}
def Ext.xO{a:Addr}{o:HO}(e:Ext G0 B G H)(c:B a=none)(d:G a=none):Ext G0 B (upd G a o) (upd H a o):=by
 refine⟨e.gg.trans (bx d _),λb u q=>?_,λb u q=>?_,λb u q g z=>?_⟩
 ·rw[ag (bj q c)];exact e.hh b u q
 ·by_cases z:b=a
  ·subst z;rw[ai]at q;rwa [ai]
  ·rw[ag z]at q;rw[ag z];exact e.gh b u q
 ·rw[ag (bj q c)];exact e.fr b u q g z
end
def C8(b a:En->Res):En->Res:=λU=>(b U).bind λd=>(a U).bind λc=>match bu d with
 |some j=>.ok (.hZ true [(kT j,c)])
 |none=>.st
section
variable{X:Cx}{G0 B:Hp}{E:EK}{k v o:Expr}{g h f:En->Res}{pos:Pos}
def BN(hu:X.A.units+5<jS)(hk:fh X B E k g)(hv:fh X B E v h):fh X B E (.Dict [some k] [v] pos) (C8 g h):=by
 intro a s σ H Q I ⟨G,U,R,q⟩;rw[arm_eval_Dict,zip_pairTrees [some k] [v] X.env pos rfl rfl,dictDisplay_pairs _ (by intro z;have:=congrArg lT z;cases this) (by show 1<17;decide)];refine fB (wpAny_standAt (fB ?_));refine fB (wpAny_alloc ?_);refine fB (iX ?_);have T:=I.fg.fresh (fQ s.1.1.size);have O:Ext G H G (upd H s.1.1.size (.dT [])):=Ext.own R.gh _ T;refine fB (pairTrees_cons_walk (gp (hk a {s with heap:=s.1.push {cls:=.type "dict",data:=.dict #[]}} σ _ (λx C=>∃n m,Ext G (upd H s.1.1.size (.dT [])) n C/\Den (kx X) n m x/\ey E G H (h U) λl=>∃j,bu m=some j/\∀v M J,Ext G H M J->Den (kx X) M (.hZ true [(kT j,l)]) v->Q v J) (I.laid (o:=.dT []) (h':=s.1.push {cls:=.type "dict",data:=.dict #[]}) (t':=s.toks) (λ_ _ q=>fC _ q) (fQ _) (Jx s.1 I.big)) ⟨G,U,R.ext O,?_⟩) λu s2 ⟨x,C,I2,rx,n,m,r,dx,q⟩=>?_))
 ·refine((ey.bind q).ext O).mono λm _ q x n C r dx=>⟨n,m,r,dx,(ey.bind q).mono λl _ q=>?_⟩;cases p:bu m with
  |none=>rw[p]at q;exact q.elim
  |some j=>rw[p]at q;exact⟨j,rfl,q⟩
 have e:=O.trans r;refine gp (hv a s2 σ C (λy N=>∃L l j,Ext n C L N/\Den _ L l y/\bu m=some j/\∀v M J,Ext G H M J->Den _ M _ v->Q v J) I2 ⟨n,U,R.ext e,(q.ext e).mono λl _ ⟨j,p,q⟩ y L N d dy=>⟨L,l,j,d,dy,p,q⟩⟩) λuv s3 ⟨y,N,I3,ry,L,l,j,d,dy,p,q⟩=>?_;refine pairTrees_nil_walk ?_;have Y:=(r.trans d).hh _ _ ai;have g2:=(r.trans d).fr _ _ ai (cu R.gh T) rfl;obtain⟨b,rfl,hb⟩:=Arg.keys d.gh (.inl (dx.mono d.gg)) p;cases (rx);obtain⟨z,hd,xs,rel,dd⟩:=P8 I3.fg Y;cases rel;refine iX ?_;refine fB (fB (fB (wpAny_dictSet_heap (by show X.A.units+4<jS;lia) (sr I3.fg hb) dd (λh' γ hs=>?_) (iO _))));refine fE (fE (fE (fE (fE ?_))));obtain⟨ob,es,ep,hq,g3,g4,g5,_,g6⟩:=γ;have I4:Inv X a σ (upd N s.1.1.size (.dT [(j,y)])) {s3 with heap:=h',toks:=s3.toks+(ar X.prog X.w).draws j}:=by
  refine yz I3 (by rw[Y];exact lN) hs ⟨ob,hq⟩ ⟨by show 1<=16777216;decide,hd,[_],.cons ⟨rfl,hb.mono λc ys ec=>?_,ry⟩ .nil,ob,es,ep,hq,g3,g4,g5,by simp⟩;rwa [ag (Zp ec Y (λz=>nomatch z))]
 obtain⟨o5,_,I5⟩:=I4.freeze ai;rw[Iu]at I5;refine⟨.ref s.1.1.size,_,I5,rfl,q _ _ _ ((e.trans d).xO T g2) ⟨_,rfl,.inr ⟨rfl,o5,_,ai,j,y,[],rfl,rfl,dy.mono (bx g2 _),rfl⟩⟩⟩
def va(d k x:En->Res):En->Res:=λU=>(d U).bind λe=>match e with
 |.hZ false a=>(k U).bind λc=>(x U).bind λb=>match bq c with
  |some j=>.ok ((d8 a j).getD b)
  |none=>.st
 |.hZ true a=>(k U).bind λc=>(x U).bind λb=>match bu c with
  |some j=>.ok ((jf a j).getD b)
  |none=>.st
 |_=>.st
def KR{ke Y:Expr}{r p:Pos}(hu:X.A.units+5<jS)(ho:jc X B E o g)(hk:jc X B E ke h)(hx:fh X B E Y f)(m:M2 X o "get" r ke Y p):
  fh X B E (.Call (.Attribute o "get" r) [ke,Y] [] p) (va g h f):=
 PE.imp (AN hu ho hk hx m) λσ H Q ⟨G,U,R,q⟩=>⟨G,U,R,(ey.bind q).mono λdd _ q v G1 H1 c av=>by
  cases dd with
  |hZ t x=>
   cases t with
   |true=>
    obtain⟨l,N,rfl,C,dl⟩:=Arg.xQ c.gh av;refine⟨l,rfl,.inr ⟨N,C⟩,G1,U,R.ext c,((ey.bind q).ext c).mono λdk _ q y G2 H2 a ay=>⟨G2,U,R.ext (c.trans a),((ey.bind q).ext (c.trans a)).mono λdx _ q z L I n dz=>?_⟩⟩;have d:=(c.trans a).trans n;cases u:bu dk with
    |none=>rw[u]at q;exact q.elim
    |some j=>
     rw[u]at q;have q:∀v M J,Ext G H M J->Den _ M _ v->Q v J:=q;obtain⟨b,rfl,hb⟩:=Arg.keys a.gh ay u;refine⟨_,.inr ⟨N,j,b,(C.elim (λz=>.inl ((a.trans n).hh _ _ z)) (by rintro ⟨ob,z⟩;exact .inr ⟨ob,(a.trans n).hh _ _ z⟩)),rfl,hb.mono λ_ _ q=>n.hh _ _ q,rfl⟩,?_⟩;obtain⟨k1,k2⟩:=(dl.mono (a.trans n).gg).look j;cases e:jf x j with
     |none=>
      rw[k2 e];rw[e]at q;exact q _ L I d dz
     |some d'=>
      obtain⟨v',T,O⟩:=k1 d' e;rw[T];rw[e]at q;exact q _ L I d O
   |false=>
    obtain⟨l,N,rfl,C,dl⟩:=Arg.vM c.gh av;refine⟨l,rfl,.inl ⟨N,.inl C⟩,G1,U,R.ext c,((ey.bind q).ext c).mono λdk _ q y G2 H2 a ay=>⟨G2,U,R.ext (c.trans a),((ey.bind q).ext (c.trans a)).mono λdx _ q z L I n dz=>?_⟩⟩;have d:=(c.trans a).trans n;cases u:bq dk with
    |none=>rw[u]at q;exact q.elim
    |some j=>
     rw[u]at q;have q:∀v M J,Ext G H M J->Den _ M _ v->Q v J:=q;rw[m6 ay u];refine⟨_,p5.k ((a.trans n).hh _ _ C),?_⟩;obtain⟨k1,k2⟩:=(dl.mono (a.trans n).gg).look j;cases e:d8 x j with
     |none=>
      rw[k2 e];rw[e]at q;exact q _ L I d dz
     |some d'=>
      obtain⟨v',T,O⟩:=k1 d' e;rw[T];rw[e]at q;exact q _ L I d O
  |g8=>exact q.elim
  |bl _=>exact q.elim
  |int _=>exact q.elim
  |str _=>exact q.elim
  |tup _=>exact q.elim
  |lst _=>exact q.elim
  |obj _ _=>exact q.elim
  |fn _=>exact q.elim⟩
end
def BC:D->D->Option D:=Lm λi j=>some (.int (if j<i then j else i))
def Ii:D->D->Option D:=Lm λi j=>some (.int (if j>i then j else i))
section
variable{X:Cx}{B:Hp}{E:EK}{a b:Expr}{g h:En->Res}{pos p:Pos}
inductive wF(f:Int->Int->Int)(xs:List V)(H:Hp)(Q:VK):Prop
 |mk (i j) (_:xs=[.int i,.int j]) (_:Q (.int (f i j)) H):wF f xs H Q
def Sv(f:X.calm=true):jo X (.builtin "max") (wF λi j=>if j>i then j else i):=by
 intro d s σ H xs l Q I r q;obtain⟨i,j,rfl,q⟩:=q;obtain⟨u,v,rfl,⟨t,rfl⟩,⟨n,rfl⟩⟩:=ET r;refine max_two_ints (I.ok.hd f) λo m e=>⟨.int _,H,I.kept e,?_,q⟩
 by_cases c:j>i
 ·rw[fM c,fM c];exact⟨_,rfl⟩
 ·rw[fJ c,fJ c];exact⟨_,rfl⟩
def Sw(f:X.calm=true):jo X (.builtin "min") (wF λi j=>if j<i then j else i):=by
 intro d s σ H xs l Q I r q;obtain⟨i,j,rfl,q⟩:=q;obtain⟨u,v,rfl,⟨t,rfl⟩,⟨n,rfl⟩⟩:=ET r;refine min_two_ints (I.ok.hd f) λo m e=>⟨.int _,H,I.kept e,?_,q⟩
 by_cases c:j<i
 ·rw[fM c,fM c];exact⟨_,rfl⟩
 ·rw[fJ c,fJ c];exact⟨_,rfl⟩
def YG{K:KA}{f:Int->Int->Int}{σ:St}{H:Hp}{Q:VK}(q:xB K B E (g2 (Lm λi j=>some (.int (f i j))) g h) σ H Q):aU (wF f) (y2 K B E [true,true] (au g (au h ae))) σ H Q:=by
 obtain⟨G,U,R,q⟩:=q;refine⟨G,U,R,?_⟩;unfold au ae;cases l:g U with
 |ok x=>
  cases o:h U with
  |ok y=>
   have I:ey E G H (Res.of (Lm (λi j=>some (.int (f i j))) x y)) λd=>∀v n m,Ext G H n m->Den K n d v->Q v m:=by
    have e:g2 (Lm λi j=>some (.int (f i j))) g h U=Res.of (Lm (λi j=>some (.int (f i j))) x y):=by unfold g2;rw[l,o];rfl
    rw[e]at q;exact q
   obtain⟨d,r,C⟩:=ey.of I;intro Y n m J M;obtain⟨d1,dr,v1,vr,z,rfl,O,d2,L,v2,A,u,rfl,N,T,rfl⟩:=M;cases z;cases u;cases x with
   |int i=>
    cases y with
    |int j=>
     cases r;exact⟨i,j,by rw[Arg.int O,Arg.int N],C _ n m J rfl⟩
    |_=>cases r
   |_=>cases r
  |er c=>
   have e:g2 (Lm λi j=>some (.int (f i j))) g h U=.er c:=by unfold g2;rw[l,o];rfl
   rw[e]at q;exact q
  |st=>
   have e:g2 (Lm λi j=>some (.int (f i j))) g h U=.st:=by unfold g2;rw[l,o];rfl
   rw[e]at q;exact q
 |er c=>
  have e:g2 (Lm λi j=>some (.int (f i j))) g h U=.er c:=by unfold g2;rw[l];rfl
  rw[e]at q;exact q
 |st=>
  have e:g2 (Lm λi j=>some (.int (f i j))) g h U=.st:=by unfold g2;rw[l];rfl
  rw[e]at q;exact q
def KN(j:X.calm=true)(f:Gl X "max")(e:X.mg "max"=none)(m:jc X B E a g)(l:jc X B E b h)(d:gQ [a,b] X.env=(false,eval a X.env)::gQ [b] X.env)(c:gQ [b] X.env=(false,eval b X.env)::gQ [] X.env):
  fh X B E (.Call (.Name "max" p) [a,b] [] pos) (g2 Ii g h):=
 PE.imp (l8 (Sv j) f e rfl (d9 m (d9 l ig c) d) (by decide) (by decide) d (by rw[c];rfl)) λσ H Q q=>YG q
def KM(j:X.calm=true)(f:Gl X "min")(e:X.mg "min"=none)(m:jc X B E a g)(l:jc X B E b h)(d:gQ [a,b] X.env=(false,eval a X.env)::gQ [b] X.env)(c:gQ [b] X.env=(false,eval b X.env)::gQ [] X.env):
  fh X B E (.Call (.Name "min" p) [a,b] [] pos) (g2 BC g h):=
 PE.imp (l8 (Sw j) f e rfl (d9 m (d9 l ig c) d) (by decide) (by decide) d (by rw[c];rfl)) λσ H Q q=>YG q
end
def cR:D->Option (List D)
 |.lst a=>some a
 |_=>none
def Fu(g:En->Res):En->e9:=λU=>match g U with
 | .ok d => (match cR d with
  |some a=>.ok (ue 0 a)
  |none=>.st)
 |.er c=>.er c
 |.st=>.st
section
variable{X:Cx}{B:Hp}{E:EK}{e:Expr}{g:En->Res}{pos p tp:Pos}{xX:List Expr}{k1:Nat}
def VD(q:gy E G H (Fu g U) P):ey E G H (g U) λd=>∃a,d=.lst a/\P (ue 0 a):=by
 unfold Fu at q;cases e:g U with
 |ok d=>
  rw[e]at q;cases d with
  |lst a=>exact⟨a,rfl,q⟩
  |_=>exact q.elim
 |er c=>rw[e]at q;exact q
 |st=>rw[e]at q;exact q
def JL(hg:Gl X "enumerate")(hm:X.mg "enumerate"=none)(h:UL X B E e g)(N:gQ [e] X.env=(false,eval e X.env)::gQ [] X.env):
  We X B E (.Tuple xX k1 tp) (.Call (.Name "enumerate" p) [e] [] pos) (Fu g):=by
 intro c s σ H R I ⟨G,U,O,q⟩;refine Call_ (vd I hg hm (by decide+kernel:lZ "enumerate"=some (.type "enumerate")) (kM (gp ((jb h oq N) pos c s σ H (λj f=>∃a,j=[.ref a]/\(∃xs,i' X.K f a xs)/\R (bW X.K a) f) I ⟨G,U,O,(VD q).mono λd _ ⟨ds,ed,q⟩ v Q f m ax=>?_⟩) λus l ⟨j,f,n,Y,a,m,x,q1⟩=>?_) N rfl))
 ·subst ed;obtain ⟨a,j,rfl,s,dl⟩|⟨ι,a,j,z,rfl,s,dl⟩|⟨t,γ,a,z,_⟩:=ax
  ·exact⟨a,rfl,⟨j,i'.mono m.gh s⟩,q _ Q f m (Yp (by rintro G2 H2 ⟨r,L⟩ M;exact⟨i'.mono (r.trans M) s,r⟩) dl)⟩
  ·cases z;exact⟨a,rfl,⟨j,i'.mono (O.bh.trans m.hh) s⟩,q _ Q f m (Yp (by rintro G2 H2 ⟨r,L⟩ M;exact⟨i'.mono L s,r⟩) dl)⟩
  ·cases z
 ·subst m;obtain⟨u,rfl,T⟩:=j8 Y;cases T;have J:∀b∈[l.1.1.size+1,l.1.1.size],oe X c f b:=λb C=>by
   rcases List.mem_cons.mp C with rfl|C
   ·exact n.p9 (pA _) (n.fg.fresh (pA _))
   ·have z:b=l.1.1.size:=by simpa using C
    subst z;exact n.p9 (fQ _) (n.fg.fresh (fQ _))
  obtain⟨xs,x⟩:=x;obtain⟨δ,rv,pl,_⟩:=n.list x;refine call_enumerate_list pl.isList λh' o A ε y=>?_;exact wpAny_pyIter_enum o ⟨l.1.1.size+1,[l.1.1.size+1,l.1.1.size],_,_,f,rfl,n.kept y,V6 a _ _ (Nat.succ_ne_self _),⟨⟨_,o⟩,A⟩,J,q1⟩
end
noncomputable def FP:Operator->Option (D->D->Option D)
 |.Add=>some a6
 |.Sub=>some zr
 |.Mult=>some kf
 |.Mod=>some xm
 |.FloorDiv=>some Ov
 |_=>none
def SX(l:FP e=some f)(d:jc X B E a g)(c:jc X B E b h):fh X B E (.BinOp a e b j) (g2 f g h):=by
 cases e<;>cases l
 ·exact RB d c
 ·exact SH d c
 ·exact SM d c
 ·exact SN d c
 ·exact KS d c
noncomputable def LS:List Bool->List ((En->Res)×(En->Res))->En->e9
 |[],[]=>ae
 |m::b,p::a=>au (if m then p.1 else p.2) (LS b a)
 |_,_=>PK
theorem Rp:∀{a:List Bool}{es:List Expr},LS a (es.map λe=>(o6 b C e,b C e))=PM b C a es
 |[],[]=>rfl
 |[],_::_=>rfl
 |_::_,[]=>rfl
 |m::a,e::es=>by
  show au _ _=au _ _;rw[Rp]
noncomputable def C6(T:GT)(i:Nat)(a:List ((En->Res)×(En->Res))):En->Res:=λU=>match aa i U with
 | .ok (.fn y) => (match T.fns y with
  |some s=>af s.f (LS s.ms a) U
  |none=>.st)
 |_=>.st
def Nj(T:GT)(b:Ev)(C:SC)(i:Nat)(a:List Expr):En->Res:=C6 T i (a.map λe=>(o6 b C e,b C e))
section
variable{T:GT}{ev tv:Ev}{X:Cx}{C:SC}{B:Hp}{E:XK}{pos p:Pos}{x:Str}{e a:Expr}{es:List Expr}
def W9(h:jv T ev)(O:lL X C T E)(hs:slot C x=some i)(M:(e::es).all gc=true):fh X B (ek (kx X) E) (.Call (.Name x p) (e::es) [] pos) (Nj T ev C i (e::es)):=by
 intro b s σ H Q I ⟨G,U,R,q⟩;unfold Nj C6 at q;cases l:aa i U with
 |er c=>rw[l]at q;exact q.elim
 |st=>rw[l]at q;exact q.elim
 |ok d=>
  rw[l]at q;cases d with
  |fn y=>
   dsimp only at q;cases ef:T.fns y with
   |none=>rw[ef]at q;exact q.elim
   |some n=>
    rw[ef]at q;dsimp only at q;rw[Rp]at q;obtain⟨k,f,fd,ps,hr,hm,hk,hb,F⟩:=O.fns y n ef;obtain⟨v,q1,L⟩:=R.arg l;have o:v=.ref f:=by rw[L.fn];show V.ref (Wf X.mg y)=_;rw[Wv hm]
    subst o;have g:=M;rw[iF,gG]at g;refine nE (gp (O.var hs b s σ H (λv J=>v=.ref f/\J=H) I ⟨_,q1,rfl,rfl⟩) λu s1 ⟨v,J,I1,r1,j,z⟩=>?_);subst j z;cases r1;refine sR I.ok.mod.x4 hk (gp (Ce h O M pos b s1 σ J (λm A=>uY _ n.ms n.f m A Q E) I1 ⟨G,U,R,(W8 q).mono λds _ q m G1 A j N=>
     ⟨N.length.2,R.gb.same (R.bh.trans j.hh),G1,ds,j.gh,N,(q.ext j).mono λd _ q v G' H' z dn=>q v G' H' (j.trans z) dn⟩⟩) λus s2 ⟨m,A,Y,r,L⟩=>⟨Y.q7,?_⟩) (ah g.1) (vz g.2)
    exact O1 F hr hb .nil O.vY Y r (by rwa [jT])
  |_=>exact q.elim
end
noncomputable def ZC(x:Str):Option (D->Option D):=
 if x="len" then some cy else if x="list" then some fq else if x="tuple" then some jj else if x="int" then some BD else if x="all" then some xk else if x="sorted" then some md else if x="min" then some qp else none
section
variable{X:Cx}{B:Hp}{E:EK}{e a b:Expr}{es:List Expr}{g h:En->Res}{pos p:Pos}{x:Str}
def ON(O:lL X C T n)(d:ZC x=some f)(l:Gl X x)(j:gc e=true)(m:jc X B E e g):fh X B E (.Call (.Name x p) [e] [] pos) (g1 f g):=by
 unfold ZC at d
 by_cases c:x="len"
 ·rw[fM c]at d;cases d;subst c;exact SQ l (O.bl _ (by decide)) m (ah j) rfl
 rw[fJ c]at d
 by_cases c:x="list"
 ·rw[fM c]at d;cases d;subst c;exact AR (La O.calm l (O.bl _ (by decide)) m j) T7
 rw[fJ c]at d
 by_cases c:x="tuple"
 ·rw[fM c]at d;cases d;subst c;exact BJ l (O.bl _ (by decide)) m (ah j) rfl
 rw[fJ c]at d
 by_cases c:x="int"
 ·rw[fM c]at d;cases d;subst c;exact KP l (O.bl _ (by decide)) m (ah j) rfl
 rw[fJ c]at d
 by_cases c:x="all"
 ·rw[fM c]at d;cases d;subst c;exact SZ O.calm l (O.bl _ (by decide)) m (ah j)
 rw[fJ c]at d
 by_cases c:x="sorted"
 ·rw[fM c]at d;cases d;subst c;exact Vi (by have:=O.units;lia) O.calm l (O.bl _ (by decide)) m (ah j)
 rw[fJ c]at d
 by_cases c:x="min"
 ·rw[fM c]at d;cases d;subst c;exact KL (by have:=O.units;lia) O.calm l (O.bl _ (by decide)) m (ah j)
 rw[fJ c]at d;cases d
noncomputable def Qu(x:Str):Option String:=
 if x="int" then some "int" else if x="bool" then some "bool" else if x="str" then some "str" else if x="list" then some "list" else if x="tuple" then some "tuple" else none
def HJ(O:lL X C T r)(f:Qu y=some c)(l:Gl X "isinstance")(j:Gl X y)(q:gc e=true)(n:jc X B E e g):fh X B E (.Call (.Name "isinstance" p) [e,.Name y o] [] pos) (g1 (fb c) g):=by
 have m:gQ [e,.Name y o] X.env=_::gQ [.Name y o] X.env:=ah q;unfold Qu at f
 by_cases d:y="int"
 ·rw[fM d]at f;cases f;subst d;exact D1 HI l (O.bl _ (by decide)) j (O.bl _ (by decide)) PyProof.Rows.boot_int n (by decide) (by decide) m rfl rfl
 rw[fJ d]at f
 by_cases d:y="bool"
 ·rw[fM d]at f;cases f;subst d;exact D1 Y0 l (O.bl _ (by decide)) j (O.bl _ (by decide)) PyProof.Rows.boot_bool n (by decide) (by decide) m rfl rfl
 rw[fJ d]at f
 by_cases d:y="str"
 ·rw[fM d]at f;cases f;subst d;exact D1 HH l (O.bl _ (by decide)) j (O.bl _ (by decide)) PyProof.Rows.boot_str n (by decide) (by decide) m rfl rfl
 rw[fJ d]at f
 by_cases d:y="list"
 ·rw[fM d]at f;cases f;subst d;exact D1 Y1 l (O.bl _ (by decide)) j (O.bl _ (by decide)) PyProof.Rows.boot_list n (by decide) (by decide) m rfl rfl
 rw[fJ d]at f
 by_cases d:y="tuple"
 ·rw[fM d]at f;cases f;subst d;exact D1 Ul l (O.bl _ (by decide)) j (O.bl _ (by decide)) qJ n (by decide) (by decide) m rfl rfl
 rw[fJ d]at f;cases f
end
def Qg(C:SC)(n:Str)(a:Expr):Option (List Expr):=match a with
 | .Call f b c _ => (match f with
  |.Name y _=>if decide (y=n) && c.isEmpty && decide (slot C y=none) && ED C y && b.all gc then some b else none
  |_=>none)
 |_=>none
noncomputable def k0(C:SC)(n:Str)(a:Expr):Option Expr:=match Qg C n a with
 |some [e]=>some e
 |_=>none
def ze(e:Expr):Option (Expr×Str×List Expr):=match e with
 | .Call f a b c => (match f with
  |.Attribute o m ap=>if b.isEmpty && (ap.endLine==c.line)then some (o,m,a)else none
  |_=>none)
 |_=>none
def ky{e o:Expr}{m:Str}{a:List Expr}(h:ze e=some (o,m,a)):∃ap b,e=.Call (.Attribute o m ap) a [] b/\(ap.endLine==b.line)=true:=by
 unfold ze at h;split at h
 ·split at h
  ·split at h
   ·rename_i d b _ o m ap c;simp only[gG,List.isEmpty_iff]at c;cases h;exact⟨ap,b,by rw[c.1],c.2⟩
   ·cases h
  ·cases h
 ·cases h
def Q0(m:Str)(a:Expr):Option Expr:=match ze a with
 |some (o,b,[])=>if decide (b=m) && j4 o then some o else none
 |_=>none
def Kz{m:Str}{a o:Expr}(h:Q0 m a=some o):∃ap b,a=.Call (.Attribute o m ap) [] [] b/\j4 o=true/\(ap.endLine==b.line)=true:=by
 unfold Q0 at h;split at h
 ·rename_i e;split at h
  ·rename_i c;cases h;simp only[gG,decide_eq_true_eq]at c;obtain⟨rfl,c⟩:=c;obtain⟨ap,b,e,l⟩:=ky e;exact⟨ap,b,e,c,l⟩
  ·cases h
 ·cases h
def Sd(a:Expr):Option Expr:=Q0 "values" a
def EL(C:SC)(a:Expr):Option (Expr×Expr):=match Qg C "zip" a with
 |some [p,q]=>some (p,q)
 |_=>none
def Pd(b:Ev)(C:SC)(x:Str)(a:Expr):En->Res:=match Sd a with
 |some o=>if x="tuple" then g1 wt (o6 b C o)else jh
 | none => (match EL C a with
  |some p=>if x="dict" then si (au (o6 b C p.1) (au (o6 b C p.2) ae))else jh
  | none => (match ZC x with
   |some f=>if gc a then g1 f (o6 b C a)else jh
   |none=>jh))
noncomputable def Pe(d:Ev)(C:SC)(x:Str)(f:List Expr):En->Res:=match f with
 | [a] => (match k0 C "set" a with
  |some e=>if x="sorted" then g1 gw (o6 d C e)else jh
  |none=>Pd d C x a)
 | [a, .Name y _] => if x = "isinstance" then (match Qu y with
   |some c=>if gc a && ED C y then g1 (fb c) (o6 d C a)else jh
   |none=>jh)else jh
 |[a,b]=>if gc a && gc b then(if x="min" then g2 BC (o6 d C a) (o6 d C b)else if x="max" then g2 Ii (o6 d C a) (o6 d C b)else jh)else jh
 |_=>jh
noncomputable def zz(T:GT)(g:Ev)(C:SC)(x:Str)(c:List Expr):En->Res:=match slot C x with
 | some i => (match c with
  |[]=>jh
  |e::d=>if(e::d).all gc then Nj T g C i (e::d)else jh)
 | none => if ED C x then (match T.fns x with
  | some s => (match c with
   |[]=>if s.ms=[]then(λ_=>s.f [])else jh
   |e::d=>if(e::d).all gc then af s.f (PM g C s.ms (e::d))else jh)
  | none => if decide (x ∈ rq) then Pe g C x c else (match T.cls x with
   | some p => (match c with
    |[a,b]=>if gc a && gc b then af (zi x p.1 p.2) (PM g C [false,false] [a,b])else jh
    |_=>jh)
   |none=>jh))else jh
section
variable{T:GT}{ev tv:Ev}{X:Cx}{C:SC}{B:Hp}{E:XK}{pos p:Pos}{x:Str}{e a:Expr}{es:List Expr}
def J5{n:Str}{b:List Expr}(O:lL X C T E)(h:Qg C n a=some b):∃p pos,a=.Call (.Name n p) b [] pos/\Gl X n/\b.all gc=true:=by
 unfold Qg at h;split at h
 ·split at h
  ·split at h
   ·rename_i c;cases h;simp only[gG,decide_eq_true_eq,List.isEmpty_iff]at c;obtain⟨⟨⟨⟨rfl,rfl⟩,_⟩,f⟩,d⟩:=c;exact⟨_,_,rfl,(O.gl f).1,d⟩
   ·cases h
  ·cases h
 ·cases h
def nq(O:lL X C T E)(h:k0 C n a=some e):∃p pos,a=.Call (.Name n p) [e] [] pos/\Gl X n/\gc e=true:=by
 unfold k0 at h;split at h
 ·rename_i e;cases h;obtain⟨p,pos,e,g,z⟩:=J5 O e;exact⟨p,pos,e,g,by simpa using z⟩
 ·cases h
def Sf{p q:Expr}(O:lL X C T E)(h:EL C a=some (p,q)):∃b pos,a=.Call (.Name "zip" b) [p,q] [] pos/\Gl X "zip"/\gc p=true/\gc q=true:=by
 unfold EL at h;split at h
 ·rename_i e;cases h;obtain⟨p,pos,e,g,z⟩:=J5 O e;exact⟨p,pos,e,g,by simpa using z⟩
 ·cases h
def VN(h:jv T ev)(O:lL X C T E)(d:Gl X x):fh X B (ek (kx X) E) (.Call (.Name x p) [a] [] pos) (Pd ev C x a):=by
 unfold Pd;cases n:Sd a with
 |some o=>
  dsimp only;obtain⟨ap,H,rfl,A,z⟩:=Kz n
  by_cases b:x="tuple"
  ·subst b;rw[fM rfl];exact KJ O.calm d (O.bl _ (by decide)) (cb h O o) A z
  ·rw[fJ b];exact b0
 |none=>
  cases m:EL C a with
  |some l=>
   dsimp only;obtain⟨u,v⟩:=l;obtain⟨G,j,rfl,g,y,r⟩:=Sf O m
   by_cases b:x="dict"
   ·subst b;rw[fM rfl];exact BO O.calm d (O.bl _ (by decide)) g (O.bl _ (by decide)) (cb h O u) (cb h O v) y r
   ·rw[fJ b];exact b0
  |none=>
   cases q:ZC x with
   |none=>exact b0
   |some f=>
    dsimp only
    by_cases c:gc a=true
    ·rw[fM c];exact ON O q d c (cb h O a)
    ·rw[fJ c];exact b0
def VJ(h:jv T ev)(O:lL X C T E)(f:Gl X x):fh X B (ek (kx X) E) (.Call (.Name x p) j [] pos) (Pe ev C x j):=by
 unfold Pe;split
 ·rename_i a;cases r:k0 C "set" a with
  |some e=>
   dsimp only;obtain⟨q,m,rfl,l,d⟩:=nq O r
   by_cases g:x="sorted"
   ·subst g;exact Vh (by have:=O.units;lia) O.calm f (O.bl _ (by decide)) l (O.bl _ (by decide)) (cb h O e) (ah d)
   ·rw[fJ g];exact b0
  |none=>
   exact VN h O f
 ·rename_i a y q
  by_cases n:x="isinstance"
  ·subst n;cases u:Qu y with
   |none=>exact b0
   |some c=>
    dsimp only
    by_cases d:(gc a && ED C y)=true
    ·rw[fM d];rw[gG]at d;exact HJ O u f (O.gl d.2).1 d.1 (cb h O a)
    ·rw[fJ d];exact b0
  ·rw[fJ n];exact b0
 ·rename_i a b _
  by_cases d:(gc a && gc b)=true
  ·rw[fM d];rw[gG]at d
   by_cases g:x="min"
   ·subst g;exact KM O.calm f (O.bl _ (by decide)) (cb h O a) (cb h O b) (ah d.1) (ah d.2)
   ·rw[fJ g]
    by_cases o:x="max"
    ·subst o;exact KN O.calm f (O.bl _ (by decide)) (cb h O a) (cb h O b) (ah d.1) (ah d.2)
    ·rw[fJ o];exact b0
  ·rw[fJ d];exact b0
 ·exact b0
def FI(h:jv T ev)(O:lL X C T E):fh X B (ek (kx X) E) (.Call (.Name x p) d [] pos) (zz T ev C x d):=by
 unfold zz;cases z:slot C x with
 |some i=>
  cases d with
  |nil=>exact b0
  |cons e es=>
   dsimp only
   by_cases c:(e::es).all gc=true
   ·rw[fM c];exact W9 h O z c
   ·rw[fJ c];exact b0
 |none=>
  by_cases n:ED C x=true
  ·rw[fM n];obtain⟨g1,g2⟩:=O.gl n;cases ef:T.fns x with
   |none=>
    by_cases l:decide (x∈rq)=true
    ·rw[fM l];exact VJ h O g1
    rw[fJ l];cases G:T.cls x with
    |none=>exact b0
    |some u=>
     obtain⟨y,v⟩:=u;obtain⟨m,A⟩:=O.cls x y v G;dsimp only;split
     ·rename_i a b
      by_cases c:(gc a && gc b)=true
      ·rw[fM c];rw[gG]at c;exact SS A m g1 (Ce h O (by rw[iF,iF,c.1,c.2];rfl)) g2 (ah c.1) (vz (by rw[iF,c.2];rfl))
      ·rw[fJ c];exact b0
     ·exact b0
   |some s=>
    obtain⟨k,f,I,H,m,o,q,r,F⟩:=O.fns x s ef;cases d with
    |nil=>
     dsimp only
     by_cases j:s.ms=[]
     ·rw[fM j];rw[j]at F;exact BQ F m g1 o q r O.vY g2
     ·rw[fJ j];exact b0
    |cons e es=>
     dsimp only
     by_cases c:(e::es).all gc=true
     ·rw[fM c];have g:=c;rw[iF,gG]at g;exact KU F m g1 o q r O.vY (Ce h O c) g2 (ah g.1) (vz g.2)
     ·rw[fJ c];exact b0
  ·rw[fJ n];exact b0
end
noncomputable def Io(b:Ev)(C:SC)(iter:Expr):En->e9:=match k0 C "range" iter with
 |some a=>dq (PM b C [true] [a])
 | none => (match iter with
  |.Attribute o m p=>ij (b C (.Attribute o m p))
  |_=>aj (o6 b C iter))
def PL(a:Ev)(C:SC)(e:Expr):En->Res:=match e with
 | .Name x _ => (match slot C x with
  |some i=>wz i
  |none=>a C e)
 |_=>a C e
noncomputable def DY(b:Ev)(C:SC)(iter:Expr):En->e9:=match k0 C "range" iter with
 |some a=>dq (PM b C [true] [a])
 | none => (match iter with
  |.Attribute o m p=>ij (b C (.Attribute o m p))
  |_=>aj (PL b C iter))
section
variable{T:GT}{ev tv:Ev}{X:Cx}{C:SC}{B:Hp}{E:XK}{pos p:Pos}{x:Str}{e a tg:Expr}{es:List Expr}
def MM(h:jv T ev)(O:lL X C T E)(e:Expr):UL X B (ek (kx X) E) e (PL ev C e):=by
 have d:=W7 (h X C B E e O);cases e with
 |Name x p=>
  show UL X B _ _ (match slot C x with
   |some i=>wz i
   |none=>ev C _)
  cases es:slot C x with
  |none=>exact d
  |some i=>exact OI i (O.var es)
 |_=>exact d
def bF(h:jv T ev)(O:lL X C T E)(e:Expr):We X B (ek (kx X) E) tg e (DY ev C e):=by
 unfold DY;cases d:k0 C "range" e with
 |some a=>
  obtain⟨p,q,rfl,f,c⟩:=nq O d;exact Rf f (O.bl _ (by decide)) (Ce h O (by rw[iF,c];rfl)) (ah c)
 |none=>
  dsimp only;split
  ·rename_i o m p;have b:=h X C B E (.Attribute o m p) O;exact Re b (Oq (W7 b))
  ·exact Oq (MM h O _)
def Kg:Expr->Bool
 |.Tuple _ _ _=>true
 |_=>false
def Dh{tg:Expr}(h:Kg tg=true):∃es k p,tg=.Tuple es k p:=by
 unfold Kg at h;split at h
 ·exact⟨_,_,_,rfl⟩
 ·cases h
noncomputable def Qc(C:SC)(tg iter:Expr):Option Expr:=if Kg tg then k0 C "enumerate" iter else none
noncomputable def EJ(C:SC)(tg iter:Expr):Option (Expr×Expr):=if Kg tg then EL C iter else none
def Kh(tg iter:Expr):Option Expr:=if Kg tg then Q0 "items" iter else none
def Di{α:Type}{c:Bool}{x:Option α}{y:α}(h:(if c then x else none)=some y):c=true/\x=some y:=by
 cases c with
 |true=>exact⟨rfl,h⟩
 |false=>cases h
def Eg(ev:Ev)(C:SC)(tg iter:Expr):En->e9:=match Qc C tg iter with
 |some e=>Fu (PL ev C e)
 | none => (match EJ C tg iter with
  |some p=>Nl (au (o6 ev C p.1) (au (o6 ev C p.2) ae))
  | none => (match Kh tg iter with
   |some o=>m9 (ev C o)
   |none=>DY ev C iter))
def Yn(h:jv T ev)(O:lL X C T E)(e:Expr):We X B (ek (kx X) E) tg e (Eg ev C tg e):=by
 unfold Eg;cases f:Qc C tg e with
 |none=>
  cases c:EJ C tg e with
  |none=>
   cases d:Kh tg e with
   |none=>exact bF h O e
   |some o=>
    obtain⟨t,d⟩:=Di d;obtain⟨_,_,_,rfl⟩:=Dh t;obtain⟨ap,q,rfl,n,m⟩:=Kz d;exact AG (h X C B E o O) n m
  |some p=>
   obtain⟨a,b⟩:=p;obtain⟨t,c⟩:=Di c;obtain⟨_,_,_,rfl⟩:=Dh t;obtain⟨p,pos,rfl,g,j,l⟩:=Sf O c;exact RJ g (O.bl _ (by decide)) (cb h O a) (cb h O b) j l
 |some a=>
  obtain⟨t,f⟩:=Di f;obtain⟨_,_,_,rfl⟩:=Dh t;obtain⟨p,pos,rfl,g,j⟩:=nq O f;exact JL g (O.bl _ (by decide)) (MM h O a) (ah j)
def MB(h:jv T ev)(O:lL X C T E)(e:Expr):Sj X B (ek (kx X) E) tg e (Io ev C e):=by
 unfold Io;cases d:k0 C "range" e with
 |some a=>
  obtain⟨p,q,rfl,f,c⟩:=nq O d;exact AE (Rf f (O.bl _ (by decide)) (Ce h O (by rw[iF,c];rfl)) (ah c))
 |none=>
  dsimp only;split
  ·rename_i o m p;have b:=h X C B E (.Attribute o m p) O;exact AE (Re b (Oq (W7 b)))
  ·exact JK (cb h O _)
end
noncomputable def Rv(c:Ev)(C:SC)(o:Expr)(m:Str)(d:List Expr):En->Res:=match d with
 |[a]=>if j4 o && gc a then(if m="index" then gM fo (o6 c C o) (o6 c C a)else jh)else jh
 |[a,b]=>if j4 o && gc a && gc b then(if m="get" then va (o6 c C o) (o6 c C a) (c C b)else jh)else jh
 |_=>jh
def cY(h:jv T q)(O:lL X C T E){ap l:Pos}(f:(ap.endLine==l.line)=true):fh X B (ek (kx X) E) (.Call (.Attribute o m ap) e [] l) (Rv q C o m e):=by
 unfold Rv;split
 ·rename_i a
  by_cases c:(j4 o && gc a)=true
  ·rw[fM c];rw[gG]at c
   by_cases d:m="index"
   ·subst d;exact BM O.units (cb h O o) (cb h O a) c.1 c.2 f
   ·rw[fJ d];exact b0
  ·rw[fJ c];exact b0
 ·rename_i a b
  by_cases c:(j4 o && gc a && gc b)=true
  ·rw[fM c];rw[gG,gG]at c;obtain⟨⟨p,j⟩,g⟩:=c
   by_cases d:m="get"
   ·subst d;have n:X.A.units+5<jS:=by have:=O.units;lia
    exact KR n (cb h O o) (cb h O a) (h X C B E b O) ⟨l7 p,by rw[me (by rw[iF,iF,j,g];rfl)];rfl,f,Ed j g⟩
   ·rw[fJ d];exact b0
  ·rw[fJ c];exact b0
 ·exact b0
noncomputable def rm(d g:Ev)(C:SC)(b:Expr)(gens:List Comprehension)(a:lY):En->Res:=match gens with
 | [⟨.Name x _, iter, e, 0⟩] => if Ah C a [x] && ph iter then (match slots C (i3 a.names) with
  | some f => (match e with
   |[]=>a7 (Io d C iter) f (gC (.bl true)) (d (G9 C a [x]) b)
   |[c]=>a7 (Io d C iter) f (g (G9 C a [x]) c) (d (G9 C a [x]) b)
   |_=>jh)
  |none=>jh)else jh
 |_=>jh
inductive yY(X:Cx)(B:Hp)(E:EK)(elt:Expr)(gens:List Comprehension)(scope:lY)(G:En->Res):Prop
 |st (h:G=jh)
 |ok {tg iter:Expr} {ifs:List Expr} {own xs M:List Str} {ix:List Nat} {td:D->Option (List D)} {t g:En->Res} {r:En->e9} {F:En->D->TR} {E2:XK} (eg:gens=[⟨tg,iter,ifs,0⟩]) (eG:G=sf r F)
  (st:X.Ok->∃cl,ka X scope cl own xs M ix/\qe X B E2 scope cl own xs M tg td elt ifs t g) (hA:Wr X E2) (hF:∀U,Fg td (ua ix U) t g (F U)) (hE:EA E (ek (kx X) E2) F) (hi:Sj X B E tg iter r) (hs:∀x,mH iter X.env x=pure x)
section
variable{T:GT}{ev tv:Ev}{X:Cx}{C:SC}{B:Hp}{E:XK}{pos p:Pos}{elt:Expr}
def MK(h:jv T ev)(y:Es T tv)(O:lL X C T E):yY X B (ek (kx X) E) elt gens scope (rm ev tv C elt gens scope):=by
 unfold rm;split
 ·rename_i x z iter n
  by_cases d:(Ah C scope [x] && ph iter)=true
  ·rw[fM d];rw[gG]at d;obtain⟨d,e⟩:=d;cases v:slots C _ with
   |none=>exact .st rfl
   |some u=>
    cases n with
    |nil=>
     refine .ok (ifs:=[]) (own:=Dx scope) (xs:=[x]) (M:=i3 scope.names) (ix:=u) (t:=gC _) (g:=ev _ elt) (E2:=E0) rfl (J7) (λok=>?_) rfl (λU=>DF.tr) X4 (MB h O iter) (oo e);obtain⟨o,l⟩:=A3 O ok d v;exact⟨o,l,Ry l,.inl ⟨rfl,rfl⟩,λm a b j f q=>h _ _ B E0 elt (Cs O d m a b j f q)⟩
    |cons c r=>
     cases r with
     |nil=>
      refine .ok (ifs:=[c]) (own:=Dx scope) (xs:=[x]) (M:=i3 scope.names) (ix:=u) (t:=tv _ c) (g:=ev _ elt) (E2:=E0) rfl (J7) (λok=>?_) rfl (λU=>DF.tr) X4 (MB h O iter) (oo e);obtain⟨o,l⟩:=A3 O ok d v;exact⟨o,l,Ry l,.inr ⟨c,rfl,λm a b j f=>y _ _ B E0 c (Cs O d m a b j f Cf)⟩,λm a b j f q=>h _ _ B E0 elt (Cs O d m a b j f q)⟩
     |cons _ _=>exact .st rfl
  ·rw[fJ d];exact .st rfl
 ·exact .st rfl
def Cr(h:jv T ev)(b:Es T tv)(O:lL X C T E):FZ X B (ek (kx X) E) (.ListComp elt gens scope pos) (rm ev tv C elt gens scope)/\IsL (rm ev tv C elt gens scope):=by
 cases MK (gens:=gens) (scope:=scope) h b O with
 |st e=>rw[e];exact⟨WC,λU d h=>by cases h⟩
 |ok m n st l g j f c=>
  rw[n];subst m;refine⟨λa s σ H Q I q=>?_,T6⟩;obtain⟨r,o,Bk⟩:=st I.ok;exact AV o O.calm l Bk g j f c a s σ H Q I q
end
def Xk(xs:List D)(lo a:Option Int):List D:=(xs.drop (HT.Lr xs.length 0 lo)).take (HT.Lr xs.length xs.length a - HT.Lr xs.length 0 lo)
def Rm(d:D)(lo a:Option Int):Option D:=match d with
 |.lst xs=>some (.lst (Xk xs lo a))
 |_=>none
def Ka(a:Ev)(C:SC)(o:Option Expr)(U:En):Option (Option Int):=match o with
 |none=>some none
 | some e => (match a C e U with
  |.ok (.int i)=>some (some i)
  |_=>none)
def bI(o:Option (En->Res))(U:En):Option (Option Int):=match o with
 |none=>some none
 | some g => (match g U with
  |.ok (.int i)=>some (some i)
  |_=>none)
def VA(g:En->Res)(lo a:Option (En->Res)):En->Res:=λU=>(g U).bind λd=>match bI lo U,bI a U with
 |some l,some h=>Res.of (Rm d l h)
 |_,_=>.st
def Nk(b:Ev)(C:SC)(a:Expr)(lo c:Option Expr):En->Res:=VA (o6 b C a) (lo.map (b C)) (c.map (b C))
def Yc{o:Option Expr}:bI (o.map (a C)) U=Ka a C o U:=by cases o<;>rfl
def dg.cut{K:KA}{G:Hp}{c:List D}{a:List V}(dl:dg K G c a)(lo b:Option Int):dg K G (Xk c lo b) (Xl a lo b):=by
 unfold Xk Xl;rw[dl.length];exact(dl.drop _).take _
section
variable{T:GT}{ev tv:Ev}{X:Cx}{C:SC}{B:Hp}{E:XK}{pos p:Pos}{a:Expr}
def Q7(h:jv T ev)(O:lL X C T E):∃t:TO,PO X o t/\∀G U σ H l (Q:Option Int->Hp->Prop),eu (kx X) B G H σ U->Ka ev C o U=some l->(∀j g,Ext G H j g->Q l g)->t σ H Q:=by
 cases o with
 |none=>
  refine⟨_,JH,λG U σ H l Q R e q=>?_⟩;cases e;exact q G H (Ext.refl R.gh)
 |some e=>
  refine⟨_,JG (h X C B E0 e O.none),λG U σ H l Q R b q=>?_⟩;unfold Ka at b;dsimp only at b;cases f:ev C e U with
  |ok d=>
   rw[f]at b;cases d with
   |int i=>
    cases b;refine⟨G,U,R,?_⟩;rw[f];exact λv j g x m=>⟨i,m,q j g x⟩
   |_=>cases b
  |er c=>rw[f]at b;cases b
  |st=>rw[f]at b;cases b
def CG(h:jv T ev)(O:lL X C T E){lo g:Option Expr}{z:Pos}:fh X B (ek (kx X) E) (.Subscript a (.Slice lo g none z) pos) (Nk ev C a lo g):=by
 obtain⟨tl,I,x⟩:=Q7 h O;obtain⟨th,c,y⟩:=Q7 h O;refine PE.imp (AK LP (cb h O a) I c) λσ H Q ⟨G,U,R,q⟩=>⟨G,U,R,(ey.bind q).mono λd _ q v Y M n J=>?_⟩;rw[Yc,Yc]at q;cases e:Ka ev C lo U with
 |none=>rw[e]at q;exact q.elim
 |some l=>
  cases j:Ka ev C g U with
  |none=>rw[e,j]at q;exact q.elim
  |some c=>
   rw[e,j]at q;obtain⟨d',f,q⟩:=ey.of q;refine x Y U σ M l _ (R.ext n) e λN L m=>y N U σ L c _ (R.ext (n.trans m)) j λG3 H3 b=>?_;unfold Rm at f;split at f
   ·cases f;obtain⟨A,r,rfl,u,dl⟩:=((J.ext m).ext b).lst b.gh;exact⟨A,r,rfl,u,λp o=>q _ _ _ (((n.trans m).trans b).trans (Ext.new b.gh _ o)) (uy b.gh o (dl.cut l c))⟩
   ·cases f
end
def Ru(c:Ev)(C:SC)(a:Expr)(d:Operator)(b:Expr):En->Res:=(match FP d with
  |some f=>g2 f (o6 c C a) (o6 c C b)
  |none=>jh)
def OL(h:jv T g)(O:lL X C T E):fh X B (ek (kx X) E) (.BinOp a c b d) (Ru g C a c b):=by
 have e:fh X B (ek (kx X) E) (.BinOp a c b d) (match FP c with
  |some f=>g2 f (o6 g C a) (o6 g C b)
  |none=>jh):=by
  cases j:FP c with
  |none=>exact b0
  |some f=>exact SX j (cb h O a) (cb h O b)
 exact e
noncomputable def NQ(T:GT)(d y:Ev)(C:SC)(e:Expr):En->Res:=match e with
 | .Constant c _ _ => (match c with
  |.none=>gC .g8
  |.bool b=>gC (.bl b)
  |.int i=>gC (.int i)
  |.str x=>gC (.str x)
  |_=>jh)
 |.Name x _=>Eh T C x
 |.BinOp a n b _=>Ru d C a n b
 | .UnaryOp n a _ => (match n with
  |.Not=>vc (d C a)
  |_=>jh)
 | .BoolOp n p _ => (match n with
  |.And=>J6 (d C) p
  |.Or=>Yb (d C) p)
 |.IfExp c a b _=>MD (y C c) (d C a) (d C b)
 |.Compare l q B _=>z0 d C l q B
 |.Tuple j _ _=>if j.all gc then js (J9 d C j)else jh
 |.List j _=>if j.all gc then cq (J9 d C j)else jh
 | .Subscript a i _ => (match i with
  |.Slice lo G none _=>Nk d C a lo G
  |i=>if Aq i then g2 ao (o6 d C a) (o6 d C i)else jh)
 |.ListComp u gens h _=>rm d y C u gens h
 | .Dict E p _ => (match E, p with
  |[],[]=>gC (.hZ false [])
  |[some (.Tuple j A z)],[v]=>C8 (d C (.Tuple j A z)) (d C v)
  |_,_=>jh)
 |.Attribute o m _=>if j4 o then fm T.cls m (o6 d C o)else jh
 | .Call f g r H => (match f, r with
  |.Name x _,[]=>zz T d C x g
  |.Attribute o m ap,[]=>if ap.endLine==H.line then Rv d C o m g else jh
  |_,_=>jh)
 |_=>jh
def jw(g:En->Res):En->Res:=g1 (λd=>bD (L7 d)) g
noncomputable def NO(T:GT)(g b:Ev)(C:SC)(e:Expr):En->Res:=match e with
 | .UnaryOp f a _ => (match f with
  |.Not=>vc (b C a)
  |_=>g1 (λd=>bD (L7 d)) (o6 g C e))
 | .BoolOp f h _ => (match f with
  |.And=>J6 (b C) h
  |.Or=>Yb (b C) h)
 |.Compare l c j _=>z0 g C l c j
 |e=>if Ie e then g1 (λd=>bD (L7 d)) (o6 g C e)else jh
section
variable{T:GT}{ev tv:Ev}
def DZ(h:jv T ev)(u:Es T tv):jv T (NQ T ev tv):=by
 intro X C B E e O;cases e with
 |Constant c k p=>
  cases c with
  |none=>exact SL
  |bool b=>exact XR
  |int i=>exact SR
  |str x=>exact SJ
  |_=>exact b0
 |Name x p=>exact IQ O
 |BinOp a n b p=>
  exact OL h O
 |UnaryOp n a p=>
  cases n with
  |Not=>exact SK (h X C B E a O)
  |_=>exact b0
 |BoolOp n A p=>
  cases n with
  |And=>exact P0 λe=>h X C B E e O
  |Or=>exact Z7 λe=>h X C B E e O
 |IfExp c a b p=>exact XO (u X C B E c O) (h X C B E a O) (h X C B E b O)
 |Compare l G U p=>exact(Xf h O).1
 |Tuple j k p=>
  show fh X B _ _ (if j.all gc then js _ else jh)
  by_cases d:j.all gc=true
  ·rw[fM d];exact SG Cj (Hc h O d)
  ·rw[fJ d];exact b0
 |List j p=>
  show fh X B _ _ (if j.all gc then cq _ else jh)
  by_cases d:j.all gc=true
  ·rw[fM d];exact SO Cj (Hc h O d)
  ·rw[fJ d];exact b0
 |Subscript a i p=>
  show fh X B _ _ (match i with
   |.Slice lo L none _=>Nk ev C a lo L
   |i=>if Aq i then g2 ao _ _ else jh)
  split
  ·exact CG h O
  ·skip
   by_cases y:Aq i=true
   ·rw[fM y];exact XN (by have:=O.units;lia) (cb h O a) (cb h O i) (Ve y)
   ·rw[fJ y];exact b0
 |Dict J A p=>
  show fh X B _ _ (match J,A with
   |[],[]=>gC _
   |[some (.Tuple j Q N)],[v]=>C8 _ _
   |_,_=>jh)
  split
  ·exact XQ
  ·exact BN (by have:=O.units;lia) (h X C B E _ O) (h X C B E _ O)
  ·exact b0
 |Attribute o m p=>
  show fh X B _ _ (if j4 o then fm T.cls m _ else jh)
  by_cases d:j4 o=true
  ·rw[fM d];exact SV (λc I H e=>(O.cls c I H e).2) (cb h O o) d
  ·rw[fJ d];exact b0
 |ListComp M gens q p=>exact AR (Cr h u O).1 (Cr (B:=B) (E:=E) (pos:=p) h u O).2
 |Call f g r p=>
  show fh X B _ _ (match f,r with
   |.Name x _,[]=>zz T ev C x g
   |.Attribute o m ap,[]=>if ap.endLine==p.line then Rv ev C o m g else jh
   |_,_=>jh)
  split
  ·exact FI h O
  ·rename_i o m ap
   by_cases z:(ap.endLine==p.line)=true
   ·rw[fM z];exact cY h O z
   ·rw[fJ z];exact b0
  ·exact b0
 |_=>exact b0
def DV(h:jv T ev)(c:Es T tv):Es T (NO T ev tv):=by
 intro X C B E e O;have f:∀{e:Expr},Er X B _ e (if Ie e then g1 _ _ else jh):=λ{e}=>by
  by_cases d:Ie e=true
  ·rw[fM d];exact BS (cb h O e) (F9 d)
  ·rw[fJ d];exact Ba
 cases e with
 |UnaryOp b a p=>
  cases b with
  |Not=>exact KW (c X C B E a O)
  |_=>exact BS (cb h O _) (F9 rfl)
 |BoolOp b j p=>
  cases b with
  |And=>exact XW (P1 λe=>c X C B E e O)
  |Or=>exact XW (Z8 λe=>c X C B E e O)
 |Compare l g m p=>exact(Xf h O).2
 |_=>exact f
end
def gP(T:GT):Nat->Bool->Ev
 |0,_=>λ_ _=>jh
 |n+1,false=>NQ T (gP T n false) (gP T n true)
 |n+1,true=>NO T (gP T n false) (gP T n true)
def MC(T:GT):∀n,jv T (gP T n false)/\Es T (gP T n true):=by
 intro b;induction b with
 |zero=>exact⟨λ_ _ _ _ _ _=>b0,λ_ _ _ _ _ _=>Ba⟩
 |succ n a=>exact⟨DZ (a).1 (a).2,DV (a).1 (a).2⟩
noncomputable def nk(i:Nat)(U:En):En:=match U[i]? with
 |some (.ow b)=>U.set i (.pu (.lst b))
 |some (.od t a)=>U.set i (.pu (.hZ t a))
 |_=>U
def mu(is:List Nat)(U:En):En:=is.foldl (λU i=>nk i U) U
section
variable{K:KA}{B G0 G H:Hp}{σ:St}{U:En}
def p3.yN(e:c7 G l)(h:p3 K B G H s o):p3 K B l H s o:=by
 cases s with
 |no=>trivial
 |pu d=>obtain⟨v,c,b⟩:=h;exact⟨v,c,b.mono e⟩
 |bo d=>obtain⟨v,c,b⟩:=h;exact⟨v,c,OT e b⟩
 |ow m=>obtain⟨a,f,c,b,g⟩:=h;exact⟨a,f,c,b,g.mono e⟩
 |od t j=>
  cases t with
  |false=>obtain⟨a,f,c,b,g⟩:=h;exact⟨a,f,c,b,g.mono e⟩
  |true=>obtain⟨a,f,c,b,g⟩:=h;exact⟨a,f,c,b,g.mono e⟩
def Ext.xP(e:Ext G0 B G H)(d:B a=none)(c:G a=none)(h:H a=some o):Ext G0 B (upd G a o) H:=by
 refine⟨e.gg.trans (bx c _),e.hh,λb u q=>?_,λb u q g z=>?_⟩
 ·by_cases z:b=a
  ·subst z;rw[ai]at q;rwa [h]
  ·rw[ag z]at q;exact e.gh b u q
 ·rw[ag (bj q d)];exact e.fr b u q g z
def eu.vZ(R:eu K B G H σ U){i:Nat}{s:Sl}{a:Addr}{o:HO}{d:D}(E:U[i]?=some s)(I:s.own=true)(A:σ[i]?=some (some (V.ref a)))(hd:Den K (upd G a o) d (.ref a)):
  eu K B (upd G a o) (upd H a o) σ (U.set i (.pu d)):=by
 obtain⟨gn,bn⟩:=R.own i s a E I A;have C:=(List.getElem?_eq_some_iff.mp E).1;have n:c7 G (upd G a o):=bx gn _;refine⟨λb u q=>?_,λb u q=>?_,by rw[jN];exact R.len,λj t q=>?_,λj t b e f p=>?_,λj k t u b e f p L O N=>?_,R.gb⟩
 ·rw[ag (bj q bn)];exact R.bh b u q
 ·by_cases z:b=a
  ·subst z;rw[ai]at q;rwa [ai]
  ·rw[ag z]at q;rw[ag z];exact R.gh b u q
 ·by_cases z:i=j
  ·subst z;rw[gY C]at q;cases q;exact⟨_,A,_,rfl,hd⟩
  ·rw[gU z]at q;obtain⟨M,J,l⟩:=R.sl j t q;have r:∀b,t.own=true->M=some _->b≠a:=λb T eo y=>by
    subst y;exact z (R.u5 i j _ _ b E q I T A (by rw[J,eo]))
   refine⟨M,J,?_⟩;cases t with
   |no=>trivial
   |pu d=>obtain⟨v,c,h⟩:=l;exact⟨v,c,h.mono n⟩
   |bo d=>obtain⟨v,c,h⟩:=l;exact⟨v,c,OT n h⟩
   |ow ds=>obtain⟨b,m,c,h,x⟩:=l;exact⟨b,m,c,by rwa [ag (r b rfl c)],x.mono n⟩
   |od t Q=>
    cases t with
    |false=>obtain⟨b,m,c,h,x⟩:=l;exact⟨b,m,c,by rwa [ag (r b rfl c)],x.mono n⟩
    |true=>obtain⟨b,m,c,h,x⟩:=l;exact⟨b,m,c,by rwa [ag (r b rfl c)],x.mono n⟩
 ·by_cases z:i=j
  ·subst z;rw[gY C]at e;cases e;cases f
  ·rw[gU z]at e;obtain⟨g,b'⟩:=R.own j t b e f p;refine⟨?_,b'⟩;have r:b≠a:=by
    rintro rfl
    exact z (R.u5 i j _ _ b E e I f A p)
   rwa [ag r]
 ·have hj:i≠j:=by
   rintro rfl
   rw[gY C]at e;cases e;cases p
  have Y:i≠k:=by
   rintro rfl
   rw[gY C]at f;cases f;cases L
  rw[gU hj]at e;rw[gU Y]at f;exact R.u5 j k t u b e f p L O N
def eu.wZ(R:eu K B G H σ U){s:Sl}(g:U[i]?=some s)(f:s.own=true)(c:σ[i]?=some (some (V.ref a)))(j:H a=some o)(h:Den K (upd G a o) d (.ref a)):
  eu K B (upd G a o) H σ (U.set i (.pu d)):=by
 have e:upd H a o=H:=funext λb=>by
  by_cases z:b=a
  ·subst z;rw[ai,j]
  ·exact ag z
 have:=R.vZ g f c h;rwa [e]at this
def eu.nk{X:Cx}{c:List (Addr×Obj)}{s:fP}(R:eu K B G H σ U)(e:Ext G0 B G H)(I:Inv X c σ H s)(i:Nat):∃p n,c7 G p/\eu K B p n σ (nk i U)/\Ext G0 B p n/\Inv X c σ n s:=by
 unfold Pu.nk;cases d:U[i]? with
 |none=>exact⟨G,H,c7.refl G,R,e,I⟩
 |some s=>
  cases s with
  |ow x=>
   obtain⟨a,q,g,h,f,b,j⟩:=R.uZ d;exact⟨_,H,bx b _,R.wZ d rfl g h ⟨a,q,rfl,i'.of ai,f.mono (bx b _)⟩,e.xP j b h,I⟩
  |od t u=>
   obtain⟨o,g,h⟩:=R.sl i _ d;cases t with
   |false=>
    obtain⟨a,m,rfl,f,l⟩:=h;obtain⟨b,j⟩:=R.own i _ a d rfl g;exact⟨_,H,bx b _,R.wZ d rfl g f ⟨a,rfl,.inl ⟨rfl,m,ai,l.mono (bx b _)⟩⟩,e.xP j b f,I⟩
   |true=>
    obtain⟨a,m,rfl,f,l⟩:=h;obtain⟨b,j⟩:=R.own i _ a d rfl g;obtain⟨r,_,v⟩:=I.freeze f;exact⟨_,_,bx b _,R.vZ d rfl g ⟨a,rfl,.inr ⟨rfl,r,m,ai,l.mono (bx b _)⟩⟩,e.xO j b,v⟩
  |no=>exact⟨G,H,c7.refl G,R,e,I⟩
  |pu _=>exact⟨G,H,c7.refl G,R,e,I⟩
  |bo _=>exact⟨G,H,c7.refl G,R,e,I⟩
def eu.mu{X:Cx}{a:List (Addr×Obj)}{s:fP}:∀(is:List Nat){G H:Hp}{U:En},eu K B G H σ U->Ext G0 B G H->Inv X a σ H s->∃f d,c7 G f/\eu K B f d σ (mu is U)/\Ext G0 B f d/\Inv X a σ d s:=by
 intro b;induction b with
 |nil=>rintro G H U R e I;exact⟨G,H,c7.refl G,R,e,I⟩
 |cons i is c=>
  rintro G H U R e I
  obtain⟨u,r,h,m,l,o⟩:=R.nk e I i;obtain⟨q,p,g,R2,j,n⟩:=c m l o;exact⟨q,p,h.trans g,R2,j,n⟩
end
section
variable{X:Cx}{G0 B:Hp}{E:EK}{st:Stmt}{F:En->Out}
def XA(is:List Nat)(h:qr X G0 B E st F):qr X G0 B E st (λU=>F (mu is U)):=by
 rintro a s σ H D I ⟨G,U,R,e,q⟩
 obtain⟨j,g,b,d,c,f⟩:=eu.mu is R e I;exact h a s σ g D f ⟨j,_,d,c,ki.same b q⟩
end
section
variable{X:Cx}{G0 B:Hp}{E:EK}{scope:lY}{cl:List (Str×Addr)}{own xs:List Str}{y:Str}{M:List Str}{ix:List Nat}{elt iter tg:Expr}{ifs:List Expr}{pos pos' yM:Pos}{r:En->e9}{t g:En->Res}{i:Nat}{td:D->Option (List D)}{F:En->D->TR}{E':XK}
def TL(O:ka X scope cl own xs M ix)(hc:X.calm=true)(hA:Wr X E')(Bk:qe X B E' scope cl own xs M tg td elt ifs t g)(hF:∀U,Fg td (ua ix U) t g (F U))(hE:EA E (ek (kx X) E') F)(hi:Sj X B E tg iter r)(hN:X.N.Nodup)(hy:X.N[i]?=some y)(hl:L2.Wp X.env.scope y)(hf:X.fn y=true)
  (hs:∀x,mH iter X.env x=pure x)(L:mG (.ListComp elt [⟨tg,iter,ifs,0⟩] scope yM) (some (.Name y pos')) pos.line X.env=pure true):
  qr X G0 B E (.Assign [.Name y pos'] (.ListComp elt [⟨tg,iter,ifs,0⟩] scope yM) pos) (b8 i (sf r F)):=by
 intro l s σ H D I ⟨G,U,R,ex,q⟩;have q:=qf ex q;rw[exec_Assign_Name_used _ _ _ _ L,arm_evalThenUse_ListComp];refine fB (wpAny_standAt ?_);refine fB (fB ?_);refine wpAny_comprehension_free rfl hs (xg O.wI) O.kind O.names ?_;refine iP (hi l s σ H (λJ H1=>∃A h,Ext G H A H1/\yk _ J h _/\h.length<=fR/\gy E G H _ λys=>ki _ G0 B E G _ D) I
  ⟨G,U,R,(ML q).mono (by rintro h _ ⟨hl,q⟩ J A H1 d ok;exact⟨A,h,d,ok,hl,q⟩)⟩) (λv s1 h1=>iP h1 (λν f h2=>?_) λ_ _ e=>e) λ_ _ e=>e
 obtain⟨it,fp,tn,J,H1,rfl,j,T,st,γ,A,h,d,ok,α,q⟩:=h2;refine Jr O hc hA Bk j T st γ (R.ext d) ok α (hF U) (λ_ _ z=>z) (((q.ext d).er (hE U h)).mono λys _ q=>?_);intro s3 H3 G3 vs m I3 hm hC e3 g3 h3 dl;have u:f.1.1.size<=f.1.1.size+1:=pA _;have C:=j.lt;have n:∀y c,X.env.cells.lookup y=some c->c<f.1.1.size:=λy c e=>by
  obtain⟨v',q'⟩:=j.cell y c e;exact q'.lt
 refine wpAny_assign_Name (Gg (v:=.ref f.1.1.size) I3 hN hy hl rfl (λs4 I4 ⟨a,Q,ha⟩=>?_) (.inl hf));have la:a<f.1.1.size:=by
  obtain z|z:=ha
  ·rwa [z]
  ·exact n _ _ z
 refine⟨m,hm.sameBut Q ((wo la).symm),λh' Y=>fE (fE ⟨σ.set i (some (V.ref f.1.1.size)),H3,?_,?_⟩)⟩
 ·refine I4.turned (λb o hb e=>Y.extBut b o hb e) hC ?_ (.inr (iU j.sz u)) ?_ ?_
  ·exact(wo C).symm
  ·intro z c δ;exact wo (n z c δ)
  ·intro p hp z;exact absurd (iD (fS (j.pin p hp).1) (iU u (oJ z.symm))) (jA _)
 ·exact q _ G3 H3 (d.trans e3).gg (R.yE (d.trans e3) (cu d.hh (j.fg.fresh (fQ _))) g3 h3 dl) (ex.trans (d.trans e3))
end
def Ay(c:En->Res)(F:En->Out):Nat->En->Out
 |0,_=>.st
 |n+1,U=>(c U).then λd=>match d with
  | .bl true => (match F U with
   |.nx a=>Ay c F n a
   |.ct a=>Ay c F n a
   |.bk a=>.nx a
   |o=>o)
  |.bl false=>.nx U
  |_=>.st
def Me:Nat:=1000000
def XD(c:En->Res)(F:En->Out):En->Out:=Ay c F Me
section
variable{X:Cx}{G0 B:Hp}{E:EK}{c:Expr}{ss:List Stmt}{g:En->Res}{F:En->Out}{pos:Pos}
def LU(u:sN (gR X.prog X.w) X.A X.env X.xe)(v:Er X B E c g)(x:ym X G0 B E ss F):qr X G0 B E (.While c ss [] pos) (XD g F):=
 PS.imp (BV u v x)<|by
  rintro D σ H ⟨G,U,R,e,q⟩
  refine⟨λm σ H=>∃G U,eu _ B G H σ U/\Ext G0 B G H/\ki _ G0 B E G (Ay g F m U) D,⟨Me,G,U,R,e,q⟩,λm σ H ⟨G,U,R,e,q⟩=>⟨G,U,R,?_⟩⟩;cases m with
  |zero=>exact q.elim
  |succ m=>
   refine(qf e q).mono λd _ q=>?_;cases d with
   |bl b=>
    refine⟨b,rfl,λp y h=>?_⟩;cases b with
    |false=>
     exact q σ p y h.gg (R.ext h) (e.trans h)
    |true=>
     refine⟨λa j=>∃r,r<m+1/\∃G U,eu _ B G j a U/\Ext G0 B G j/\ki _ G0 B E G _ D,λa j z=>z,p,U,R.ext h,e.trans h,?_⟩;cases ef:F U with
     |nx f=>
      rw[ef]at q;exact λa o j s n l=>⟨m,lV m,o,f,n,l,ki.same (h.gg.trans s) q⟩
     |ct f=>
      rw[ef]at q;exact λa o j s n l=>⟨m,lV m,o,f,n,l,ki.same (h.gg.trans s) q⟩
     |bk f=>
      rw[ef]at q;exact λa o j s n l=>q a o j (h.gg.trans s) n l
     |rt d=>rw[ef]at q;exact q
     |er c=>rw[ef]at q;exact q
     |st=>rw[ef]at q;exact q
   |_=>exact q.elim
end
structure qy(X:Cx)(C:SC)(T:GT)(E:XK):Prop extends lL X C T E where
 fn:∀x,x∉zc->X.fn x=true
 pass:sN (gR X.prog X.w) X.A X.env X.xe
 zG:X.stack=X.env::X.outer
 M':X.env.frame=some X.env.locals
 O':X.ex=[]
def pd(C:SC)(x:Str):Option Nat:=if Ke C.sc x && qo x && decide (x∉zc)then Ys x C.N 0 else none
def Ds{C:SC}(h:pd C x=some i):C.N[i]?=some x/\Ke C.sc x=true/\x∉zc:=by
 unfold pd at h
 by_cases e:(Ke C.sc x && qo x && decide (x∉zc))=true
 ·rw[fM e]at h;rw[gG,gG]at e;obtain⟨_,q⟩:=Qq h;exact⟨by simpa using q,e.1.1,of_decide_eq_true e.2⟩
 ·rw[fJ e]at h;cases h
section
variable{X:Cx}{C:SC}{T:GT}{x:Str}{i:Nat}{pos:Pos}
def qy.tg(O:qy X C T E)(h:pd C x=some i):PG X (.Name x pos) (pb i):=by
 obtain⟨c,b,a⟩:=Ds h;exact Rc (by rw[O.n];exact O.nd) (by rwa [O.n]) (by rw[O.s];exact Dg b) (.inl (O.fn x a))
def qy.st(O:qy X C T E)(h:pd C x=some i)(d:PE X e b)(c:mG e (some (.Name x a)) pos.line X.env=pure false):PS X (.Assign [.Name x a] e pos) (L6 b (pb i)):=by
 obtain⟨j,g,f⟩:=Ds h;exact RD (by rw[O.n];exact O.nd) (by rwa [O.n]) (by rw[O.s];exact Dg g) d c (.inl (O.fn x f))
end
def Ij:List Nat->List D->En->Option En
 |[],[],U=>some U
 |i::is,d::a,U=>Ij is a (U.set i (.pu d))
 |_,_,_=>none
noncomputable def t6(C:SC):List Expr->Option (List Nat)
 |[]=>some []
 |e::r=>match e with
  | .Name x _ => (match pd C x, t6 C r with
   |some i,some is=>some (i::is)
   |_,_=>none)
  |_=>none
def xh(is:List Nat):D->En->Option En:=λd U=>match d with
 |.tup a=>Ij is a U
 |_=>none
theorem D6:∀{is:List Nat}{ds:List D}{U a:En},Ij is ds U=some a->ds.length=is.length
 |[],[],_,_,_=>rfl
 |[],_::_,_,_,h=>by cases h
 |_::_,[],_,_,h=>by cases h
 |i::is,d::ds,U,a,h=>by
  have:=D6 (ds:=ds) h;rw[fI,fI,this]
section
variable{X:Cx}{C:SC}{T:GT}{B:Hp}
def Zm(O:qy X C T E):∀{es:List Expr}{is:List Nat},t6 C es=some is->(∃t:VQ,VR X es t/\∀{G H:Hp}{σ:St}{U a:En}{b:List D}{f:List V}{Q:St->Hp->Prop},eu (kx X) B G H σ U->dg (kx X) G b f->Ij is b U=some a->
  (∀c,eu (kx X) B G H c a->Q c H)->t f σ H Q)/\(oX es X.env).length=is.length/\(oX es X.env).findIdx? (·.1)=none:=by
 intro j;induction j with
 |nil=>
  rintro is h
  cases h;refine⟨⟨_,JM,λ{G H σ U a b f Q} R dl e q=>?_⟩,rfl,rfl⟩;cases b with
  |nil=>
   cases e;exact⟨dl,q σ R⟩
  |cons _ _=>cases e
 |cons e r m=>
  rintro is h
  unfold t6 at h;cases e with
  |Name x p=>
   dsimp only at h;cases g:pd C x with
   |none=>rw[g]at h;cases h
   |some i=>
    cases n:t6 C r with
    |none=>rw[g,n]at h;cases h
    |some l=>
     rw[g,n]at h;cases h;obtain⟨⟨t,A,z⟩,y,u⟩:=m n;refine⟨⟨_,AH (O.tg g) A rfl,λ{G H σ U a b f Q} R dl e q=>?_⟩,?_,?_⟩
     ·cases b with
      |nil=>cases e
      |cons d b=>
       obtain⟨v,o,rfl,I,J⟩:=dl;exact⟨v,o,rfl,z (R.set I) J e q⟩
     ·show(oX r X.env).length+1=l.length+1;rw[y]
     ·show List.findIdx? _ (_::oX r X.env)=none;rw[List.findIdx?_cons];simp[u]
  |_=>cases h
def US(O:qy X C T E)(h:t6 C es=some is):∃gl,wJ X B (.Tuple es k p) gl (xh is):=by
 obtain⟨⟨t,m,l⟩,j,g⟩:=Zm O h;refine⟨_,RL O.calm m j g,λ{G H σ U b d v Q} R o e q=>?_⟩;cases d with
 |tup r=>
  obtain⟨a,c,rfl,f,dl⟩:=o;have n:=D6 (e);exact⟨a,c,rfl,mn.of (R.gh _ _ f),by rw[<-dl.length,n],l R dl e q⟩
 |_=>cases e
end
noncomputable def DO(C:SC)(tg:Expr):Option (D->En->Option En):=match tg with
 |.Name x _=>(pd C x).map az
 |.Tuple a _ _=>(t6 C a).map xh
 |_=>none
def LF(O:qy X C T E)(h:DO C tg=some f):∃gl,wJ X B tg gl f:=by
 unfold DO at h;split at h
 ·rename_i x p;cases e:pd C x with
  |none=>rw[e]at h;cases h
  |some i=>rw[e]at h;cases h;exact⟨_,LD (O.tg e)⟩
 ·rename_i a k p;cases e:t6 C a with
  |none=>rw[e]at h;cases h
  |some is=>rw[e]at h;cases h;exact US O e
 ·cases h
section
variable{X:Cx}{G0 B:Hp}{E:EK}{e a k:Expr}{g h:En->Res}{pos:Pos}{st:Stmt}{F F':En->Out}
def Gc(g:En->Res):En->Out:=λU=>(g U).then λ_=>.nx U
def TQ(j:fh X B E e g)(f:mG e none pos.line X.env=pure false):qr X G0 B E (.Expr e pos) (Gc g):=PS.imp (s9 j f) λD σ H ⟨G,U,R,c,q⟩=>
 ⟨G,U,R,(qf c q).mono λd _ q v m l b n=>q σ m l b.gg (R.ext b) (c.trans b)⟩
def NS:En->Out:=λ_=>.rt .g8
def TM:qr X G0 B E (.Return none pos) NS:=PS.imp JA (by rintro D σ H ⟨G,U,R,b,q⟩;exact q .g8 G H b rfl)
def LZ(c:En->Bool)(l:qr X G0 B E st F)(j:qr X G0 B E st F'):qr X G0 B E st (λU=>if c U then F U else F' U):=by
 rintro b s σ H D I ⟨G,U,R,f,q⟩
 by_cases d:c U=true
 ·simp only[fM d]at q;exact l b s σ H D I ⟨G,U,R,f,q⟩
 ·simp only[fJ d]at q;exact j b s σ H D I ⟨G,U,R,f,q⟩
def Gh:mG a (some (.Subscript o i p)) n b=pure false:=by
 cases a<;>rfl
end
inductive D'{κ:Type}[DecidableEq κ](mk:List (κ×V)->HO)(at_:Hp->κ->V->Prop)(x:V)(xs:List V)(H:Hp)(Q:VK):Prop
 |mk (a y l es k) (_:x=.ref a) (_:xs=[y,.ref l]) (_:H a=some (mk es)) (_:at_ H k y) (_:es.length<fR) (_:(∀v,i8 es k=some v->Q v H)) (_:(i8 es k=none->Q (.ref l) (upd H a (mk (jm es k (.ref l)))))):D' mk at_ x xs H Q
structure yS(X:Cx)(κ:Type)[DecidableEq κ] where
 t:Bool
 cn:κ->D
 of:D->Option κ
 vR:List (κ×V)->HO
 at_:Hp->κ->V->Prop
 uT:Hp->List (D×D)->List (κ×V)->Prop
 vJ:∀j,of (cn j)=some j
 nf:∀es,cX (vR es)=true
 xZ:∀es vs,vR es≠.lst vs
 ty:∀{H:Hp}{a:Addr}{es:List (κ×V)},H a=some (vR es)->aQ X.K "dict" (.ref a) H
 key:∀{G H:Hp}{d:D}{y:V}{j:κ},of d=some j->Den (kx X) G d y->c7 G H->at_ H j y
 mono:∀{H H':Hp}{j:κ}{y:V},at_ H j y->c7 H H'->at_ H' j y
 sd:X.A.units+5<jS->UK X "dict.setdefault" (D' vR at_)
 vK:∀{G G':Hp}{kvs:List (D×D)}{es:List (κ×V)},c7 G G'->uT G kvs es->uT G' kvs es
 vF:∀{B G H:Hp}{o:Option V},p3 (kx X) B G H (.od t []) o->∃a,o=some (.ref a)/\H a=some (vR [])
 nil:∀G,uT G [] []
 cons:∀{G:Hp}{j:κ}{d:D}{v:V}{kvs:List (D×D)}{es:List (κ×V)},Den (kx X) G d v->uT G kvs es->uT G ((cn j,d)::kvs) ((j,v)::es)
 fin:∀{pins:List (Addr×Obj)}{σ:St}{H:Hp}{s:fP}{a:Addr}{es:List (κ×V)},Inv X pins σ H s->H a=some (vR es)->∃o,Inv X pins σ (upd H a o) s/\∀(G:Hp)(kvs:List (D×D)),G a=some o->uT G kvs es->Den (kx X) G (.hZ t kvs) (.ref a)
def eL(X:Cx):yS X aq where
 t:=true
 cn:=kT
 of:=bu
 vR:=.dT
 at_:=λH k y=>∃b,y=.ref b/\lz H k b
 uT:=λG j c=>iL (kx X) G j c
 vJ:=nh
 nf:=λ_=>rfl
 xZ:=λ_ _ z=>nomatch z
 ty:=λ{H a c} h=>.inr (.inr (.inl ⟨rfl,.inr ⟨c,h⟩⟩))
 key:=λe dn s=>Arg.keys s (.inl dn) e
 mono:=λ⟨b,e,q⟩ s=>⟨b,e,q.mono λ_ _ z=>s _ _ z⟩
 sd:=λY f s σ H x xs v L Q I N O q=>by
  obtain⟨a,y,l,c,k,rfl,rfl,p,⟨b,rfl,hb⟩,hl,U,T⟩:=q;cases N;obtain⟨u1,r1,rfl,J,E⟩:∃u r,L=u::r/\RelV (.ref b) u/\Vals [.ref l] r:=by
   cases O with
   |cons h t=>exact⟨_,_,rfl,h,t⟩
  obtain⟨u2,rfl,C⟩:=j8 E;cases J;cases C;exact Fn Y I p hb hl (v:=.ref l) rfl (λB w M A n m=>⟨B,H,m,n,U B A⟩) λM A m=>⟨.ref l,_,m,rfl,T A⟩
 vK:=λs d=>d.mono s
 vF:=λ⟨a,c,e,h,d⟩=>⟨a,e,by rw[h,show c=[]from d]⟩
 nil:=λ_=>rfl
 cons:=λdv h=>⟨_,_,_,rfl,rfl,dv,h⟩
 fin:=λ{f σ H s a c} I p=>by
  obtain⟨o,_,m⟩:=I.freeze p;exact⟨_,m,λG j g d=>⟨a,rfl,.inr ⟨rfl,o,c,g,d⟩⟩⟩
def eM(X:Cx):yS X gd where
 t:=false
 cn:=kD
 of:=bq
 vR:=.dK
 at_:=λH k y=>y=kV k
 uT:=λG m c=>il (kx X) G m c
 vJ:=rh
 nf:=λ_=>rfl
 xZ:=λ_ _ z=>nomatch z
 ty:=λ{H a c} h=>.inr (.inr (.inl ⟨rfl,.inl ⟨c,h⟩⟩))
 key:=λ{G H d y j} e dn s=>m6 (H:=H) (.inl dn) e
 mono:=λe _=>e
 sd:=λhu f s σ H x xs v L Q I N O q=>by
  obtain⟨a,y,l,c,k,rfl,rfl,o,rfl,Y,U,T⟩:=q;cases N;obtain⟨u1,r1,rfl,J,E⟩:∃u r,L=u::r/\RelV (kV k) u/\Vals [.ref l] r:=by
   cases O with
   |cons h t=>exact⟨_,_,rfl,h,t⟩
  obtain⟨u2,rfl,C⟩:=j8 E;cases C;exact Ju I o Y J (v:=.ref l) rfl (λB w M p n A=>⟨B,H,A,n,U B p⟩) λM p A=>⟨.ref l,_,A,rfl,T p⟩
 vK:=λs d=>d.mono s
 vF:=λ⟨a,c,e,h,d⟩=>⟨a,e,by rw[h,show c=[]from d]⟩
 nil:=λ_=>rfl
 cons:=λdv h=>⟨_,_,_,rfl,rfl,dv,h⟩
 fin:=λ{f σ H s a c} I o=>by
  refine⟨.dK c,?_,λG m g d=>⟨a,rfl,.inl ⟨rfl,c,g,d⟩⟩⟩;have:upd H a (.dK c)=H:=by
   funext b
   unfold upd
   by_cases e:b=a
   ·rw[fM e,e];exact o.symm
   ·rw[fJ e]
  rw[this];exact I
section
variable{κ:Type}[DecidableEq κ]
def E8(of:D->Option κ)(b:κ->D)(j:κ)(v:D):List (D×List D)->List (D×List D)
 |[]=>[(b j,[v])]
 |(k,a)::r=>if of k=some j then(k,a++[v])::r else(k,a)::E8 of b j v r
inductive qb(cn:κ->D)(K:KA)(G B H:Hp):List (κ×V)->List Addr->List (D×List D)->Prop
 |nil:qb cn K G B H [] [] []
 |cons {j b vs ds es bs gs}:H b=some (.lst vs)->dg K G ds vs->G b=none->B b=none->qb cn K G B H es bs gs->qb cn K G B H ((j,.ref b)::es) (b::bs) ((cn j,ds)::gs)
section
variable{of:D->Option κ}{cn:κ->D}{K:KA}{G B H G' H':Hp}{gs:List (D×List D)}{es:List (κ×V)}{bs:List Addr}{j:κ}{v z:V}{dv:D}{l:Addr}
def qb.ext(h:qb cn K G B H es bs gs)(e:Ext G H G' H'):qb cn K G' B H' es bs gs:=by
 induction h with
 |nil=>exact .nil
 |cons a f d c _ b=>exact .cons (e.hh _ _ a) (f.mono e.gg) (e.fr _ _ a d rfl) c b
def qb.keep(h:qb cn K G B H es bs gs)(k:∀b∈bs,H' b=H b):qb cn K G B H' es bs gs:=by
 induction h with
 |nil=>exact .nil
 |cons m g f e _ a=>exact .cons ((k _ fN).trans m) g f e (a λc d=>k c (fH _ d))
def qb.old(h:qb cn K G B H es bs gs):∀b∈bs,(∃d,H b=some (.lst d))/\G b=none/\B b=none:=by
 induction h with
 |nil=>exact λb f=>nomatch f
 |cons n o m g _ e=>
  intro c a;rcases List.mem_cons.mp a with rfl|a
  ·exact⟨⟨_,n⟩,m,g⟩
  ·exact e c a
def qb.len(h:qb cn K G B H es bs gs):gs.length=es.length:=by
 induction h with
 |nil=>rfl
 |cons _ _ _ _ _ a=>rw[fI,fI,a]
def qb.at(I:∀j,of (cn j)=some j)(h:qb cn K G B H es bs gs):bs.Nodup->i8 es j=some v->∃b a,v=.ref b/\b∈bs/\H b=some (.lst a)/\a.length<=(gs.map λp=>p.2.length).sum/\
  ∀{G' H' dv z},qb cn K G' B H' es bs gs->H' b=some (.lst a)->Den K G' dv z->qb cn K G' B (upd H' b (.lst (a++[z]))) es bs (E8 of cn j dv gs):=by
 induction h with
 |nil=>intro _ e;cases e
 |@cons i b a Y er br gs Q O U T _ M=>
  intro J e;obtain⟨d,x⟩:=List.nodup_cons.mp J;unfold E8;rw[I]
  by_cases y:i=j
  ·subst y;rw[o3 rfl]at e;cases e;refine⟨b,a,rfl,fN,Q,by rw[<-O.length];exact nC _ _,λg A C=>?_⟩;rw[fM rfl];cases g with
   |cons u r o n m=>
    rw[A]at u;cases u;exact .cons ai (r.append (dg.one C)) o n (m.keep λc f=>ag (by rintro rfl;exact d f))
  ·rw[j7 y]at e;obtain⟨c,E,rfl,f,N,L,q⟩:=M x e;refine⟨c,E,rfl,fH _ f,N,iU L (Nat.le_add_left _ _),λg A C=>?_⟩;rw[fJ λz=>y (gV z)];cases g with
   |cons u r o n m=>exact .cons (by rwa [ag (by rintro rfl;exact d f)]) r o n (q m A C)
def qb.put(c:∀j,of (cn j)=some j)(h:qb cn K G B H es bs gs)(e:i8 es j=none)(f:H l=some (.lst [z]))(gl:G l=none)(bl:B l=none)(p:Den K G dv z):qb cn K G B H (es++[(j,.ref l)]) (bs++[l]) (E8 of cn j dv gs):=by
 induction h with
 |nil=>exact .cons f (dg.one p) gl bl .nil
 |@cons i b q r er u gs o n m g _ d=>
  by_cases a:i=j
  ·rw[o3 a]at e;cases e
  ·rw[j7 a]at e;unfold E8;rw[c,fJ λz=>a (gV z)];exact .cons o n m g (d e)
end
def BI{es:List (κ×V)}{j:κ}{v:V}(h:i8 es j=none):jm es j v=es++[(j,v)]:=by
 unfold jm;rw[Mb,h];rfl
end
def eu.chg{K:KA}{B G H:Hp}{σ:St}{U:En}{c:Addr}(R:eu K B G H σ U)(v:G c=none)(z:B c=none)(no:∀(j:Nat) s,U[j]?=some s->s.own=true->σ[j]?≠some (some (V.ref c)))(o:HO):eu K B G (upd H c o) σ U:=by
 refine⟨λb u q=>by rw[ag (bj q z)];exact R.bh b u q,λb u q=>by rw[ag (bj q v)];exact R.gh b u q,R.len,λj t q=>?_,R.own,R.u5,R.gb⟩;obtain⟨m,l,e⟩:=R.sl j t q;have h:∀b,t.own=true->m=some _->b≠c:=λb r x y=>by
  subst y;exact no j t q r (by rw[l,x])
 refine⟨m,l,?_⟩;cases t with
 |no=>trivial
 |pu d=>exact e
 |bo d=>exact e
 |ow A=>obtain⟨b,f,a,n,g⟩:=e;exact⟨b,f,a,by rwa [ag (h b rfl a)],g⟩
 |od t p=>
  cases t with
  |false=>obtain⟨b,f,a,n,g⟩:=e;exact⟨b,f,a,by rwa [ag (h b rfl a)],g⟩
  |true=>obtain⟨b,f,a,n,g⟩:=e;exact⟨b,f,a,by rwa [ag (h b rfl a)],g⟩
def eu.drop{K:KA}{B G H:Hp}{σ:St}{U:En}(R:eu K B G H σ U)(i:Nat):eu K B G H σ (U.set i .no):=by
 have b:∀{j:Nat}{s:Sl},(U.set i .no)[j]?=some s->s.own=true->i≠j/\U[j]?=some s:=λ{j s} q m=>by
  by_cases z:i=j
  ·subst z;have f:i<U.length:=by have:=(List.getElem?_eq_some_iff.mp q).1;rwa [jN]at this
   rw[gY f]at q;cases q;cases m
  ·rw[gU z]at q;exact⟨z,q⟩
 refine⟨R.bh,R.gh,by rw[jN];exact R.len,λj s q=>?_,λj s a e d c=>R.own j s a (b e d).2 d c,λj k s t a e d c g l h=>R.u5 j k s t a (b e c).2 (b d g).2 c g l h,R.gb⟩
 by_cases z:i=j
 ·subst z;have f:i<U.length:=by have:=(List.getElem?_eq_some_iff.mp q).1;rwa [jN]at this
  rw[gY f]at q;cases q;exact⟨σ[i]'(by rwa [R.len]),gF _,trivial⟩
 ·rw[gU z]at q;exact R.sl j s q
def A0(σ:St)(U:En)(c:Addr):Prop:=∀(j:Nat) s,U[j]?=some s->s.own=true->σ[j]?≠some (some (V.ref c))
def eu.give{K:KA}{B G H:Hp}{σ:St}{U:En}{c:Addr}{o:HO}(R:eu K B G H σ U)(n:G c=none)(m:H c=some o)(no:A0 σ U c):eu K B (upd G c o) H σ U:=by
 refine⟨R.bh,λb u q=>?_,R.len,λj t q=>?_,λj s b e d a=>?_,R.u5,R.gb⟩
 ·by_cases z:b=c
  ·subst z;rw[ai]at q;rwa [m]
  ·rw[ag z]at q;exact R.gh b u q
 ·obtain⟨l,h,f⟩:=R.sl j t q;exact⟨l,h,f.yN (bx n _)⟩
 ·obtain⟨g,p⟩:=R.own j s b e d a;refine⟨?_,p⟩;have:b≠c:=by rintro rfl;exact no j s e d a
  rwa [ag this]
def qb.give{X:Cx}{κ:Type}[DecidableEq κ](d:yS X κ){v B H G:Hp}{σ:St}{U:En}{gs:List (D×List D)}{es:List (κ×V)}{bs:List Addr}(h:qb d.cn (kx X) G B H es bs gs)(x:bs.Nodup)(R:eu (kx X) B G H σ U)(e:Ext v B G H)(no:∀c∈bs,A0 σ U c):
  ∃a,c7 G a/\eu (kx X) B a H σ U/\Ext v B a H/\d.uT a (gs.map λp=>(p.1,.lst p.2)) es/\∀c,c∉bs->a c=G c:=by
 induction h with
 |nil=>exact⟨G,c7.refl G,R,e,d.nil G,λ_ _=>rfl⟩
 |@cons j b o M er N gs u E C A _ y=>
  obtain⟨m,l⟩:=List.nodup_cons.mp x;obtain⟨a,q,L,I,J,r⟩:=y l λc f=>no c (fH _ f);have n:=(r b m).trans C;have g:c7 a (upd a b (.lst o)):=bx n _;refine⟨upd a b _,q.trans g,L.give n u (no b fN),I.xP A n u,d.cons ⟨b,o,rfl,i'.of ai,E.mono (q.trans g)⟩ (d.vK g J),λc f=>?_⟩;rw[ag (by rintro rfl;exact f fN)];exact r c λz=>f (fH _ z)
def EE{κ:Type}[DecidableEq κ](of:D->Option κ)(e:κ->D)(a:Nat)(c b:En->Res):List D->En->List (D×List D)->Option (En×List (D×List D))
 |[],U,gs=>some (U,gs)
 |d::f,U,gs=>match c (U.set a (.pu d)),b (U.set a (.pu d))with
  | .ok k, .ok v => (match of k with
   |some j=>if gs.length<fR/\(gs.map λp=>p.2.length).sum<fR then EE of e a c b f (U.set a (.pu d)) (E8 of e j v gs)else none
   |none=>none)
  |_,_=>none
def Ge{κ:Type}[DecidableEq κ](t:Bool)(of:D->Option κ)(h:κ->D)(f a:Nat)(r:En->e9)(e d:En->Res):En->Out:=λU=>match U[f]? with
 | some (.od b []) => if b = t /\ a ≠ f then (match r (U.set f .no) with
  | .ok g => (match EE of h a e d g (U.set f .no) [] with
   |some p=>.nx (p.1.set f (.pu (.hZ t (p.2.map λq=>(q.1,.lst q.2)))))
   |none=>.st)
  |.er c=>.er c
  |.st=>.st)else .st
 |_=>.st
section
variable{X:Cx}{κ:Type}[DecidableEq κ]{G0 B:Hp}{E:EK}{iter ke ve:Expr}{x y:Str}{py p ap cp lp yA yi ep pos:Pos}{f jt:Nat}{r:En->e9}{gk gv:En->Res}
def GL{a b:Expr}{d:Env}{c:Pos}(g:gc a=true)(e:gc b=true):((lJ c (gQ [a,b] d)).all (λx=> !x.1) && (qO c (nS [] d)).all (λx=>x.1.isSome)
   && decide (([a,b]:List Expr).length+([]:List mS).length+(if([]:List mS).isEmpty then 0 else 1)<30))=true:=by
 rw[me (by rw[iF,iF,g,e];rfl)];rfl
def MF{a:Expr}{c:Env}{b:Pos}(d:gc a=true):((lJ b (gQ [a] c)).all (λx=> !x.1) && (qO b (nS [] c)).all (λx=>x.1.isSome)
   && decide (([a]:List Expr).length+([]:List mS).length+(if([]:List mS).isEmpty then 0 else 1)<30))=true:=by
 rw[me (by rw[iF,d];rfl)];rfl
def CL{σ:St}{f:Nat}{o:Option V}(h:σ[f]?=some o):σ.set f o=σ:=by
 refine mK λi=>?_
 by_cases e:f=i
 ·subst e;rw[gY (List.getElem?_eq_some_iff.mp h).1,h]
 ·rw[gU e]
inductive zm(kk:yS X κ)(G0 B G1:Hp)(f:Nat)(a:Addr)(δ2:En)(gs:List (D×List D))(σ':St)(H':Hp):Prop
 |mk {G2 es bs} (_:c7 G1 G2) (_:eu (kx X) B G2 H' σ' δ2) (_:Ext G0 B G2 H') (_:σ'[f]?=some (some (V.ref a))) (_:H' a=some (kk.vR es)) (_:G2 a=none) (_:qb kk.cn (kx X) G2 B H' es bs gs) (_:bs.Nodup) (_:A0 σ' δ2 a) (_:∀c∈bs,A0 σ' δ2 c):zm kk G0 B G1 f a δ2 gs σ' H'
def NR(d:yS X κ)(hp:sN (gR X.prog X.w) X.A X.env X.xe)(Q:X.calm=true)(hu:X.A.units+5<jS)(hi:We X B E (.Name y py) iter r)(hg:PG X (.Name y py) (pb jt))(hv:PE X (.Name x p) (tw f))
  (hk:fh X B E ke gk)(hval:fh X B E ve gv)(n1:gc ke=true)(n2:gc ve=true)(l1:(ap.endLine==cp.line)=true)(l2:(yA.endLine==yi.line)=true)(hs:∀x,mH iter X.env x=pure x):
  qr X G0 B E (.For (.Name y py) iter [.Expr (.Call (.Attribute (.Call (.Attribute (.Name x p) "setdefault" ap) [ke,.List [] lp] [] cp) "append" yA) [ve] [] yi) ep] [] pos) (Ge d.t d.of d.cn f jt r gk gv):=by
 rintro ν s σ H D I ⟨G,U,R,ex,q⟩
 unfold Ge at q;split at q
 case h_2=>exact q.elim
 rename_i t' ed;split at q
 case isFalse=>exact q.elim
 rename_i hc2;obtain⟨rfl,njf⟩:=hc2;obtain⟨o,q1,q2⟩:=R.sl f _ ed;obtain⟨a,rfl,ha⟩:=d.vF q2;obtain⟨ga,ba⟩:=R.own f _ a ed rfl q1;have R0:=R.drop f;generalize hδ:U.set f .no=T at q R0;have no0:A0 σ T a:=λj s' n e2 e3=>by
  rw[<-hδ]at n
  by_cases z:f=j
  ·subst z;have hl:=(List.getElem?_eq_some_iff.mp ed).1;rw[gY hl]at n;cases n;cases e2
  ·rw[gU z]at n;exact z (R.u5 f j _ _ a ed n rfl e2 q1 e3)
 have body:uW X [.Expr (.Call (.Attribute (.Call _ [ke,.List [] lp] [] cp) "append" yA) [ve] [] yi) ep] _:=
  B7 (s9 (A9 kP pX pY wm (A9 lI kZ oM (d.sd hu) hv (jb hk (jb (AL oq) oq rfl) (ah n1)) rfl (GL n1 rfl) l1 (ah n1) rfl) (jb hval oq (ah n2)) rfl (MF n2) l2 (ah n2) rfl) rfl)
 have ξ:=Ot (pos:=pos) hp Q hi hg body hs;cases er:r T with
 |st=>rw[er]at q;exact q.elim
 |er c=>
  rw[er]at q;exact gp (ξ ν s σ H {nx:=λ_ _=>False,rt:=λ_ _=>False} I ⟨G,T,R0,by rw[er];exact λG' H' e=>q G' H' (ex.trans e)⟩) λfl s' z=>by
   cases fl with
   |next=>obtain⟨_,_,_,z⟩:=z;exact z.elim
   |ret u=>obtain⟨_,_,_,_,_,z⟩:=z;exact z.elim
   |brk=>obtain⟨_,_,_,z⟩:=z;exact kH z
   |cont=>obtain⟨_,_,_,z⟩:=z;exact kH z
 |ok ds=>
  rw[er]at q;dsimp only at q;cases eg:EE d.of d.cn jt gk gv ds T []with
  |none=>rw[eg]at q;exact q.elim
  |some pr=>
   obtain⟨δe,ge⟩:=pr;rw[eg]at q;refine gp (ξ ν s σ H {nx:=zm d G0 B G f a δe ge,rt:=λ_ _=>False} I ⟨G,T,R0,?_⟩) λfl s' z=>?_
   ·rw[er];intro J G1 H1 n ok;refine⟨λi m M H'=>m=ds.length - i/\i<=ds.length/\∃C gs,zm d G0 B G1 f a C gs M H'/\EE d.of d.cn jt gk gv (ds.drop i) C gs=some _,
     ⟨ds.length,by simp,iO _,T,[],⟨c7.refl G1,R0.ext n,ex.trans n,q1,n.hh _ _ ha,n.fr _ _ ha ga (d.nf _),.nil,lQ,no0,λc Q=>nomatch Q⟩,by exact eg⟩,?_⟩
    rintro i m τ H2 ⟨rfl,hi2,C,gs,@⟨G2,es,bs,s2,R2,x2,f2,a2,g2,γ,Y,O,α⟩,g⟩
    obtain⟨okg,oks⟩:=ok i G2 H2 ⟨s2,R2.bh⟩ R2.gh
    by_cases hl:i<ds.length
    case neg=>
     have z:i=ds.length:=by lia
     subst z;rw[rL]at g;cases g;exact .inl ⟨oks (fQ _),n.gg.trans s2,R2,x2,f2,a2,g2,γ,Y,O,α⟩
    obtain⟨go,yl⟩:=okg ds[i] (by simp[hl]);rw[kG hl]at g;refine .inr ⟨go,λM H'=>i+1<=ds.length/\∃C gs,zm d G0 B G1 f a C gs M H'/\EE d.of d.cn jt gk gv _ C gs=some _,
     by rintro M H' ⟨n1,n2⟩;exact⟨ds.length - _,by lia,rfl,n1,n2⟩,λv H3 yy=>?_⟩
    obtain⟨G3,e3,dn⟩:=yl v H3 yy;have R3:=(R2.ext e3).set (i:=jt) dn;unfold EE at g;split at g
    case h_2=>cases g
    rename_i dk dv ek χ;split at g
    case h_2=>cases g
    rename_i j ej;split at g
    case isFalse=>cases g
    rename_i hsz;generalize hδ3:C.set jt _=N at R3 g ek χ;have h:∀c,A0 τ C c->A0 (τ.set jt (some v)) N c:=λc Q j' s' n e2 e3=>by
     rw[<-hδ3]at n
     by_cases z:jt=j'
     ·subst z;have hl:jt<C.length:=by have:=(List.getElem?_eq_some_iff.mp n).1;rwa [jN]at this
      rw[gY hl]at n;cases n;cases e2
     ·rw[gU z]at n e3;exact Q j' s' n e2 e3
    have f3:(τ.set jt (some v))[f]?=some (some (V.ref a)):=by rwa [gU njf]
    have a3:=e3.hh _ _ a2;have gr3:=γ.ext e3;refine⟨.ref a,f3,d.ty a3,G3,N,R3,?_⟩;rw[ek];intro yv G4 H4 e4 dy;refine⟨iO _,λl η=>?_⟩;have e5:Ext G4 H4 G4 (upd H4 l (.lst [])):=Ext.own e4.gh _ η;have δ:=e4.trans e5;have a5:=δ.hh _ _ a3;have g5:=δ.fr _ _ a3 (e3.fr _ _ a2 g2 (d.nf _)) (d.nf _);have ι:=gr3.ext δ;have R5:=R3.ext δ;have x5:=(x2.trans e3).trans δ;have s5:=(s2.trans e3.gg).trans δ.gg;have hla:l≠a:=by rintro rfl;rw[ai]at a5;exact d.xZ _ _ (gV a5).symm
    have hlb:∀b∈bs,l≠b:=λb hb z=>by
     obtain⟨⟨ws,hw⟩,_⟩:=(gr3.ext e4).old b hb;rw[<-z,η]at hw;cases hw
    have bl:=cu (R3.ext e4).bh η;refine⟨a,yv,l,es,j,rfl,rfl,a5,d.mono (d.key ej dy e4.gh) e5.hh,by rw[<-γ.len];exact hsz.1,λw ew=>?_,λen=>?_⟩
    ·obtain⟨b,vs,rfl,hb,hw,lw,nx⟩:=ι.at d.vJ Y ew;refine⟨.inl ⟨rfl,vs,i'.of hw⟩,G4,N,R5,?_⟩;rw[χ];intro zv G7 H7 L dz;have gr7:=ι.ext L;have hw7:=L.hh _ _ hw;obtain⟨_,gb7,bb⟩:=gr7.old b hb;have hba:a≠b:=by rintro rfl;rw[a5]at hw;exact d.xZ _ _ (gV hw)
     refine⟨b,vs,zv,rfl,rfl,hw7,sT lw hsz.2,hl,N,_,⟨s5.trans L.gg,(R5.ext L).chg gb7 bb (h b (α b hb)) _,(x5.trans L).wr gb7 bb,f3,?_,L.fr _ _ a5 g5 (d.nf _),nx gr7 hw7 dz,Y,h a O,λc Q=>h c (α c Q)⟩,g⟩;rw[ag hba];exact L.hh _ _ a5
    ·have R6:=R5.chg g5 ba (h a O) (d.vR (jm es j (.ref l)));have υ:upd (upd H4 l (.lst [])) a (d.vR (jm es j (.ref l))) l=some (.lst []):=by rw[ag hla,ai]
     refine⟨.inl ⟨rfl,[],i'.of υ⟩,G4,N,R6,?_⟩;rw[χ];intro zv G7 H7 L dz;have φ:=L.fr _ _ υ (cu e4.gh η) rfl;have gr6:qb d.cn _ G4 B (upd _ a (d.vR (jm es j (.ref l)))) es bs gs:=ι.keep λb hb=>by
      obtain⟨⟨ws,hw⟩,_⟩:=ι.old b hb;rw[ag (by rintro rfl;rw[a5]at hw;exact d.xZ _ _ (gV hw))]
     have nl:A0 _ N l:=λj' s' n e2 e3=>by
      obtain⟨o',z1,z2⟩:=(R3.ext e4).sl j' s' n;rw[e3]at z1;cases z1;obtain⟨a',z,u,z3,_⟩:=z2.ref e2;cases z;rw[η]at z3;cases z3
     refine⟨l,[],zv,rfl,rfl,(L.hh _ _ υ),by decide,hl,N,_,.mk (es:=jm es j (.ref l)) (bs:=bs++[l]) (s5.trans L.gg) ((R6.ext L).chg φ bl nl _) (((x5.wr g5 ba).trans L).wr φ bl) f3 ?_ (L.fr _ _ ai g5 (d.nf _)) ?_ ?_ (h a O) λc Q=>?_,g⟩
     ·rw[ag hla.symm];exact(L.hh _ _ ai)
     ·rw[BI en];exact((gr6.ext L).keep λb hb=>by rw[ag (hlb b hb).symm]).put d.vJ en ai φ bl dz
     ·rw[oU];refine⟨Y,by simp,λb hb c Q=>?_⟩;have:c=l:=by simpa using Q
      subst this;exact(hlb b hb).symm
     ·rcases List.mem_append.mp Q with Q|Q
      ·exact h c (α c Q)
      ·have:c=l:=by simpa using Q
       subst this;exact nl
   ·cases fl with
    |next=>
     obtain⟨M,H',I',@⟨G2,es,bs,s2,R2,x2,f2,a2,g2,γ,Y,O,α⟩⟩:=z;obtain⟨o,I'',dn⟩:=d.fin I' a2;obtain⟨G3,s3,R3,x3,d3,k3⟩:=qb.give d γ Y R2 x2 α;have μ:=(k3 a λhb=>by
      obtain⟨⟨ws,hw⟩,_⟩:=γ.old a hb;rw[a2]at hw;exact d.xZ _ _ (gV hw)).trans g2
     have sm:c7 G3 (upd G3 a o):=bx μ _;have R5:=((R3.chg μ ba O o).give μ ai O).set (i:=f) (dn _ _ ai (d.vK sm d3));rw[CL f2]at R5;exact⟨M,_,I'',q M _ _ ((s2.trans s3).trans sm) R5 (x3.xO ba μ)⟩
    |ret u=>obtain⟨_,_,_,_,_,z⟩:=z;exact z.elim
    |brk=>obtain⟨_,_,_,z⟩:=z;exact kH z
    |cont=>obtain⟨_,_,_,z⟩:=z;exact kH z
end
def J3(a b:Nat)(g:En->Res):List D->En->Option En
 |[],U=>some U
 |d::f,U=>match (U.set a (.pu d))[b]?,g (U.set a (.pu d))with
  | some (.ow xs), .ok e => (match sk e with
   |some c=>if xs.length+c.length<=fR then J3 a b g f ((U.set a (.pu d)).set b (.ow (xs++c)))else none
   |none=>none)
  |_,_=>none
def Gd(b c d:Nat)(g:En->Res):En->Out:=λU=>match U[b]? with
 | some (.ow e) => if c ≠ b /\ d ≠ b then (match J3 c d g e U with
  |some a=>.nx a
  |none=>.st)else .st
 |_=>.st
section
variable{X:Cx}{G0 B:Hp}{E:EK}{e:Expr}{x y z:Str}{px py pz ap cp ep pos:Pos}{iw jt iy:Nat}{g:En->Res}
inductive zZ(X:Cx)(G0 B G:Hp)(iw jt iy:Nat)(g:En->Res)(a:Addr)(vs:List V)(ws:List D)(δe:En)(i:Nat)(σ':St)(H':Hp):Prop
 |mk {G2 δ2} (_:c7 G G2) (_:eu (kx X) B G2 H' σ' δ2) (_:Ext G0 B G2 H') (_:σ'[iw]?=some (some (V.ref a))) (_:H' a=some (.lst vs)) (_:δ2[iw]?=some (.ow ws)) (_:J3 jt iy g (ws.drop i) δ2=some δe):zZ X G0 B G iw jt iy g a vs ws δe i σ' H'
def TN(hp:sN (gR X.prog X.w) X.A X.env X.xe)(hc:X.calm=true)(hw:PE X (.Name x px) (tw iw))(hg:PG X (.Name z pz) (pb jt))(hv:PE X (.Name y py) (tw iy))
  (ha:jc X B E e g)(M:gc e=true)(l1:(ap.endLine==cp.line)=true):
  qr X G0 B E (.For (.Name z pz) (.Name x px) [.Expr (.Call (.Attribute (.Name y py) "extend" ap) [e] [] cp) ep] [] pos) (Gd iw jt iy g):=by
 refine PS.imp (Ot hp hc (RK hw) hg (B7 (s9 (A9 kP PySem.F.slot_list_extend PySem.F.type_list_extend Q1 hv (jb ha oq (ah M)) rfl (MF M) l1 (ah M) rfl) rfl)) (λ_=>rfl)) λD σ H ⟨G,U,R,ex,q⟩=>?_;unfold Gd at q;split at q
 case h_2=>exact q.elim
 rename_i f ed;split at q
 case isFalse=>exact q.elim
 rename_i Y;obtain⟨a,C,q1,q2,q3,q4,q5⟩:=R.uZ ed;cases eg:J3 jt iy g f U with
 |none=>rw[eg]at q;exact q.elim
 |some J=>
  rw[eg]at q;refine⟨.ref a,q1,a,rfl,.inl ⟨⟨C,i'.of q2⟩,?_⟩⟩;refine⟨λi m h H'=>m=f.length - i/\i<=f.length/\zZ X G0 B G iw jt iy g a C f J i h H',
   ⟨f.length,by simp,iO _,c7.refl G,R,ex,q1,q2,ed,eg⟩,?_⟩
  rintro i m I H2 ⟨rfl,hi2,@⟨G2,L,s2,R2,x2,f2,Q,d2,c⟩⟩
  have lw:=q3.length
  by_cases hl:i<f.length
  case neg=>
   have z:i=f.length:=by lia
   subst z;rw[rL]at c;cases c;exact .inl ⟨⟨C,i'.of Q,by lia⟩,q I G2 H2 s2 R2 x2⟩
  obtain⟨b,ws',e1,e2,ι,gb,bb⟩:=R2.uZ d2;rw[f2]at e1;cases e1;rw[Q]at e2;cases e2;obtain⟨v,ev,dv⟩:=ι.get (gF hl);refine .inr ⟨⟨C,v,i'.of Q,ev⟩,λh H'=>i+1<=f.length/\zZ X G0 B G iw jt iy g a C f J _ h H',
   by rintro h H' ⟨M,n2⟩;exact⟨f.length - _,by lia,rfl,M,n2⟩,λw H3 ⟨eH,yy⟩=>?_⟩
  cases eH;have N:=yy C (i'.of Q);rw[ev]at N;cases N;rw[kG hl]at c;have T:=R2.set (i:=jt) dv;unfold J3 at c;split at c
  case h_2=>cases c
  rename_i xs d ek O;split at c
  case h_2=>cases c
  rename_i es ei;split at c
  case isFalse=>cases c
  have d3:(L.set jt (.pu f[i]))[iw]?=some (.ow f):=by rwa [gU Y.1]
  generalize υ:L.set jt _=β at T c ek O d3;have f3:(I.set jt (some v))[iw]?=some (some (V.ref a)):=by rwa [gU Y.1]
  obtain⟨l,us,p,o,r,z4,z5⟩:=T.uZ ek;have δ:l≠a:=by
   rintro rfl
   exact Y.2 (T.u5 iy iw _ _ l ek d3 rfl rfl p f3)
  refine⟨.ref l,p,.inl ⟨rfl,us,i'.of o⟩,G2,β,T,?_⟩;rw[O];intro u G4 H4 n av;have γ:∃b j,u=.ref b/\(i' (kx X) H4 b j\/mn (kx X) H4 b j)/\dg (kx X) G4 es j:=by
   cases d with
   |lst θ=>cases ei;obtain⟨b,j,p,o,r⟩:=av.lst n.gh;exact⟨b,j,p,.inl o,r⟩
   |tup θ=>cases ei;obtain⟨b,j,p,o,r⟩:=av.tup n.gh;exact⟨b,j,p,.inr o,r⟩
   |_=>cases ei
  obtain⟨b,j,rfl,sq,dl⟩:=γ;have l1:=r.length;have l2:=dl.length;have h4:=n.hh _ _ o;refine⟨l,b,us,j,rfl,rfl,h4,sq,by lia,hl,s2.trans n.gg,eu.wr (T.ext n) ek p h4 ((r.mono n.gg).append dl),Ext.wr (x2.trans n) (n.fr _ _ o z4 rfl) z5,f3,?_,?_,c⟩
  ·rw[ag δ.symm];exact n.hh _ _ Q
  ·rwa [gU Y.2]
end
section
variable{X:Cx}{G0 B:Hp}{E:EK}{g:En->Res}{pos:Pos}
def ti(c b:Nat)(g:En->Res):En->Out:=λU=>match U[c]?,U[b]?,g U with
 | some (.ow xs), some (.ow a), .ok (.int i) => (match tR i a.length with
  | some n => (match a[n]? with
   |some d=>if c≠b/\xs.length<fR/\-(2 ^ 63)<=i/\i<2 ^ 63 then .nx ((U.set b (.ow (a.eraseIdx n))).set c (.ow (xs++[d])))else .st
   |none=>.st)
  |none=>.st)
 |_,_,_=>.st
def CT{z u:Nat}{x y:Str}{e:Expr}{Q O ap cp o m:Pos}(hx:PE X (.Name x Q) (tw z))(hy:PE X (.Name y O) (tw u))(he:fh X B E e g)(r:gc e=true)(l1:(ap.endLine==cp.line)=true)(l2:(o.endLine==m.line)=true):
  qr X G0 B E (.Expr (.Call (.Attribute (.Name x Q) "append" ap) [.Call (.Attribute (.Name y O) "pop" o) [e] [] m] [] cp) pos) (ti z u g):=by
 have h:∀{a:Expr}{j:Env}{f:Pos},gc a=true->((lJ f (gQ [a] j)).all _ && (qO f (nS [] j)).all (λx=>x.1.isSome)
   && decide (([a]).length+([]:List mS).length+(if([]:List mS).isEmpty then 0 else 1)<30))=true:=λ{a j f} hn=>by
  rw[me (by rw[iF,hn];rfl)];rfl
 refine PS.imp (s9 (A9 kP pX pY wm hx (jb (A9 kP PySem.F.slot_list_pop PySem.F.type_list_pop Zl hy (jb he oq (ah r)) rfl (h r) l2 (ah r) rfl) oq rfl) rfl (h rfl) l1 rfl rfl) rfl) λD σ H ⟨G,U,R,ex,q⟩=>?_;unfold ti at q;split at q
 case h_2=>exact q.elim
 rename_i xs ys i Y A eg;split at q
 case h_2=>exact q.elim
 rename_i n en;split at q
 case h_2=>exact q.elim
 rename_i d ed;split at q
 case isFalse=>exact q.elim
 rename_i hc;obtain⟨T,h2,h3,h4⟩:=hc;obtain⟨a,N,L,J,a3,a4,a5⟩:=R.uZ Y;obtain⟨b,M,I,p,C,b4,b5⟩:=R.uZ A;have l:a≠b:=by rintro rfl;exact T (R.u5 z u _ _ a Y A rfl rfl L I)
 refine⟨.ref a,L,.inl ⟨rfl,N,i'.of J⟩,.ref b,I,.inl ⟨rfl,M,i'.of p⟩,G,U,R,?_⟩;rw[eg];intro w G1 H1 c dw;obtain⟨v,ev,dv⟩:=C.get ed;refine⟨b,M,i,n,v,rfl,by rw[dw],c.hh _ _ p,h3,h4,by rwa [<-C.length],ev,?_⟩;have κ:=c.hh _ _ J;refine⟨a,N,v,rfl,rfl,by rwa [ag l],by rwa [<-a3.length],?_⟩;have R2:=eu.wr (eu.wr (R.ext c) A I (c.hh _ _ p) ((C.mono c.gg).eraseIdx n)) (by rwa [gU (kS T)]) L (by rwa [ag l]) ((a3.mono c.gg).append (dg.one (dv.mono c.gg)));exact q σ G1 _ c.gg R2 (((ex.trans c).wr (c.fr _ _ p b4 rfl) b5).wr (c.fr _ _ J a4 rfl) a5)
end
mutual
def Mi:Nat->GT->Expr->List Str
 |0,_,_=>[]
 |n+1,T,e=>match e with
  |.Name x _=>[x]
  |.IfExp c a b _=>Cz n T c++Mi n T a++Mi n T b
  |.BoolOp _ vs _=>vs.flatMap (Mi n T)
  |e=>Cz n T e
def Cz:Nat->GT->Expr->List Str
 |0,_,_=>[]
 |n+1,T,e=>match e with
  |.BinOp a _ b _=>Cz n T a++Cz n T b
  |.UnaryOp _ a _=>Cz n T a
  |.BoolOp _ vs _=>vs.flatMap (Cz n T)
  |.IfExp c a b _=>Cz n T c++Mi n T a++Mi n T b
  |.Compare l _ rs _=>Cz n T l++rs.flatMap (Cz n T)
  |.Tuple es _ _=>es.flatMap (Mi n T)
  |.List es _=>es.flatMap (Mi n T)
  |.Subscript a i _=>Cz n T a++Cz n T i
  |.ListComp elt gens _ _=>Mi n T elt++gens.flatMap λg=>Cz n T g.iter++g.ifs.flatMap (Cz n T)
  | .Call (.Name f _) args _ _ => (match T.fns f with
   |some s=>(s.ms.zip args).flatMap λp=>if p.1 then Cz n T p.2 else Mi n T p.2
   |none=>if(T.cls f).isSome then args.flatMap (Mi n T)else args.flatMap (Cz n T))
  |.Call (.Attribute o _ _) args _ _=>Cz n T o++args.flatMap (Mi n T)
  |_=>[]
end
noncomputable def eN(T:GT)(st:Stmt):List Str:=match st with
 |.Return (some e) _=>Mi 30 T e
 |.Assign [.Name _ _] e _=>Mi 30 T e
 |.Assign [.Subscript _ k _] e _=>Mi 30 T e++Cz 30 T k
 |.AugAssign _ _ e _=>Cz 30 T e
 |.Expr (.Call (.Attribute (.Name _ _) m _) a _ _) _=>if m="extend" then a.flatMap (Cz 30 T)else a.flatMap (Mi 30 T)
 |.Expr e _=>Cz 30 T e
 |.If c _ _ _=>Cz 30 T c
 |.For _ (.Name x p) [.Expr (.Call (.Attribute (.Name _ _) m _) [_] _ _) _] _ _=>if m="extend" then[]else[x]
 |.For _ iter _ _ _=>Mi 30 T iter
 |.Try [.Expr e _] _ _ _ _=>Cz 30 T e
 |.Try [.Assign [.Name _ _] e _] _ _ _ _=>Cz 30 T e
 |_=>[]
def LO(C:SC)(xs:List Str):List Nat:=xs.filterMap (slot C)
noncomputable def WV(T:GT)(C:SC)(x y:Str):Bool:=decide (x=y) && decide (slot C x=none) && ED C x && (T.fns x).isNone
def ZA(O:lL X C T E)(h:WV T C x y=true):x=y/\Gl X x:=by
 unfold WV at h;simp only[gG,decide_eq_true_eq]at h;exact⟨h.1.1.1,(O.gl h.1.2).1⟩
def qj:Expr->Option Str
 |.Name x _=>some x
 |_=>none
def i6{e:Expr}{x:Str}(h:qj e=some x):∃p,e=.Name x p:=by
 unfold qj at h;split at h
 ·cases h;exact⟨_,rfl⟩
 ·cases h
noncomputable def L0(T:GT)(b:Ev)(C:SC)(e:Expr):Option (En->Res):=match k0 C "list" e with
 |some a=>some (g1 fq (o6 b C a))
 | none => (match e with
  |.List c _=>if c.all gc then some (cq (J9 b C c))else none
  |_=>none)
def DB:List Expr->Option (Expr×Expr)
 |[k,v]=>some (k,v)
 |_=>none
def Py(h:DB es=some (k,v)):es=[k,v]:=by
 cases es with
 |nil=>cases h
 |cons a r=>
  cases r with
  |nil=>cases h
  |cons b r=>
   cases r with
   |nil=>cases h;rfl
   |cons c r=>cases h
noncomputable def mq(b:Ev)(C:SC)(e:Expr):Option (En->m3):=match ze e with
 | some (o, m, a) => (match qj o, DB a with
  |some x,some (k,v)=>if decide (m="setdefault") && gc k && gc v then(slot C x).map λi=>if C.td.contains x then j3 i (o6 b C k) (b C v)else jg i (o6 b C k) (b C v)else none
  |_,_=>none)
 |none=>none
noncomputable def Lz(d g:Ev)(C:SC)(e:Expr):Option (En->m3):=match e with
 | .IfExp c a b _ => (match mq d C a, mq d C b with
  |some f,none=>some (Bs (g C c) f (C9 (d C b)))
  |none,some f=>some (Bs (g C c) (C9 (d C a)) f)
  |some f,some h=>some (Bs (g C c) f h)
  |none,none=>none)
 |e=>mq d C e
noncomputable def Ef(a:Ev)(C:SC)(e:Expr):Option (En->m3):=match e with
 | .Compare l [b] [r] _ => (match mq a C l, Gz b with
  |some f,some p=>if ph r then some (C7 p f (o6 a C r))else none
  |_,_=>none)
 |_=>none
section
variable{T:GT}{ev tv:Ev}{X:Cx}{C:SC}{G0 B:Hp}{E:XK}
def C4(h:jv T ev)(O:lL X C T E)(a:mq ev C e=some f):Wo X G0 B (ek (kx X) E) e f:=by
 unfold mq at a;cases l:ze e with
 |none=>rw[l]at a;cases a
 |some q=>
  obtain⟨o,m,b⟩:=q;obtain⟨ap,z,rfl,r⟩:=ky l;rw[l]at a;dsimp only at a;cases j:qj o with
  |none=>rw[j]at a;cases a
  |some x=>
   obtain⟨p,rfl⟩:=i6 j;rw[j]at a;cases g:DB b with
   |none=>rw[g]at a;cases a
   |some q=>
    obtain⟨k,v⟩:=q;cases Py g;rw[g]at a;dsimp only at a
    by_cases d:(decide (m="setdefault") && gc k && gc v)=true
    ·rw[fM d]at a;simp only[gG,decide_eq_true_eq]at d;obtain⟨⟨rfl,y⟩,u⟩:=d;cases c:slot C x with
     |none=>rw[c]at a;cases a
     |some i=>
      rw[c]at a;cases a;dsimp only
      by_cases n:C.td.contains x=true
      ·rw[fM n];exact Nc (by have:=O.units;lia) (O.var c) (cb h O k) (h X C B E v O) y u r
      ·rw[fJ n];exact To (O.var c) (cb h O k) (h X C B E v O) y u r
    ·rw[fJ d]at a;cases a
def bL(h:jv T ev)(l:Es T tv)(O:lL X C T E)(d:Lz ev tv C e=some f):Wo X G0 B (ek (kx X) E) e f:=by
 unfold Lz at d;split at d
 ·rename_i c a b p;cases j:mq ev C a with
  |none=>
   cases g:mq ev C b with
   |none=>rw[j,g]at d;cases d
   |some n=>rw[j,g]at d;cases d;exact Xw (l X C B E c O) (Qa (h X C B E a O)) (C4 h O g)
  |some n=>
   cases g:mq ev C b with
   |none=>rw[j,g]at d;cases d;exact Xw (l X C B E c O) (C4 h O j) (Qa (h X C B E b O))
   |some m=>rw[j,g]at d;cases d;exact Xw (l X C B E c O) (C4 h O j) (C4 h O g)
 ·exact C4 h O d
def VB(h:jv T ev)(O:lL X C T E)(a:Ef ev C e=some f):bY X G0 B (ek (kx X) E) e f:=by
 unfold Ef at a;split at a
 ·rename_i l g r p;cases b:mq ev C l with
  |none=>rw[b]at a;cases a
  |some n=>
   cases d:Gz g with
   |none=>rw[b,d]at a;cases a
   |some q=>
    rw[b,d]at a;dsimp only at a
    by_cases c:ph r=true
    ·rw[fM c]at a;cases a;obtain⟨m,g1,g2,j⟩:=By d O.units;exact PR g1 g2 j (C4 h O b) (cb h O r) (pk c)
    ·rw[fJ c]at a;cases a
 ·cases a
end
noncomputable def Ee(T:GT)(a:Ev)(C:SC)(e:Expr):Option (En->Res):=(k0 C "dict" e).map (o6 a C)
noncomputable def B9(T:GT)(b d:Ev)(C:SC)(x:Str)(e:Expr):En->Out:=match pd C x with
 |none=>ui
 | some i => (match e with
  | .Dict j h _ => (match j, h with
   |[],[]=>if C.td.contains x then ou i else xq i
   |_,_=>ui)
  |.ListComp c gens a _=>b8 i (rm b d C c gens a)
  | e => (match L0 T b C e with
   |some g=>if qm e then b8 i g else ui
   | none => if qm e then (match Lz b d C e with
    |some f=>vw i f
    | none => (match Ee T b C e with
     |some g=>D5 i g
     |none=>cz i (b C e)))else ui))
noncomputable def Pf(c:Ev)(C:SC)(x m:Str)(b:List Expr):En->Out:=match slot C x,b with
 |some i,[a]=>if m="append" then(if gc a then rj i (c C a)else ui)
  else if m="extend" then(if gc a then qq i (o6 c C a)else ui)
  else ui
 |_,_=>ui
def fz(is:List Nat)(F:En->Out):En->Out:=λU=>F (mu is U)
def Ym(i:Nat)(U:En):Bool:=match U[i]? with
 |some (.ow _)=>true
 |_=>false
def O3(i:Nat)(b a:En->Res):En->Out:=D4 i b a
abbrev Bv:=SC->List Stmt->En->Out
structure xT where
 t:Bool
 f:Nat
 j:Nat
 k:Expr
 v:Expr
def Ho:List Stmt->Option Expr
 |[.Expr e _]=>some e
 |_=>none
def A6{a:List Stmt}{e:Expr}(h:Ho a=some e):∃p,a=[.Expr e p]:=by
 unfold Ho at h;split at h
 ·cases h;exact⟨_,rfl⟩
 ·cases h
def N0:List Expr->Option Expr
 |[k,.List [] _]=>some k
 |_=>none
def Kk{es:List Expr}{k:Expr}(h:N0 es=some k):∃p,es=[k,.List [] p]:=by
 unfold N0 at h;split at h
 ·cases h;exact⟨_,rfl⟩
 ·cases h
def F7:List Expr->Option Expr
 |[k]=>some k
 |_=>none
def su{es:List Expr}{k:Expr}(h:F7 es=some k):es=[k]:=by
 unfold F7 at h;split at h
 ·cases h;rfl
 ·cases h
def y9(C:SC)(tg:Expr)(a:List Stmt):Option xT:=do
 let y <-qj tg;let (o,e,h) <-ze (<-Ho a);let b <-F7 h;let (d,g,l) <-ze o;let x <-qj d;let c <-N0 l;let f <-slot C x;let j <-pd C y
 if decide (g="setdefault") && decide (e="append") && gc c && gc b then some ⟨C.td.contains x,f,j,c,b⟩else none
inductive yT(C:SC)(tg:Expr)(body:List Stmt)(q:xT):Prop
 |mk (y x:Str) (py px ap cp lp yA yi ep:Pos) (_:tg=.Name y py) (_:body=[.Expr (.Call (.Attribute (.Call (.Attribute (.Name x px) "setdefault" ap) [q.k,.List [] lp] [] cp) "append" yA) [q.v] [] yi) ep]) (_:slot C x=some q.f) (_:pd C y=some q.j) (_:gc q.k=true) (_:gc q.v=true) (_:(ap.endLine==cp.line)=true) (_:(yA.endLine==yi.line)=true):yT C tg body q
def E7{C:SC}{tg:Expr}{a:List Stmt}{q:xT}(b:y9 C tg a=some q):yT C tg a q:=by
 simp only[y9,bind,qK]at b;obtain⟨y,z,U,v,⟨o,N,Y⟩,u,M,r,⟨L,O,a1⟩,p,x,n,Q,m,T,B,j,A,b⟩:=b;obtain⟨f,rfl⟩:=i6 z;obtain⟨h,rfl⟩:=A6 v;obtain⟨e,d,rfl,G⟩:=ky u;obtain⟨ap,E,rfl,H⟩:=ky p;cases su r;obtain⟨g,rfl⟩:=i6 n;obtain⟨l,rfl⟩:=Kk m;split at b
 ·rename_i c;simp only[gG,decide_eq_true_eq]at c;obtain⟨⟨⟨rfl,rfl⟩,J⟩,I⟩:=c;cases b;exact⟨y,x,f,g,ap,E,l,e,d,h,rfl,rfl,B,A,J,I,H,G⟩
 ·cases b
def Vr(t:Bool)(f j:Nat)(r:En->e9)(b a:En->Res):En->Out:=if t then Ge true bu kT f j r b a else Ge false bq kD f j r b a
structure xV where
 w:Nat
 j:Nat
 y:Nat
 e:Expr
def y8(C:SC)(tg iter:Expr)(b:List Stmt):Option xV:=do
 let z <-qj tg;let x <-qj iter;let (c,m,a) <-ze (<-Ho b);let y <-qj c;let e <-F7 a;let w <-slot C x;let j <-pd C z;let y <-slot C y
 if decide (m="extend") && gc e then some ⟨w,j,y,e⟩else none
inductive yW(C:SC)(tg iter:Expr)(body:List Stmt)(q:xV):Prop
 |mk (z x y:Str) (pz px py ap cp ep:Pos) (_:tg=.Name z pz) (_:iter=.Name x px) (_:body=[.Expr (.Call (.Attribute (.Name y py) "extend" ap) [q.e] [] cp) ep]) (_:slot C x=some q.w) (_:pd C z=some q.j) (_:slot C y=some q.y) (_:gc q.e=true) (_:(ap.endLine==cp.line)=true):yW C tg iter body q
def E6{C:SC}{tg iter:Expr}{b:List Stmt}{q:xV}(d:y8 C tg iter b=some q):yW C tg iter b q:=by
 simp only[y8,bind,qK]at d;obtain⟨z,v,x,u,M,r,⟨J,m,a⟩,p,y,o,e,n,w,E,j,B,L,A,d⟩:=d;obtain⟨f,rfl⟩:=i6 v;obtain⟨h,rfl⟩:=i6 u;obtain⟨l,rfl⟩:=A6 r;obtain⟨ap,G,rfl,H⟩:=ky p;obtain⟨g,rfl⟩:=i6 o;cases su n;split at d
 ·rename_i c;simp only[gG,decide_eq_true_eq]at c;obtain⟨rfl,I⟩:=c;cases d;exact⟨z,x,y,f,h,g,ap,G,l,rfl,rfl,rfl,E,B,A,I,H⟩
 ·cases d
def xn(w j y:Nat)(g:En->Res)(F:En->Out):En->Out:=λU=>if Ym w U then Gd w j y g U else F U
structure zX where
 x:Nat
 y:Nat
 e:Expr
def Dz(C:SC)(x m:Str)(b:List Expr):Option zX:=do
 let (c,d,a) <-ze (<-F7 b);let y <-qj c;let e <-F7 a;let i <-slot C x;let j <-slot C y
 if decide (m="append") && decide (d="pop") && gc e then some ⟨i,j,e⟩else none
noncomputable def DX(T:GT)(g p:Ev)(n:Bv)(C:SC)(st:Stmt):En->Out:=match st with
 | .Return o _ => (match o with
  |some e=>cm (g C e)
  |none=>NS)
 | .Assign r e _ => (match r with
  |[.Name x _]=>B9 T g p C x e
  | [.Subscript (.Name x _) k _] => (match slot C x with
   |some i=>if Aq k then(if C.td.contains x then Au i (o6 g C k) (g C e)else D4 i (o6 g C k) (g C e))else ui
   |none=>ui)
  |_=>ui)
 | .Expr e _ => (match e with
  |.Constant (.str _) _ _=>CU
  | .Call (.Attribute (.Name x A) m ap) h u z => (match u with
   |[]=>if ap.endLine==z.line then(match mq g C (.Call (.Attribute (.Name x A) m ap) h [] z)with
    |some f=>tj f
    | none => (match Dz C x m h with
     |some q=>ti q.x q.y (g C q.e)
     |none=>Pf g C x m h))else ui
   |_=>ui)
  |e=>if qm e then Gc (g C e)else ui)
 | .If c a b _ => (match Ef g C c with
  |some f=>Lq f (n C a) (n C b)
  |none=>wy (p C c) (n C a) (n C b))
 | .For tg iter d l _ => (match l, DO C tg with
  | [], some f => if ph iter then (match y9 C tg d with
   |some q=>Vr q.t q.f q.j (Eg g C tg iter) (g C q.k) (g C q.v)
   | none => (match y8 C tg iter d with
    |some q=>xn q.w q.j q.y (o6 g C q.e) (di f (Eg g C tg iter) (n C d))
    |none=>di f (Eg g C tg iter) (n C d)))else ui
  |_,_=>ui)
 | .While c d l _ => (match l with
  |[]=>XD (p C c) (n C d)
  |_=>ui)
 |_=>ui
def NP(T:GT)(b a:Ev)(c:Bv)(C:SC)(st:Stmt):En->Out:=fz (LO C (eN T st)) (DX T b a c C st)
def O4(f:Stmt->En->Out):List Stmt->En->Out
 |[]=>jq
 |[s]=>f s
 |s::r=>ak (f s) (O4 f r)
def NH(T:GT)(b:Bv):Prop:=∀X C c B (E:XK) a,qy X C T E->ym X c B (ek (kx X) E) a (b C a)
section
variable{T:GT}{ev tv:Ev}{bv:Bv}{X:Cx}{C:SC}{G0 B:Hp}{E:XK}{pos pos':Pos}
def WD(h:jv T ev)(O:lL X C T E)(b:L0 T ev C e=some g):FZ X B (ek (kx X) E) e g:=by
 unfold L0 at b;cases d:k0 C "list" e with
 |some a=>
  rw[d]at b;cases b;obtain⟨p,q,rfl,f,c⟩:=nq O d;exact La O.calm f (O.bl _ (by decide)) (cb h O a) c
 |none=>
  rw[d]at b;dsimp only at b;split at b
  ·rename_i j _
   by_cases c:j.all gc=true
   ·rw[fM c]at b;cases b;exact AU Cj (Hc h O c)
   ·rw[fJ c]at b;cases b
  ·cases b
def VG(O:lL X C T E)(b:Ee T ev C e=some g):∃p a q,e=.Call (.Name "dict" p) [a] [] q/\g=o6 ev C a/\Gl X "dict"/\gc a=true:=by
 unfold Ee at b;cases c:k0 C "dict" e with
 |none=>rw[c]at b;cases b
 |some a=>
  rw[c]at b;cases b;obtain⟨p,q,rfl,f,d⟩:=nq O c;exact⟨p,a,q,rfl,rfl,f,d⟩
def OS(h:jv T ev)(r:Es T tv)(O:qy X C T E):qr X G0 B (ek (kx X) E) (.Assign [.Name x pos'] e pos) (B9 T ev tv C x e):=by
 unfold B9;cases d:pd C x with
 |none=>exact rk
 |some i=>
  dsimp only;have v:qr X G0 B (ek (kx X) E) (.Assign [.Name x pos'] e pos) (match L0 T ev C e with
   |some g=>if qm e then b8 i g else ui
   | none => if qm e then (match Lz ev tv C e with
    |some f=>vw i f
    | none => (match Ee T ev C e with
     |some g=>D5 i g
     |none=>cz i (ev C e)))else ui):=by
   cases ho:L0 T ev C e with
   |none=>
    by_cases j:qm e=true
    ·rw[fM j];cases hf:Lz ev tv C e with
     |none=>
      cases hd:Ee T ev C e with
      |none=>
       have l:=h X C B E e O.tolL;exact YX l (O.st d l (gu j))
      |some g=>
       obtain⟨p,a,q,rfl,rfl,hg,J⟩:=VG O.tolL hd;have l:=II (B:=B) (E:=ek _ E) (p:=p) (pos:=q) hg (O.bl _ (by decide)) (cb h O.tolL a) J;exact LV (O.st d l (gu j))
     |some f=>
      have l:Wo X G0 B _ e f:=bL h r O.tolL hf;exact TJ (O.st d l (gu j))
    ·rw[fJ j];exact rk
   |some g=>
    dsimp only
    by_cases j:qm e=true
    ·rw[fM j];have l:FZ X B _ e g:=WD h O.tolL ho;exact CP l (O.st d l (gu j))
    ·rw[fJ j];exact rk
  cases e with
  |Dict Q A p=>
   cases Q with
   |nil=>
    cases A with
    |nil=>
     by_cases r:C.td.contains x=true
     ·rw[fM r];exact LW (O.st d AM (gu rfl))
     ·rw[fJ r];exact TK (O.st d Lb (gu rfl))
    |cons _ _=>exact rk
   |cons _ _=>exact rk
  |ListComp o gens c y=>
   have z:=Cr (B:=B) (E:=E) (pos:=y) (elt:=o) (gens:=gens) (scope:=c) h r O.tolL;have u:∃b,mG (.ListComp o gens c y) (some (.Name x pos')) pos.line X.env=pure b:=⟨_,rfl⟩;obtain⟨b,u⟩:=u;cases b with
   |false=>exact CP z.1 (O.st d z.1 u)
   |true=>
    show qr X G0 B _ _ (b8 i _);obtain⟨l1,M,L⟩:=Ds d;have Y:X.N[i]?=some x:=by rwa [O.n]
    have hl:L2.Wp X.env.scope x:=by rw[O.s];exact Dg M
    have hN:X.N.Nodup:=by rw[O.n];exact O.nd
    cases MK (elt:=o) (gens:=gens) (scope:=c) h r O.tolL with
    |st e=>rw[e];exact by rintro m s σ H D I ⟨G,U,R,ex,q⟩;exact q.elim
    |ok eg eG st hA hF hE hi d=>
     rw[eG];subst eg;intro m s σ H D I q;obtain⟨cl,O2,Bk⟩:=st I.ok;exact TL O2 O.calm hA Bk hF hE hi hN Y hl (O.fn x L) d u m s σ H D I q
  |_=>exact v
def Qh(d:gc a=true):((lJ b (gQ [a] c)).all (λx=> !x.1) && (qO b (nS [] c)).all (λx=>x.1.isSome)
   && decide (([a]:List Expr).length+([]:List mS).length+(if([]:List mS).isEmpty then 0 else 1)<30))=true:=by
 rw[me (by rw[iF,d];rfl)];rfl
def WO(h:jv T ev)(O:qy X C T E){p ap g:Pos}(f:(ap.endLine==g.line)=true):qr X G0 B (ek (kx X) E) (.Expr (.Call (.Attribute (.Name x p) m ap) d [] g) pos) (Pf ev C x m d):=by
 unfold Pf;split
 ·rename_i i a e
  by_cases c:m="append"
  ·subst c
   by_cases b:gc a=true
   ·rw[fM b];exact CS (O.var e) (h X C B E a O.tolL) rfl (Qh b) f (ah b) rfl rfl
   ·rw[fJ b];exact rk
  ·rw[fJ c]
   by_cases c:m="extend"
   ·subst c
    by_cases b:gc a=true
    ·rw[fM b];exact CQ (O.var e) (cb h O.tolL a) rfl (Qh b) f (ah b) rfl rfl
    ·rw[fJ b];exact rk
   ·rw[fJ c];exact rk
 ·exact rk
def XF(h:jv T ev)(ht:Es T tv)(u:NH T bv)(O:qy X C T E){st:Stmt}:qr X G0 B (ek (kx X) E) st (DX T ev tv bv C st):=by
 have Q:X.A.units+5<jS:=by have:=O.units;lia
 cases st with
 |Return o p=>
  cases o with
  |none=>exact TM
  |some e=>exact YY (h X C B E e O.tolL)
 |Assign γ e p=>
  show qr X G0 B _ _ (match γ with
   |[.Name x _]=>B9 T ev tv C x e
   |[.Subscript (.Name x _) k _]=>_
   |_=>ui)
  split
  ·exact OS h ht O
  ·rename_i x _ k _;cases hs:slot C x with
   |none=>exact rk
   |some i=>
    dsimp only
    by_cases hp:Aq k=true
    ·rw[fM hp]
     by_cases L:C.td.contains x=true
     ·rw[fM L];exact LY Q (O.var hs) (cb h O.tolL k) (h X C B E e O.tolL) Gh
     rw[fJ L];exact TU Q (O.var hs) (cb h O.tolL k) (h X C B E e O.tolL) Gh
    ·rw[fJ hp];exact rk
  ·exact rk
 |Expr e p=>
  show qr X G0 B _ _ (match e with
   |.Constant (.str _) _ _=>CU
   |.Call (.Attribute (.Name x xp) m ap) r J Y=>_
   |e=>if qm e then Gc _ else ui)
  split
  ·exact XC
  ·rename_i x _ m ap r J Y;cases J with
   |nil=>
    by_cases U:(ap.endLine==Y.line)=true
    ·rw[fM U];cases M:mq ev C _ with
     |none=>
      cases n:Dz C x m r with
      |none=>exact WO h O U
      |some q=>
       simp only[Dz,bind,qK]at n;obtain⟨e0,h1,⟨yo,m2,a⟩,h2,y,h5,e,h6,i,I,j,H,n⟩:=n;cases su h1;obtain⟨ζ,ε,rfl,h4⟩:=ky h2;obtain⟨py,rfl⟩:=i6 h5;cases su h6;split at n
       ·rename_i c;simp only[gG,decide_eq_true_eq]at c;obtain⟨⟨rfl,rfl⟩,h3⟩:=c;cases n;exact CT (O.var I) (O.var H) (h X C B E e O.tolL) h3 U h4
       ·cases n
     |some f=>exact LX (C4 h O.tolL M) rfl
    ·rw[fJ U];exact rk
   |cons _ _=>exact rk
  ·by_cases g:qm e=true
   ·rw[fM g];exact TQ (h X C B E e O.tolL) (gu g)
   ·rw[fJ g];exact rk
 |If c a b p=>
  show qr X G0 B _ _ (match Ef ev C c with
   |some f=>Lq f _ _
   |none=>wy _ _ _)
  cases M:Ef ev C c with
  |none=>exact cS (ht X C B E c O.tolL) (u X C G0 B E a O) (u X C G0 B E b O)
  |some f=>exact YZ (VB h O.tolL M) (u X C G0 B E a O) (u X C G0 B E b O)
 |For tg iter d l p=>
  show qr X G0 B _ _ (match l,DO C tg with
   |[],some f=>if ph iter then _ else ui
   |_,_=>ui)
  cases l with
  |cons _ _=>exact rk
  |nil=>
   cases M:DO C tg with
   |none=>exact rk
   |some f=>
    dsimp only
    by_cases g:ph iter=true
    ·rw[fM g];obtain⟨gl,G⟩:=LF O M;have N:=XB (pos:=p) O.pass O.calm (Yn h O.tolL iter) G (u X C G0 B E d O) (oo g);cases n:y9 C tg d with
     |some q=>
      dsimp only;obtain⟨y,x,py,px,ap,Y,lp,ζ,ε,pe,rfl,rfl,I,H,c1,c2,c3,c4⟩:=E7 n;unfold Vr;split
      ·exact NR (eL X) O.pass O.calm Q (Yn h O.tolL iter) (O.tg H) (O.var I) (h X C B E q.k O.tolL) (h X C B E q.v O.tolL) c1 c2 c3 c4 (oo g)
      ·exact NR (eM X) O.pass O.calm Q (Yn h O.tolL iter) (O.tg H) (O.var I) (h X C B E q.k O.tolL) (h X C B E q.v O.tolL) c1 c2 c3 c4 (oo g)
     |none=>
      cases hx:y8 C tg iter d with
      |none=>exact N
      |some q=>
       obtain⟨z,x,y,pz,px,py,ap,Y,pe,rfl,rfl,rfl,I,H,e3,c1,c2⟩:=E6 hx;exact LZ _ (TN O.pass O.calm (O.var I) (O.tg H) (O.var e3) (cb h O.tolL q.e) c1 c2) N
    ·rw[fJ g];exact rk
 |While c d l p=>
  cases l with
  |cons _ _=>exact rk
  |nil=>exact LU O.pass (ht X C B E c O.tolL) (u X C G0 B E d O)
 |_=>exact rk
def DW(h:jv T ev)(a:Es T tv)(b:NH T bv)(O:qy X C T E){st:Stmt}:qr X G0 B (ek (kx X) E) st (NP T ev tv bv C st):=XA _ (XF h a b O)
theorem CN{E:EK}(h:∀st,qr X G0 B E st (f st)):∀{a:List Stmt},ym X G0 B E a (O4 f a)
 |[]=>UZ
 |[s]=>UY (h s)
 |s::t::r=>LJ (h s) (CN h)
end
def P9:Nat:=40
def gB(T:GT):Nat->Bv
 |0=>λ_ _=>ui
 |n+1=>λC a=>O4 (NP T (gP T P9 false) (gP T P9 true) (gB T n) C) a
def YS:ym X c B E b ui:=by rintro a s σ H D I ⟨G,U,R,x,q⟩;exact q.elim
def ME(T:GT):∀n,NH T (gB T n):=by
 intro a;induction a with
 |zero=>exact λX C d B E c O=>YS
 |succ n b=>exact λX C d B E c O=>CN λst=>DW (MC T P9).1 (MC T P9).2 (b) O
structure u6(P:gX)(w:iI)(K:gA)(mg:Str->Option fG)(base:Heap)(T:GT)(k:Nat):Prop where
 fns:∀x s,T.fns x=some s->∃f fd ps,mg x=some (.ref f)/\kA K (.ref f)=true/\Binds K fd ps []/\ll P w K mg base (Wm P w) k f fd ps (uY ⟨K,Wf mg⟩ s.ms s.f)
 qs:∀x y,T.qs x=some y->∃t,mg x=some (.str y t)
 bl:∀x∈rq,mg x=none
 cls:∀c n1 n2,T.cls c=some (n1,n2)->1<=k/\sx P w K mg base c n1 n2
def j2.JF{A:iR}(r:j2 k A):A.units+65<jS:=by have:=r.un;lia
def u6.z8{X:Cx}{C:SC}(t:u6 X.prog X.w X.K X.mg X.base T k)(a:j2 k X.A)(n:X.N=C.N)(s:X.env.scope=C.sc)(j:C.N.Nodup)(calm:X.calm=true)(b:Acc X E)(top:C.C'=false->X.ex=[]/\X.stack=X.env::X.outer/\X.env.frame=some X.env.locals):lL X C T E:=
 ⟨n,s,j,calm,j2.JF a,λx s h=>by
  obtain⟨f,q,g,p,o,m,l⟩:=t.fns x s h;exact⟨k,f,q,g,a,p,o,m,l⟩,t.qs,t.bl,b,top,λc e d h=>⟨a.mono (t.cls c e d h).1,(t.cls c e d h).2⟩⟩
structure fc where
 x:Str
 st:Stmt
 ms:List Bool
 lm:Bool
def Bw(st:Stmt):List Str:=(f9 st).args.map (·.arg)
noncomputable def Dr(a:List Str):List (Str×mQ)->List Str
 |[]=>[]
 |(n,k)::r=>if(k=.local\/k=.cell)/\n∉a then n::Dr a r else Dr a r
def UD(st:Stmt):List Str:=Bw st++Dr (Bw st) (a9 st).names
def bN(st:Stmt)(a:Bool):SC:=⟨UD st,a9 st,Po 20 (dh st),a,false⟩
noncomputable def Dw(d:fc):Bool:=
 decide ((a9 d.st).kind=.function) && decide ((a9 d.st).isCoroutine=false) && decide ((a9 d.st).isGenerator=false) && decide ((UD d.st).Nodup) && decide ((UD d.st).take (Bw d.st).length=Bw d.st) &&
 ((Bw d.st).all λx=>decide ((a9 d.st).names.lookup x=some .local)||decide ((a9 d.st).names.lookup x=some .cell)) && ((a9 d.st).names.all λy=>decide (y.2≠.free)) && decide (d.ms.length=(Bw d.st).length)
def vn{d:fc}(h:Dw d=true):n4 (UD d.st) (Bw d.st) (a9 d.st)/\d.ms.length=(Bw d.st).length:=by
 unfold Dw at h;simp only[gG,decide_eq_true_eq]at h;obtain⟨⟨⟨⟨⟨⟨⟨n,m⟩,l⟩,j⟩,g⟩,f⟩,e⟩,c⟩:=h;refine⟨⟨n,m,l,j,g,λx b=>?_,λy a=>?_⟩,c⟩
 ·have q:=List.all_eq_true.mp f x b;rw[qA,decide_eq_true_eq,decide_eq_true_eq]at q;exact q
 ·exact of_decide_eq_true (List.all_eq_true.mp e y a)
def Gp(st:Stmt)(x:Str):Prop:=∀(kV b d:fG)(e:Option Addr)(c ct:fG)(a:List fG),a.length=(Bw st).length->bindArgs (jO x x (f9 st) (dh st) (a9 st) .none kV b d e c ct) ⟨a,[]⟩=pure ((Bw st).zip a)
structure vL(K:gA)(mg:Str->Option fG)(d:fc):Prop where
 ok:Dw d=true
 bd:Gp d.st d.x
 at_:∃f fd,mg d.x=some (.ref f)/\xU K d.x d.x d.st f fd
def OC{K:gA}{h:Heap}{j:Str->Option fG}{d:fc}(X:K.In h)(G:h.Ns kF j)(ok:Dw d=true)(o:Gp d.st d.x){f:Addr}{n kV g m b ct:fG}{od p:Option Addr}{e:Array (Option fG)}
  (a:pN K kF d.x=some (some (.ref f)))(l:K.lookup f=some ⟨n,od,.func (jO d.x d.x (f9 d.st) (dh d.st) (a9 d.st) .none kV g m p b ct),e⟩)(c:lO K b d.x=true)(k:kA K (.ref f)=true):vL K j d:=
 ⟨ok,o,f,_,tO X G a,X9 l c k⟩
def look(a:List fc)(x:Str):Option fc:=match a with
 |[]=>none
 |d::r=>if d.x=x then some d else look r x
def Y8{d:fc}:∀{c:List fc},look c x=some d->d∈c/\d.x=x:=by
 intro a;induction a with
 |nil=>rintro h;cases h
 |cons e r b=>
  rintro h
  unfold look at h
  by_cases z:e.x=x
  ·rw[fM z]at h;cases h;exact⟨fN,z⟩
  ·rw[fJ z]at h;obtain⟨g,f⟩:=b h;exact⟨fH _ g,f⟩
def W4:Nat:=20
def ab(T:GT)(d:fc):List D->Res:=bK d.ms (UD d.st).length (gB T W4 (bN d.st d.lm) (dh d.st))
noncomputable def Be(a:List fc)(gs:Str->Option Str)(xs:XT):Nat->GT
 |0=>⟨λ_=>none,gs,xs,λ_=>none⟩
 |n+1=>⟨λx=>match look a x with
  |some d=>some ⟨d.ms,ab (Be a gs xs n) d⟩
  |none=>none,gs,xs,xs.cls⟩
structure xS(K:gA)(mg:Str->Option fG)(xs:XT):Prop where
 cls:∀c n1 n2,xs.cls c=some (n1,n2)->∀P w base,sx P w K mg base c n1 n2
section
variable{P:gX}{w:iI}{K:gA}{mg:Str->Option fG}{base:Heap}{ds:List fc}{gs:Str->Option Str}{xs:XT}
def DS{d:fc}(n:Nat)(h:look ds x=some d):(Be ds gs xs (n+1)).fns x=some ⟨d.ms,ab (Be ds gs xs n) d⟩:=by
 show(match look ds x with
  |some d=>some _
  |none=>none)=_
 rw[h]
def Bm(mg:Str->Option fG)(base:Heap):Prop:=∃a o,mg "__builtins__"=some (.ref a)/\a≠sQ/\a≠kF/\base.get? a=some o/\o.cls=.type "module"/\o.dict=some sQ/\o.data=.plain
theorem yw{lo:Nat}:∀(b:List (Str×mQ))(n:Nat)(a:List (Str×Addr)),lo<=n->(∀p∈a,lo<=p.2)->∀p∈pJ n b a,lo<=p.2
 |[],_,a,_,h,p,c=>h p c
 |_::r,n,a,e,h,p,c=>by
  unfold pJ at c;split at c
  ·refine yw r _ _ (Nat.le_succ_of_le e) (λq d=>?_) p c;rcases List.mem_cons.mp d with rfl|d
   ·exact e
   ·exact h q d
  ·exact yw r n _ e h p c
def UT(M:K.In base)(O:Bm mg base)(B:∀d∈ds,vL K mg d)(m:∀x y,gs x=some y->∃t,mg x=some (.str y t))(o:∀x∈rq,mg x=none)(C:xS K mg xs):∀n,u6 P w K mg base (Be ds gs xs n) n:=by
 intro a;induction a with
 |zero=>exact⟨λx s h=>(by cases h),m,o,λc l j h=>(by cases h)⟩
 |succ n g=>
  refine⟨λx s h=>?_,m,o,λc l j h=>⟨Nat.le_add_left 1 n,C.cls c l j h P w base⟩⟩;unfold Be at h;dsimp only at h;cases e:look ds x with
  |none=>rw[e]at h;cases h
  |some d=>
   rw[e]at h;cases h;obtain⟨r,q⟩:=Y8 e;subst q;obtain⟨ok,J,f,G,p,F⟩:=B d r;obtain⟨S,z⟩:=vn ok;refine⟨f,G,Bw d.st,p,F.kp,F.binds J,X7 F S z λI A b s H L E N v=>?_⟩;exact ME _ _ _ _ L H E _ ⟨u6.z8 g v rfl rfl S.nd rfl I9 (λ_=>⟨rfl,rfl,rfl⟩),λy u=>decide_eq_true u,PassesOwn.leaving,rfl,rfl,rfl⟩
def Rt(K:gA):Sp:=λc H Q _=>wM H/\∃(a:Addr) (b:List Int),c=[.ref a]/\i' K H a (b.map V.int)/\b.length<=63/\∀d,Q (.bl true) d
def Tc{K:KA}{G:Hp}:∀a:List Int,dg K G (a.map D.int) (a.map V.int):=by
 intro b;induction b with
 |nil=>exact rfl
 |cons n a c=>exact⟨.int n,a.map V.int,rfl,rfl,c⟩
def QM{d:fc}{f:Addr}{I kV j z b ct:fG}{od C:Option Addr}{p:Array (Option fG)}(ok:Dw d=true)(nl:d.lm=false)
  (a:pN K kF d.x=some (some (.ref f)))(l:K.lookup f=some ⟨I,od,.func (jO d.x d.x (f9 d.st) (dh d.st) (a9 d.st) .none kV j z C b ct),p⟩)(c:lO K b d.x=true)(k:kA K (.ref f)=true)
  (J:K.In base) (bm:Bm mg base) (Y:∀d∈ds,vL K mg d) (N:∀x y,gs x=some y->∃t,mg x=some (.str y t)) (hb:∀x∈rq,mg x=none) (hX:xS K mg xs) {n:Nat} {s:FS} (h:(Be ds gs xs n).fns "law"=some s) (m:s.ms=[false])
  (r:∀g:List Int,g.length<=63->s.f [.lst (g.map D.int)]=.ok (.bl true)) (M:look ds "law"=some d:=by rfl) (T:Bw d.st=[("_law_script":Str)]:=by rfl):
  ll P w K mg base Wk n f (jO d.x d.x (f9 d.st) (dh d.st) (a9 d.st) .none kV j z C b ct) ["_law_script"] (Rt K):=by
 cases n with
 |zero=>cases h
 |succ n=>
  unfold Be at h;dsimp only at h;rw[M]at h;cases h;obtain⟨S,u⟩:=vn ok;have F:=X7 (P:=P) (w:=w) (base:=base) (mg:=mg) (k:=n) (ms:=d.ms) (Fb:=gB _ W4 _ _) (X9 l c k) S u λB A o s H G0 E hc O=>by
   exact ME _ _ _ (bN d.st d.lm) G0 H E _ ⟨u6.z8 (UT J bm Y N hb hX n) O rfl rfl S.nd rfl I9 (λ_=>⟨rfl,rfl,rfl⟩),λy L=>decide_eq_true L,PassesOwn.leaving,rfl,rfl,rfl⟩
  rw[T]at F;refine F.calm.imp λvs H Q E ⟨gb,a,g,e,G,U,q⟩=>?_;subst e;have m:d.ms=[false]:=m;have e:ab _ d [.lst _]=.ok _:=r g U;show uY _ d.ms (ab _ d) _ H Q E0;refine⟨by rw[m];rfl,gb,H,[.lst _],c7.refl H,by rw[m];exact⟨_,[],_,[],rfl,rfl,⟨a,_,rfl,G,Tc g⟩,rfl,rfl⟩,?_⟩;rw[e];intro v G' H' _ dn;rw[dn];exact q H'
end
def Ei(b:Addr):Option HO:=(DQ.find? λp=>p.2.1==b).map λp=>.vQ p.2.2
def Pm(h:Ei b=some o):∃p∈DQ,p.2.1=b/\o=.vQ p.2.2:=by
 unfold Ei at h;cases e:DQ.find? λp=>p.2.1==b with
 |none=>cases h
 |some p=>
  rw[e]at h;cases h;exact⟨p,List.mem_of_find?_eq_some e,by simpa using List.find?_some e,rfl⟩
def GK{f:α->Addr}:∀{l:List α}{p:α},(l.map f).Nodup->p∈l->l.find? (λq=>f q==f p)=some p:=by
 intro b;induction b with
 |nil=>rintro _ _ h;simp at h
 |cons a r d=>
  rintro p c h
  rw[fL,List.nodup_cons]at c;rw[nP]
  by_cases e:f a=f p
  ·have g:(f a==f p)=true:=by simpa using e
   rw[g];rcases List.mem_cons.mp h with rfl|h
   ·rfl
   ·exact absurd (e▸List.mem_map_of_mem h) c.1
  ·have g:(f a==f p)=false:=by simpa using e
   rw[g];rcases List.mem_cons.mp h with rfl|h
   ·exact absurd rfl e
   ·exact d c.2 h
def Vz(a:(DQ.map (·.2.1)).Nodup){p:Addr×Addr×Str}(b:p∈DQ):Ei p.2.1=some (.vQ p.2.2):=by
 unfold Ei;rw[GK a b];rfl
def Wq(h:Heap):Prop:=∀p∈DQ,PySem.W.CodeHd h p.1 p.2.1/\h.get? p.2.1=some (PySem.W.tabObj #[])
def Um{P:gX}{w:iI}{K:gA}{L mb:Str->Option fG}{k:Nat}{fa a:Addr}{fd:oZ}{x:Str}{c:fP}{B:List fG}{J:List Int}
  (KX:K.In c.1)(nK:PySem.W.noTabs K=true)(nd:(DQ.map (·.2.1)).Nodup)(N:Wq c.1)(bm:Bm L c.1)(Q:c.1.Ns kF L)(U:c.1.Ns sQ mb)(η:∀x:Str,x≠"__name__"->mb x=lZ x)(T:c.1.NoLimit)(hg:c.gens=#[])
  (Y:c.1.get? a=some {cls:=.type "list",data:=.seq B.toArray}) (hi:IntsAre B J) (hl:J.length<=fR) (ε:J.length<=63) (hr:j2 k callerA)
  (F:∀base:Heap,K.In base->base.Ns kF L->Bm L base->ll P w K L base Wk k fa fd [x] (Rt K)) (G:∀(s:fP)(u:fG),BindsTo s fd ⟨[u],[]⟩ [(x,u)]):
  nR (gR P w) callerA (.call (.ref fa) ⟨[.ref a],[]⟩) (λr l=>r=.ok (.ret (.bool true))/\OldK c.1 l.1/\l.os=c.os/\sX l.gens) c:=by
 have rv:=Gm hi;have E:∀S:Option HO,(S=none\/S=some (.nk {cls:=.type "list",data:=.seq B.toArray} (.lst (J.map V.int))))->(S≠none->K.lookup a=none)->i' K (λb=>if b=a then S else Ei b) a (J.map V.int)->
   nR (gR P w) callerA (.call (.ref fa) ⟨[.ref a],[]⟩) (λr l=>r=.ok (.ret (.bool true))/\OldK c.1 l.1/\l.os=c.os/\sX l.gens) c:=by
  intro S hS θ sq;generalize hH:(λb=>if b=a then S else Ei b)=H at sq;have Ha:H a=S:=by rw[<-hH];exact fM rfl
  have Hb:∀b,b≠a->H b=Ei b:=λb U=>by rw[<-hH];exact fJ U
  have g:∀{b:Addr}{u:HO},H b=some u->(b=a/\u=.nk {cls:=.type "list",data:=.seq B.toArray} _/\K.lookup a=none)\/∃p∈DQ,p.2.1=b/\u=.vQ p.2.2:=λ{b u} e=>by
   by_cases z:b=a
   ·rw[z,Ha]at e;obtain y|y:=hS
    ·rw[y]at e;cases e
    ·rw[y]at e;cases e;exact .inl ⟨z,rfl,θ (by rw[y];simp)⟩
   ·rw[Hb b z]at e;exact .inr (Pm e)
  have O:n0 P w H c.1:=λb u e=>by
   rcases g e with ⟨rfl,rfl,_⟩|⟨p,j,rfl,rfl⟩
   ·exact⟨Y,by rwa [fF],B,_,rv,Y⟩
   ·exact⟨#[],(N p j).2⟩
  have f:∀{b:Addr}{o:Obj},c.1.get? b=some o->H b=none->(Np c.1 H).get? b=some o:=λe n=>Yi e n;have free:∀{b:Addr}{o:Obj},c.1.get? b=some o->(∀n,o.data≠.seq B.toArray n)->o≠PySem.W.tabObj #[]->H b=none:=λ{b o} e h1 h2=>by
   cases q:H b with
   |none=>rfl
   |some u=>
    rcases g q with ⟨rfl,_⟩|⟨p,j,rfl,_⟩
    ·rw[Y]at e;cases e;exact absurd rfl (h1 _)
    ·rw[(N p j).2]at e;cases e;exact absurd rfl h2
  have A:∀{b:Addr}{m:Str->Option fG},c.1.Ns b m->(Np c.1 H).Ns b m:=λ{b m} ⟨o,es,ep,e,d,r⟩=>⟨o,es,ep,f e (free e (λn z=>by rw[d]at z;cases z) λz=>by rw[z]at d;cases d),d,r⟩;have α:K.In _:=λb o e=>f (KX b o e) (by
   cases q:H b with
   |none=>rfl
   |some u=>
    rcases g q with ⟨rfl,_,z⟩|⟨p,j,rfl,_⟩
    ·rw[z]at e;cases e
    ·have M:=KX _ _ e;rw[(N p j).2]at M;have h2:=List.all_eq_true.mp nK _ (PySem.W.mem_of_lookupK e);cases M;exact absurd (h2) Bool.false_ne_true)
  have μ:Bm L (Np c.1 H):=by
   obtain⟨m,o,b1,b2,b3,b4,b5,b6,b7⟩:=bm;exact⟨m,o,b1,b2,b3,f b4 (free b4 (λn z=>by rw[b7]at z;cases z) λz=>by rw[z]at b5;cases b5),b5,b6,b7⟩
  have gb:wM H:=λp j=>by
   have:p.2.1≠a:=λz=>by
    have:=(N p j).2;rw[z,Y]at this;cases this
   rw[Hb _ this];exact Vz nd j
  refine oK ((F _ α (A Q) μ).run callerA [] c H ⟨[.ref a],[]⟩ [.ref a] [.ref a] (λv _=>v=.bl true) E0 hr (⟨rfl,(⟨α,A Q,⟨mb,A U,η⟩,let ⟨mc,h1,h2⟩:=T;⟨mc,A h1,h2⟩⟩),λb o e=>IF e,oJ (T1 _ _),trivial,λb U=>absurd (show b∈([]:List Addr)from U) (by simp),O,.of_eq hg⟩) (G c _) (.cons rfl .nil) ⟨gb,a,J,rfl,sq,ε,λ_=>rfl⟩) λr l h=>?_;cases r with
  |error e=>exact kH h
  |ok fl=>
   cases fl with
   |next=>exact kH h
   |brk=>exact kH h
   |cont=>exact kH h
   |ret u=>
    obtain⟨v,H',os,γ,un,C,r',q⟩:=h;subst q;obtain rfl:u=sP true:=r';have keep:∀b o,c.1.get? b=some o->_\/∃p∈DQ,p.2.1=b/\∃I,l.1.get? b=some (PySem.W.tabObj I):=λb o e=>by
     cases q:H b with
     |none=>exact .inl (un.keep b o e q (by intro z;exact absurd (show b∈([]:List Addr)from z) (by simp)) (by simp))
     |some u=>
      rcases g q with ⟨rfl,rfl,_⟩|⟨p,j,rfl,rfl⟩
      ·obtain⟨e1,_⟩:=O b _ q;obtain⟨M,_⟩:=C b _ (un.mu b _ _ q);rw[e]at e1;cases e1;exact .inl M
      ·obtain⟨I,M⟩:=C _ _ (un.qh _ _ q);exact .inr ⟨p,j,rfl,I,M⟩
    refine⟨rfl,⟨λb o e=>?_,λb o e=>?_⟩,os,γ⟩
    ·rcases keep b o e with z|⟨p,j,rfl,I,z⟩
     ·exact .inl z
     ·obtain⟨c1,c2⟩:=N p j;rw[c2]at e;cases e;exact .inr (.inl ⟨(c1.tab c2).isCodeTable,rfl,#[],I,rfl,by rwa [Array.empty_append]⟩)
    ·rcases keep b o e with z|⟨p,j,rfl,I,z⟩
     ·exact⟨_,z⟩
     ·exact⟨_,z⟩
 cases hk:K.lookup a with
 |some o=>
  have e:=KX a o hk;rw[Y]at e;cases e;exact E none (.inl rfl) (λz=>absurd rfl z) (.inr ⟨_,B.toArray,_,hk,rfl,rfl,rfl,by rwa [hW,hi.length],by simpa using rv⟩)
 |none=>exact E _ (.inr rfl) (λ_=>hk) (.inl (.inr ⟨{cls:=.type "list",data:=.seq B.toArray},fM rfl⟩))
def ZO{l:PySem.W.OpenLaw}{d:DefRec}{K:Params->gA}(hn:l.most=some 63)(x:d.params.defaults=[])(hr:j2 k callerA)(Q:(DQ.map (·.2.1)).Nodup)
  (hY:∀(w:iI)(h:Heap),L w h->(K w.params).In h)(U:∀w:iI,PySem.W.noTabs (K w.params)=true)
  (N:∀(w:iI)(h:Heap),L w h->Wq h)
  (F:∀(w:iI)(j:Str->Option fG)(p:Addr)(h:Heap),(K w.params).In h->h.Ns kF j->j d.name=some (.ref p)->
   ∃y:oZ,(∀(s:fP)(u:fG),BindsTo s y ⟨[u],[]⟩ [("_law_script",u)])/\∀base:Heap,(K w.params).In base->base.Ns kF j->Bm j base->ll l.prog w (K w.params) j base Wk k p y ["_law_script"] (Rt (K w.params))):
  PySem.W.WalkO q r XP L l.row.toRowW d [] (λf C=>PySem.call f C):=by
 refine Att.Je hn x λw H E j mb p o pm cd θ a C ns G Y ho I δ v n m c hg=>?_;have M:=hY w _ Y;obtain⟨y,hb,hF⟩:=F w j p _ M G.T.g v;obtain⟨J,O,b1,b2,B,b4,b5,A⟩:=G.T.bmain;have bG:J≠kF:=λz=>by
  obtain⟨o,es,ep,e,I,_⟩:=G.T.g;rw[z,e]at B;cases B;rw[I]at A;cases A
 exact Um M (U w) Q (N w _ Y) ⟨J,O,b1,b2,bG,B,b4,b5,A⟩ G.T.g G.T.b G.T.builtins G.T.nolimit hg n m (iU c (by decide)) c hr hF hb
end Pu
namespace LK
open PySem PySem.Spec PyProof.Rows L2 Pu
def top(i:Nat):Stmt:=PySem.Challenge.pw_askbook_k03_answers.main.body.getD i (.Pass ⟨0,0,0,0⟩)
def yx:fc:=⟨"put_in",top 1,[true,true],false⟩
def lg:fc:=⟨"put_further",top 2,[true,true,true],false⟩
def lx:fc:=⟨"is_number",top 9,[true],false⟩
def kl:fc:=⟨"is_word",top 10,[true],false⟩
def q8:fc:=⟨"is_term",top 11,[true],false⟩
def f6:fc:=⟨"is_tuple_of",top 12,[true,true,true,true],false⟩
def jr:fc:=⟨"is_pair",top 13,[true],false⟩
def qz:fc:=⟨"is_fact",top 14,[true],false⟩
def wc:fc:=⟨"is_atom",top 15,[true],false⟩
def my:fc:=⟨"are_rising",top 16,[true],false⟩
def cw:fc:=⟨"are_of_one_length",top 17,[true],false⟩
def fk:fc:=⟨"stand_ins",top 18,[true],false⟩
def r9:fc:=⟨"terms_of",top 19,[true],false⟩
def jy:fc:=⟨"are_standing",top 20,[true,true],false⟩
def iu:fc:=⟨"checked_book",top 21,[true],false⟩
def gf:fc:=⟨"checked_asking",top 22,[false],false⟩
def gz:fc:=⟨"facts_by_name",top 25,[true],false⟩
def o9:fc:=⟨"atom_fits",top 26,[true,true],false⟩
def ly:fc:=⟨"picked",top 27,[true,true],false⟩
def iz:fc:=⟨"places_of",top 28,[true,true],false⟩
def i9:fc:=⟨"shared_columns",top 29,[true,true],false⟩
def ko:fc:=⟨"narrowed",top 30,[false,true],false⟩
def ip:fc:=⟨"rows_by_columns",top 31,[true,true],false⟩
def nu:fc:=⟨"joined",top 32,[false,false,true],false⟩
def mx:fc:=⟨"all_joined",top 33,[true,true],false⟩
def dj:fc:=⟨"joining_cost",top 34,[true,true],false⟩
def h9:fc:=⟨"joining_order",top 35,[true,true],false⟩
def g9:fc:=⟨"joined_freely",top 36,[true,true],false⟩
def lu:fc:=⟨"head_rows",top 37,[true,false],false⟩
def nc:fc:=⟨"answers",top 39,[false,true],false⟩
def k9:fc:=⟨"_law_cell_at",top 41,[true,true],false⟩
def a8:fc:=⟨"_law_mixed",top 42,[true,true,true],false⟩
def n6:fc:=⟨"_law_term",top 43,[true,true],false⟩
def nv:fc:=⟨"_law_atom",top 44,[true,true],false⟩
def jz:fc:=⟨"_law_asking",top 45,[true,true,true],false⟩
def ny:fc:=⟨"_law_book",top 46,[true,true,true],false⟩
def ib:fc:=⟨"_law_stand_ins",top 47,[true],false⟩
def km:fc:=⟨"_law_put",top 50,[true,true],false⟩
def mz:fc:=⟨"_law_longer",top 51,[true,true],false⟩
def ju:fc:=⟨"_law_tries",top 52,[true,true],false⟩
def ux:fc:=⟨"law",top 53,[false],false⟩
def Hf:List fc:=[yx,lg,lx,kl,q8,f6,jr,qz,wc,my,cw,fk,r9,jy,iu,gf,gz,o9,ly,iz,i9,ko,ip,nu,mx,dj,h9,g9,lu,nc,k9,a8,n6,nv,jz,ny,ib,km,mz,ju,ux]
def xs:XT:=⟨λc=>if c="Fits" then some ("columns","rows")else none⟩
def gs(x:Str):Option Str:=if x="LETTERS" then some "abcdefghijklmnopqrstuvwxyz" else none
def QI:Dw ux=true:=by decide+kernel
def Nr:Stmt:=match top 24 with
 |.ClassDef _ _ _ (st::_) _ _ _ _ _ _ _=>st
 |st=>st
def tab(n:Nat):GT:=Be Hf gs xs n
end LK
namespace Pu
open PySem PySem.Spec PyProof.Rows L2
def cj{d:fc}(h:gB T W4 (bN d.st d.lm) (dh d.st)=F)(c:(UD d.st).length=k)(e:d.ms=b)(a:List D):ab T d a=de (F (bg b a++gJ (k - a.length) .no)):=by
 unfold ab bK;rw[h,c,e]
def c6(h:r U=.ok ds):di tg r F U=turns tg F ds U:=by
 unfold di;rw[h]
def bc(h:tg d U=some δ1):turns tg F (d::r) U=(match F δ1 with
  |.nx a=>turns tg F r a
  |.ct a=>turns tg F r a
  |.bk a=>.nx a
  |.rt d=>.rt d
  |.er c=>.er c
  |.st=>.st):=by
 show(match tg d U with
  |none=>Out.st
  |some δ1=>match F δ1 with
   |.nx a=>turns tg F r a
   |.ct a=>turns tg F r a
   |.bk a=>.nx a
   |.rt d=>.rt d
   |.er c=>.er c
   |.st=>.st)=_
 rw[h]
def S7:∀{c:List D},(∀d∈c,f d=some (g d))->ub f c=some (c.filterMap g):=by
 intro a;induction a with
 |nil=>rintro _;exact rfl
 |cons d r b=>
  rintro h
  unfold ub;rw[h d fN];rw[b λd e=>h d (fH _ e),mP];cases g d<;>rfl
def J8{a:List D}(b:r U=.ok a)(c:a.length<=fR)(e:∀d∈a,Bg ix t g U d=some (h d)):a7 r ix t g U=.ok (.lst (a.filterMap h)):=by
 unfold a7;rw[b];dsimp only;rw[fM c,S7 e]
def DE(h:g (cf a U (.pu d))=.ok y):Bg a (gC (.bl true)) g U d=some (some y):=by
 unfold Bg gC;rw[h]
def MY(c:t (cf a U (.pu d))=.ok (.bl b))(h:b=true->g (cf a U (.pu d))=.ok y):Bg a t g U d=some (if b then some y else none):=by
 unfold Bg;rw[c];cases b with
 |true=>rw[h rfl];rfl
 |false=>rfl
section
variable(U:En)(d e:D)(i j:Nat)(g h k c:En->Res)(F F':En->Out)(r:En->e9)(f:D->Option D)(f2 f3:D->D->Option D)
@[simp] theorem L8(a:List Bool):bg a []=[]:=by cases a<;>rfl
@[simp] theorem V9(a:List Bool)(b:List D):bg (true::a) (d::b)=.bo d::bg a b:=rfl
@[simp] theorem VY(a:List Bool)(b:List D):bg (false::a) (d::b)=.pu d::bg a b:=rfl
@[simp] theorem j6:ak F F' U=match F U with
 |.nx a=>F' a
 |o=>o:=rfl
@[simp] theorem eV:jq U=.nx U:=rfl
@[simp] theorem fT:ui U=.st:=rfl
@[simp] theorem EX:cm g U=(g U).then .rt:=rfl
@[simp] theorem ZX:wy c F F' U=(c U).then λd=>match d with
 |.bl true=>F U
 |.bl false=>F' U
 |_=>.st:=rfl
@[simp] theorem ZS:cz i g U=(g U).then λd=>.nx (U.set i (.pu d)):=rfl
@[simp] theorem EW:b8 i g U=(g U).then λd=>match d with
 |.lst a=>.nx (U.set i (.ow a))
 |_=>.st:=rfl
@[simp] theorem cB:xq i U=.nx (U.set i (.od false [])):=rfl
@[simp] theorem aD:D5 i g U=(g U).then λd=>match d with
 |.hZ false a=>.nx (U.set i (.od false a))
 |_=>.st:=rfl
@[simp] theorem ro(f:D->Out):(Res.ok d).then f=f d:=rfl
@[simp] theorem Aw(f:D->Res):(Res.ok d).bind f=f d:=rfl
@[simp] theorem Ax:Res.of (some d)=.ok d:=rfl
@[simp] theorem ZT:de (.rt d)=.ok d:=rfl
@[simp] theorem eP:bp i U=match U[i]? with
 |some (.pu d)=>.ok d
 |_=>.st:=rfl
@[simp] theorem YD:aa i U=match U[i]? with
 |some (.pu d)=>.ok d
 |some (.bo d)=>.ok d
 |some (.ow b)=>.ok (.lst b)
 |some (.od t a)=>.ok (.hZ t a)
 |_=>.st:=rfl
@[simp] theorem eA:wz i U=match U[i]? with
 |some (.pu d)=>.ok d
 |some (.bo d)=>.ok d
 |_=>.st:=rfl
@[simp] theorem fZ:gC d U=.ok d:=rfl
@[simp] theorem ZZ:g1 f g U=(g U).bind λx=>Res.of (f x):=rfl
@[simp] theorem ZY:g2 f2 g h U=(g U).bind λx=>(h U).bind λy=>Res.of (f2 x y):=rfl
@[simp] theorem eY:MD c g h U=(c U).bind λd=>match d with
 |.bl true=>g U
 |.bl false=>h U
 |_=>.st:=rfl
@[simp] theorem eU:vc c U=(c U).bind λd=>match d with
 |.bl b=>.ok (.bl !b)
 |_=>.st:=rfl
@[simp] theorem dB:q9 g h U=(g U).bind λd=>match d with
 |.bl true=>h U
 |.bl false=>.ok (.bl false)
 |_=>.st:=rfl
@[simp] theorem fU:GG g h U=(g U).bind λd=>match d with
 |.bl true=>.ok (.bl true)
 |.bl false=>h U
 |_=>.st:=rfl
@[simp] theorem eR:jw g U=(g U).bind λx=>Res.of (bD (L7 x)):=rfl
@[simp] theorem ZR(b:Bool):bD (L7 (.bl b))=some (.bl b):=rfl
@[simp] theorem aP:x6 f2 f3 g h k U=(g U).bind λx=>(h U).bind λy=>(Res.of (f2 x y)).bind λz=>match z with
 |.bl true=>(k U).bind λw=>Res.of (f3 y w)
 |.bl false=>.ok (.bl false)
 |_=>.st:=rfl
@[simp] theorem EZ:Pu.au g r U=match g U with
 | .ok d => (match r U with
  |.ok a=>.ok (d::a)
  |.er c=>.er c
  |.st=>.st)
 |.er c=>.er c
 |.st=>.st:=rfl
@[simp] theorem UN:ae U=.ok []:=rfl
@[simp] theorem UO(fn:List D->Res):af fn r U=match r U with
 |.ok a=>fn a
 |.er c=>.er c
 |.st=>.st:=rfl
@[simp] theorem ZU:cq r U=match r U with
 |.ok a=>if a.length<=16777216 then .ok (.lst a)else .st
 |.er c=>.er c
 |.st=>.st:=rfl
@[simp] theorem eQ:Pu.js r U=match r U with
 |.ok a=>if a.length<=16777216 then .ok (.tup a)else .st
 |.er c=>.er c
 |.st=>.st:=rfl
@[simp] theorem cA:aj g U=match g U with
 | .ok d => (match Gn d with
  |some a=>.ok a
  |none=>.st)
 |.er c=>.er c
 |.st=>.st:=rfl
@[simp] theorem ZQ(a:List D):Gn (.lst a)=some a:=rfl
@[simp] theorem ZP(a:List D):Gn (.tup a)=some a:=rfl
@[simp] theorem Em:fz [] F U=F U:=rfl
@[simp] theorem YA(is:List Nat):fz (i::is) F U=fz is F (nk i U):=rfl
@[simp] theorem YB:nk i U=match U[i]? with
 |some (.ow b)=>U.set i (.pu (.lst b))
 |some (.od t a)=>U.set i (.pu (.hZ t a))
 |_=>U:=rfl
@[simp] theorem YE:rj i g U=match U[i]? with
 |some (.ow a)=>(g U).then λd=>if a.length<16777216 then .nx (U.set i (.ow (a++[d])))else .st
 |_=>.st:=rfl
@[simp] theorem YC:qq i g U=match U[i]? with
 |some (.ow b)=>(g U).then λd=>match sk d with
  |some a=>if b.length+a.length<=16777216 then .nx (U.set i (.ow (b++a)))else .st
  |none=>.st
 |_=>.st:=rfl
@[simp] theorem Wa(a:List D):sk (.lst a)=some a:=rfl
@[simp] theorem VX(a:List D):sk (.tup a)=some a:=rfl
@[simp] theorem aF(a:List D):cy (.lst a)=some (.int a.length):=rfl
@[simp] theorem aE(a:List D):cy (.tup a)=some (.int a.length):=rfl
@[simp] theorem aO(d:D)(xs:List D):ot d (.lst xs)=Vn d (.lst xs):=rfl
@[simp] theorem UM(d:D)(xs:List D):bw d (.lst xs)=lj d (.lst xs):=rfl
@[simp] theorem fV(a b:Int):zp (.int a) (.int b)=some (.bl (decide (a<b))):=rfl
@[simp] theorem fW(a b:Int):Vo (.int a) (.int b)=some (.bl (decide (a<=b))):=rfl
@[simp] theorem fX(a b:Int):BE (.int a) (.int b)=some (.bl (decide (b<a))):=rfl
@[simp] theorem dA(a b:Int):jn (.int a) (.int b)=some (.bl (a==b)):=rfl
@[simp] theorem eW(a b:Int):zq (.int a) (.int b)=some (.bl (!(a==b))):=rfl
@[simp] theorem YF(a b:Int):a6 (.int a) (.int b)=some (.int (a+b)):=rfl
@[simp] theorem eS(a b:Int):zr (.int a) (.int b)=some (.int (a - b)):=rfl
@[simp] theorem ZW:ma d .g8=some (.bl (!F0 d)):=rfl
@[simp] theorem Wb(a:List D):jj (.lst a)=some (.tup a):=rfl
@[simp] theorem fY:gM f2 g h U=(g U).bind λx=>match x with
 |.lst xs=>(h U).bind λy=>Res.of (f2 (.lst xs) y)
 |_=>.st:=rfl
@[simp] theorem aJ(x:Str):fb "str" (.str x)=some (.bl true):=by kernel_rfl
@[simp] theorem aK(x:Int):fb "str" (.int x)=some (.bl false):=by kernel_rfl
@[simp] theorem aM(x:Int):fb "int" (.int x)=some (.bl true):=by kernel_rfl
@[simp] theorem aN(x:Int):fb "bool" (.int x)=some (.bl false):=by kernel_rfl
@[simp] theorem aI(x:List D):fb "tuple" (.tup x)=some (.bl true):=by kernel_rfl
@[simp] theorem aL(x:List D):fb "list" (.lst x)=some (.bl true):=by kernel_rfl
@[simp] theorem aH(a b:D):ao (.tup [a,b]) (.int 0)=some a:=rfl
@[simp] theorem aG(a b:D):ao (.tup [a,b]) (.int 1)=some b:=rfl
inductive zj(d:D):Prop
 |mk (p) (_:bz d=some p) (_:jC p=true) (_:p.depth<=8):zj d
def LN(h:gH x=true):zj (.str x):=⟨.str x,rfl,h,iO _⟩
inductive wK(ds:List D):Prop
 |mk (ps) (_:b9 ds=some ps) (_:gE ps=true) (_:iC ps<=8):wK ds
def YV:∀{m:List D},(∀d∈m,zj d)->wK m:=by
 intro a;induction a with
 |nil=>rintro _;exact⟨[],rfl,rfl,iO _⟩
 |cons d r b=>
  rintro h
  obtain⟨p,v,u,q⟩:=h d fN;obtain⟨l,o,f2,f3⟩:=b λd n=>h d (fH _ n);refine⟨p::l,by unfold b9;rw[v,o],?_,Nat.max_le.mpr ⟨q,f3⟩⟩;show(jC p && gE l)=true;rw[u,f2];rfl
def tm{p:mT}(a:jC p=true)(b:p.depth<=63):iB p=true:=by
 unfold iB;rw[a,decide_eq_true (by lia)];rfl
def C3{d e:D}{p q:mT}(b:bz d=some p)(a:bz e=some q)(o:jC p=true)(n:p.depth<=63)(m:jC q=true)(l:q.depth<=63):Wi d e=some (iG p q):=by
 unfold Wi;rw[b,a];dsimp only;rw[tm o n,tm m l];rfl
def Qd{b:List D}(h:wK b):jn (.lst b) (.lst [])=some (.bl b.isEmpty)/\zq (.lst b) (.lst [])=some (.bl (!b.isEmpty)):=by
 obtain⟨l,a,u,v⟩:=h;have q:Wi (.lst b) (.lst [])=some (iG (.list l) _):=C3 (by unfold bz;rw[a]) rfl u (show iC l+1<=63 by lia) rfl (show 0+1<=63 by lia);have e:iG (.list l) (.list [])=b.isEmpty:=by
  cases b with
  |nil=>cases a;rfl
  |cons d r=>
   unfold b9 at a;cases m:bz d with
   |none=>rw[m]at a;cases a
   |some p=>
    cases n:b9 r with
    |none=>rw[m,n]at a;cases a
    |some o=>rw[m,n]at a;cases a;rfl
 unfold jn zq;rw[q,e];exact⟨rfl,rfl⟩
def L9(a b:Int)(h:0<b):xm (.int a) (.int b)=some (.int (a % b)):=fM h
def Eo(a b:Int)(h:(-(2 ^ 64)<a/\a<2 ^ 64)\/(-(2 ^ 64)<b/\b<2 ^ 64)):kf (.int a) (.int b)=some (.int (a * b)):=fM h
def j5(a:r U=.ok [.int j'])(h:-(2 ^ 62)<=j'/\j'<2 ^ 62):dq r U=.ok (ik 0 j'.toNat):=by
 unfold dq;rw[a];exact fM h
end
@[simp] theorem EY(w j y:Nat)(g:En->Res)(F:En->Out)(U:En):xn w j y g F U=match U[w]? with
 |some (.ow _)=>Gd w j y g U
 |_=>F U:=by
 unfold xn Ym;cases e:U[w]? with
 |none=>rfl
 |some s=>cases s<;>rfl
@[simp] theorem eZ(cls:Str->Option (Str×Str))(f:Str)(g:En->Res)(U:En):fm cls f g U=(g U).bind λd=>Res.of (Rl cls f d):=rfl
@[simp] theorem aC(g:En->Res)(U:En):ij g U=match g U with
 |.ok (.hZ true a)=>.ok (a.map (·.1))
 |.er c=>.er c
 |r=>aj (λ_=>r) U:=rfl
@[simp] theorem ZV(g:En->Res)(U:En):m9 g U=match g U with
 |.ok (.hZ true a)=>.ok (a.map Dj)
 |.er c=>.er c
 |_=>.st:=rfl
@[simp] theorem cC(d k x:En->Res)(U:En):va d k x U=(d U).bind λe=>match e with
 |.hZ false a=>(k U).bind λc=>(x U).bind λb=>match bq c with
  |some j=>.ok ((d8 a j).getD b)
  |none=>.st
 |.hZ true a=>(k U).bind λc=>(x U).bind λb=>match bu c with
  |some j=>.ok ((jf a j).getD b)
  |none=>.st
 |_=>.st:=rfl
@[simp] theorem eX(c b a:Str)(d e:D):zi c b a [d,e]=.ok (.obj (.Name c ⟨0,0,0,0⟩) [(b,d),(a,e)]):=rfl
@[simp] theorem MV(a:List (D×D)):wt (.hZ false a)=some (.tup (a.map (·.2))):=rfl
end Pu
namespace LK
open PySem PySem.Spec PyProof.Rows L2 Pu
def Jj(n:Nat):En->Out:=(cm (g1 jj (a7 (aj (aa 0)) [1] (gC (.bl true)) (MD (jw (g1 (fb "str") (aa 0))) (g2 ao (aa 1) (aa 0)) (bp 0)))))
def Xv(n:Nat)(a:List D):ab (tab (n+1)) yx a=de (Jj n (bg [true,true] a++gJ (2 - a.length) .no)):=cj (by kernel_rfl) (by decide+kernel) rfl a
def k8(n:Nat):En->Out:=(ak (wy (g2 zq (g1 cy (aa 1)) (g1 cy (aa 2))) (cm (gC .g8)) jq)
 (ak (D5 3 (aa 0))
 (ak (di (xh [4,5]) (Nl (au (aa 1) (au (aa 2) ae))) (ak (fz [4,5,4] (vw 6 (Bs (jw (g1 (fb "str") (aa 4))) (jg 3 (aa 4) (bp 5)) (C9 (bp 4)))))
 (wy (g2 zq (aa 6) (aa 5)) (cm (gC .g8)) jq)))
 (fz [3] (cm (bp 3))))))
def E5(n:Nat)(a:List D):ab (tab (n+1)) lg a=de (k8 n (bg [true,true,true] a++gJ (7 - a.length) .no)):=cj (by kernel_rfl) (by decide+kernel) rfl a
def uo(n:Nat):En->Out:=(cm (q9 (g1 (fb "int") (aa 0)) (vc (g1 (fb "bool") (aa 0)))))
def A4(n:Nat)(a:List D):ab (tab (n+1)) lx a=de (uo n (bg [true] a++gJ (1 - a.length) .no)):=cj (by kernel_rfl) (by decide+kernel) rfl a
def Fj(n:Nat):En->Out:=(cm (q9 (g1 (fb "str") (aa 0)) (q9 (x6 Vo Vo (gC (.int 1)) (g1 cy (aa 0)) (gC (.int 8))) (g1 xk (a7 (aj (aa 0)) [] (gC (.bl true)) (g2 ot (aa 0) (gC (.str "abcdefghijklmnopqrstuvwxyz"))))))))
def Ti(n:Nat)(a:List D):ab (tab (n+1)) kl a=de (Fj n (bg [true] a++gJ (1 - a.length) .no)):=cj (by kernel_rfl) (by decide+kernel) rfl a
def Ag(n:Nat):En->Out:=(cm (GG (af (ab (tab n) kl) (au (aa 0) ae)) (af (ab (tab n) lx) (au (aa 0) ae))))
def Th(n:Nat)(a:List D):ab (tab (n+1)) q8 a=de (Ag n (bg [true] a++gJ (1 - a.length) .no)):=cj (by kernel_rfl) (by decide+kernel) rfl a
def xf(n:Nat):En->Out:=(ak (wy (GG (vc (jw (g1 (fb "tuple") (aa 0)))) (vc (x6 Vo Vo (aa 1) (g1 cy (aa 0)) (aa 2)))) (cm (gC (.bl false))) jq)
 (cm (g1 xk (a7 (aj (aa 0)) [3] (gC (.bl true)) (C6 (tab (n+1)) 1 [((aa 0),(bp 0))])))))
def E3(n:Nat)(a:List D):ab (tab (n+1)) f6 a=de (xf n (bg [true,true,true,true] a++gJ (4 - a.length) .no)):=cj (by kernel_rfl) (by decide+kernel) rfl a
def wb(n:Nat):En->Out:=(cm (q9 (g1 (fb "tuple") (aa 0)) (g2 jn (g1 cy (aa 0)) (gC (.int 2)))))
def Ak(n:Nat)(a:List D):ab (tab (n+1)) jr a=de (wb n (bg [true] a++gJ (1 - a.length) .no)):=cj (by kernel_rfl) (by decide+kernel) rfl a
def Fi(n:Nat):En->Out:=(cm (q9 (af (ab (tab n) jr) (au (aa 0) ae)) (q9 (af (ab (tab n) kl) (au (g2 ao (aa 0) (gC (.int 0))) ae)) (af (ab (tab n) f6) (au (g2 ao (aa 0) (gC (.int 1))) (au (gC (.int 1)) (au (gC (.int 4)) (au (gC (.fn "is_number")) ae))))))))
def Tg(n:Nat)(a:List D):ab (tab (n+1)) qz a=de (Fi n (bg [true] a++gJ (1 - a.length) .no)):=cj (by kernel_rfl) (by decide+kernel) rfl a
def Fh(n:Nat):En->Out:=(cm (q9 (af (ab (tab n) jr) (au (aa 0) ae)) (q9 (af (ab (tab n) kl) (au (g2 ao (aa 0) (gC (.int 0))) ae)) (af (ab (tab n) f6) (au (g2 ao (aa 0) (gC (.int 1))) (au (gC (.int 1)) (au (gC (.int 4)) (au (gC (.fn "is_term")) ae))))))))
def Tf(n:Nat)(a:List D):ab (tab (n+1)) wc a=de (Fh n (bg [true] a++gJ (1 - a.length) .no)):=cj (by kernel_rfl) (by decide+kernel) rfl a
def yq(n:Nat):En->Out:=(cm (g1 xk (a7 (dq (au (g2 zr (g1 cy (aa 0)) (gC (.int 1))) ae)) [0] (gC (.bl true)) (g2 zp (g2 ao (aa 1) (aa 0)) (g2 ao (aa 1) (g2 a6 (aa 0) (gC (.int 1))))))))
def Hk(n:Nat)(a:List D):ab (tab (n+1)) my a=de (yq n (bg [true] a++gJ (1 - a.length) .no)):=cj (by kernel_rfl) (by decide+kernel) rfl a
def jd(n:Nat):En->Out:=(ak (xq 1)
 (ak (fz [0] (di (az 2) (aj (wz 0)) (Lq (C7 zq (jg 1 (g2 ao (aa 2) (gC (.int 0))) (g1 cy (g2 ao (aa 2) (gC (.int 1))))) (g1 cy (g2 ao (aa 2) (gC (.int 1))))) (cm (gC (.bl false))) jq)))
 (cm (gC (.bl true)))))
def mr(n:Nat)(a:List D):ab (tab (n+1)) cw a=de (jd n (bg [true] a++gJ (3 - a.length) .no)):=cj (by kernel_rfl) (by decide+kernel) rfl a
def uw(n:Nat):En->Out:=(ak (xq 1)
 (ak (fz [0] (di (az 2) (aj (wz 0)) (wy (jw (g1 (fb "str") (aa 2))) (O3 1 (aa 2) (gC (.bl true))) jq)))
 (cm (g1 fq (aa 1)))))
def J0(n:Nat)(a:List D):ab (tab (n+1)) fk a=de (uw n (bg [true] a++gJ (3 - a.length) .no)):=cj (by kernel_rfl) (by decide+kernel) rfl a
def xu(n:Nat):En->Out:=(ak (b8 1 (cq ae))
 (ak (xn 0 2 1 (g2 ao (aa 2) (gC (.int 1))) (di (az 2) (aj (wz 0)) (qq 1 (g2 ao (aa 2) (gC (.int 1))))))
 (fz [1] (cm (bp 1)))))
def Nb(n:Nat)(a:List D):ab (tab (n+1)) r9 a=de (xu n (bg [true] a++gJ (3 - a.length) .no)):=cj (by kernel_rfl) (by decide+kernel) rfl a
def uk(n:Nat):En->Out:=(ak (cz 2 (af (ab (tab n) fk) (au (af (ab (tab n) r9) (au (aa 1) ae)) ae)))
 (cm (g1 xk (a7 (aj (af (ab (tab n) fk) (au (aa 0) ae))) [2] (gC (.bl true)) (g2 ot (aa 0) (aa 1))))))
def C0(n:Nat)(a:List D):ab (tab (n+1)) jy a=de (uk n (bg [true,true] a++gJ (3 - a.length) .no)):=cj (by kernel_rfl) (by decide+kernel) rfl a
def um(n:Nat):En->Out:=(ak (wy (GG (vc (jw (g1 (fb "list") (aa 0)))) (vc (jw (g1 xk (a7 (aj (aa 0)) [] (gC (.bl true)) (af (ab (tab n) qz) (au (aa 0) ae))))))) ui jq)
 (ak (wy (vc (jw (af (ab (tab n) my) (au (aa 0) ae)))) ui jq)
 (ak (wy (vc (jw (af (ab (tab n) cw) (au (aa 0) ae)))) ui jq)
 (cm (g1 fq (aa 0))))))
def C1(n:Nat)(a:List D):ab (tab (n+1)) iu a=de (um n (bg [true] a++gJ (1 - a.length) .no)):=cj (by kernel_rfl) (by decide+kernel) rfl a
def qu(n:Nat):En->Out:=(ak (wy (vc (jw (af (ab (tab n) jr) (au (aa 0) ae)))) ui jq)
 (ak (cz 1 (g2 ao (aa 0) (gC (.int 0))))
 (ak (cz 2 (g2 ao (aa 0) (gC (.int 1))))
 (ak (wy (vc (jw (af (ab (tab n) f6) (au (aa 1) (au (gC (.int 0)) (au (gC (.int 4)) (au (gC (.fn "is_term")) ae))))))) ui jq)
 (ak (wy (vc (jw (af (ab (tab n) f6) (au (aa 2) (au (gC (.int 1)) (au (gC (.int 6)) (au (gC (.fn "is_atom")) ae))))))) ui jq)
 (ak (wy (vc (jw (af (ab (tab n) cw) (au (aa 2) ae)))) ui jq)
 (ak (wy (vc (jw (af (ab (tab n) jy) (au (aa 1) (au (aa 2) ae))))) ui jq)
 (fz [0] (cm (bp 0))))))))))
def Aj(n:Nat)(a:List D):ab (tab (n+1)) gf a=de (qu n (bg [false] a++gJ (3 - a.length) .no)):=cj (by kernel_rfl) (by decide+kernel) rfl a
def t9(n:Nat):En->Out:=(ak (xq 1)
 (ak (fz [0] (Vr false 1 2 (aj (wz 0)) (g2 ao (aa 2) (gC (.int 0))) (bp 2)))
 (fz [1] (cm (bp 1)))))
def Bo(n:Nat)(a:List D):ab (tab (n+1)) gz a=de (t9 n (bg [true] a++gJ (3 - a.length) .no)):=cj (by kernel_rfl) (by decide+kernel) rfl a
def Jf(n:Nat):En->Out:=(ak (cz 2 (g2 ao (aa 0) (gC (.int 1))))
 (ak (ou 3)
 (ak (di (az 4) (aj (va (aa 1) (g2 ao (aa 0) (gC (.int 0))) (cq ae))) (ak (cz 5 (af (ab (tab n) lg) (au (gC (.hZ false [])) (au (aa 2) (au (g2 ao (aa 4) (gC (.int 1))) ae)))))
 (wy (g2 ma (aa 5) (gC .g8)) (fz [4] (Au 3 (g1 wt (aa 5)) (js (au (bp 4) ae)))) jq)))
 (fz [3] (cm (af (zi "Fits" "columns" "rows") (au (af (ab (tab n) fk) (au (aa 2) ae)) (au (bp 3) ae))))))))
def MI(n:Nat)(a:List D):ab (tab (n+1)) o9 a=de (Jf n (bg [true,true] a++gJ (6 - a.length) .no)):=cj (by kernel_rfl) (by decide+kernel) rfl a
def Cp(n:Nat):En->Out:=(cm (g1 jj (a7 (aj (aa 1)) [0] (gC (.bl true)) (g2 ao (aa 1) (aa 0)))))
def VE(n:Nat)(a:List D):ab (tab (n+1)) ly a=de (Cp n (bg [true,true] a++gJ (2 - a.length) .no)):=cj (by kernel_rfl) (by decide+kernel) rfl a
def uu(n:Nat):En->Out:=(cm (a7 (aj (aa 0)) [1] (gC (.bl true)) (gM fo (aa 1) (aa 0))))
def MG(n:Nat)(a:List D):ab (tab (n+1)) iz a=de (uu n (bg [true,true] a++gJ (2 - a.length) .no)):=cj (by kernel_rfl) (by decide+kernel) rfl a
def kh(n:Nat):En->Out:=(cm (a7 (ij (fm xs.cls "columns" (aa 0))) [1] (g2 ot (aa 0) (fm xs.cls "columns" (aa 1))) (bp 0)))
def Tn(n:Nat)(a:List D):ab (tab (n+1)) i9 a=de (kh n (bg [true,true] a++gJ (2 - a.length) .no)):=cj (by kernel_rfl) (by decide+kernel) rfl a
def xt(n:Nat):En->Out:=(ak (b8 2 (a7 (ij (fm xs.cls "columns" (aa 0))) [1] (g2 ot (aa 0) (aa 1)) (bp 0)))
 (ak (wy (g2 jn (aa 2) (fm xs.cls "columns" (aa 0))) (fz [0] (cm (bp 0))) jq)
 (ak (cz 3 (af (ab (tab n) iz) (au (aa 2) (au (fm xs.cls "columns" (aa 0)) ae))))
 (ak (ou 4)
 (ak (di (xh [5,6]) (m9 (fm xs.cls "rows" (aa 0))) (fz [6] (tj (j3 4 (af (ab (tab n) ly) (au (aa 5) (au (aa 3) ae))) (bp 6)))))
 (fz [2,4] (cm (af (zi "Fits" "columns" "rows") (au (bp 2) (au (bp 4) ae))))))))))
def Na(n:Nat)(a:List D):ab (tab (n+1)) ko a=de (xt n (bg [false,true] a++gJ (7 - a.length) .no)):=cj (by kernel_rfl) (by decide+kernel) rfl a
def o7(n:Nat):En->Out:=(ak (cz 2 (af (ab (tab n) iz) (au (aa 1) (au (fm xs.cls "columns" (aa 0)) ae))))
 (ak (ou 3)
 (ak (Vr true 3 4 (ij (fm xs.cls "rows" (aa 0))) (af (ab (tab n) ly) (au (aa 4) (au (aa 2) ae))) (bp 4))
 (fz [3] (cm (bp 3))))))
def y6(n:Nat)(a:List D):ab (tab (n+1)) ip a=de (o7 n (bg [true,true] a++gJ (5 - a.length) .no)):=cj (by kernel_rfl) (by decide+kernel) rfl a
def Jh(n:Nat):En->Out:=(ak (cz 3 (af (ab (tab n) i9) (au (aa 0) (au (aa 1) ae))))
 (ak (fz [0] (cz 4 (af (ab (tab n) ko) (au (bp 0) (au (g2 a6 (aa 2) (aa 3)) ae)))))
 (ak (fz [1] (cz 5 (af (ab (tab n) ko) (au (bp 1) (au (g2 a6 (aa 2) (aa 3)) ae)))))
 (ak (cz 6 (g2 a6 (fm xs.cls "columns" (aa 4)) (fm xs.cls "columns" (aa 5))))
 (ak (cz 7 (g2 a6 (fm xs.cls "columns" (aa 4)) (a7 (ij (fm xs.cls "columns" (aa 5))) [3] (g2 bw (aa 0) (aa 1)) (bp 0))))
 (ak (b8 8 (a7 (aj (aa 7)) [2] (g2 ot (aa 0) (aa 1)) (bp 0)))
 (ak (cz 9 (af (ab (tab n) iz) (au (aa 8) (au (aa 6) ae))))
 (ak (cz 10 (af (ab (tab n) iz) (au (aa 3) (au (fm xs.cls "columns" (aa 4)) ae))))
 (ak (cz 11 (af (ab (tab n) ip) (au (aa 5) (au (aa 3) ae))))
 (ak (ou 12)
 (ak (di (xh [13,14]) (m9 (fm xs.cls "rows" (aa 4))) (di (az 15) (aj (va (aa 11) (af (ab (tab n) ly) (au (aa 13) (au (aa 10) ae))) (cq ae))) (tj (j3 12 (af (ab (tab n) ly) (au (g2 a6 (aa 13) (aa 15)) (au (aa 9) ae))) (g2 a6 (aa 14) (g2 ao (fm xs.cls "rows" (aa 5)) (aa 15)))))))
 (fz [8,12] (cm (af (zi "Fits" "columns" "rows") (au (bp 8) (au (bp 12) ae))))))))))))))))
def Xu(n:Nat)(a:List D):ab (tab (n+1)) nu a=de (Jh n (bg [false,false,true] a++gJ (16 - a.length) .no)):=cj (by kernel_rfl) (by decide+kernel) rfl a
def yp(n:Nat):En->Out:=(ak (cz 2 (af (zi "Fits" "columns" "rows") (au (cq ae) (au (C8 (js ae) (js ae)) ae))))
 (ak (di (xh [3,4]) (Fu (wz 0)) (ak (b8 5 (g1 fq (aa 1)))
 (ak (di (az 6) (aj (VA (aa 0) (some (g2 a6 (aa 3) (gC (.int 1)))) none)) (qq 5 (fm xs.cls "columns" (aa 6))))
 (fz [2,4] (cz 2 (af (ab (tab n) nu) (au (bp 2) (au (bp 4) (au (aa 5) ae)))))))))
 (fz [2] (cm (bp 2)))))
def Hj(n:Nat)(a:List D):ab (tab (n+1)) mx a=de (yp n (bg [true,true] a++gJ (7 - a.length) .no)):=cj (by kernel_rfl) (by decide+kernel) rfl a
def uq(n:Nat):En->Out:=(ak (b8 2 (a7 (ij (fm xs.cls "columns" (aa 0))) [1] (g2 bw (aa 0) (aa 1)) (bp 0)))
 (ak (cz 3 (g2 jn (g1 cy (aa 2)) (g1 cy (fm xs.cls "columns" (aa 0)))))
 (fz [3] (cm (js (au (bp 3) (au (g1 cy (aa 2)) ae)))))))
def C2(n:Nat)(a:List D):ab (tab (n+1)) dj a=de (uq n (bg [true,true] a++gJ (4 - a.length) .no)):=cj (by kernel_rfl) (by decide+kernel) rfl a
def mf(n:Nat):En->Out:=(ak (b8 2 (g1 fq (aa 1)))
 (ak (fz [3] (b8 4 (a7 (dq (au (g1 cy (aa 0)) ae)) [2] (g2 bw (aa 0) (aa 1)) (bp 0))))
 (ak (fz [] (XD (jw (aa 4)) (ak (b8 5 (cq ae))
 (ak (xn 2 3 5 (fm xs.cls "columns" (g2 ao (aa 0) (aa 3))) (di (az 3) (aj (wz 2)) (qq 5 (fm xs.cls "columns" (g2 ao (aa 0) (aa 3))))))
 (ak (b8 6 (a7 (aj (aa 4)) [5,0] (gC (.bl true)) (af (ab (tab n) dj) (au (g2 ao (aa 2) (aa 0)) (au (aa 1) ae)))))
 (ti 2 4 (gM fo (aa 6) (g1 qp (aa 6)))))))))
 (fz [2] (cm (bp 2))))))
def Wh(n:Nat)(a:List D):ab (tab (n+1)) h9 a=de (mf n (bg [true,true] a++gJ (7 - a.length) .no)):=cj (by kernel_rfl) (by decide+kernel) rfl a
def Bj(n:Nat):En->Out:=(cm (af (ab (tab n) mx) (au (a7 (aj (af (ab (tab n) h9) (au (aa 0) (au (cq ae) ae)))) [0] (gC (.bl true)) (g2 ao (aa 1) (aa 0))) (au (aa 1) ae))))
def Bp(n:Nat)(a:List D):ab (tab (n+1)) g9 a=de (Bj n (bg [true,true] a++gJ (2 - a.length) .no)):=cj (by kernel_rfl) (by decide+kernel) rfl a
def Jg(n:Nat):En->Out:=(ak (fz [1] (cz 2 (af (ab (tab n) ko) (au (bp 1) (au (af (ab (tab n) fk) (au (aa 0) ae)) ae)))))
 (cm (g1 md (a7 (ij (fm xs.cls "rows" (aa 2))) [0,2] (gC (.bl true)) (af (ab (tab n) yx) (au (aa 1) (au (si (au (fm xs.cls "columns" (aa 2)) (au (aa 0) ae))) ae)))))))
def MH(n:Nat)(a:List D):ab (tab (n+1)) lu a=de (Jg n (bg [true,false] a++gJ (3 - a.length) .no)):=cj (by kernel_rfl) (by decide+kernel) rfl a
def Sm(n:Nat):En->Out:=(ak (fz [0] (Gc (af (ab (tab n) gf) (au (bp 0) ae))))
 (ak (cz 2 (af (ab (tab n) gz) (au (af (ab (tab n) iu) (au (aa 1) ae)) ae)))
 (ak (cz 3 (g2 ao (aa 0) (gC (.int 0))))
 (ak (b8 4 (a7 (aj (g2 ao (aa 0) (gC (.int 1)))) [2] (gC (.bl true)) (af (ab (tab n) o9) (au (aa 0) (au (aa 1) ae)))))
 (cm (af (ab (tab n) lu) (au (aa 3) (au (af (ab (tab n) g9) (au (aa 4) (au (af (ab (tab n) fk) (au (aa 3) ae)) ae))) ae))))))))
def UH(n:Nat)(a:List D):ab (tab (n+1)) nc a=de (Sm n (bg [false,true] a++gJ (5 - a.length) .no)):=cj (by kernel_rfl) (by decide+kernel) rfl a
def k7(n:Nat):En->Out:=(ak (wy (g2 zp (aa 1) (g1 cy (aa 0))) (cm (g2 ao (aa 0) (aa 1))) jq)
 (ak (wy (g2 jn (aa 0) (cq ae)) (cm (gC (.int 0))) jq)
 (cm (g2 a6 (g2 kf (g2 ao (aa 0) (g2 xm (aa 1) (g1 cy (aa 0)))) (gC (.int 31))) (aa 1)))))
def E4(n:Nat)(a:List D):ab (tab (n+1)) k9 a=de (k7 n (bg [true,true] a++gJ (2 - a.length) .no)):=cj (by kernel_rfl) (by decide+kernel) rfl a
def A1(n:Nat):En->Out:=(ak (cz 3 (g2 xm (g2 kf (g2 a6 (g2 a6 (af (ab (tab n) k9) (au (aa 0) (au (aa 1) ae))) (g2 kf (gC (.int 7919)) (aa 1))) (gC (.int 1))) (gC (.int 48271))) (gC (.int 2147483647))))
 (cm (g2 xm (g2 xm (g2 a6 (g2 a6 (g2 kf (aa 3) (aa 3)) (g2 kf (gC (.int 7)) (aa 3))) (aa 1)) (gC (.int 2147483629))) (aa 2))))
def Jy(n:Nat)(a:List D):ab (tab (n+1)) a8 a=de (A1 n (bg [true,true,true] a++gJ (4 - a.length) .no)):=cj (by kernel_rfl) (by decide+kernel) rfl a
def Co(n:Nat):En->Out:=(ak (cz 2 (af (ab (tab n) a8) (au (aa 0) (au (aa 1) (au (gC (.int 12)) ae)))))
 (ak (wy (g2 zp (aa 2) (gC (.int 10))) (cm (g2 kf (g2 ao (gC (.str "xyzuv")) (g2 xm (aa 2) (gC (.int 5)))) (g2 a6 (gC (.int 1)) (g2 Ov (aa 2) (gC (.int 9)))))) jq)
 (cm (g2 zr (aa 2) (gC (.int 11))))))
def M9(n:Nat)(a:List D):ab (tab (n+1)) n6 a=de (Co n (bg [true,true] a++gJ (3 - a.length) .no)):=cj (by kernel_rfl) (by decide+kernel) rfl a
def Ck(n:Nat):En->Out:=(ak (cz 2 (g2 ao (cq (au (gC (.str "r")) (au (gC (.str "s")) (au (gC (.str "t")) ae)))) (af (ab (tab n) a8) (au (aa 0) (au (aa 1) (au (gC (.int 3)) ae))))))
 (ak (fz [2] (cz 3 (g2 a6 (gM fo (cq (au (gC (.str "t")) (au (gC (.str "r")) (au (gC (.str "s")) ae)))) (aa 2)) (gC (.int 1)))))
 (fz [2] (cm (js (au (bp 2) (au (g1 jj (a7 (dq (au (aa 3) ae)) [1,0] (gC (.bl true)) (af (ab (tab n) n6) (au (aa 2) (au (g2 a6 (g2 a6 (aa 1) (gC (.int 1))) (aa 0)) ae))))) ae)))))))
def M7(n:Nat)(a:List D):ab (tab (n+1)) nv a=de (Ck n (bg [true,true] a++gJ (4 - a.length) .no)):=cj (by kernel_rfl) (by decide+kernel) rfl a
def yr(n:Nat):En->Out:=(ak (cz 4 (g1 jj (a7 (dq (au (g2 a6 (gC (.int 1)) (af (ab (tab n) a8) (au (aa 0) (au (g2 a6 (aa 1) (gC (.int 30))) (au (aa 2) ae))))) ae)) [1,0] (gC (.bl true)) (af (ab (tab n) nv) (au (aa 2) (au (g2 a6 (aa 1) (g2 kf (gC (.int 4)) (aa 0))) ae))))))
 (ak (b8 5 (cq ae))
 (ak (xn 4 6 5 (a7 (aj (g2 ao (aa 6) (gC (.int 1)))) [] (jw (g1 (fb "str") (aa 0))) (bp 0)) (di (az 6) (aj (wz 4)) (qq 5 (a7 (aj (g2 ao (aa 6) (gC (.int 1)))) [] (jw (g1 (fb "str") (aa 0))) (bp 0)))))
 (ak (b8 7 (cq ae))
 (ak (di (az 3) (dq (au (af (ab (tab n) a8) (au (aa 0) (au (g2 a6 (aa 1) (gC (.int 31))) (au (gC (.int 3)) ae)))) ae)) (wy (GG (g2 jn (aa 5) (cq ae)) (g2 jn (af (ab (tab n) a8) (au (aa 0) (au (g2 a6 (g2 a6 (aa 1) (gC (.int 32))) (aa 3)) (au (gC (.int 8)) ae)))) (gC (.int 0)))) (rj 7 (af (ab (tab n) a8) (au (aa 0) (au (g2 a6 (g2 a6 (aa 1) (gC (.int 34))) (aa 3)) (au (gC (.int 2)) ae))))) (rj 7 (g2 ao (aa 5) (af (ab (tab n) a8) (au (aa 0) (au (g2 a6 (g2 a6 (aa 1) (gC (.int 34))) (aa 3)) (au (g1 cy (aa 5)) ae))))))))
 (fz [4] (cm (js (au (g1 jj (aa 7)) (au (bp 4) ae))))))))))
def Hl(n:Nat)(a:List D):ab (tab (n+1)) jz a=de (yr n (bg [true,true,true] a++gJ (8 - a.length) .no)):=cj (by kernel_rfl) (by decide+kernel) rfl a
def Cm(n:Nat):En->Out:=(ak (b8 3 (cq ae))
 (ak (cz 4 (g2 Ii (gC (.int 0)) (g2 zr (af (ab (tab n) a8) (au (aa 0) (au (g2 a6 (aa 1) (gC (.int 50))) (au (gC (.int 6)) ae)))) (gC (.int 3)))))
 (ak (di (az 5) (dq (au (af (ab (tab n) a8) (au (aa 0) (au (aa 1) (au (g2 a6 (aa 2) (gC (.int 1))) ae)))) ae)) (ak (cz 6 (g2 ao (cq (au (gC (.str "r")) (au (gC (.str "s")) (au (gC (.str "t")) ae)))) (af (ab (tab n) a8) (au (aa 0) (au (g2 a6 (g2 a6 (aa 1) (gC (.int 1))) (g2 kf (gC (.int 4)) (aa 5))) (au (gC (.int 3)) ae))))))
 (ak (fz [6] (cz 7 (g2 a6 (g2 xm (g2 a6 (gM fo (cq (au (gC (.str "t")) (au (gC (.str "r")) (au (gC (.str "s")) ae)))) (aa 6)) (aa 4)) (gC (.int 3))) (gC (.int 1)))))
 (fz [6] (rj 3 (js (au (bp 6) (au (g1 jj (a7 (dq (au (aa 7) ae)) [1,5,0] (gC (.bl true)) (g2 zr (af (ab (tab n) a8) (au (aa 3) (au (g2 a6 (g2 a6 (g2 a6 (aa 1) (gC (.int 2))) (g2 kf (gC (.int 4)) (aa 2))) (aa 0)) (au (gC (.int 4)) ae)))) (gC (.int 1))))) ae))))))))
 (cm (g1 gw (aa 3))))))
def M8(n:Nat)(a:List D):ab (tab (n+1)) ny a=de (Cm n (bg [true,true,true] a++gJ (8 - a.length) .no)):=cj (by kernel_rfl) (by decide+kernel) rfl a
def mh(n:Nat):En->Out:=(ak (b8 1 (cq ae))
 (ak (fz [0] (di (az 2) (aj (wz 0)) (di (az 3) (aj (g2 ao (aa 2) (gC (.int 1)))) (wy (q9 (jw (g1 (fb "str") (aa 3))) (g2 bw (aa 3) (aa 1))) (fz [3] (rj 1 (bp 3))) jq))))
 (fz [1] (cm (bp 1)))))
def Bq(n:Nat)(a:List D):ab (tab (n+1)) ib a=de (mh n (bg [true] a++gJ (4 - a.length) .no)):=cj (by kernel_rfl) (by decide+kernel) rfl a
def Fk(n:Nat):En->Out:=(ak (b8 2 (cq ae))
 (ak (fz [1] (di (az 3) (aj (wz 1)) (wy (jw (g1 (fb "str") (aa 3))) (rj 2 (g2 ao (aa 0) (aa 3))) (fz [3] (rj 2 (bp 3))))))
 (cm (g1 jj (aa 2)))))
def Tj(n:Nat)(a:List D):ab (tab (n+1)) km a=de (Fk n (bg [true,true] a++gJ (4 - a.length) .no)):=cj (by kernel_rfl) (by decide+kernel) rfl a
def yt(n:Nat):En->Out:=(ak (b8 2 (cq ae))
 (ak (fz [0] (di (az 3) (aj (wz 0)) (fz [1] (di (az 4) (aj (wz 1)) (fz [4] (rj 2 (g2 a6 (aa 3) (cq (au (bp 4) ae)))))))))
 (fz [2] (cm (bp 2)))))
def Hm(n:Nat)(a:List D):ab (tab (n+1)) mz a=de (yt n (bg [true,true] a++gJ (5 - a.length) .no)):=cj (by kernel_rfl) (by decide+kernel) rfl a
def Ji(n:Nat):En->Out:=(ak (b8 2 (cq (au (cq ae) ae)))
 (ak (di (az 3) (dq (au (aa 0) ae)) (cz 2 (af (ab (tab n) mz) (au (aa 2) (au (aa 1) ae)))))
 (fz [2] (cm (bp 2)))))
def Jz(n:Nat)(a:List D):ab (tab (n+1)) ju a=de (Ji n (bg [true,true] a++gJ (4 - a.length) .no)):=cj (by kernel_rfl) (by decide+kernel) rfl a
def VM(n:Nat):En->Out:=(ak (cz 1 (af (ab (tab n) jz) (au (aa 0) (au (gC (.int 0)) (au (gC (.int 3)) ae)))))
 (ak (cz 2 (af (ab (tab n) ny) (au (aa 0) (au (gC (.int 60)) (au (gC (.int 9)) ae)))))
 (ak (cz 3 (af (ab (tab n) ib) (au (g2 ao (aa 1) (gC (.int 1))) ae)))
 (ak (wy (g2 BE (g1 cy (aa 3)) (gC (.int 4))) (ak (b8 3 (cq ae))
 (cz 1 (js (au (js ae) (au (js (au (js (au (gC (.str "t")) (au (js (au (gC (.int 0)) ae)) ae))) ae)) ae))))) jq)
 (ak (b8 4 (cq ae))
 (ak (xn 2 5 4 (a7 (aj (g2 ao (aa 5) (gC (.int 1)))) [4] (g2 bw (aa 0) (aa 1)) (bp 0)) (di (az 5) (aj (wz 2)) (qq 4 (a7 (aj (g2 ao (aa 5) (gC (.int 1)))) [4] (g2 bw (aa 0) (aa 1)) (bp 0)))))
 (ak (b8 6 (cq ae))
 (ak (di (az 7) (aj (af (ab (tab n) ju) (au (g1 cy (aa 3)) (au (aa 4) ae)))) (ak (xq 8)
 (ak (di (az 9) (dq (au (g1 cy (aa 3)) ae)) (O3 8 (g2 ao (aa 3) (aa 9)) (g2 ao (aa 7) (aa 9))))
 (ak (b8 10 (a7 (aj (g2 ao (aa 1) (gC (.int 1)))) [8] (gC (.bl true)) (js (au (g2 ao (aa 0) (gC (.int 0))) (au (af (ab (tab n) km) (au (aa 1) (au (g2 ao (aa 0) (gC (.int 1))) ae))) ae)))))
 (fz [5] (wy (g2 jn (a7 (aj (aa 10)) [2] (g2 bw (aa 0) (aa 1)) (bp 0)) (cq ae)) (rj 6 (af (ab (tab n) km) (au (aa 8) (au (g2 ao (aa 1) (gC (.int 0))) ae)))) jq))))))
 (ak (b8 11 (g1 fq (aa 2)))
 (ak (fz [1] (cz 12 (af (ab (tab n) nc) (au (bp 1) (au (aa 11) ae)))))
 (cm (q9 (g1 (fb "list") (aa 12)) (q9 (g2 jn (aa 12) (g1 gw (aa 6))) (g2 jn (aa 11) (aa 2)))))))))))))))
def VF(n:Nat)(a:List D):ab (tab (n+1)) ux a=de (VM n (bg [false] a++gJ (13 - a.length) .no)):=cj (by kernel_rfl) (by decide+kernel) rfl a
end LK
section
set_option genInjectivity true
namespace LK
open PySem PySem.Spec PyProof.Rows Pu
abbrev fe(a:List Int):D:=.lst (a.map D.int)
def Xd(a:List Int)(k:Int):Int:=if k<a.length then(a[k.toNat]?).getD 0 else if a=[]then 0 else(a[(k % a.length).toNat]?).getD 0 * 31+k
def t7:∀b:List Int,b9 (b.map D.int)=some (b.map kL):=by
 intro a;induction a with
 |nil=>exact rfl
 |cons n b c=>show(match bz (.int n)with|some p=>(match b9 _ with|some d=>some _|none=>none)|none=>none)=_;rw[c];rfl
def iq:∀c:List Int,gE (c.map kL)=true:=by
 intro a;induction a with
 |nil=>exact rfl
 |cons n c b=>show(jC _ && gE _)=true;rw[b];rfl
def Cv:∀c:List Int,iC (c.map kL)<=1:=by
 intro a;induction a with
 |nil=>decide
 |cons n c b=>
  show max _ _<=1;have:=b;have h:jZ (.int n)<=1:=iO _
  lia
def Lw(a:List Int):iB (.list (a.map kL))=true:=by
 unfold iB;have b:jC (.list _)=true:=iq a;have c:jZ (.list (a.map kL))<=2:=by
  have:=Cv a;show iC _+1<=2
  lia
 rw[b];simp only[Bool.true_and,decide_eq_true_eq]
 lia
def X1(a:List Int):jn (fe a) (.lst [])=some (.bl (decide (a=[]))):=by
 unfold jn Wi fe;have c:bz (.lst (a.map D.int))=some (.list (a.map kL)):=by unfold bz;rw[t7]
 have b:bz (.lst [])=some _:=rfl;rw[c,b];dsimp only;rw[Lw,show iB _=true from by decide];cases a<;>rfl
def Yu(a:List Int)(k:Int)(d:0<=k)(c:k<a.length):ao (fe a) (.int k)=some (.int ((a[k.toNat]?).getD 0)):=by
 have b:k=((k.toNat:Nat):Int):=by lia
 rw[b];refine(L2.wa (v:=D.int _) ?_).trans (by rw[<-b]);rw[gO,gF (by lia)];rfl
def FG(n:Nat)(b:List Int)(k:Int)(f:0<=k):ab (tab (n+1)) k9 [fe b,.int k]=.ok (.int (Xd b k)):=by
 rw[E4];unfold Xd
 by_cases c:k<b.length
 ·have d:=Yu b k f c;simp[k7,c,d]
 ·by_cases e:b=[]
  ·subst e;have h:=X1 [];have g:¬k<0:=by lia
   simp[k7,g,h]
  ·have j:0<b.length:=by cases b<;>simp_all
   have d:=Yu b (k % b.length) (Int.emod_nonneg _ (by lia)) (Int.emod_lt_of_pos _ (by lia));simp[k7,c,e,d,(X1 b),(L9 k b.length (by lia)),(λa=>Eo a 31 (.inr (by decide)))]
def i4(a:List Int)(k m:Int):Int:=
 let x:=(Xd a k+7919 * k+1) * 48271 % 2147483647
 (x * x+7 * x+k) % 2147483629 % m
def i5(n:Nat)(b:List Int)(k m:Int)(d:0<=k)(c:0<m):ab (tab (n+2)) a8 [fe b,.int k,.int m]=.ok (.int (i4 b k m)):=by
 rw[Jy];have e:∀a:Int,kf (.int (a % 2147483647)) (.int (a % 2147483647))=some _:=λa=>Eo _ _ (.inl (by lia));simp[A1,(FG n b k d),(Eo 7919 k (.inl (by decide))),(λa=>Eo a 48271 (.inr (by decide))),(λa=>L9 a 2147483647 (by decide)),(λa=>L9 a 2147483629 (by decide)),(λa=>L9 a m c),(λa=>Eo 7 a (.inl (by decide))),e,i4]
def c9(a:List Int)(k m:Int)(b:0<m):0<=i4 a k m/\i4 a k m<m:=⟨Int.emod_nonneg _ (by lia),Int.emod_lt_of_pos _ b⟩
inductive Tm where
 |s (x:Str)
 |i (z:Int)
 deriving DecidableEq
def Tm.D:Tm->Pu.D
 |.s x=>.str x
 |.i z=>.int z
def Ac:List Str:=["x","y","z","u","v","vv"]
def Tm.ok:Tm->Prop
 |.s x=>x∈Ac
 |.i z=>z=-1\/z=0
def DN(r:Int):Tm:=if r=0\/r=5 then .s "x" else if r=1\/r=6 then .s "y" else if r=2\/r=7 then .s "z" else if r=3\/r=8 then .s "u" else if r=4 then .s "v" else if r=9 then .s "vv" else if r=10 then .i (-1)else .i 0
def LG(n:Nat)(a:List Int)(k:Int)(d:0<=k):ab (tab (n+3)) n6 [fe a,.int k]=.ok (DN (i4 a k 12)).D:=by
 rw[M9];have c:=i5 n a k 12 d (by decide);obtain⟨b,e⟩:=c9 a k 12 (by decide);generalize i4 a k 12=r at c b e⊢;simp[Co,c];obtain⟨m,rfl⟩:=Int.eq_ofNat_of_zero_le b;rcases(by decide:∀m<12,m=0\/m=1\/m=2\/m=3\/m=4\/m=5\/m=6\/m=7\/m=8\/m=9\/m=10\/m=11) m (by lia)with rfl|rfl|rfl|rfl|rfl|rfl|rfl|rfl|rfl|rfl|rfl|rfl<;>rfl
end LK
end
section
set_option genInjectivity true
namespace LK
open PySem PySem.Spec PyProof.Rows Pu
structure At where
 nm:Str
 ts:List Tm
 deriving DecidableEq
def At.D(a:At):Pu.D:=.tup [.str a.nm,.tup (a.ts.map Tm.D)]
def Hq{h:Pu.D->Option Pu.D}{f:Nat->Pu.D}:∀(l:List Nat),(∀j∈l,h (.int (0+(j:Int)))=some (f j))->(l.map λ(i:Nat)=>Pu.D.int (0+(i:Int))).filterMap h=l.map f:=by
 intro b;induction b with
 |nil=>rintro _;exact rfl
 |cons a l c=>
  rintro d
  rw[fL,mP,d a fN];rw[c λj e=>d j (fH _ e),fL]
def Br{h:Pu.D->Option Pu.D}{f:Nat->Pu.D}(n:Nat)(b:∀j:Nat,j<n->h (.int (0+(j:Int)))=some (f j)):(ik 0 n).filterMap h=(hJ n).map f:=
 Hq _ λj a=>b j (List.mem_range.mp a)
def yh(n:Nat):(ik 0 n).length=n:=by unfold ik;simp
def Oh{n:Nat}{d:Pu.D}(h:d∈ik 0 n):∃j:Nat,j<n/\d=.int (0+(j:Int)):=by
 obtain⟨j,a,e⟩:=List.mem_map.mp h;exact⟨j,List.mem_range.mp a,e.symm⟩
def r8{r:En->e9}{a:List Nat}{g:En->Res}{U:En}{m:Nat}{f:Nat->Pu.D}(c:r U=.ok (ik 0 m))(n:m<=16777216)(e:∀j:Nat,j<m->g (cf a U (.pu (.int (0+(j:Int)))))=.ok (f j)):
  a7 r a (gC (.bl true)) g U=.ok (.lst ((hJ m).map f)):=by
 let h:Pu.D->Option Pu.D:=λd=>match d with
  |.int k=>some (f k.toNat)
  |_=>none
 have:=J8 (ix:=a) (t:=gC _) (g:=g) (U:=U) (h:=h) c (by rwa [yh]) λd l=>by
  obtain⟨j,b,rfl⟩:=Oh l;rw[DE (e j b)];show some _=some (some _);have:(0+(j:Int)).toNat=j:=by lia
  rw[this]
 rw[this,Br m];intro j b;show some _=some (f j);have:(0+(j:Int)).toNat=j:=by lia
 rw[this]
def Jc(r:Int):Str:=if r=0 then "r" else if r=1 then "s" else "t"
def OP(r:Int):Nat:=if r=0 then 2 else if r=1 then 3 else 1
def Ey(a:List Int)(k:Int):At:=⟨Jc (i4 a k 3),(hJ (OP (i4 a k 3))).map λ(j:Nat)=>DN (i4 a (k+1+(j:Int)) 12)⟩
def aZ(r:Int):Int:=if r=0 then 1 else if r=1 then 2 else 0
def NX{r:Int}(h:r=0\/r=1\/r=2):ao (.lst [.str "r",.str "s",.str "t"]) (.int r)=some (.str (Jc r))/\fo (.lst [.str "t",.str "r",.str "s"]) (.str (Jc r))=some (.int (aZ r))/\((OP r:Nat):Int)=aZ r+1/\OP r<=3:=by
 rcases h with rfl|rfl|rfl<;>exact⟨rfl,by kernel_rfl,rfl,by decide⟩
def FR(n:Nat)(a:List Int)(k:Int)(o:0<=k):ab (tab (n+4)) nv [fe a,.int k]=.ok (Ey a k).D:=by
 rw[M7];have e:=i5 (n+1) a k 3 o (by decide);obtain⟨q,p⟩:=c9 a k 3 (by decide);unfold Ey;generalize i4 a k 3=r at e q p⊢;have b:∀(m:Nat)(c:Pu.D),m<=3->a7 (dq (Pu.au (aa 3) ae)) [1,0] _ (af (ab (tab (n+3)) n6) (Pu.au (aa 2) (Pu.au (g2 a6 (g2 a6 (aa 1) (gC (.int 1))) (aa 0)) ae))) [.bo (fe a),.bo (.int k),.pu c,.pu (.int m)]
   =.ok (.lst ((hJ m).map λ(j:Nat)=>(DN (i4 a (k+1+(j:Int)) 12)).D)):=λm c u=>by
  refine r8 (j5 _ _ (j':=m) (by simp) (by lia)) (by lia) λj v=>?_;simp[cf,(LG n a (k+1+(j:Int)) (by lia))]
 obtain⟨l,h,g,f⟩:=NX (r:=r) (by lia);have d:=b _ (.str (Jc r)) f;rw[g]at d;simp[Ck,e,l,h,d,At.D]
end LK
end
section
set_option genInjectivity true
namespace LK
open PySem PySem.Spec PyProof.Rows Pu
def EN{x:Str}(h:x∈Ac):gH x=true:=by
 unfold Ac at h;simp only[iK,lW,or_false]at h;rcases h with rfl|rfl|rfl|rfl|rfl|rfl<;>decide+kernel
def LC(r:Int):(DN r).ok:=by
 unfold DN
 repeat' split
 all_goals first
  |exact Or.inl rfl
  |exact Or.inr rfl
  |(show _∈Ac;decide+kernel)
def At.ok(a:At):Prop:=((a.nm="r"/\a.ts.length=2)\/(a.nm="s"/\a.ts.length=3)\/(a.nm="t"/\a.ts.length=1))/\∀t∈a.ts,t.ok
def FU(a:List Int)(k:Int):(Ey a k).ok:=by
 obtain⟨d,c⟩:=c9 a k 3 (by decide);unfold Ey At.ok;refine⟨?_,λt b=>?_⟩
 ·have:i4 a k 3=0\/i4 a k 3=1\/i4 a k 3=2:=by lia
  rcases this with e|e|e<;>rw[e]
  ·exact .inl ⟨rfl,rfl⟩
  ·exact .inr (.inl ⟨rfl,rfl⟩)
  ·exact .inr (.inr ⟨rfl,rfl⟩)
 ·obtain⟨j,_,e⟩:=List.mem_map.mp b;rw[<-e];exact LC _
def lq(a:List Tm):List Str:=a.filterMap λt=>match t with
 |.s x=>some x
 |.i _=>none
def gm(b:List At):List Str:=b.flatMap λa=>lq a.ts
def fj(a:List Tm)(b:List At):Pu.D:=.tup [.tup (a.map Tm.D),.tup (b.map At.D)]
def Ip:Pu.D->Option Pu.D
 |.str x=>some (.str x)
 |_=>none
theorem Pj:∀a:List Tm,(a.map Tm.D).filterMap Ip=(lq a).map Pu.D.str
 |[]=>rfl
 |.s x::a=>by
  show Pu.D.str x::(a.map Tm.D).filterMap Ip=Pu.D.str x::(lq a).map Pu.D.str;rw[Pj a]
 |.i z::a=>by
  exact Pj a
def S9{r:En->e9}{U:En}{ts:List Tm}(a:r U=.ok (ts.map Tm.D))(c:ts.length<=1000):a7 r [] (jw (g1 (fb "str") (aa 0))) (bp 0) U=.ok (.lst ((lq ts).map Pu.D.str)):=by
 rw[J8 (h:=Ip) a (by rw[fF];show _<=16777216;lia) λd b=>by
  obtain⟨t,_,rfl⟩:=List.mem_map.mp b;cases t with
  |s x=>rfl
  |i z=>rfl,Pj]
structure Drawn(hd:List Tm)(as:List At):Prop where
 len:1<=as.length/\as.length<=3
 ok:∀a∈as,a.ok
 hl:hd.length<=2
 ho:∀t∈hd,(∃z,t=.i z/\(z=0\/z=1))\/∃x,t=.s x/\x∈gm as
def Pg{a:List Tm}(h:∀t∈a,t.ok):∀x∈lq a,x∈Ac:=λx b=>by
 obtain⟨t,c,e⟩:=List.mem_filterMap.mp b;cases t with
 |s y=>cases e;exact h _ c
 |i z=>cases e
def L5{c:List At}(h:∀a∈c,a.ok):∀x∈gm c,x∈Ac:=λx b=>by
 obtain⟨a,d,b⟩:=List.mem_flatMap.mp b;exact Pg (h a d).2 x b
def oz(a:List Tm):(lq a).length<=a.length:=List.length_filterMap_le ..
def OO{a:At}(h:a.ok):1<=a.ts.length/\a.ts.length<=3:=by
 rcases h.1 with ⟨_,e⟩|⟨_,e⟩|⟨_,e⟩<;>lia
def N5(v:List At)(h:∀a∈v,a.ok)(E:v.length<=1000)(p o n m j z g:Sl):
  ∃d,turns (az 6) (qq 5 (a7 (aj (g2 ao (aa 6) (gC (.int 1)))) [] (jw (g1 (fb "str") (aa 0))) (bp 0))) (v.map At.D) [p,o,n,m,j,.ow [],z,g]=.nx [p,o,n,m,j,.ow ((gm v).map Pu.D.str),d,g]:=by
 have x:∀(l:List At)(c:List Str)(d:Sl),(∀a∈l,a.ok)->c.length+3 * l.length<=4000->∃f,turns (az 6) (qq 5 (a7 (aj (g2 ao (aa 6) (gC (.int 1)))) [] (jw (g1 (fb "str") (aa 0))) (bp 0))) (l.map At.D) [p,o,n,m,j,.ow (c.map Pu.D.str),d,g]
   =.nx [p,o,n,m,j,.ow ((c++gm l).map Pu.D.str),f,g]:=by
  intro l;induction l with
  |nil=>intro c d _ _;exact⟨d,by simp[turns,gm]⟩
  |cons a l A=>
   intro c d q u;have G:=OO (q a fN);have C:=oz a.ts;rw[fI]at u;obtain⟨f,e⟩:=A (c++lq a.ts) _ (λb B=>q b (fH _ B)) (by rw[gI];lia);rw[fL,bc rfl];have y:c.length+(lq a.ts).length<=16777216:=by lia
   simp only[YC,(S9 (r:=aj (g2 ao (aa 6) (gC (.int 1)))) (U:=[p,o,n,m,j,.ow (c.map Pu.D.str),.pu a.D,g]) (ts:=a.ts) (by simp[At.D]) (by lia)),jQ,jP,ro,Wa,fF,y,if_true,nH,nI];rw[<-jK,e]
   congr 3
   simp[gm,rA]
 obtain⟨w,e⟩:=x v [] z h (by simp;lia);exact⟨w,by simpa using e⟩
end LK
end
namespace LK
open PySem PySem.Spec PyProof.Rows Pu
def Ht{xs:List Pu.D}{k:Int}(f:0<=k)(c:k<xs.length):∃d,d∈xs/\ao (.lst xs) (.int k)=some d:=by
 have a:k.toNat<xs.length:=by lia
 refine⟨xs[k.toNat],nD a,?_⟩;have b:((k.toNat:Nat):Int)=k:=by lia
 have e:=L2.wa (gF a);rwa [b]at e
def Fx(n:Nat):En->Out:=(wy (GG (g2 jn (aa 5) (cq ae)) (g2 jn (af (ab (tab n) a8) (Pu.au (aa 0) (Pu.au (g2 a6 (g2 a6 (aa 1) (gC (.int 32))) (aa 3)) (Pu.au (gC (.int 8)) ae)))) (gC (.int 0)))) (rj 7 (af (ab (tab n) a8) (Pu.au (aa 0) (Pu.au (g2 a6 (g2 a6 (aa 1) (gC (.int 34))) (aa 3)) (Pu.au (gC (.int 2)) ae))))) (rj 7 (g2 ao (aa 5) (af (ab (tab n) a8) (Pu.au (aa 0) (Pu.au (g2 a6 (g2 a6 (aa 1) (gC (.int 34))) (aa 3)) (Pu.au (g1 cy (aa 5)) ae)))))))
def Gq(a:List Str)(t:Tm):Prop:=(∃z,t=.i z/\(z=0\/z=1))\/∃x,t=.s x/\x∈a
def Tz(n:Nat)(b:List Int)(k:Int)(hk:0<=k)(a:List Str)(J:∀x∈a,x∈Ac)(q p o:Sl):∀(l:List Int)(B:Sl)(c:List Tm),(∀i∈l,0<=i)->(∀t∈c,Gq a t)->c.length+l.length<=1000->
  ∃(E:Sl) (f:List Tm),(∀t∈f,Gq a t)/\f.length=c.length+l.length/\turns (az 3) (Fx (n+2)) (l.map Pu.D.int) [.bo (fe b),.bo (.int k),q,B,p,.ow (a.map Pu.D.str),o,.ow (c.map Tm.D)]=.nx [.bo (fe b),.bo (.int k),q,E,p,.ow (a.map Pu.D.str),o,.ow (f.map Tm.D)]:=by
 intro l;induction l with
 |nil=>intro B c _ h _;exact⟨B,c,h,by simp,rfl⟩
 |cons i l Y=>
  intro B c v h z;have hi:=v i fN;rw[fI]at z;have step:∃t,Gq a t/\Fx (n+2) [.bo (fe b),.bo (.int k),q,.pu (.int i),p,.ow (a.map Pu.D.str),o,.ow (c.map Tm.D)]=.nx [.bo (fe b),.bo (.int k),q,.pu (.int i),p,.ow (a.map Pu.D.str),o,.ow (c.map Tm.D++[t.D])]:=by
   have H:=YV λd c=>by
    obtain⟨x,hx,rfl⟩:=List.mem_map.mp c;exact LN (EN (J x hx))
   have A:=(Qd H).1;have m:c.length<16777216:=by lia
   have G:=i5 n b (k+32+i) 8 (by lia) (by decide);have Q:=i5 n b (k+34+i) 2 (by lia) (by decide);obtain⟨r0,r1⟩:=c9 b (k+34+i) 2 (by decide);have O:Gq a (.i (i4 b (k+34+i) 2)):=.inl ⟨_,rfl,by lia⟩;cases C:a with
   |nil=>
    subst C;refine⟨_,O,?_⟩;simp only[lA,tV]at A;simp[Fx,A,Q,m,Tm.D]
   |cons x r=>
    rw[<-C];have I:(a.map Pu.D.str).isEmpty=false:=by rw[C];rfl
    rw[I]at A
    by_cases T:i4 b (k+32+i) 8=0
    ·refine⟨_,O,?_⟩;rw[T]at G;simp[Fx,A,Q,G,m,Tm.D]
    ·have g:0<(a.length:Int):=by rw[C];simp
     obtain⟨U,q1⟩:=c9 b (k+34+i) a.length g;obtain⟨d,M,L⟩:=Ht (xs:=a.map Pu.D.str) U (by rwa [fF]);obtain⟨y,hy,rfl⟩:=List.mem_map.mp M;refine⟨.s y,.inr ⟨y,rfl,hy⟩,?_⟩;have N:(i4 b (k+32+i) 8==0)=false:=by simpa using T
     simp[Fx,A,G,(i5 n b (k+34+i) a.length (by lia) g),L,m,Tm.D,N]
  obtain⟨t,ht,e⟩:=step;obtain⟨E,f,a1,a2,a3⟩:=Y (.pu (.int i)) _ (λj hj=>v j (fH _ hj)) (λs u=>by
   rcases List.mem_append.mp u with u|u
   ·exact h s u
   ·rwa [List.mem_singleton.mp u]) (by simp;lia)
  refine⟨E,f,a1,by rw[a2];simp;lia,?_⟩;rw[fL,bc (δ1:=[.bo _,.bo _,q,.pu _,p,.ow _,o,.ow _]) rfl,e];rw[<-a3];simp
def ml(m:Nat):List Int:=(hJ m).map λ(i:Nat)=>0+(i:Int)
def Ln(m:Nat):ik 0 m=(ml m).map Pu.D.int:=by unfold ik ml;rw[hV];rfl
def Ga{m:Nat}{i:Int}(h:i∈ml m):0<=i/\i<m:=by
 obtain⟨j,a,rfl⟩:=List.mem_map.mp h;have:=List.mem_range.mp a
 lia
def Sk(n:Nat)(b:List Int)(k m:Int)(H:0<=k)(u:0<m)(G:m<=3):∃h d,Drawn h d/\ab (tab (n+5)) jz [fe b,.int k,.int m]=.ok (fj h d):=by
 rw[Hl];have y:=i5 (n+2) b (k+30) m (by lia) u;obtain⟨B,A⟩:=c9 b _ m u;have x:=i5 (n+2) b (k+31) 3 (by lia) (by decide);obtain⟨E,C⟩:=c9 b (k+31) 3 (by decide);generalize i4 b _ m=r at y B A;generalize i4 b _ 3=q at x E C;have e:a7 (dq (Pu.au (g2 a6 (gC (.int 1)) (af (ab (tab (n+4)) a8) (Pu.au (aa 0) (Pu.au (g2 a6 (aa 1) (gC (.int 30))) (Pu.au (aa 2) ae))))) ae)) [1,0] (gC (.bl true)) (af (ab (tab (n+4)) nv) (Pu.au (aa 2) (Pu.au (g2 a6 (aa 1) (g2 kf (gC (.int 4)) (aa 0))) ae)))
   [.bo (fe b),.bo (.int k),.bo (.int m),.no,.no,.no,.no,.no]=.ok (.lst ((hJ (1+r).toNat).map λ(j:Nat)=>(Ey b (k+4 * (0+(j:Int)))).D)):=by
  refine r8 (j5 _ _ (by simp[y]) (by lia)) (by lia) λj O=>?_;have v:=FR n b (k+4 * (0+(j:Int))) (by lia);generalize (0+(j:Int))=z at v⊢;simp[cf,(λa=>Eo 4 a _),v]
 have f:((hJ (1+r).toNat).map λ(j:Nat)=>(Ey b (k+4 * (0+(j:Int)))).D)=((hJ (1+r).toNat).map λ(j:Nat)=>Ey b (k+4 * (0+(j:Int)))).map At.D:=by rw[hV];rfl
 rw[f]at e;have g:((hJ (1+r).toNat).map λ(j:Nat)=>Ey b (k+4 * (0+(j:Int)))).length=(1+r).toNat:=by simp
 have c:∀a∈((hJ (1+r).toNat).map λ(j:Nat)=>Ey b (k+4 * (0+(j:Int)))),a.ok:=λa J=>by
  obtain⟨j,_,rfl⟩:=List.mem_map.mp J;exact FU _ _
 generalize ((hJ (1+r).toNat).map λj=>Ey b _)=d at e g c;obtain⟨o,ek⟩:=N5 d c (by lia) _ _ _ .no _ .no .no;obtain⟨N,h,M,L,l⟩:=Tz _ b k H _ (L5 c) _ _ o (ml q.toNat) .no [] (λi I=>(Ga I).1) (by simp) (by simp[ml];lia);have p:=j5 [.bo (fe b),.bo (.int k),.bo (.int m),.no,.pu (.tup (d.map At.D)),.ow ((gm d).map Pu.D.str),o,.ow []] (Pu.au (af (ab (tab (n+4)) a8) (Pu.au (aa 0) (Pu.au (g2 a6 (aa 1) (gC (.int 31))) (Pu.au (gC (.int 3)) ae)))) ae) (j':=q) (by simp[x]) (by lia);rw[Ln]at p;refine⟨h,d,⟨by lia,c,by rw[L];simp[ml];lia,M⟩,?_⟩;unfold Fx at l;simp only[lA]at l;simp only[yr,V9,L8,rN,qB,fI,jM,gJ,j6,ZS,ZZ,e,Aw,Wb,Ax,ro,nH,nI,EW,ZU,UN,iO,if_true,YA,Em,YB,jQ,jP];simp only[EY,jQ,jP];rw[c6 (ds:=d.map At.D) (by simp),ek];simp only[nH,nI];rw[c6 p,l];simp[fj]
end LK
namespace Pu
open PySem PySem.Spec PyProof.Rows
def Xg:∀(l:List α),(∀a∈l,F (f a)=some (if b a then some (f' a)else none))->ub F (l.map f)=some ((l.filter b).map f'):=by
 intro d;induction d with
 |nil=>rintro _;exact rfl
 |cons a l e=>
  rintro h
  rw[fL];unfold ub;rw[h a fN,e λc g=>h c (fH _ g),nB];cases b a<;>rfl
def P5{l:List α}(j:r U=.ok (l.map f))(m:l.length<=16777216)(h:∀a∈l,t (cf d U (.pu (f a)))=.ok (.bl (b a)))(n:∀a∈l,g (cf d U (.pu (f a)))=.ok (c a)):
  a7 r d t g U=.ok (.lst ((l.filter b).map c)):=by
 unfold a7;rw[j];dsimp only;rw[fM (by rw[fF];exact m),Xg (f':=c) l λa e=>by
  rw[MY (y:=c a) (h a e) λ_=>n a e]]
def gr{l:List α}(d:r U=.ok (l.map f))(e:l.length<=16777216)(c:∀a∈l,t (cf ix U (.pu (f a)))=.ok (.bl (b a))):
  a7 r ix t (bp 0) U=.ok (.lst ((l.filter b).map f)):=P5 d e c λa _=>rfl
def ir{l:List α}(c:r U=.ok (l.map f))(d:l.length<=16777216)(e:∀a∈l,g (cf b U (.pu (f a)))=.ok (h a)):
  a7 r b (gC (.bl true)) g U=.ok (.lst (l.map h)):=by
 have:=P5 (t:=gC (.bl true)) c d (λ_ _=>rfl) e;rwa [List.filter_eq_self.mpr (λ_ _=>rfl)]at this
def Jl(b:α->Bool):∀l:List α,mw (l.map λa=>D.bl (b a))=some (l.map b):=by
 intro c;induction c with
 |nil=>exact rfl
 |cons a l d=>
  show(mw _).map _=_;rw[d];rfl
def Bx(b:α->Bool)(l:List α):xk (.lst (l.map λa=>D.bl (b a)))=some (.bl (l.all b)):=by
 unfold xk;dsimp only;rw[Jl];show some (D.bl _)=_;rw[List.all_map];rfl
end Pu
namespace LK
open PySem PySem.Spec PyProof.Rows Pu
def good:List Str:=["x","y","z","u","v","vv","r","s","t"]
def U3(x:Str):Bool:=decide (x∈good)
def Z4{x:Str}(h:U3 x=true):x="x"\/x="y"\/x="z"\/x="u"\/x="v"\/x="vv"\/x="r"\/x="s"\/x="t":=by
 have:=of_decide_eq_true h;unfold good at this;simpa only[iK,lW,or_false]using this
def Iv(n:Nat){x:Str}(h:U3 x=true):ab (tab (n+1)) kl [.str x]=.ok (.bl true):=by
 rcases Z4 h with rfl|rfl|rfl|rfl|rfl|rfl|rfl|rfl|rfl<;>kernel_rfl
def fw{x:Str}(h:U3 x=true):gH x=true:=by
 rcases Z4 h with rfl|rfl|rfl|rfl|rfl|rfl|rfl|rfl|rfl<;>decide+kernel
def Tm.good:Tm->Prop
 |.s x=>U3 x=true
 |.i _=>True
def At.good(a:At):Prop:=U3 a.nm=true/\1<=a.ts.length/\a.ts.length<=4/\∀t∈a.ts,t.good
def F3(n:Nat){t:Tm}(h:t.good):ab (tab (n+2)) q8 [t.D]=.ok (.bl true):=by
 rw[Th];cases t with
 |s x=>simp[Ag,Tm.D,Iv n h]
 |i z=>
  have b:ab (tab (n+1)) kl [.int z]=.ok (.bl false):=by rw[Ti];simp[Fj]
  have a:ab (tab (n+1)) lx [.int z]=.ok (.bl true):=by rw[A4];simp[uo]
  simp[Ag,Tm.D,b,a]
def qg(n:Nat){α:Type}{l:List α}{f:α->Pu.D}{lo hi:Int}{y:Str}{d:fc}(e:look Hf y=some d)(b:d.ms=[true])(o:lo<=(l.length:Int))(m:(l.length:Int)<=hi)(p:l.length<=1000)(h:∀x∈l,ab (tab n) d [f x]=.ok (.bl true)):
  ab (tab (n+1)) f6 [.tup (l.map f),.int lo,.int hi,.fn y]=.ok (.bl true):=by
 rw[E3];have g:a7 (aj (aa 0)) [3] _ (C6 (tab (n+1)) 1 [((aa 0),(bp 0))]) [.bo (.tup (l.map f)),.bo (.int lo),.bo (.int hi),.bo (.fn y)]=.ok (.lst (l.map λ_=>Pu.D.bl true)):=
  ir (f:=f) (by simp) (by lia) λx a=>by
   have c:(tab _).fns y=some ⟨d.ms,ab (tab n) d⟩:=DS n e;unfold C6;simp[cf,c,b,LS,h x a]
 have j:=Bx (λ_:α=>true) l;simp[xf,o,m,g,j,-List.map_const']
def T8(n:Nat){a:At}(h:a.good):ab (tab (n+4)) wc [a.D]=.ok (.bl true):=by
 rw[Tf];obtain⟨e,m,j,c⟩:=h;have g:ab (tab (n+3)) jr [a.D]=.ok (.bl true):=by rw[Ak];simp[wb,At.D]
 unfold At.D at *;simp[Fh,g,(Iv (n+2) e),(qg (n+2) (l:=a.ts) (f:=Tm.D) (lo:=1) (hi:=4) (y:="is_term") (d:=q8) (by kernel_rfl) rfl (by lia) (by lia) (by lia) λt b=>F3 n (c t b))]
def Fw:∀{b:List (Pu.D×Pu.D)}{j:L2.gd},Tx b j=(d8 b j).isSome:=by
 intro a;induction a with
 |nil=>rintro _;exact rfl
 |cons a r c=>
  obtain⟨k,d⟩:=a
  rintro j
  unfold d8
  by_cases h:bq k=some j
  ·simp[Tx,h]
  ·rw[fJ h,<-c];simp[Tx,h]
def Uu:∀{c:List (Pu.D×Pu.D)}{j a:L2.gd}{v:Pu.D},d8 c j=none->d8 (c++[(kD j,v)]) a=if a=j then some v else d8 c a:=by
 intro b;induction b with
 |nil=>
  rintro j a v _
  show(if bq _=some a then some v else none)=_;rw[rh]
  by_cases h:a=j
  ·subst h;rw[fM rfl,fM rfl]
  ·rw[fJ (λz=>h (gV z).symm),fJ h];rfl
 |cons b r f=>
  obtain⟨k,d⟩:=b
  rintro j a v e
  unfold d8 at e
  by_cases g:bq k=some j
  ·rw[fM g]at e;cases e
  ·rw[fJ g]at e;show(if bq k=some a then some d else d8 (r++[_]) a)=_;rw[f e]
   by_cases h:a=j
   ·subst h;rw[fJ g,fM rfl,fM rfl]
   ·rw[fJ h,fJ h];rfl
def Ih{a:List (Pu.D×Pu.D)}{j:L2.gd}{v:Pu.D}(h:d8 a j=none):Ar a j v=a++[(kD j,v)]:=by
 unfold Ar;rw[Fw,h];rfl
def Hw:En->Out:=(Lq (C7 zq (jg 1 (g2 ao (aa 2) (gC (.int 0))) (g1 cy (g2 ao (aa 2) (gC (.int 1))))) (g1 cy (g2 ao (aa 2) (gC (.int 1))))) (cm (gC (.bl false))) jq)
def K8(j:Sl):∀(g:List At)(f:List (Pu.D×Pu.D))(p:Sl),(∀a∈g,∀b∈g,a.nm=b.nm->a.ts.length=b.ts.length)->(∀a∈g,∀d,d8 f (.inr a.nm)=some d->d=.int (a.ts.length:Nat))->f.length+g.length<=1000->
  ∃m x,turns (az 2) Hw (g.map At.D) [j,.od false f,p]=.nx [j,.od false m,x]:=by
 intro r;induction r with
 |nil=>rintro f p _ _ _;exact⟨f,p,rfl⟩
 |cons a g n=>
  rintro f p h k y
  rw[fI]at y;rw[fL,bc (δ1:=[j,.od false f,.pu a.D]) rfl];have o:f.length<fR:=by show _<16777216;lia
  have v:∀b∈g,∀c∈g,b.nm=c.nm->b.ts.length=c.ts.length:=λb l c A=>h b (fH _ l) c (fH _ A);cases e:d8 f _ with
  |some d=>
   have:=k a fN d e;subst this;have u:Hw [j,.od false f,.pu a.D]=.nx [j,.od false f,.pu a.D]:=by
    unfold Hw Lq C7 jg;simp[At.D,bq,o,e,Res.ef]
   rw[u];exact n f _ v (λb l=>k b (fH _ l)) (by lia)
  |none=>
   have u:Hw [j,.od false f,.pu a.D]=.nx [j,.od false (f++[(kD (.inr a.nm),.int a.ts.length)]),.pu a.D]:=by
    unfold Hw Lq C7 jg;simp[At.D,bq,o,e,Ih e,Res.ef]
   rw[u];refine n _ _ v (λb l d q=>?_) (by simp;lia);rw[Uu e]at q;split at q
   ·rename_i z;cases q;rw[h b (fH _ l) a fN (Sum.inr.inj z)]
   ·exact k b (fH _ l) d q
def U4(n:Nat){as:List At}(j:as.length<=900)(h:∀a∈as,∀b∈as,a.nm=b.nm->a.ts.length=b.ts.length):ab (tab (n+1)) cw [.tup (as.map At.D)]=.ok (.bl true):=by
 rw[mr];obtain⟨f,g,e⟩:=K8 _ as [] .no h (λa _ d e=>by cases e) (by simp;lia);have c:di _ (aj (wz 0)) Hw [.bo (.tup (as.map At.D)),.od false [],.no]=_:=(c6 (by simp)).trans e;unfold Hw at c;simp[jd,c]
def yj:∀l:List Str,b9 (l.map Pu.D.str)=some (l.map qF):=by
 intro a;induction a with
 |nil=>exact rfl
 |cons x l b=>
  show(match bz (.str x)with|some p=>(match b9 _ with|some c=>some _|none=>none)|none=>none)=_;rw[b];rfl
def o8:∀{l:List Str},(∀x∈l,gH x=true)->gE (l.map qF)=true:=by
 intro a;induction a with
 |nil=>rintro _;exact rfl
 |cons x l b=>
  rintro h
  show(gH x && gE _)=true;rw[h x fN,b λy c=>h y (fH _ c)];rfl
def Wz(l:List Str)(x:Str):((l.map qF).any λy=>iG y (.str x))=decide (x∈l):=by
 induction l with
 |nil=>rfl
 |cons y l a=>
  rw[fL,mB,a];show((y==x)||decide _)=_
  by_cases h:y=x
  ·subst h;simp
  ·have b:¬x=y:=λz=>h z.symm;have:(y==x)=false:=by simpa using h
   rw[this];simp[b]
def sj{l:List Str}{x:Str}(c:∀y∈l,gH y=true)(b:gH x=true):Vn (.str x) (.lst (l.map Pu.D.str))=some (.bl (decide (x∈l)))/\lj (.str x) (.lst (l.map Pu.D.str))=some (.bl (!decide (x∈l))):=by
 have e:Bb (.str x) (.lst (l.map Pu.D.str))=some (decide (x∈l)):=by
  show(match b9 _,bz _ with
   |some a,some q=>if gE a && iB q then some _ else none
   |_,_=>none)=_
  rw[yj];show(if gE _ && iB _ then some _ else none)=_;rw[o8 c,tm (p:=.str x) b (iO _),Wz];rfl
 unfold Vn lj;rw[e];exact⟨rfl,rfl⟩
def je(a:List Str):List Str->List Str
 |[]=>a
 |x::r=>if x∈a then je a r else je (a++[x]) r
def kd(l:List Str):List (Pu.D×Pu.D):=l.map λx=>(.str x,.bl true)
def Y7(l:List Str)(x:Str):d8 (kd l) (.inr x)=if x∈l then some (.bl true)else none:=by
 induction l with
 |nil=>rfl
 |cons y l a=>
  show(if bq _=some _ then some _ else d8 (kd l) _)=_;rw[a]
  by_cases h:y=x
  ·subst h;simp[bq]
  ·have b:¬x=y:=λz=>h z.symm;rw[fJ (by simp[bq,h])];simp[b]
def KI(l:List Str)(x:Str):Ar (kd l) (.inr x) (.bl true)=kd (if x∈l then l else l++[x]):=by
 have h:=Y7 l x
 by_cases a:x∈l
 ·rw[fM a]at h⊢;unfold Ar;rw[Fw,h];unfold kd;rw[hV];apply iA;intro y _;show(if bq _=some _ then _ else _)=_;split<;>rfl
 ·rw[fJ a]at h⊢;rw[Ih h];unfold kd;rw[jK];rfl
def LQ:En->Out:=(wy (jw (g1 (fb "str") (aa 2))) (O3 1 (aa 2) (gC (.bl true))) jq)
def Rq(c:Sl):∀(b:List Tm)(a:List Str)(d:Sl),a.length+b.length<=1000->∃l,turns (az 2) LQ (b.map Tm.D) [c,.od false (kd a),d]=.nx [c,.od false (kd (je a (lq b))),l]:=by
 intro b;induction b with
 |nil=>intro a d _;exact⟨d,rfl⟩
 |cons t b g=>
  intro a d m;rw[fI]at m;rw[fL,bc (δ1:=[c,.od false _,.pu t.D]) rfl];cases t with
  |i z=>
   have j:LQ [c,.od false (kd a),.pu (Tm.i z).D]=.nx [c,.od false (kd a),.pu (Tm.i z).D]:=by simp[LQ,Tm.D]
   exact g a _ (by lia)
  |s x=>
   have e:(kd a).length<fR:=by unfold kd;rw[fF];show _<16777216;lia
   have j:LQ [c,.od false (kd a),.pu (Tm.s x).D]=.nx [c,.od false (kd (if x∈a then a else a++[x])),.pu (Tm.s x).D]:=by
    simp[LQ,Tm.D,O3,Ym,D4,bq,e,KI]
   rw[j];have f:je a (lq (.s x::b))=je (if x∈a then a else a++[x]) (lq b):=by
    show(if x∈a then je a (lq b)else je _ (lq b))=_
    by_cases h:x∈a<;>simp[h]
   rw[f];refine g _ _ ?_;split
   ·lia
   ·simp;lia
def Kn(l:List Str):Qt (kd l)=l.map Pu.D.str:=by unfold Qt kd;rw[hV];rfl
def vy(n:Nat)(a:List Tm)(f:a.length<=1000)(b:Bool):ab (tab (n+1)) fk [if b then .tup (a.map Tm.D)else .lst (a.map Tm.D)]=.ok (.lst ((je [] (lq a)).map Pu.D.str)):=by
 rw[J0];cases b with
 |true=>
  obtain⟨d,e⟩:=Rq _ a [] .no (by simpa using f);have c:di (az 2) (aj (wz 0)) LQ [.bo (.tup (a.map Tm.D)),.od false [],.no]=.nx [.bo (.tup (a.map Tm.D)),.od false (kd (je [] (lq a))),d]:=by
   exact e
  unfold LQ at c;simp[uw,c,fq,Kn]
 |false=>
  obtain⟨d,e⟩:=Rq _ a [] .no (by simpa using f);have c:di (az 2) (aj (wz 0)) LQ [.bo (.lst (a.map Tm.D)),.od false [],.no]=.nx [.bo (.lst (a.map Tm.D)),.od false (kd (je [] (lq a))),d]:=by
   exact e
  unfold LQ at c;simp[uw,c,fq,Kn]
def ja(x:Str):∀(l a:List Str),x∈je a l↔x∈a\/x∈l:=by
 intro c;induction c with
 |nil=>rintro a;simp[je]
 |cons y l b=>
  rintro a
  unfold je
  by_cases h:y∈a
  ·rw[fM h,b a,iK];constructor
   ·rintro (z|z)
    ·exact .inl z
    ·exact .inr (.inr z)
   ·rintro (z|z|z)
    ·exact .inl z
    ·subst z;exact .inl h
    ·exact .inr z
  ·rw[fJ h,b,lC,nF,iK];constructor
   ·rintro ((z|z)|z)
    ·exact .inl z
    ·exact .inr (.inl z)
    ·exact .inr (.inr z)
   ·rintro (z|z|z)
    ·exact .inl (.inl z)
    ·exact .inl (.inr z)
    ·exact .inr z
def Pr(a:List At):List Tm:=a.flatMap At.ts
def Ej(f:Sl):∀(d:List At)(c:List Tm)(h:Sl),(∀a∈d,a.good)->c.length+4 * d.length<=4000->
  ∃l,turns (az 2) (qq 1 (g2 ao (aa 2) (gC (.int 1)))) (d.map At.D) [f,.ow (c.map Tm.D),h]=.nx [f,.ow ((c++Pr d).map Tm.D),l]:=by
 intro d;induction d with
 |nil=>intro c h _ _;exact⟨h,by simp[turns,Pr]⟩
 |cons a d m=>
  intro c h g n;have q:=(g a fN).2;rw[fI]at n;obtain⟨l,e⟩:=m (c++a.ts) _ (λb o=>g b (fH _ o)) (by rw[gI];lia);rw[fL,bc (δ1:=[f,.ow _,.pu a.D]) rfl];have j:c.length+a.ts.length<=16777216:=by lia
  have p:qq 1 (g2 ao (aa 2) (gC (.int 1))) [f,.ow (c.map Tm.D),.pu a.D]=.nx [f,.ow ((c++a.ts).map Tm.D),.pu a.D]:=by simp[At.D,j]
  rw[p];dsimp only;rw[e];simp[Pr]
def DP(n:Nat){c:List At}(h:∀a∈c,a.good)(g:c.length<=900)(b:Bool):ab (tab (n+1)) r9 [if b then .tup (c.map At.D)else .lst (c.map At.D)]=.ok (.lst ((Pr c).map Tm.D)):=by
 rw[Nb];cases b with
 |true=>
  obtain⟨d,e⟩:=Ej _ c [] .no h (by simp;lia);have f:di (az 2) (aj (wz 0)) (qq 1 (g2 ao (aa 2) (gC (.int 1)))) [.bo (.tup (c.map At.D)),.ow [],.no]=.nx [.bo (.tup (c.map At.D)),.ow ((Pr c).map Tm.D),d]:=by
   rw[c6 (ds:=c.map At.D) (by simp)];simpa using e
  simp[xu,f]
 |false=>
  obtain⟨d,e⟩:=Ej _ c [] .no h (by simp;lia);have f:di (az 2) (aj (wz 0)) (qq 1 (g2 ao (aa 2) (gC (.int 1)))) [.bo (.lst (c.map At.D)),.ow [],.no]=.nx [.bo (.lst (c.map At.D)),.ow ((Pr c).map Tm.D),d]:=by
   rw[c6 (ds:=c.map At.D) (by simp)];simpa using e
  simp[xu,f]
def Ph(a b:List Tm):lq (a++b)=lq a++lq b:=List.filterMap_append ..
def Rx(b:List At):lq (Pr b)=gm b:=by
 induction b with
 |nil=>rfl
 |cons a b c=>
  have:Pr (a::b)=a.ts++Pr b:=by simp[Pr]
  rw[this,Ph,c];simp[gm]
def R8{c:List At}(h:∀a∈c,a.good):(Pr c).length<=4 * c.length:=by
 induction c with
 |nil=>simp[Pr]
 |cons a c d=>
  have g:=(h a fN).2.2.1;have f:=d λb e=>h b (fH _ e);unfold Pr at f⊢;rw[rA,gI,fI]
  lia
def z9{a:List Tm}(h:∀t∈a,t.good):∀x∈lq a,U3 x=true:=λx b=>by
 obtain⟨t,c,e⟩:=List.mem_filterMap.mp b;cases t with
 |s y=>cases e;exact h _ c
 |i z=>cases e
def Vy{c:List At}(h:∀a∈c,a.good):∀x∈gm c,U3 x=true:=λx b=>by
 obtain⟨a,d,b⟩:=List.mem_flatMap.mp b;exact z9 (h a d).2.2.2 x b
def we:∀(l a:List Str),(je a l).length<=a.length+l.length:=by
 intro l;induction l with
 |nil=>intro a;simp[je]
 |cons x l b=>
  intro a;unfold je;split
  ·have:=b a;simp;lia
  ·have:=b (a++[x]);simp at this⊢;lia
def lh{a:List Tm}{x:Str}:x∈lq a↔Tm.s x∈a:=by
 unfold lq;rw[List.mem_filterMap];constructor
 ·rintro ⟨t,b,e⟩
  cases t with
  |s y=>cases e;exact b
  |i z=>cases e
 ·exact λh=>⟨_,h,rfl⟩
def wk{c:List At}{x:Str}:x∈gm c↔∃a∈c,Tm.s x∈a.ts:=by
 unfold gm;rw[tZ];exact⟨by rintro ⟨a,b,h⟩;exact⟨a,b,lh.mp h⟩,by rintro ⟨a,b,h⟩;exact⟨a,b,lh.mpr h⟩⟩
def Ly(n:Nat){c:List Tm}{d:List At}(A:∀t∈c,t.good)(g:∀a∈d,a.good)(u:c.length<=900)(r:d.length<=200)(v:∀x,Tm.s x∈c->∃b∈d,Tm.s x∈b.ts):ab (tab (n+2)) jy [.tup (c.map Tm.D),.tup (d.map At.D)]=.ok (.bl true):=by
 rw[C0];have q:=R8 g;have l:=DP n g (by lia) true;have h:=vy n (Pr d) (by lia) false;have j:=vy n c (by lia) true;simp only[if_true,Bool.false_eq_true,if_false]at l h j;rw[Rx]at h;have B:(je [] (lq c)).length<=1000:=by
  have E:=we (lq c) [];have G:=oz c;simp at E
  lia
 have C:a7 (aj (af (ab (tab (n+1)) fk) (Pu.au (aa 0) ae))) [2] _ (g2 ot (aa 0) (aa 1)) [.bo (.tup (c.map Tm.D)),.bo (.tup (d.map At.D)),.pu (.lst ((je [] (gm d)).map Pu.D.str))]=.ok (.lst ((je [] (lq c)).map λx=>Pu.D.bl (decide (x∈je [] (gm d))))):=
  ir (f:=Pu.D.str) (by simp[j]) (by lia) λy o=>by
   have:=(sj (λz m=>fw ((Vy g) z (by simpa using(ja z _ []).mp m))) (fw ((z9 A) y (by simpa using(ja y _ []).mp o)))).1;simp[cf,this]
 have e:=Bx (λx=>decide (x∈je [] (gm d))) (je [] (lq c));rw[List.all_eq_true.mpr λx p=>decide_eq_true ((ja x _ []).mpr (.inr (wk.mpr (v x (lh.mp (by simpa using(ja x _ []).mp p))))))]at e;simp[uk,l,h,C,e,-hV]
end LK
namespace Pu
open PySem PySem.Spec PyProof.Rows
def tI(a:List Int):D:=.tup (a.map D.int)
end Pu
namespace LK
open PySem PySem.Spec PyProof.Rows Pu
def pick(a:List Int)(b:List Nat):List Int:=b.map λp=>a.getD p 0
def cv(a:List Nat):List Pu.D:=a.map λ(p:Nat)=>Pu.D.int (p:Int)
abbrev cg(xs:List Str):Pu.D:=.lst (xs.map Pu.D.str)
def WT(a:List Int)(p:Nat)(h:p<a.length):ao (tI a) (.int p)=some (.int (a.getD p 0)):=by
 show L2.uV _ p=_;unfold L2.uV;simp[L2.NZ,h]
def wq(n:Nat)(a:List Int)(b:List Nat)(h:∀p∈b,p<a.length)(e:b.length<=1000):ab (tab (n+1)) ly [tI a,.lst (cv b)]=.ok (tI (pick a b)):=by
 have d:a7 (aj (aa 1)) [0] _ (g2 ao (aa 1) (aa 0)) [.bo (tI a),.bo (.lst (cv b))]=.ok (.lst (b.map λp=>Pu.D.int (a.getD p 0))):=
  ir (f:=λ(p:Nat)=>Pu.D.int (p:Int)) (by simp[cv]) (by lia) λp c=>by
   simp[cf,WT a p (h p c)]
 show de (Cp n [.bo _,.bo (.lst (cv b))])=_;unfold Cp;rw[EX,ZZ,d];simp[tI,pick]
def Yj(x:Str):∀(a:List Str),x∈a->C5 (a.map qF) (.str x)=some (a.idxOf x):=by
 intro b;induction b with
 |nil=>rintro h;simp at h
 |cons y r c=>
  rintro h
  unfold C5;rw[fL,List.findIdx?_cons,List.idxOf_cons];have e:iG (.str y) (.str x)=(y==x):=rfl;rw[e]
  by_cases q:y=x
  ·subst q;simp
  ·have d:(y==x)=false:=by simpa using q
   rw[d];have f:x∈r:=by
    rcases List.mem_cons.mp h with z|z
    ·exact absurd z.symm q
    ·exact z
   have:=c f;unfold C5 at this;simp[this]
def O7{x:Str}(h:gH x=true):iB (.str x)=true:=by
 unfold iB;simp[jC,h,jZ]
def Nq{a:List Str}{x:Str}(c:∀y∈a,gH y=true)(d:a.length<=1000)(b:x∈a):fo (cg a) (.str x)=some (.int (a.idxOf x:Nat)):=by
 unfold cg fo;dsimp only;rw[yj];show(if gE _ && iB _ && decide _ then(C5 _ _).map λj=>Pu.D.int _ else none)=_;rw[o8 c,O7 (c x b),decide_eq_true (by rw[fF,iT];lia),Yj x a b];rfl
def nj(n:Nat){xs a:List Str}(h:∀y∈a,gH y=true)(g:a.length<=1000)(d:∀x∈xs,x∈a)(e:xs.length<=1000):ab (tab (n+1)) iz [cg xs,cg a]=.ok (.lst (cv (xs.map a.idxOf))):=by
 have c:a7 (aj (aa 0)) [1] _ (gM fo (aa 1) (aa 0)) [.bo (cg xs),.bo (cg a)]=.ok (.lst (xs.map λx=>Pu.D.int (a.idxOf x:Nat))):=
  ir (f:=Pu.D.str) (by simp[cg]) (by omega) λx b=>by
   simp[cf,(Nq h g (d x b))]
 show de (uu n [.bo (cg xs),.bo _])=_;unfold uu;rw[EX,c];simp[cv]
abbrev f7:=List Int×List Pu.D
def wx(p:f7):Pu.D×Pu.D:=(tI p.1,.tup p.2)
def fy(b:List Str)(a:List f7):Pu.D:=.obj (.Name "Fits" ⟨0,0,0,0⟩) [("columns",cg b),("rows",.hZ true (a.map wx))]
@[simp] theorem dN(a:List Str)(b:List f7):Rl xs.cls "columns" (fy a b)=some (cg a):=rfl
@[simp] theorem dM(b:List Str)(a:List f7):Rl xs.cls "rows" (fy b a)=some (.hZ true (a.map wx)):=rfl
def B2(b:List Str)(a:List f7):zi "Fits" "columns" "rows" [cg b,.hZ true (a.map wx)]=.ok (fy b a):=rfl
end LK
section
set_option genInjectivity true
namespace LK
open PySem PySem.Spec PyProof.Rows Pu
def rK(r:List Int):L2.aq:=r.map λz=>.inl (.inl z)
def Qr(r:List Int):kT (rK r)=tI r:=by
 show Pu.D.tup ((r.map λz=>sL _).map UB)=_;rw[hV];rfl
def ku(r:List Int):bu (tI r)=some (rK r):=by rw[<-Qr];exact nh _
theorem Ow:∀{r t:List Int},rK r=rK t->r=t
 |[],[],_=>rfl
 |[],_::_,h=>by cases h
 |_::_,[],h=>by cases h
 |i::r,j::t,h=>by
  unfold rK at h;injection h with b a
  rw[uK (uK b),Ow a]
def ff{r t:List Int}:bu (tI r)=some (rK t)↔r=t:=by
 rw[ku];exact⟨λh=>Ow (gV h),λh=>by rw[h]⟩
abbrev bf(a:List f7):List (List Int):=a.map (·.1)
def Ut(r:List Int):∀a:List f7,(r∉bf a->jf (a.map wx) (rK r)=none)/\(r∈bf a->∃s,(r,s)∈a/\jf (a.map wx) (rK r)=some (.tup s)):=by
 intro b;induction b with
 |nil=>exact⟨λ_=>rfl,λh=>by simp at h⟩
 |cons p a c=>
  obtain⟨f,d⟩:=c;show(_->(if bu _=some _ then some _ else jf _ _)=none)/\(_->∃s,_/\(if bu _=some _ then some _ else jf _ _)=some _)
  by_cases e:p.1=r
  ·rw[fM (ff.mpr e)];refine⟨λh=>absurd (by rw[<-e];simp) h,λ_=>⟨p.2,?_,rfl⟩⟩;rw[<-e];exact fN
  ·rw[fJ λz=>e (ff.mp z)];refine⟨λh=>f λz=>h (by simp at z⊢;exact .inr z),λh=>?_⟩;have:r∈bf a:=by
    simp only[bf,fL,iK]at h;exact h.resolve_left λz=>e z.symm
   obtain⟨s,j,g⟩:=d this;exact⟨s,fH _ j,g⟩
def kg(a:List f7)(r:List Int)(s:List Pu.D):List f7:=if r∈bf a then a else a++[(r,s)]
def uj(a:List f7)(r:List Int)(s:List Pu.D):(kg a r s).length<=a.length+1:=by
 unfold kg;split
 ·lia
 ·simp
def Du{a:List f7}{r x:List Int}{s:List Pu.D}:x∈bf (kg a r s)↔x∈bf a\/x=r:=by
 unfold kg
 by_cases h:r∈bf a
 ·rw[fM h];exact⟨.inl,λq=>q.elim id λe=>e▸h⟩
 ·rw[fJ h];simp[bf]
def xr{c:List f7}{r:List Int}{s:List Pu.D}(h:(bf c).Nodup):(bf (kg c r s)).Nodup:=by
 unfold kg
 by_cases e:r∈bf c
 ·rwa [fM e]
 ·rw[fJ e];show((c++[(r,s)]).map _).Nodup;rw[jK,oU];refine⟨h,by simp,λa f b d=>?_⟩;have:b=r:=by simpa using d
  subst this;exact λz=>e (z▸f)
def Ll{a:List f7}{r:List Int}{s:List Pu.D}(h:r∉bf a):Ig (a.map wx) (rK r) (.tup s)=(kg a r s).map wx:=by
 have d:x8 (a.map wx) (rK r)=false:=by
  unfold x8;rw[List.any_eq_false];intro p c;obtain⟨q,b,rfl⟩:=List.mem_map.mp c;simp only[decide_eq_true_eq];intro z;exact h (List.mem_map.mpr ⟨q,b,ff.mp z⟩)
 unfold Ig kg;rw[d,fJ h,fJ Bool.false_ne_true,jK,Qr];rfl
def TH{U:En}{i:Nat}{s:Sl}(h:U[i]?=some s):U.set i s=U:=by
 refine mK λj=>?_
 by_cases e:i=j
 ·subst e;rw[gY (List.getElem?_eq_some_iff.mp h).1,h]
 ·rw[gU e]
def YW{U:En}{i:Nat}{d c:En->Res}{a:List f7}{r:List Int}{s:List Pu.D}(b:U[i]?=some (.od true (a.map wx)))(l:d U=.ok (tI r))(j:c U=.ok (.tup s))(m:a.length<=100000):
  tj (j3 i d c) U=.nx (U.set i (.od true ((kg a r s).map wx))):=by
 unfold tj j3;rw[b];rw[l];rw[j];dsimp only;rw[ku];dsimp only;rw[fM (by rw[fF,iT];lia)];obtain⟨g,f⟩:=Ut r a
 by_cases h:r∈bf a
 ·obtain⟨t,_,e⟩:=f h;rw[e];rw[show kg a r s=a from fM h,TH b]
 ·rw[g h];rw[Ll h]
theorem Qe:∀a b:List Str,kC (a.map qF) (b.map qF)=decide (a=b)
 |[],[]=>rfl
 |[],_::_=>rfl
 |_::_,[]=>rfl
 |x::a,y::b=>by
  show((x==y) && kC _ _)=_;rw[Qe a b]
  by_cases h:x=y
  ·subst h;simp
  ·have:(x==y)=false:=by simpa using h
   simp[h]
def GQ{a b:List Str}(f:∀x∈a,gH x=true)(e:∀x∈b,gH x=true):jn (cg a) (cg b)=some (.bl (decide (a=b))):=by
 have t:∀l:List Str,bz (cg l)=some _:=λl=>by unfold cg bz;rw[yj]
 have g:∀l:List Str,iC (l.map qF)=0:=λl=>by
  induction l with
  |nil=>rfl
  |cons x r c=>show max _ _=0;rw[c];rfl
 have d:∀l:List Str,jZ (.list _)<=63:=λl=>by show iC (l.map qF)+1<=63;rw[g];decide
 unfold jn;rw[C3 (t a) (t b) (o8 f) (d a) (o8 e) (d b)];exact congrArg some (congrArg Pu.D.bl (Qe a b))
def QK(f:List Pu.D->Res):En->Out:=(fz [6] (tj (j3 4 (af f (Pu.au (aa 5) (Pu.au (aa 3) ae))) (bp 6))))
def Fd(d:List Nat)(c b:List f7):List f7:=b.foldl (λa p=>kg a (pick p.1 d) p.2) c
def Zo(f:List Pu.D->Res)(b:List Nat)(A:∀d:List Int,(∀q∈b,q<d.length)->f [tI d,.lst (cv b)]=.ok (tI (pick d b)))(j h g:Sl):∀(a c:List f7)(m l:Sl),(∀p∈a,∀q∈b,q<p.1.length)->c.length+a.length<=100000->
  ∃r o,turns (xh [5,6]) (QK f) (a.map λp=>Dj (wx p)) [j,h,g,.pu (.lst (cv b)),.od true (c.map wx),m,l]=.nx [j,h,g,.pu (.lst (cv b)),.od true ((Fd b c a).map wx),r,o]:=by
 intro n;induction n with
 |nil=>rintro c m l _ _;exact⟨m,l,rfl⟩
 |cons p a u=>
  rintro c m l v z
  rw[fI]at z;have y:=uj c (pick p.1 b) p.2;obtain⟨r,o,e⟩:=u (kg c (pick p.1 b) p.2) _ _ (λq x=>v q (fH _ x)) (by lia);refine⟨r,o,?_⟩;rw[fL,bc (δ1:=[j,h,g,.pu _,.od true _,.pu (tI p.1),.pu (.tup p.2)]) rfl];have B:QK f [j,h,g,.pu (.lst (cv b)),.od true (c.map wx),.pu (tI p.1),.pu (.tup p.2)]=.nx [j,h,g,.pu (.lst (cv b)),.od true ((kg c (pick p.1 b) p.2).map wx),.pu (tI p.1),.pu (.tup p.2)]:=by
   exact YW (U:=[j,h,g,.pu _,.od true _,.pu _,.pu _]) rfl (by simp[(A p.1 (v p fN))]) rfl (by lia)
  rwa [B]
def Zn(c:List Nat):∀(a b:List f7),(Fd c b a).length<=b.length+a.length:=by
 intro d;induction d with
 |nil=>rintro b;simp[Fd]
 |cons p a e=>
  rintro b
  have g:=e (kg b (pick p.1 c) p.2);have f:=uj b (pick p.1 c) p.2;show(Fd c (kg b _ p.2) a).length<=_;rw[fI]
  lia
def Zh(d:List Nat)(x:List Int):∀(a b:List f7),x∈bf (Fd d b a)↔x∈bf b\/∃r∈bf a,x=pick r d:=by
 intro c;induction c with
 |nil=>rintro b;simp[Fd]
 |cons p a e=>
  rintro b
  show x∈bf (Fd d _ a)↔_;rw[e,Du];simp only[bf,fL,iK,exists_eq_or_imp,or_assoc]
def Oi(e:List Nat):∀(a b:List f7),(bf b).Nodup->(bf (Fd e b a)).Nodup:=by
 intro c;induction c with
 |nil=>rintro b h;exact h
 |cons p a d=>rintro b h;exact d _ (xr h)
theorem K2(e:List Nat)(b:Nat):∀(a d:List f7),(∀p∈d,p.2.length<=b)->(∀p∈a,p.2.length<=b)->∀p∈Fd e d a,p.2.length<=b
 |[],d,h,_=>h
 |q::a,d,h,f=>by
  refine K2 e b a _ (λp c=>?_) (λp c=>f p (fH _ c));replace c:p∈kg d _ q.2:=c;unfold kg at c;split at c
  ·exact h p c
  ·rcases List.mem_append.mp c with z|z
   ·exact h p z
   ·rw[List.mem_singleton.mp z];exact f q fN
structure Rep(b:Nat)(cols:List Str)(rows:List f7)(S:(Str->Int)->Prop):Prop where
 cn:cols.Nodup
 ck:∀x∈cols,gH x=true
 cl:cols.length<=100
 rn:(bf rows).Nodup
 mem:∀r,r∈bf rows↔∃σ,S σ/\r=cols.map σ
 vb:∀p∈rows,p.2.length<=b
def Rep.len{b:Nat}{c:List Str}{a:List f7}{S:(Str->Int)->Prop}(R:Rep b c a S){p:f7}(h:p∈a):p.1.length=c.length:=by
 obtain⟨σ,_,e⟩:=(R.mem p.1).mp (List.mem_map.mpr ⟨p,h,rfl⟩);rw[e,fF]
def l9{a xs:List Str}{σ:Str->Int}(h:∀x∈xs,x∈a):pick (a.map σ) (xs.map a.idxOf)=xs.map σ:=by
 unfold pick;rw[hV];refine iA λx b=>?_;show(a.map σ).getD _ 0=σ x;rw[gW,gO,gF (jW (h x b))];simp
def vm(n:Nat){b:Nat}{a:List Str}{c:List f7}{S:(Str->Int)->Prop}{names:List Str}(R:Rep b a c S)(I:∀x∈names,gH x=true)(Q:names.length<=1000)(O:c.length<=10000):
  ∃d,Rep b (a.filter λx=>decide (x∈names)) d S/\d.length<=c.length/\ab (tab (n+2)) ko [fy a c,cg names]=.ok (fy (a.filter λx=>decide (x∈names)) d):=by
 have L:=R.cl;have C:a7 (ij (fm xs.cls "columns" (aa 0))) [1] (g2 ot (aa 0) (aa 1)) _ [.pu (fy a c),.bo (cg names),.no,.no,.no,.no,.no]=.ok (.lst ((a.filter λx=>decide _).map Pu.D.str)):=
  gr (b:=λx=>decide (x∈names)) (by simp[cg]) (by lia) λx m=>by
   have e:=(sj I (R.ck x m)).1;simp[cf,e]
 have v:∀x∈a.filter λx=>decide (x∈names),gH x=true:=λx m=>R.ck x (List.mem_filter.mp m).1;have g:=GQ v R.ck;rw[Na]
 by_cases o:(a.filter λx=>decide (x∈names))=a
 ·refine⟨c,by rwa [o],fQ _,?_⟩;rw[decide_eq_true o,o]at g;simp[xt,C,g,o]
 ·rw[decide_eq_false o]at g;have f:∀x∈a.filter λx=>decide (x∈names),x∈a:=λx m=>(List.mem_filter.mp m).1;have J:(a.filter λx=>decide (x∈names)).length<=a.length:=iW ..;generalize B:(a.filter λx=>decide (x∈names))=u at *;have z:∀p∈c,∀q∈u.map a.idxOf,q<p.1.length:=λp H q G=>by
   obtain⟨x,m,rfl⟩:=List.mem_map.mp G;rw[R.len H];exact jW (f x m)
  obtain⟨N,M,e⟩:=Zo _ _ (λy h=>wq n y _ h (by rw[fF];lia)) _ _ _ c [] .no .no z (by simp;lia);refine⟨Fd _ [] c,⟨by rw[<-B];exact R.cn.filter _,v,by lia,Oi _ c [] lQ,λr=>?_,K2 _ b c [] (by simp) R.vb⟩,by simpa using(Zn (u.map a.idxOf) c []),?_⟩
  ·rw[Zh];constructor
   ·rintro (h|⟨E,h,rfl⟩)
    ·simp at h
    ·obtain⟨σ,l,rfl⟩:=(R.mem E).mp h;exact⟨σ,l,l9 f⟩
   ·rintro ⟨σ,l,rfl⟩
    exact .inr ⟨a.map σ,(R.mem _).mpr ⟨σ,l,rfl⟩,(l9 f).symm⟩
  ·unfold QK at e;have A:m9 (fm xs.cls "rows" (aa 0)) [.pu (fy a c),.bo (cg names),.ow (u.map Pu.D.str),.pu (.lst (cv (u.map a.idxOf))),.od true (([]).map wx),.no,.no]=.ok (c.map λp=>Dj (wx p)):=by simp
   have j:=(c6 A).trans e;simp only[lA]at j;simp[xt,C,g,(nj n R.ck (by lia) f (by lia)),ou,j,(B2 u _)]
abbrev Iw:=List (List Int×List (List Int))
def gD(q:List Int×List (List Int)):Pu.D×List Pu.D:=(tI q.1,q.2.map tI)
def Dd(k r:List Int):Iw->Iw
 |[]=>[(k,[r])]
 |(a,l)::gs=>if a=k then(a,l++[r])::gs else(a,l)::Dd k r gs
def An:Iw->List Int->List (List Int)
 |[],_=>[]
 |(a,l)::gs,k=>if a=k then l else An gs k
def QL(k r b:List Int):∀gs:Iw,An (Dd k r gs) b=if k=b then An gs b++[r]else An gs b:=by
 intro a;induction a with
 |nil=>
  unfold Dd An
  by_cases h:k=b<;>simp[h,An]
 |cons a gs e=>
  obtain⟨d,l⟩:=a;unfold Dd
  by_cases h:d=k
  ·subst h
   by_cases c:d=b<;>simp[An,c]
  ·rw[fJ h];unfold An;rw[e]
   by_cases c:d=b
   ·rw[fM c,fM c,fJ (λz=>h (c.trans z.symm))]
   ·rw[fJ c,fJ c]
def T4(k r:List Int):∀gs:Iw,E8 bu kT (rK k) (tI r) (gs.map gD)=(Dd k r gs).map gD:=by
 intro a;induction a with
 |nil=>
  show[_]=[(tI k,[tI r])];rw[Qr]
 |cons a gs b=>
  obtain⟨c,l⟩:=a;show(if bu _=some _ then _::gs.map gD else _::E8 bu kT _ _ _)=_;unfold Dd
  by_cases h:c=k
  ·rw[fM (ff.mpr h),fM h];simp[gD]
  ·rw[fJ λz=>h (ff.mp z),fJ h,b];rfl
def UX(gs:Iw):Nat:=(gs.map λq=>q.2.length).sum
def UV(k r:List Int):∀gs:Iw,UX (Dd k r gs)=UX gs+1/\(Dd k r gs).length<=gs.length+1:=by
 intro a;induction a with
 |nil=>simp[Dd,UX]
 |cons _ gs b=>
  obtain⟨c,d⟩:=b;unfold Dd;unfold UX at c⊢;split
  ·simp;lia
  ·simp[c];lia
def Y6(k:List Int):∀gs:Iw,(jf ((gs.map gD).map λq=>(q.1,Pu.D.lst q.2)) (rK k)).getD (.lst [])=.lst ((An gs k).map tI):=by
 intro a;induction a with
 |nil=>exact rfl
 |cons a gs b=>
  obtain⟨c,l⟩:=a;show(if bu (tI c)=some _ then some _ else jf _ _).getD _=_;unfold An
  by_cases h:c=k
  ·rw[fM (ff.mpr h),fM h];rfl
  ·rw[fJ λz=>h (ff.mp z),fJ h,b]
def Yg(v u:En->Res)(c:List Nat)(j g f e:Sl):∀(b:List (List Int))(d:Sl)(gs:Iw),(∀r∈b,v [j,g,f,e,.pu (tI r)]=.ok (tI (pick r c))/\u [j,g,f,e,.pu (tI r)]=.ok (tI r))->gs.length+b.length<=100000->UX gs+b.length<=100000->
  ∃m a,EE bu kT 4 v u (b.map tI) [j,g,f,e,d] (gs.map gD)=some ([j,g,f,e,m],a.map gD)/\∀k,An a k=An gs k++b.filter λr=>decide (pick r c=k):=by
 intro l;induction l with
 |nil=>rintro d gs _ _ _;exact⟨d,gs,rfl,λk=>by simp⟩
 |cons r b n=>
  rintro d gs h E C
  rw[fI]at E C;obtain⟨J,I⟩:=UV (pick r c) r gs;obtain⟨H,G⟩:=h r fN;obtain⟨m,a,z,y⟩:=n _ (Dd (pick r c) r gs) (λx A=>h x (fH _ A)) (by lia) (by lia);refine⟨m,a,?_,λk=>?_⟩
  ·rw[fL];unfold EE;simp only[nH,nI];rw[H,G];dsimp only;rw[ku];dsimp only;have B:(((gs.map gD).map λp=>p.2.length).sum)=UX gs:=by
    rw[hV]
    congr 1
    exact iA λq _=>by simp[gD]
   rw[fM (by rw[B,fF,iT];lia),T4,z]
  ·rw[y,QL,nB]
   by_cases o:pick r c=k
   ·simp[o]
   ·simp[o]
def Ez(n:Nat){b:Nat}{d a:List Str}{c:List f7}{S:(Str->Int)->Prop}(R:Rep b d c S)(l:∀x∈a,x∈d)(y:a.length<=1000)(f:c.length<=10000):
  ∃gs:Iw,ab (tab (n+2)) ip [fy d c,cg a]=.ok (.hZ true ((gs.map gD).map λq=>(q.1,.lst q.2)))/\∀k,An gs k=(bf c).filter λr=>decide (pick r (a.map d.idxOf)=k):=by
 have z:=R.cl;have h:∀r∈bf c,∀q∈a.map d.idxOf,q<r.length:=λr f q u=>by
  obtain⟨p,v,rfl⟩:=List.mem_map.mp f;obtain⟨x,o,rfl⟩:=List.mem_map.mp u;rw[R.len v];exact jW (l x o)
 have g:=λr f=>wq n r _ (h r f) (by rw[fF];lia);obtain⟨A,gs,j,m⟩:=Yg (af (ab (tab (n+1)) ly) (Pu.au (aa 4) (Pu.au (aa 2) ae))) (bp 4) (a.map d.idxOf) _ _ (.pu (.lst (cv (a.map d.idxOf)))) .no _ .no [] (λr f=>by
  have:=g r f;simp[this]) (by simp;lia) (by simp[UX];lia)
 refine⟨gs,?_,λk=>by rw[m];simp[An]⟩;rw[y6];have e:c.map ((λx=>x.fst) ∘ wx)=(bf c).map tI:=by
  rw[hV];rfl
 rw[lA]at j;simp[o7,(nj n R.ck (by lia) l y),ou,Vr,Ge];rw[e,j];simp
def Vv(n:Nat){a c:List Str}{r1 r2:List f7}(g:∀x∈a,gH x=true)(f:∀x∈c,gH x=true)(h:a.length<=1000):
  ab (tab (n+1)) i9 [fy a r1,fy c r2]=.ok (cg (a.filter λx=>decide (x∈c))):=by
 have e:a7 (ij (fm xs.cls "columns" (aa 0))) [1] (g2 ot (aa 0) (fm xs.cls "columns" (aa 1))) _ [.bo (fy a r1),.bo (fy c r2)]=.ok (.lst ((a.filter λx=>decide _).map Pu.D.str)):=
  gr (b:=λx=>decide (x∈c)) (by simp) (by lia) λx d=>by
   simp[cf,((sj (l:=c) (x:=x) f (g x d)).1)]
 show de (kh n [.bo (fy a r1),.bo _])=_;unfold kh;rw[EX,e];rfl
def xb:List f7->List Int->List Pu.D
 |[],_=>[]
 |p::a,r=>if p.1=r then p.2 else xb a r
def Y9{r:List Int}:∀{a:List f7},r∈bf a->jf (a.map wx) (rK r)=some (.tup (xb a r)):=by
 intro b;induction b with
 |nil=>rintro h;simp at h
 |cons p a c=>
  rintro h
  show(if bu _=some _ then some _ else jf _ _)=_;unfold xb
  by_cases e:p.1=r
  ·rw[fM (ff.mpr e),fM e]
  ·rw[fJ λz=>e (ff.mp z),fJ e];refine c ?_;simp only[bf,fL,iK]at h;exact h.resolve_left λz=>e z.symm
def EU{b:Nat}{r:List Int}:∀{c:List f7},(∀p∈c,p.2.length<=b)->(xb c r).length<=b:=by
 intro a;induction a with
 |nil=>rintro _;simp[xb]
 |cons p c d=>
  rintro h
  unfold xb;split
  ·exact h p fN
  ·exact d λq e=>h q (fH _ e)
def aY(f:List Pu.D->Res):En->Out:=(tj (j3 12 (af f (Pu.au (g2 a6 (aa 13) (aa 15)) (Pu.au (aa 9) ae))) (g2 a6 (aa 14) (g2 ao (fm xs.cls "rows" (aa 5)) (aa 15)))))
def bC(f:List Pu.D->Res):En->Out:=(di (az 15) (aj (va (aa 11) (af f (Pu.au (aa 13) (Pu.au (aa 10) ae))) (cq ae))) (aY f))
def jE(n m l j h:Sl)(u:List Str)(p:List f7)(g f e:Sl)(r d:List Nat)(gs:Iw)(o:List f7)(c b a:Sl):En:=
 [n,m,l,j,h,.pu (fy u p),g,f,e,.pu (.lst (cv r)),.pu (.lst (cv d)),.pu (.hZ true ((gs.map gD).map λq=>(q.1,.lst q.2))),.od true (o.map wx),c,b,a]
def T2(d:List Nat)(c:List f7)(p:f7)(b:List f7)(l:List (List Int)):List f7:=l.foldl (λa r=>kg a (pick (p.1++r) d) (p.2++xb c r)) b
def NB{a b:List Int}(h:a.length+b.length<=1000):a6 (tI a) (tI b)=some (tI (a++b)):=by
 show(if(a.map Pu.D.int).length+(b.map Pu.D.int).length<=fR then some _ else none)=_;rw[fM (by rw[fF,fF,iT];lia),<-jK];rfl
def FY{a b:List Pu.D}(h:a.length+b.length<=1000):a6 (.tup a) (.tup b)=some (.tup (a++b)):=fM (by rw[iT];lia)
def Qm(c:List Nat)(b:List f7)(p:f7):∀(l:List (List Int))(a:List f7),(T2 c b p a l).length<=a.length+l.length:=by
 intro d;induction d with
 |nil=>rintro a;simp[T2]
 |cons r l e=>
  rintro a
  have g:=e (kg a (pick (p.1++r) c) (p.2++xb b r));have f:=uj a (pick (p.1++r) c) (p.2++xb b r);show(T2 c b p (kg a _ _) l).length<=_;rw[fI]
  lia
def IU(c:List Nat)(e:List f7)(p:f7)(x:List Int):∀(l:List (List Int))(a:List f7),x∈bf (T2 c e p a l)↔x∈bf a\/∃r∈l,x=pick (p.1++r) c:=by
 intro b;induction b with
 |nil=>rintro a;simp[T2]
 |cons r l d=>
  rintro a
  show x∈bf (T2 c e p _ l)↔_;rw[d,Du];simp only[iK,exists_eq_or_imp,or_assoc]
def T3(e:List Nat)(d:List f7)(p:f7):∀(l:List (List Int))(a:List f7),(bf a).Nodup->(bf (T2 e d p a l)).Nodup:=by
 intro b;induction b with
 |nil=>rintro a h;exact h
 |cons r l c=>rintro a h;exact c _ (xr h)
theorem Qn(e:List Nat)(d:List f7)(p:f7)(b:Nat)(f:∀r,(p.2++xb d r).length<=b):∀(l:List (List Int))(c:List f7),(∀q∈c,q.2.length<=b)->∀q∈T2 e d p c l,q.2.length<=b
 |[],c,h=>h
 |r::l,c,h=>by
  refine Qn e d p b f l _ λq a=>?_;replace a:q∈kg c _ _:=a;unfold kg at a;split at a
  ·exact h q a
  ·rcases List.mem_append.mp a with z|z
   ·exact h q z
   ·rw[List.mem_singleton.mp z];exact f r
def GA(f:List Pu.D->Res)(m:Nat)(E C B A z:Sl)(G:List Str)(c:List f7)(y x v:Sl)(d g:List Nat)(gs:Iw)(p:f7)(hp:p.1.length<=100)(M:p.2.length<=400)(J:∀q∈c,q.2.length<=400)
  (Q:∀u:List Int,u.length=m->f [tI u,.lst (cv d)]=.ok (tI (pick u d))):∀(l:List (List Int))(j:List f7)(n:Sl),(∀r∈l,r∈bf c/\r.length<=100/\(p.1++r).length=m)->j.length+l.length<=100000->
  ∃o,turns (az 15) (aY f) (l.map tI) (jE E C B A z G c y x v d g gs j (.pu (tI p.1)) (.pu (.tup p.2)) n)=.nx (jE E C B A z G c y x v d g gs (T2 d c p j l) (.pu (tI p.1)) (.pu (.tup p.2)) o):=by
 intro H;induction H with
 |nil=>rintro j n _ _;exact⟨n,rfl⟩
 |cons r l I=>
  rintro j n h O
  rw[fI]at O;have N:=uj j (pick (p.1++r) d) (p.2++xb c r);obtain⟨o,e⟩:=I (kg j (pick (p.1++r) d) (p.2++xb c r)) _ (λq L=>h q (fH _ L)) (by lia);refine⟨o,?_⟩;obtain⟨g1,g2,U⟩:=h r fN;rw[fL,bc (δ1:=jE E C B A z G c y x v d g gs j _ _ _) rfl];have T:aY f (jE E C B A z G c y x v d g gs j (.pu (tI p.1)) (.pu (.tup p.2)) (.pu (tI r)))=.nx (jE E C B A z G c y x v d g gs (kg j (pick (p.1++r) d) (p.2++xb c r)) (.pu (tI p.1)) (.pu (.tup p.2)) (.pu (tI r))):=by
   have Y:ao (.hZ true (c.map wx)) (tI r)=some (.tup (xb c r)):=by
    show(bu _).bind _=_;rw[ku];exact Y9 g1
   exact YW rfl (by simp[jE,(Q _ U),(NB (a:=p.1) (b:=r) (by lia))]) (by simp[jE,Y,(FY (a:=p.2) (b:=xb c r) (by have:=EU (r:=r) J;lia))]) (by lia)
  rwa [T]
def AW(f c:List Nat)(e:List f7)(gs:Iw)(d b:List f7):List f7:=b.foldl (λa p=>T2 f e p a (An gs (pick p.1 c))) d
def IT(e b:List Nat)(g:List f7)(gs:Iw)(x:List Int):∀(a c:List f7),x∈bf (AW e b g gs c a)↔x∈bf c\/∃p∈bf a,∃r∈An gs (pick p b),x=pick (p++r) e:=by
 intro d;induction d with
 |nil=>rintro c;simp[AW]
 |cons p a f=>
  rintro c
  show x∈bf (AW e b g gs _ a)↔_;rw[f,IU];simp only[bf,fL,iK,exists_eq_or_imp,or_assoc]
def U8(g d:List Nat)(f:List f7)(gs:Iw):∀(a b:List f7),(bf b).Nodup->(bf (AW g d f gs b a)).Nodup:=by
 intro c;induction c with
 |nil=>rintro b h;exact h
 |cons p a e=>rintro b h;exact e _ (T3 g f p _ _ h)
theorem Q6(f c:List Nat)(e:List f7)(gs:Iw)(b:Nat):∀(a d:List f7),(∀p∈a,∀r,(p.2++xb e r).length<=b)->(∀q∈d,q.2.length<=b)->∀q∈AW f c e gs d a,q.2.length<=b
 |[],d,_,h=>h
 |p::a,d,g,h=>Q6 f c e gs b a _ (λq j=>g q (fH _ j)) (Qn f e p b (g p fN) _ _ h)
def JX(e b:List Nat)(d:List f7)(gs:Iw)(k:Nat)(h:∀q,(An gs q).length<=k):∀(a c:List f7),(AW e b d gs c a).length<=c.length+a.length * k:=by
 intro f;induction f with
 |nil=>rintro c;simp[AW]
 |cons p a g=>
  rintro c
  have m:=g (T2 e d p c (An gs (pick p.1 b)));have l:=Qm e d p (An gs (pick p.1 b)) c;have j:=h (pick p.1 b);show(AW e b d gs (T2 e d p c _) a).length<=_;rw[fI,uM,uN]
  lia
def JW(f:List Pu.D->Res)(m O k:Nat)(L J I H G:Sl)(M:List Str)(o:List f7)(E C B:Sl)(u d:List Nat)(gs:Iw)(U:∀q∈o,q.2.length<=400)
  (hf:∀l:List Int,l.length=m->f [tI l,.lst (cv u)]=.ok (tI (pick l u)))(Y:∀l:List Int,l.length=O->f [tI l,.lst (cv d)]=.ok (tI (pick l d)))(hm:O<=100)
  (hg:∀q,∀r∈An gs q,r∈bf o/\r.length<=100/\O+r.length=m) (hk:∀q,(An gs q).length<=k):∀(j n:List f7)(x v g:Sl),(∀p∈j,p.1.length=O/\p.2.length<=400)->n.length+j.length * k<=100000->
  ∃A z y,turns (xh [13,14]) (bC f) (j.map λp=>Dj (wx p)) (jE L J I H G M o E C B u d gs n x v g)=.nx (jE L J I H G M o E C B u d gs (AW u d o gs n j) A z y):=by
 intro Q;induction Q with
 |nil=>rintro n x v g _ _;exact⟨x,v,g,rfl⟩
 |cons p j T=>
  rintro n x v g h hl
  rw[fI,uM,uN]at hl;have h2:=Qm u o p (An gs (pick p.1 d)) n;have h3:=hk (pick p.1 d);obtain⟨g1,g2⟩:=h p fN;obtain⟨y,e1⟩:=GA f m L J I H G M o E C B u d gs p (by lia) g2 U hf (An gs (pick p.1 d)) n g (λr hr=>by
   obtain⟨a,b,c⟩:=hg _ r hr;exact⟨a,b,by rwa [gI,g1]⟩) (by lia)
  obtain⟨A,z,N,e⟩:=T (T2 u o p n (An gs (pick p.1 d))) _ _ y (λq hq=>h q (fH _ hq)) (by lia);refine⟨A,z,N,?_⟩;rw[fL,bc (δ1:=jE L J I H G M o E C B u d gs n (.pu (tI p.1)) (.pu (.tup p.2)) g) rfl];have hw:aj (va (aa 11) (af f (Pu.au (aa 13) (Pu.au (aa 10) ae))) (cq ae)) (jE L J I H G M o E C B u d gs n (.pu (tI p.1)) (.pu (.tup p.2)) g)=.ok ((An gs (pick p.1 d)).map tI):=by
   have q4:va (aa 11) (af f (Pu.au (aa 13) (Pu.au (aa 10) ae))) (cq ae) (jE L J I H G M o E C B u d gs n (.pu (tI p.1)) (.pu (.tup p.2)) g)=.ok (.lst ((An gs (pick p.1 d)).map tI)):=by
    rw[<-(Y6 _ gs)];simp[jE,(Y p.1 g1),(ku _)]
   unfold aj;rw[q4];rfl
  unfold bC;rwa [c6 hw,e1]
def Wn(V:List Str)(S:(Str->Int)->Prop):Prop:=∀σ τ:Str->Int,(∀x∈V,σ x=τ x)->S σ->S τ
def Cg{a b:List Str}(h:a.length+b.length<=10000):a6 (cg a) (cg b)=some (cg (a++b)):=by
 show(if(a.map Pu.D.str).length+(b.map Pu.D.str).length<=fR then some _ else none)=_;rw[fM (by rw[fF,fF,iT];lia),<-jK]
def Da(σ:Str->Int)(l:List Str)(x:Str)(h:x∈l):(l.map σ).getD (l.idxOf x) 0=σ x:=by
 rw[gW,gO,gF (jW h)];simp
def Lf{c d e:List Str}{b a σ:Str->Int}(m:∀x∈e,x∈c->σ x=b x)(l:∀x∈e,x∉c->x∈d/\σ x=a x):pick (c.map b++d.map a) (e.map (c++d).idxOf)=e.map σ:=by
 unfold pick;rw[hV];refine iA λx f=>?_;show(c.map b++d.map a).getD ((c++d).idxOf x) 0=σ x;rw[List.idxOf_append]
 by_cases h:x∈c
 ·rw[fM h,m x f h,<-Da b c x h];rw[gW,jB (by rw[fF];exact(jW h)),gW]
 ·obtain⟨j,g⟩:=l x f h;rw[fJ h,g,<-Da a d x j];rw[gW,iY (by rw[fF];lia),gW,fF]
  congr 2
  lia
def Ub(n:Nat){b1 b2:Nat}{u v wd:List Str}{r1 Y:List f7}{S1 S2:(Str->Int)->Prop}{V1 V2:List Str}(R1:Rep b1 u r1 S1)(R2:Rep b2 v Y S2)(hw:∀x∈wd,gH x=true)(hwl:wd.length<=500)
  (d1:Wn V1 S1)(d2:Wn V2 S2)(s1:∀x∈u,x∈V1)(s2:∀x∈v,x∈V2)(hv:∀x∈V1,x∈V2->x∈u/\x∈v)(hc:u.length+v.length<=100)(hb1:b1<=200)(hb2:b2<=200)(l1:r1.length<=10000)(l2:Y.length<=10000)(l12:r1.length * Y.length<=100000):
  ∃c C,Rep (b1+b2) c C (λσ=>S1 σ/\S2 σ)/\C.length<=r1.length * Y.length/\(∀x,x∈c↔x∈wd/\(x∈u\/x∈v))/\c.length<=u.length+v.length/\ab (tab (n+3)) nu [fy u r1,fy v Y,cg wd]=.ok (fy c C):=by
 have θ:=Vv (n+1) (r1:=r1) (r2:=Y) R1.ck R2.ck (by lia);generalize M:(u.filter λx=>decide (x∈v))=f at θ;have o:∀x,x∈f↔x∈u/\x∈v:=λx=>by rw[<-M];simp
 have lsh:f.length<=u.length:=by rw[<-M];exact iW ..
 have κ:∀x∈wd++f,gH x=true:=λx d=>by
  rcases List.mem_append.mp d with z|z
  ·exact hw x z
  ·exact R1.ck x ((o x).mp z).1
 have ι:(wd++f).length<=1000:=by rw[gI];lia
 obtain⟨T,J,l4,e4⟩:=vm n R1 κ ι l1;obtain⟨L,G,l5,e5⟩:=vm n R2 κ ι l2;have m4:∀x,x∈(u.filter λx=>decide (x∈wd++f))↔x∈u/\(x∈wd\/x∈f):=λx=>by simp
 have m5:∀x,x∈(v.filter λx=>decide (x∈wd++f))↔x∈v/\(x∈wd\/x∈f):=λx=>by simp
 have lc4:(u.filter λx=>decide (x∈wd++f)).length<=u.length:=iW ..;have lc5:(v.filter λx=>decide (x∈wd++f)).length<=v.length:=iW ..;generalize (u.filter λx=>decide (x∈wd++f))=j at *;generalize (v.filter λx=>decide (x∈wd++f))=g at *;have γ:=Cg (a:=j) (b:=g.filter λx=> !decide (x∈f)) (by
  have:(g.filter λx=> !decide (x∈f)).length<=g.length:=iW ..
  lia)
 have lc7:(j++g.filter λx=> !decide (x∈f)).length<=j.length+g.length:=by
  rw[gI];have:(g.filter λx=> !decide (x∈f)).length<=g.length:=iW ..
  lia
 have m7:∀x,x∈(j++g.filter λx=> !decide (x∈f))↔x∈j\/(x∈g/\x∉f):=λx=>by simp
 have Δ:(j++g.filter λx=> !decide (x∈f)).Nodup:=List.nodup_append.mpr ⟨J.cn,G.cn.filter _,λa ha b hb e=>by
  subst e;obtain⟨q1,q2⟩:=List.mem_filter.mp hb;have:=(o a).mpr ⟨((m4 a).mp ha).1,((m5 a).mp q1).1⟩;simp[this]at q2⟩
 generalize hc7:(j++g.filter λx=> !decide (x∈f))=I at *;have m8:∀x,x∈(I.filter λx=>decide (x∈wd))↔x∈wd/\(x∈u\/x∈v):=λx=>by
  rw[oP,m7,m4,m5,decide_eq_true_eq];constructor
  ·rintro ⟨(⟨a,_⟩|⟨⟨a,_⟩,_⟩),b⟩
   ·exact⟨b,.inl a⟩
   ·exact⟨b,.inr a⟩
  ·rintro ⟨b,a|a⟩
   ·exact⟨.inl ⟨a,.inl b⟩,b⟩
   ·by_cases q:x∈f
    ·exact⟨.inl ⟨((o x).mp q).1,.inl b⟩,b⟩
    ·exact⟨.inr ⟨⟨a,.inl b⟩,q⟩,b⟩
 have m:∀x∈(I.filter λx=>decide (x∈wd)),x∈j++g:=λx d=>by
  rcases(m7 x).mp (List.mem_filter.mp d).1 with z|z
  ·exact List.mem_append.mpr (.inl z)
  ·exact List.mem_append.mpr (.inr z.1)
 have Γ:=Δ.filter λx=>decide (x∈wd);have lc8:(I.filter λx=>decide (x∈wd)).length<=I.length:=iW ..;have Ψ:∀x∈I,gH x=true:=λx d=>by
  rcases(m7 x).mp d with z|z
  ·exact J.ck x z
  ·exact G.ck x z.1
 have υ:∀x∈j++g,gH x=true:=λx d=>by
  rcases List.mem_append.mp d with z|z
  ·exact J.ck x z
  ·exact G.ck x z
 have ρ:∀U:En,U[2]?=some (.bo (cg wd))->U[7]?=some (.pu (cg I))->a7 (aj (aa 7)) [2] (g2 ot (aa 0) (aa 1)) _ U=.ok (.lst ((I.filter λx=>decide _).map Pu.D.str)):=λU e2 e7=>
  gr (b:=λx=>decide (x∈wd)) (by simp[e7]) (by lia) λx d=>by
   have e:=(sj (x:=x) hw (Ψ x d)).1;simp[cf,e2,e]
 have τ:∀U:En,U[3]?=some (.pu (cg f))->U[5]?=some (.pu (fy g L))->a7 (ij (fm xs.cls "columns" (aa 5))) [3] (g2 bw (aa 0) (aa 1)) _ U=.ok (.lst ((g.filter λx=> !decide _).map Pu.D.str)):=λU e3 e5=>
  gr (b:=λx=> !decide (x∈f)) (by simp[e5]) (by lia) λx d=>by
   have e:=(sj (x:=x) (λx d=>R1.ck x ((o x).mp d).1) (G.ck x d)).2;simp[cf,e3,e]
 have l:∀x∈f,x∈j:=λx d=>(m4 x).mpr ⟨((o x).mp d).1,.inr d⟩;have y:∀x∈f,x∈g:=λx d=>(m5 x).mpr ⟨((o x).mp d).2,.inr d⟩;obtain⟨gs,ξ,H⟩:=Ez n G y (by lia) (by lia);generalize hc8:(I.filter λx=>decide (x∈wd))=c8 at *;have μ:∀q∈c8.map (j++g).idxOf,q<j.length+g.length:=λq B=>by
  obtain⟨x,d,rfl⟩:=List.mem_map.mp B;have:=jW (m x d);rwa [gI]at this
 have β:∀q∈f.map j.idxOf,q<j.length:=λq B=>by
  obtain⟨x,d,rfl⟩:=List.mem_map.mp B;exact jW (l x d)
 have O:∀q,(An gs q).length<=L.length:=λq=>by
  rw[H];exact iU (iW ..) (by simp[bf])
 have hll:=Nat.mul_le_mul l4 l5;obtain⟨w13,w14,w15,e⟩:=JW _ _ j.length L.length (.pu (fy u r1)) (.pu (fy v Y)) (.bo (cg wd)) (.pu (cg f)) (.pu (fy j T)) g L (.pu (cg (j++g))) (.pu (cg I)) (.ow (c8.map Pu.D.str)) _ _ gs
  (λq B=>iU (G.vb q B) (by lia))
  (λQ E=>wq _ Q _ (λq B=>by rw[E];exact μ q B) (by rw[fF];lia))
  (λQ E=>wq (n+1) Q _ (λq B=>by rw[E];exact β q B) (by rw[fF];lia)) (by lia)
  (λq r hr=>by
   rw[H]at hr;have hk:=(List.mem_filter.mp hr).1;obtain⟨p,N,rfl⟩:=List.mem_map.mp hk;have:=G.len N;exact⟨hk,by lia,by lia⟩) O T [] .no .no .no (λp N=>⟨J.len N,iU (J.vb p N) (by lia)⟩) (by simp;lia)
 have ν:=JX (c8.map (j++g).idxOf) (f.map j.idxOf) L gs L.length O T [];refine⟨c8,AW (c8.map (j++g).idxOf) (f.map j.idxOf) L gs [] T,⟨Γ,λx d=>υ x (m x d),by lia,U8 _ _ _ _ T [] lQ,λr=>?_,?_⟩,by simp at ν;lia,m8,by lia,?_⟩
 ·rw[IT];constructor
  ·rintro (h|⟨p,N,q,B,rfl⟩)
   ·simp at h
   ·rw[H,oP,decide_eq_true_eq]at B;obtain⟨η,g1,rfl⟩:=(J.mem p).mp N;obtain⟨ζ,g2,rfl⟩:=(G.mem q).mp B.1;have ha:=B.2;rw[l9 y,l9 l]at ha;refine⟨λx=>if x∈V1 then η x else ζ x,⟨d1 η _ (λx d=>by simp[d]) g1,d2 ζ _ (λx d=>?_) g2⟩,?_⟩
    ·by_cases h:x∈V1
     ·simp[h];exact(λx d=>List.map_inj_left.mp ha x d) x ((o x).mpr (hv x h d))
     ·simp[h]
    ·refine Lf (λx d h=>?_) λx d h=>?_
     ·have:=s1 x ((m4 x).mp h).1;simp[this]
     ·have h5:=(List.mem_append.mp (m x d)).resolve_left h;refine⟨h5,?_⟩;have:x∉V1:=λz=>h (l x ((o x).mpr (hv x z (s2 x ((m5 x).mp h5).1))));simp[this]
  ·rintro ⟨σ,⟨g1,g2⟩,rfl⟩
   refine .inr ⟨j.map σ,(J.mem _).mpr ⟨σ,g1,rfl⟩,g.map σ,?_,(Lf (λ_ _ _=>rfl) λx d h=>⟨(List.mem_append.mp (m x d)).resolve_left h,rfl⟩).symm⟩;rw[H,oP,decide_eq_true_eq,l9 y,l9 l];exact⟨(G.mem _).mpr ⟨σ,g2,rfl⟩,rfl⟩
 ·refine Q6 _ _ _ _ _ T [] (λp N r=>?_) (by simp);rw[gI];exact Nat.add_le_add (J.vb p N) (EU G.vb)
 ·rw[Xu];unfold jE bC aY at e;simp only[lA]at e;have A:=λΞ=>(c6 (r:=m9 (fm xs.cls "rows" (aa 4))) Ξ).trans e;replace A:=A (by simp);simp[Jh,θ,(Cg (a:=wd) (b:=f) (by lia)),e4,e5,(Cg (a:=j) (b:=g) (by lia))];rw[τ _ rfl rfl];simp[γ];rw[ρ _ rfl rfl];simp only[hV]at ξ A;simp[(nj (n+1) υ (by rw[gI];lia) m (by lia)),(nj (n+1) J.ck (by lia) l (by lia)),ξ,ou,A,(B2 c8 (AW (c8.map (j++g).idxOf) (f.map j.idxOf) L gs [] T))]
end LK
end
section
set_option genInjectivity true
namespace LK
open PySem PySem.Spec PyProof.Rows Pu
structure FT where
 c:List Str
 r:List f7
 S:(Str->Int)->Prop
structure FT.ok(f:FT):Prop where
 rep:Rep 1 f.c f.r f.S
 dep:Wn f.c f.S
 lr:f.r.length<=20
 lc:f.c.length<=4
def FT.D(f:FT):Pu.D:=fy f.c f.r
def fx(fs:List FT):List Str:=fs.flatMap (·.c)
def Et(fs:List FT)(σ:Str->Int):Prop:=∀f∈fs,f.S σ
def Xm(a l:List Pu.D)(d:Pu.D):Xk (a++d::l) (some ((a.length:Int)+1)) none=l:=by
 unfold Xk;rw[HT.CV,show(_+1)=((a.length+1:Nat):Int) by lia,HT.KB];have b:(a++d::l).length=a.length+1+l.length:=by simp;lia
 rw[b,Nat.min_eq_left (by lia)];have:(a++d::l).drop (a.length+1)=l:=by
  simp
 rw[this];exact List.take_of_length_le (by lia)
def N7(m j g d b:Sl):∀(l:List FT)(a:List Str)(n:Sl),a.length+(fx l).length<=10000->
  ∃p,turns (az 6) (qq 5 (fm xs.cls "columns" (aa 6))) (l.map FT.D) [m,j,g,d,b,.ow (a.map Pu.D.str),n]=.nx [m,j,g,d,b,.ow ((a++fx l).map Pu.D.str),p]:=by
 intro o;induction o with
 |nil=>rintro a n _;exact⟨n,by simp[turns,fx]⟩
 |cons f l q=>
  rintro a n h
  have u:(fx (f::l)).length=f.c.length+(fx l).length:=by simp[fx]
  obtain⟨p,e⟩:=q (a++f.c) _ (by rw[gI];lia);refine⟨p,?_⟩;rw[fL,bc (δ1:=[m,j,g,d,b,.ow _,.pu f.D]) rfl];have r:qq 5 (fm xs.cls "columns" (aa 6)) [m,j,g,d,b,.ow (a.map Pu.D.str),.pu f.D]=.nx [m,j,g,d,b,.ow ((a++f.c).map Pu.D.str),.pu f.D]:=by
   have:a.length+f.c.length<=16777216:=by lia
   simp[FT.D,sk,this]
  rw[r];dsimp only;rw[e,show fx (f::l)=f.c++fx l by simp[fx],oT]
def ZD(f:List Pu.D->Res):En->Out:=(ak (b8 5 (g1 fq (aa 1)))
 (ak (di (az 6) (aj (VA (aa 0) (some (g2 a6 (aa 3) (gC (.int 1)))) none)) (qq 5 (fm xs.cls "columns" (aa 6))))
 (fz [2,4] (cz 2 (af f (Pu.au (bp 2) (Pu.au (bp 4) (Pu.au (aa 5) ae))))))))
def RG:∀k,k<=3->20 ^ k<=8000
 |0,_=>by decide
 |1,_=>by decide
 |2,_=>by decide
 |3,_=>by decide
def S6:∀(l:List FT),(∀f∈l,f.ok)->(fx l).length<=4 * l.length:=by
 intro a;induction a with
 |nil=>rintro _;simp[fx]
 |cons f l b=>
  rintro h
  have m:=b λg d=>h g (fH _ d);have j:=(h f fN).lc;have e:(fx (f::l)).length=f.c.length+(fx l).length:=by simp[fx]
  rw[e,fI]
  lia
def FW(n:Nat)(m:List Str)(hw:∀x∈m,gH x=true)(φ:m.length<=200):∀(l d:List FT)(c:List Str)(e:List f7)(O N C r:Sl),(∀f∈d++l,f.ok)->(d++l).length<=3->Rep d.length c e (Et d)->e.length<=20 ^ d.length->c.length<=4 * d.length->(∀x,x∈c↔x∈fx d/\(x∈m\/x∈fx l))->
  ∃v j w3 Y U M,Rep (d++l).length v j (Et (d++l))/\j.length<=20 ^ (d++l).length/\v.length<=4 * (d++l).length/\(∀x,x∈v↔x∈fx (d++l)/\x∈m)/\
   turns (xh [3,4]) (ZD (ab (tab (n+3)) nu)) (ue d.length (l.map FT.D)) [.bo (.lst ((d++l).map FT.D)),.bo (cg m),.pu (fy c e),O,N,C,r]=.nx [.bo (.lst ((d++l).map FT.D)),.bo (cg m),.pu (fy v j),w3,Y,U,M]:=by
 intro Q;induction Q with
 |nil=>
  rintro d c e O N C r _ _ R hr hc H
  rw[jT];exact⟨c,e,O,N,C,r,R,hr,hc,λx=>by rw[H x];simp[fx],rfl⟩
 |cons f l β=>
  rintro d c e O N C r u I R hr hc H
  have E:=u f (by simp);have ψ:d.length+(l.length+1)<=3:=by simpa using I
  have μ:20 ^ d.length<=400:=iU (sA (by decide) (show d.length<=2 by lia)) (by decide);have ω:=S6 l λg B=>u g (by simp[B]);obtain⟨M,el⟩:=N7 _ _ _ _ _ l m r (by lia);have ν:=Nat.mul_le_mul hr E.lr;obtain⟨v,j,R',h1,h2,h3,ej⟩:=Ub n (wd:=m++fx l) R E.rep (λx o=>by
   rcases List.mem_append.mp o with z|z
   ·exact hw x z
   ·obtain⟨g,B,o⟩:=List.mem_flatMap.mp z;exact(u g (by simp[B])).rep.ck x o) (by rw[gI];lia) (λσ τ h g x o=>(u x (by simp[o])).dep σ τ (λy hy=>h y (List.mem_flatMap.mpr ⟨x,o,hy⟩)) (g x o)) E.dep (λx o=>((H x).mp o).1) (λx o=>o) (λx o G=>⟨(H x).mpr ⟨o,.inr (by simp[fx,G])⟩,G⟩) (by have:=E.lc;lia) (by lia) (by decide) (by lia) (by have:=E.lr;lia) (by lia)
  have ea:d++f::l=(d++[f])++l:=by simp
  have R2:Rep (d++[f]).length v j (Et (d++[f])):=by
   have e1:(λσ=>Et d σ/\f.S σ)=Et (d++[f]):=by
    funext σ
    refine propext ⟨λh g B=>?_,λh=>⟨λg B=>h g (by simp[B]),h f (by simp)⟩⟩;rcases List.mem_append.mp B with z|z
    ·exact h.1 g z
    ·rw[List.mem_singleton.mp z];exact h.2
   rw[e1]at R';simpa using R'
  obtain⟨c2,A,w3,Y,U,T,q1,q2,q3,q4,q5⟩:=β _ v j _ _ _ M (by rwa [<-ea]) (by rwa [<-ea]) R2 (by rw[gI,rE,Nat.pow_succ];lia) (by have:=E.lc;simp;lia) (λx=>by
   rw[h2 x,H x];simp only[fx,List.flatMap_append,rA,List.flatMap_nil,lC,jT];constructor
   ·rintro ⟨a,b|b⟩
    ·exact⟨.inl b.1,a⟩
    ·exact⟨.inr b,a⟩
   ·rintro ⟨a|a,b⟩
    ·exact⟨b,.inl ⟨a,b.elim .inl λz=>.inr (.inr z)⟩⟩
    ·exact⟨b,.inr a⟩)
  rw[<-ea]at q1 q2 q3 q4 q5;refine⟨c2,A,w3,Y,U,T,q1,q2,q3,q4,?_⟩;rw[fL,ue,bc (δ1:=[.bo _,.bo _,.pu _,.pu _,.pu f.D,C,r]) rfl];have hb:ZD (ab (tab (n+3)) nu) [.bo (.lst ((d++f::l).map FT.D)),.bo (cg m),.pu (fy c e),.pu (.int d.length),.pu f.D,C,r]=.nx [.bo (.lst ((d++f::l).map FT.D)),.bo (cg m),.pu (fy v j),.pu (.int d.length),.pu f.D,.ow ((m++fx l).map Pu.D.str),M]:=by
   have hw:aj (VA (aa 0) (some (g2 a6 (aa 3) (gC (.int 1)))) none) [.bo (.lst ((d++f::l).map FT.D)),.bo (cg m),.pu (fy c e),.pu (.int d.length),.pu f.D,.ow (m.map Pu.D.str),r]=.ok (l.map FT.D):=by
    have q:=Xm (d.map FT.D) (l.map FT.D) f.D;rw[fF]at q;rw[show d.map FT.D++f.D::l.map FT.D=(d++f::l).map FT.D by simp]at q;have hs:VA (aa 0) (some (g2 a6 (aa 3) (gC (.int 1)))) none [.bo (.lst ((d++f::l).map FT.D)),.bo (cg m),.pu (fy c e),.pu (.int d.length),.pu f.D,.ow (m.map Pu.D.str),r]=.ok (.lst (l.map FT.D)):=by
     show Res.of (some _)=_;rw[q];rfl
    unfold aj;rw[hs];rfl
   have p:=(c6 hw).trans el;have J:ab _ nu [fy c e,f.D,.lst _]=.ok _:=ej;unfold ZD;generalize (m++fx l).map Pu.D.str=W at p J⊢;generalize (d++f::l).map FT.D=L at p⊢;simp[fq,p,J]
  rw[hb];rw[show d.length+1=(d++[f]).length by simp];exact q5
def Ew(n:Nat){b:List Str}{fs:List FT}(v:∀x∈b,gH x=true)(j:b.length<=200)(l:∀f∈fs,f.ok)(p:fs.length<=3):
  ∃c a,Rep fs.length c a (Et fs)/\a.length<=8000/\c.length<=12/\(∀x,x∈c↔x∈fx fs/\x∈b)/\ab (tab (n+4)) mx [.lst (fs.map FT.D),cg b]=.ok (fy c a):=by
 obtain⟨c,a,I,H,G,E,u,C,B,q,o⟩:=FW n b v j fs [] [] [([],[])] .no .no .no .no (by simpa using l) (by simpa using p) (⟨lQ,by simp,by simp,by simp,λr=>⟨λh=>⟨λ_=>0,λ_ z=>(nomatch z),by simpa using h⟩,by rintro ⟨σ,_,e⟩;simpa using e⟩,by simp⟩) (by simp) (by simp) (by simp[fx]);rw[qB]at u C B q o;have J:=RG fs.length p;refine⟨c,a,u,by lia,by lia,q,?_⟩;rw[Hj];unfold ZD at o;have m:Fu (wz 0) [.bo (.lst (fs.map FT.D)),.bo (cg b),.pu (fy [] [([],[])]),.no,.no,.no,.no]=.ok _:=rfl;have d:=(c6 m).trans o;have g:∀U,C8 (js ae) (js ae) U=.ok (.hZ true ([([],[])].map wx)):=λU=>rfl;have y:=B2 [] [([],[])];simp[yp,g];have A:(Pu.D.obj _ [("columns",.lst []),("rows",.hZ true [wx _])])=fy [] [([],[])]:=rfl;rw[A,d];simp
def pD(p:Bool×Int):Pu.D:=.tup [.bl p.1,.int p.2]
def Iz(c a:List Str):Bool×Int:=(((c.filter λx=> !decide (x∈a)).length:Int)==(c.length:Int),((c.filter λx=> !decide (x∈a)).length:Nat))
def FE(n:Nat){c a:List Str}{r:List f7}(g:∀x∈c,gH x=true)(f:∀x∈a,gH x=true)(j:c.length<=1000):ab (tab (n+1)) dj [fy c r,cg a]=.ok (pD (Iz c a)):=by
 rw[C2];have d:a7 (ij (fm xs.cls "columns" (aa 0))) [1] (g2 bw (aa 0) (aa 1)) _ [.bo (fy c r),.bo (cg a),.no,.no]=.ok (.lst ((c.filter λx=> !decide _).map Pu.D.str)):=
  gr (b:=λx=> !decide (x∈a)) (by simp) (by omega) λx e=>by
   simp[cf,((sj (x:=x) f (g x e)).2)]
 have h:(c.filter λx=> !decide (x∈a)).length<=c.length:=iW ..;simp only[uq];unfold Iz;generalize (c.filter λx=> !decide (x∈a))=l at d h⊢;simp[d,(by omega),(by omega),pD]
def U9:∀b:List (Bool×Int),vo (b.map pD)=some b:=by
 intro a;induction a with
 |nil=>exact rfl
 |cons p b c=>
  show(vo _).map _=_;rw[c];rfl
def Mo(c:Nat->Nat->Bool):∀k,sM c k<=k:=by
 intro a;induction a with
 |zero=>exact fQ _
 |succ k b=>
  have:=b;unfold sM;split<;>lia
def Uy{a:List (Bool×Int)}(h:a≠[]):∃p∈a,qp (.lst (a.map pD))=some (pD p):=by
 unfold qp;dsimp only;rw[U9];dsimp only;rw[fJ h];have d:=List.length_pos_iff.mpr h;have c:=Mo (λi j=>WQ (a.getD i (false,0)) (a.getD j (false,0))) (a.length - 1);generalize sM _ _=k at c;have b:k<a.length:=by lia
 exact⟨a[k],nD b,by rw[gO,gF b];rfl⟩
def pP(p:Bool×Int):mT:=.tuple [.bool p.1,.int p.2]
def DM:∀b:List (Bool×Int),b9 (b.map pD)=some (b.map pP):=by
 intro a;induction a with
 |nil=>exact rfl
 |cons p b c=>
  rw[fL];unfold b9;rw[c];rfl
def S4:∀c:List (Bool×Int),gE (c.map pP)=true:=by
 intro a;induction a with
 |nil=>exact rfl
 |cons p c b=>
  show(jC _ && gE _)=true;rw[b];rfl
def PU(p:Bool×Int):iG (pP p) (pP p)=true:=by
 obtain⟨b,i⟩:=p;show((b==b) && ((i==i) && true))=true;simp
def Kc{a:List (Bool×Int)}{p:Bool×Int}(b:p∈a)(f:a.length<=1000):∃j:Nat,j<a.length/\fo (.lst (a.map pD)) (pD p)=some (.int j):=by
 have d:bz (pD p)=some (pP p):=rfl;have c:iB (pP p)=true:=rfl;unfold fo;dsimp only;rw[DM,d];dsimp only;rw[S4,c,decide_eq_true (by rw[fF,iT];lia)];unfold C5;cases e:(a.map pP).findIdx? λy=>iG y _ with
 |none=>
  rw[List.findIdx?_eq_none_iff]at e;have:=e _ (List.mem_map.mpr ⟨p,b,rfl⟩);rw[PU]at this;cases this
 |some j=>
  have:=(List.findIdx?_eq_some_iff_findIdx_eq.mp e).1;rw[fF]at this;exact⟨j,this,rfl⟩
theorem kq{α:Type}:∀(l:List α)(i:Nat)(h:i<l.length),(l[i]::l.eraseIdx i).Perm l
 |[],_,h=>by simp at h
 |a::l,0,_=>by simp
 |a::l,i+1,h=>by
  exact(pE a _ _).trans ((kq l i (by simpa using h)).cons a)
theorem Ft{α β:Type}(f:α->β):∀(l:List α)(i:Nat),(l.map f).eraseIdx i=(l.eraseIdx i).map f
 |[],_=>rfl
 |_::_,0=>rfl
 |a::l,i+1=>by
  show f a::(l.map f).eraseIdx i=f a::(l.eraseIdx i).map f;rw[Ft f l i]
def Yt{fs:List FT}{i:Nat}(h:i<fs.length):ao (.lst (fs.map FT.D)) (.int (i:Int))=some (fs[i]).D:=L2.wa (by rw[gO,gF h];rfl)
def X5{fs:List FT}(u:∀f∈fs,f.ok)(p o n m:Sl):∀(d:List Nat)(b:List Str)(e:Sl),(∀i∈d,i<fs.length)->(∀x∈b,gH x=true)->b.length+4 * d.length<=1000->
  ∃(l:Sl) (a:List Str),(∀x∈a,gH x=true)/\a.length<=b.length+4 * d.length/\J3 3 5 (fm xs.cls "columns" (g2 ao (aa 0) (aa 3))) (cv d) [.bo (.lst (fs.map FT.D)),p,o,e,n,.ow (b.map Pu.D.str),m]=some [.bo (.lst (fs.map FT.D)),p,o,l,n,.ow (a.map Pu.D.str),m]:=by
 intro h;induction h with
 |nil=>rintro b e _ v _;exact⟨e,b,v,by simp,rfl⟩
 |cons i d q=>
  rintro b e C v J
  rw[fI]at J;have A:=C i fN;have B:=u _ (nD A);have M:=B.lc;obtain⟨l,a,G,E,y⟩:=q _ _ (λj H=>C j (fH _ H)) (λx g=>by
   rcases List.mem_append.mp g with z|z
   ·exact v x z
   ·exact B.rep.ck x z) (by rw[gI];lia)
  refine⟨l,a,G,by rw[gI]at E;rw[fI];lia,?_⟩;have g:=Yt A;have r:b.length+(fs[i]).c.length<=fR:=by rw[iT];lia
  show J3 3 5 _ (.int _::cv d) _=_;unfold J3;generalize (fs.map FT.D)=L at g y⊢;simp only[nH,nI];have I:fm xs.cls "columns" (g2 ao (aa 0) (aa 3)) [.bo (.lst L),p,o,.pu (.int i),n,.ow (b.map Pu.D.str),m]=.ok (cg (fs[i]).c):=by
   simp[g,FT.D]
  rw[I];simp only[jQ,jP,sk];rw[fM (by rw[fF,fF];exact r),<-jK];exact y
def WL(f:List Pu.D->Res):En->Out:=(ak (b8 5 (cq ae))
 (ak (xn 2 3 5 (fm xs.cls "columns" (g2 ao (aa 0) (aa 3))) (di (az 3) (aj (wz 2)) (qq 5 (fm xs.cls "columns" (g2 ao (aa 0) (aa 3))))))
 (ak (b8 6 (a7 (aj (aa 4)) [5,0] (gC (.bl true)) (af f (Pu.au (g2 ao (aa 2) (aa 0)) (Pu.au (aa 1) ae)))))
 (ti 2 4 (gM fo (aa 6) (g1 qp (aa 6)))))))
def Ct(fs:List FT)(a:List Str)(i:Nat):Bool×Int:=match fs[i]? with
 |some f=>Iz f.c a
 |none=>(false,0)
def IG(n:Nat){fs:List FT}(q:∀f∈fs,f.ok)(d x M l:Sl){od a:List Nat}(U:∀i∈od,i<fs.length)(E:∀i∈a,i<fs.length)(T:od.length<=100)(hl:a.length<=100)(A:a≠[]):
  ∃e J I,∃j,∃h:j<a.length,WL (ab (tab (n+1)) dj) [.bo (.lst (fs.map FT.D)),d,.ow (cv od),x,.ow (cv a),M,l]=.nx [.bo (.lst (fs.map FT.D)),d,.ow (cv (od++[a[j]])),e,.ow (cv (a.eraseIdx j)),J,I]:=by
 obtain⟨e,b,N,k2,H⟩:=X5 q d _ _ l od [] x U (by simp) (by simp;lia);have g:a7 (aj (aa 4)) [5,0] _ (af (ab (tab (n+1)) dj) (Pu.au (g2 ao (aa 2) (aa 0)) (Pu.au (aa 1) ae))) [.bo (.lst (fs.map FT.D)),d,.ow (cv od),e,.ow (cv a),.ow (b.map Pu.D.str),l]=.ok (.lst (a.map λi=>pD (Ct fs b i))):=
  ir (f:=λ(p:Nat)=>Pu.D.int (p:Int)) (by simp[cv]) (by lia) λi r=>by
   have y:=Yt (E i r);have u:=q _ (nD (E i r));have G:Ct fs b i=Iz (fs[i]'(E i r)).c b:=by unfold Ct;rw[gF]
   rw[G];generalize (fs.map FT.D)=L at y⊢;unfold FT.D at y;simp[cf,y,(FE n u.rep.ck N (by have:=u.lc;lia))]
 have z:(a.map λi=>pD (Ct fs b i))=(a.map (Ct fs b)).map pD:=by rw[hV];rfl
 rw[z]at g;have o:(a.map (Ct fs b)).length=a.length:=fF ..;have m:a.map (Ct fs b)≠[]:=by simpa using A
 generalize a.map _=v at g o m;obtain⟨p,Q,Y⟩:=Uy m;obtain⟨j,B,r⟩:=Kc Q (by lia);rw[o]at B;refine⟨e,.ow (b.map Pu.D.str),.ow (v.map pD),j,B,?_⟩;have hX:Gd 2 3 5 (fm xs.cls "columns" (g2 ao (aa 0) (aa 3))) [.bo (.lst (fs.map FT.D)),d,.ow (cv od),x,.ow (cv a),.ow [],l]=.nx [.bo (.lst (fs.map FT.D)),d,.ow (cv od),e,.ow (cv a),.ow (b.map Pu.D.str),l]:=by
  unfold Gd;simp only[jQ,jP];rw[fM (by decide)];simp only[lA]at H;rw[H]
 have hA:ti 2 4 (gM fo (aa 6) (g1 qp (aa 6))) [.bo (.lst (fs.map FT.D)),d,.ow (cv od),e,.ow (cv a),.ow (b.map Pu.D.str),.ow (v.map pD)]=.nx [.bo (.lst (fs.map FT.D)),d,.ow (cv (od++[a[j]])),e,.ow (cv (a.eraseIdx j)),.ow (b.map Pu.D.str),.ow (v.map pD)]:=by
  have C:gM fo (aa 6) (g1 qp (aa 6)) [.bo (.lst (fs.map FT.D)),d,.ow (cv od),e,.ow (cv a),.ow (b.map Pu.D.str),.ow (v.map pD)]=.ok (.int j):=by
   simp[Y,r]
  unfold ti;rw[C];simp only[jQ,jP];have O:tR (j:Int) (cv a).length=some j:=by
   unfold tR cv;simp
   lia
  rw[O];dsimp only;have hg:(cv a)[j]?=some (.int (a[j]:Nat)):=by
   unfold cv;rw[gO,gF B];rfl
  rw[hg];dsimp only;rw[fM ⟨by decide,by unfold cv;rw[fF,iT];lia,by lia,by lia⟩];simp[cv,Ft]
 simp[WL,hX,g,hA]
def IH(n:Nat){fs:List FT}(C:∀f∈fs,f.ok)(p:Sl):∀(m b:Nat)(od c:List Nat)(l h g:Sl),c.length=m->m<b->(∀i∈od,i<fs.length)->(∀i∈c,i<fs.length)->od.length+c.length<=100->
  ∃d A y x,d.Perm (od++c)/\Ay (jw (aa 4)) (WL (ab (tab (n+1)) dj)) b [.bo (.lst (fs.map FT.D)),p,.ow (cv od),l,.ow (cv c),h,g]=.nx [.bo (.lst (fs.map FT.D)),p,.ow (cv d),A,.ow [],y,x]:=by
 intro v;induction v with
 |zero=>
  rintro b od c l h g q I E u O
  have:=List.length_eq_zero_iff.mp q;subst this;cases b with
  |zero=>lia
  |succ k=>
   refine⟨od,l,h,g,by simp,?_⟩;rfl
 |succ m B=>
  rintro b od c l h g q I E u O
  have o:c≠[]:=λz=>by rw[z]at q;cases q
  obtain⟨A,y,x,j,G,e⟩:=IG n C p l h g E u (by lia) (by lia) o;have T:=List.length_eraseIdx_of_lt G;cases b with
  |zero=>lia
  |succ k=>
   obtain⟨d,M,L,J,Q,U⟩:=B k _ (c.eraseIdx j) A y x (by lia) (by lia) (λi H=>by
    rcases List.mem_append.mp H with z|z
    ·exact E i z
    ·rw[List.mem_singleton.mp z];exact u _ (nD G)) (λi H=>u i (List.mem_of_mem_eraseIdx H)) (by rw[gI,rE];lia)
   refine⟨d,M,L,J,Q.trans ?_,?_⟩
   ·rw[oT];exact(List.Perm.append_left od (kq c j G))
   ·unfold Ay;have N:jw (aa 4) [.bo (.lst (fs.map FT.D)),p,.ow (cv od),l,.ow (cv c),h,g]=.ok (.bl true):=by
     obtain⟨a,r,rfl⟩:=List.exists_cons_of_ne_nil o;rfl
    rw[N];rwa [e]
def AX(n:Nat){fs:List FT}(g:∀f∈fs,f.ok)(v:fs.length<=100):∃od,od.Perm (hJ fs.length)/\ab (tab (n+2)) h9 [.lst (fs.map FT.D),.lst []]=.ok (.lst (cv od)):=by
 have a:∃od o m j,od.Perm ([]++hJ fs.length)/\XD (jw (aa 4)) (WL (ab (tab (n+1)) dj)) [.bo (.lst (fs.map FT.D)),.bo (.lst []),.ow (cv []),.no,.ow (cv (hJ fs.length)),.no,.no]=.nx [.bo (.lst (fs.map FT.D)),.bo (.lst []),.ow (cv od),o,.ow [],m,j]:=by
  have q:fs.length<Me:=by unfold Me;lia
  unfold XD;generalize Me=W at q;exact IH n g _ fs.length W [] _ .no .no .no (by simp) q (by simp) (by simp) (by simp;lia)
 obtain⟨od,o,m,j,u,e⟩:=a;refine⟨od,by simpa using u,?_⟩;show de (mf (n+1) [.bo (.lst (fs.map FT.D)),.bo (.lst []),.no,.no,.no,.no,.no])=_;have d:=j5 [.bo (.lst (fs.map FT.D)),.bo (.lst []),.ow [],.no,.no,.no,.no] (Pu.au (g1 cy (aa 0)) ae) (j':=fs.length) (by
  have:fs.length<=16777216:=by lia
  simp[this]) (by lia)
 rw[iZ]at d;have c:ik 0 fs.length=cv (hJ fs.length):=by
  refine iA λi _=>?_;rw[Int.zero_add]
 rw[c]at d;have h:a7 (dq (Pu.au (g1 cy (aa 0)) ae)) [2] (g2 bw (aa 0) (aa 1)) (bp 0) [.bo (.lst (fs.map FT.D)),.bo (.lst []),.ow [],.no,.no,.no,.no]=.ok (.lst (cv (hJ fs.length))):=by
  have:=gr (t:=g2 bw (aa 0) (aa 1)) (ix:=[2]) (l:=hJ fs.length) (f:=λp=>Pu.D.int _) (b:=λ_=>true) d (by simp;lia) λi _=>rfl;rw[List.filter_eq_self.mpr (λ_ _=>rfl)]at this;exact this
 unfold WL at e;have r:fz [3] (b8 4 (a7 (dq (Pu.au (g1 cy (aa 0)) ae)) [2] (g2 bw (aa 0) (aa 1)) (bp 0))) [.bo (.lst (fs.map FT.D)),.bo (.lst []),.ow [],.no,.no,.no,.no]=.nx [.bo (.lst (fs.map FT.D)),.bo (.lst []),.ow [],.no,.ow (cv (hJ fs.length)),.no,.no]:=by
  simp[h]
 unfold mf;rw[j6,show b8 2 _ [.bo _,.bo _,.no,.no,.no,.no,.no]=.nx [.bo _,.bo _,.ow [],.no,.no,.no,.no]from rfl];dsimp only;rw[j6,r];dsimp only;rw[j6,Em];rw[show cv []=[]from rfl]at e;rw[e];rfl
def AY(n m:Nat)(b:m=n+2){fs:List FT}(a:∀f∈fs,f.ok)(c:fs.length<=100):∃od,od.Perm (hJ fs.length)/\ab (tab m) h9 [.lst (fs.map FT.D),.lst []]=.ok (.lst (cv od)):=by
 subst b;exact AX n a c
instance:Inhabited FT:=⟨⟨[],[],λ_=>True⟩⟩
def Ox(fs:List FT):(hJ fs.length).map (λi=>fs.getD i rU)=fs:=by
 refine pK (by simp) λi b a=>?_;simp[gF a]
def Nh(F h:List Pu.D->Res){fs:List FT}{c:List Str}{od:List Nat}{d:Pu.D}(b:∀i∈od,i<fs.length)(n:od.length<=100)(l:F [.lst (fs.map FT.D),.lst []]=.ok (.lst (cv od)))
  (e:h [.lst ((od.map λi=>fs.getD i rU).map FT.D),cg c]=.ok d):
  de (cm (af h (Pu.au (a7 (aj (af F (Pu.au (aa 0) (Pu.au (cq ae) ae)))) [0] (gC (.bl true)) (g2 ao (aa 1) (aa 0))) (Pu.au (aa 1) ae))) [.bo (.lst (fs.map FT.D)),.bo (cg c)])=.ok d:=by
 have a:a7 (aj (af F (Pu.au (aa 0) (Pu.au (cq ae) ae)))) [0] (gC (.bl true)) (g2 ao (aa 1) (aa 0)) [.bo (.lst (fs.map FT.D)),.bo (cg c)]=.ok (.lst (od.map λi=>(fs.getD i rU).D)):=by
  refine ir (f:=λ(p:Nat)=>Pu.D.int (p:Int)) ?_ (by lia) λi g=>?_
  ·have m:af F (Pu.au (aa 0) (Pu.au (cq ae) ae)) [.bo (.lst (fs.map FT.D)),.bo (cg c)]=.ok (.lst (cv od)):=by
    exact l
   unfold aj;rw[m];rfl
  ·have j:fs.getD i rU=fs[i]'(b i g):=by rw[gW,gF];rfl
   rw[j];simp[cf,(Yt (b i g))]
 rw[show(od.map λi=>(fs.getD i rU).D)=(od.map λi=>fs.getD i rU).map FT.D by rw[hV];rfl]at a;generalize ((od.map λi=>fs.getD i rU).map FT.D)=L2 at a e;simp[a,e]
def Tt(n:Nat){wd:List Str}{fs:List FT}(o:∀x∈wd,gH x=true)(j:wd.length<=200)(g:∀f∈fs,f.ok)(A:fs.length<=3):
  ∃c a,Rep fs.length c a (Et fs)/\a.length<=8000/\c.length<=12/\(∀x,x∈c↔x∈fx fs/\x∈wd)/\ab (tab (n+5)) g9 [.lst (fs.map FT.D),cg wd]=.ok (fy c a):=by
 obtain⟨od,l,z⟩:=AY (n+2) (n+4) (by lia) g (by lia);have b:(od.map λi=>fs.getD i rU).Perm fs:=by
  have:=l.map λi=>fs.getD i rU;rwa [Ox]at this
 obtain⟨c,a,R,y,v,u,e⟩:=Ew n o j (λf d=>g f (b.mem_iff.mp d)) (by rwa [b.length_eq]);have r:Et (od.map λi=>fs.getD i rU)=Et fs:=by
  funext σ
  exact propext ⟨λh f d=>h f (b.mem_iff.mpr d),λh f d=>h f (b.mem_iff.mp d)⟩
 rw[r,b.length_eq]at R;have m:od.length<=100:=by
  have:=l.length_eq;rw[jI]at this
  lia
 refine⟨c,a,R,y,v,λx=>?_,?_⟩
 ·rw[u x];have:x∈fx (od.map λi=>fs.getD i rU)↔x∈fx fs:=by
   simp only[fx,tZ];exact⟨by rintro ⟨f,d,q⟩;exact⟨f,b.mem_iff.mp d,q⟩,by rintro ⟨f,d,q⟩;exact⟨f,b.mem_iff.mpr d,q⟩⟩
  rw[this]
 ·rw[Bp];exact Nh _ _ (λi p=>List.mem_range.mp (l.mem_iff.mp p)) m z e
abbrev Sub:=List (Str×Tm)
def lk:Sub->Str->Option Tm
 |[],_=>none
 |(y,v)::r,x=>if y=x then some v else lk r x
def Hy(x:Str)(w:Tm):∀(s:Sub)(y:Str),lk (s++[(x,w)]) y=match lk s y with
  |some v=>some v
  |none=>if x=y then some w else none:=by
 intro a;induction a with
 |nil=>rintro y;exact rfl
 |cons a r b=>
  obtain⟨z,v⟩:=a
  rintro y
  show(if z=y then some v else lk _ y)=match (if z=y then some v else lk r y)with
   |some v=>some v
   |none=>if x=y then some w else none
  by_cases e:z=y
  ·rw[fM e,fM e]
  ·rw[fJ e,fJ e];exact b y
def ap(φ:Str->Tm):Tm->Tm
 |.i i=>.i i
 |.s x=>φ x
def dO(s:Sub):Tm->Option Tm
 |.i i=>some (.i i)
 |.s x=>lk s x
def pf:Sub->List Tm->List Tm->Option Sub
 |s,[],[]=>some s
 |s,.i i::b,w::a=>if(Tm.i i)=w then pf s b a else none
 | s, .s x :: b, w :: a => (match lk s x with
  |some v=>if v=w then pf s b a else none
  |none=>pf (s++[(x,w)]) b a)
 |_,_,_=>none
def Le(s a:Sub):Prop:=∀x v,lk s x=some v->lk a x=some v
def Le.refl(s:Sub):Le s s:=λ_ _ h=>h
def Le.trans{a b c:Sub}(h:Le a b)(k:Le b c):Le a c:=λx v e=>k x v (h x v e)
def Le.snoc{s:Sub}{x:Str}{w:Tm}:Le s (s++[(x,w)]):=λy v e=>by rw[Hy,e]
theorem zh:∀{f d:List Tm}{s c:Sub},pf s f d=some c->Le s c/\f.map (dO c)=d.map some
 |[],[],s,c,h=>by cases h;exact⟨Le.refl _,rfl⟩
 |[],_::_,s,c,h=>by cases h
 |.i _::_,[],s,c,h=>by cases h
 |.s _::_,[],s,c,h=>by cases h
 |.i i::f,w::d,s,c,h=>by
  unfold pf at h;split at h
  ·rename_i e;obtain⟨a,b⟩:=zh h;exact⟨a,by rw[fL,fL,b,<-e];rfl⟩
  ·cases h
 |.s x::f,w::d,s,c,h=>by
  unfold pf at h;split at h
  ·rename_i v e;split at h
   ·rename_i g;obtain⟨a,b⟩:=zh h;exact⟨a,by rw[fL,fL,b,<-g];show lk c x::_=_;rw[a x v e]⟩
   ·cases h
  ·rename_i e;obtain⟨a,b⟩:=zh h;refine⟨Le.snoc.trans a,?_⟩;rw[fL,fL,b];show lk c x::_=_;rw[a x w (by rw[Hy,e];exact fM rfl)]
def dW(φ:Str->Tm)(s:Sub):Prop:=∀x v,lk s x=some v->φ x=v
theorem qa{φ:Str->Tm}:∀(c:List Tm){s:Sub},dW φ s->∃d,pf s c (c.map (ap φ))=some d/\dW φ d
 |[],s,h=>⟨s,rfl,h⟩
 |.i i::c,s,h=>by
  obtain⟨d,a,b⟩:=qa c h;exact⟨d,by show(if _=Tm.i i then _ else _)=_;rwa [fM rfl],b⟩
 |.s x::c,s,h=>by
  rw[fL,pf];cases e:lk s x with
  |some v=>
   dsimp only;rw[fM (show v=ap φ (Tm.s x)from(h x v e).symm)];exact qa c h
  |none=>
   refine qa c λy v q=>?_;rw[Hy]at q;cases f:lk s y with
   |some u=>rw[f]at q;cases q;exact h y v f
   |none=>
    rw[f]at q;dsimp only at q;split at q
    ·rename_i z;cases q;rw[<-z];rfl
    ·cases q
def Tm.P:Tm->mT
 |.s x=>.str x
 |.i z=>.int z
def Tm.w(t:Tm):Prop:=match t with
 |.s x=>gH x=true
 |.i _=>True
def Tm.good.w{t:Tm}(h:t.good):t.w:=by
 cases t with
 |s x=>exact fw h
 |i z=>trivial
def Ir(t:Tm):bz t.D=some t.P:=by cases t<;>rfl
def V0:∀b:List Tm,b9 (b.map Tm.D)=some (b.map Tm.P):=by
 intro a;induction a with
 |nil=>exact rfl
 |cons t b c=>rw[fL,b9,Ir,c];rfl
def N9{t:Tm}(h:t.w):t.P.canLay0=true:=by cases t<;>first|exact h|rfl
def HC:∀{b:List Tm},(∀t∈b,t.w)->gE (b.map Tm.P)=true:=by
 intro a;induction a with
 |nil=>rintro _;exact rfl
 |cons t b c=>rintro h;rw[fL,gE,N9 (h t fN),c λu d=>h u (fH _ d)];rfl
def GW:∀c:List Tm,iC (c.map Tm.P)<=0:=by
 intro a;induction a with
 |nil=>exact fQ 0
 |cons t c b=>
  rw[fL,iC];have:=b;have h:t.P.depth<=0:=by cases t<;>exact fQ 0
  lia
def X3:∀a b:Tm,a.P.eqv b.P=decide (a=b)
 |.s x,.s y=>by rw[Tm.P,Tm.P,iG];by_cases e:x=y<;>simp[e]
 |.s x,.i y=>by rw[Tm.P,Tm.P];simp[iG]
 |.i x,.s y=>by rw[Tm.P,Tm.P];simp[iG]
 |.i x,.i y=>by rw[Tm.P,Tm.P,iG];by_cases e:x=y<;>simp[e]
theorem y7{α:Type}[DecidableEq α]{f:α->mT}(h:∀a b,(f a).eqv (f b)=decide (a=b)):∀a b:List α,kC (a.map f) (b.map f)=decide (a=b)
 |[],[]=>by simp[kC]
 |[],_::_=>by simp[kC]
 |_::_,[]=>by simp[kC]
 |x::xs,y::c=>by
  rw[fL,fL,kC,h,y7 h xs c]
  by_cases e:x=y<;>by_cases d:xs=c<;>simp[e,d]
def PX{a b:Tm}(d:a.w)(c:b.w):Wi a.D b.D=some (decide (a=b)):=by
 have q:∀t:Tm,t.P.depth<=63:=λt=>by cases t<;>exact iO _
 rw[C3 (Ir a) (Ir b) (N9 d) (q a) (N9 c) (q b),X3]
def Zr{a b:Tm}(d:a.w)(c:b.w):zq a.D b.D=some (.bl (!decide (a=b))):=by unfold zq;rw[PX d c];rfl
def At.P(a:At):mT:=.tuple [.str a.nm,.tuple (a.ts.map Tm.P)]
def At.w(a:At):Prop:=gH a.nm=true/\∀t∈a.ts,t.w
def At.good.w{a:At}(h:a.good):a.w:=⟨fw h.1,λt b=>(h.2.2.2 t b).w⟩
def Iq(a:At):bz a.D=some a.P:=by rw[At.D,bz,b9,b9,b9,bz,bz,V0];rfl
def Gi:∀d:List At,b9 (d.map At.D)=some (d.map At.P):=by
 intro b;induction b with
 |nil=>exact rfl
 |cons a d c=>rw[fL,b9,Iq,c];rfl
def N8{a:At}(h:a.w):a.P.canLay0=true:=by
 rw[At.P,jC,gE,gE,gE,jC,jC,HC h.2,h.1];rfl
def Qw:∀{d:List At},(∀a∈d,a.w)->gE (d.map At.P)=true:=by
 intro b;induction b with
 |nil=>rintro _;exact rfl
 |cons t f c=>rintro h;rw[fL,gE,N8 (h t fN),c λu e=>h u (fH _ e)];rfl
def M4(a:At):a.P.depth<=2:=by
 have:=GW a.ts;rw[At.P,jZ,iC,iC,iC,jZ,jZ]
 lia
def X2(a b:At):a.P.eqv b.P=decide (a=b):=by
 obtain⟨g,d⟩:=a;obtain⟨f,c⟩:=b;have j:iG (.str g) (.str f)=decide (g=f):=by rw[iG];by_cases e:g=f<;>simp[e]
 have h:iG (.tuple (d.map Tm.P)) (.tuple (c.map Tm.P))=decide (d=c):=y7 X3 d c;rw[At.P,At.P,iG,kC,kC,kC,j,h]
 by_cases m:g=f<;>by_cases l:d=c<;>simp[m,l]
def sD(s:Sub):List (Pu.D×Pu.D):=s.map λp=>(.str p.1,p.2.D)
def B5(x:Str):∀s:Sub,d8 (sD s) (.inr x)=(lk s x).map Tm.D:=by
 intro a;induction a with
 |nil=>exact rfl
 |cons a r b=>
  obtain⟨y,v⟩:=a;show(if bq _=some _ then some v.D else d8 (sD r) _)=((if y=x then some v else lk r x)).map Tm.D;rw[b]
  by_cases h:y=x
  ·rw[fM h,fM (by rw[h];rfl)];rfl
  ·rw[fJ h,fJ (by simp[bq,h])]
def Ou{x:Str}{s:Sub}(w:Tm)(h:lk s x=none):Ar (sD s) (.inr x) w.D=sD (s++[(x,w)]):=by
 rw[Ih (by rw[B5,h];rfl)];unfold sD;rw[jK];rfl
def CW(s:Sub):(sD s).length=s.length:=by unfold sD;rw[fF]
def JQ:En->Out:=(ak (fz [4,5,4] (vw 6 (Bs (jw (g1 (fb "str") (aa 4))) (jg 3 (aa 4) (bp 5)) (C9 (bp 4)))))
 (wy (g2 zq (aa 6) (aa 5)) (cm (gC .g8)) jq))
def JN{m v1 v2 w6:Sl}{t w:Tm}{s:Sub}(E:t.w)(g:w.w)(G:∀p∈s,p.2.w)(J:s.length<16777216):
  JQ [m,v1,v2,.od false (sD s),.pu t.D,.pu w.D,w6]=match pf s [t] [w]with
   |some A=>.nx [m,v1,v2,.od false (sD A),.pu t.D,.pu w.D,.pu w.D]
   |none=>.rt .g8:=by
 have c:(sD s).length<fR:=by rwa [CW]
 cases t with
 |i z=>
  have o:(Tm.i z).D=.int z:=rfl;have e:=Zr E g;have I:zq (.int z) w.D=some _:=e
  by_cases q:Tm.i z=w
  ·subst q;simp[JQ,vw,Bs,C9,Res.ef,o,pf]
  ·have d:pf s [.i z] [w]=none:=by simp[pf,q]
   rw[d];simp[JQ,vw,Bs,C9,Res.ef,o,I,q]
 |s x=>
  have j:bq (.str x)=some _:=rfl;have l:(Tm.s x).D=.str x:=rfl;have a:=B5 x s;cases f:lk s x with
  |some v=>
   rw[f]at a;have C:v.w:=by
    have:∀(s:Sub),(∀p∈s,p.2.w)->lk s x=some v->v.w:=λs=>by
     induction s with
     |nil=>intro _ h;cases h
     |cons p r B=>
      intro n h;obtain⟨y,u⟩:=p;unfold lk at h;split at h
      ·cases h;exact n _ fN
      ·exact B (λq H=>n q (fH _ H)) h
    exact this s G f
   have e:=Zr C g;have b:=a
   by_cases q:v=w
   ·subst q;have d:pf s [.s x] [v]=some s:=by simp[pf,f]
    rw[d];simp[JQ,vw,Bs,jg,l,j,c,b,e]
   ·have d:pf s [.s x] [w]=none:=by simp[pf,f,q]
    rw[d];simp[JQ,vw,Bs,jg,l,j,c,b,e,q]
  |none=>
   rw[f]at a;have d:pf s [.s x] [w]=some (s++[(x,w)]):=by simp[pf,f]
   rw[d];simp[JQ,vw,Bs,jg,l,j,c,a,(Zr g g),Ou w f]
def Sub.w(s:Sub):Prop:=∀p∈s,p.2.w
def Sub.w.snoc{s:Sub}{x:Str}{w:Tm}(h:s.w)(b:w.w):(s++[(x,w)]:Sub).w:=λp a=>by
 rcases List.mem_append.mp a with a|a
 ·exact h p a
 ·rwa [List.mem_singleton.mp a]
def AI(s:Sub):pf s [] []=some s:=by rw[pf]
def JP(s:Sub)(z:Int)(w:Tm)(b a:List Tm):pf s (.i z::b) (w::a)=if Tm.i z=w then pf s b a else none:=by rw[pf]
def JO(s:Sub)(x:Str)(w:Tm)(b a:List Tm):pf s (.s x::b) (w::a)=match lk s x with
  |some v=>if v=w then pf s b a else none
  |none=>pf (s++[(x,w)]) b a:=by rw[pf]<;>cases lk s x<;>rfl
def Ra(s:Sub)(t w:Tm)(b a:List Tm):pf s (t::b) (w::a)=(pf s [t] [w]).bind λc=>pf c b a:=by
 cases t with
 |i z=>
  rw[JP,JP]
  by_cases q:Tm.i z=w
  ·rw[fM q,fM q,AI];rfl
  ·rw[fJ q,fJ q];rfl
 |s x=>
  rw[JO,JO];cases lk s x with
  |none=>rfl
  |some v=>
   dsimp only
   by_cases q:v=w
   ·rw[fM q,fM q,AI];rfl
   ·rw[fJ q,fJ q];rfl
def RM{s a:Sub}{t w:Tm}(b:s.w)(c:w.w)(h:pf s [t] [w]=some a):a.w/\a.length<=s.length+1:=by
 cases t with
 |i z=>
  unfold pf at h;split at h
  ·cases h;exact⟨b,by lia⟩
  ·cases h
 |s x=>
  unfold pf at h;split at h
  ·split at h
   ·cases h;exact⟨b,by lia⟩
   ·cases h
  ·cases h;exact⟨b.snoc c,by simp⟩
theorem Rb(j g f:Sl):∀(b c:List Tm)(s:Sub)(e d a:Sl),b.length=c.length->(∀t∈b,t.w)->(∀t∈c,t.w)->s.w->s.length+b.length<=1000->
  ∃r q p,turns (xh [4,5]) JQ (Ad (b.map Tm.D) (c.map Tm.D)) [j,g,f,.od false (sD s),e,d,a]=match pf s b c with
   |some x=>.nx [j,g,f,.od false (sD x),r,q,p]
   |none=>.rt .g8
 |[],[],s,e,d,a,_,_,_,_,_=>⟨e,d,a,rfl⟩
 |[],_::_,s,e,d,a,h,_,_,_,_=>by cases h
 |_::_,[],s,e,d,a,h,_,_,_,_=>by cases h
 |t::b,w::c,s,e,d,a,h,n,l,o,y=>by
  rw[fI]at y;rw[fL,fL,Ad,bc (δ1:=[j,g,f,.od false _,.pu t.D,.pu w.D,a]) rfl,(JN (v1:=g) (v2:=f) (w6:=a) (n t fN) (l w fN) o (by lia)),Ra s t w b c];cases z:pf s [t] [w]with
  |none=>exact⟨e,d,a,rfl⟩
  |some v=>
   obtain⟨A,B⟩:=RM o (l w fN) z;exact Rb j g f b c v _ _ _ (by simpa using h) (λu m=>n u (fH _ m)) (λu m=>l u (fH _ m)) A (by lia)
theorem AJ:∀{b a:List Tm}{s:Sub},b.length≠a.length->pf s b a=none
 |[],[],s,h=>absurd rfl h
 |[],_::_,s,h=>rfl
 |.i _::_,[],s,h=>rfl
 |.s _::_,[],s,h=>rfl
 |t::b,w::a,s,h=>by
  rw[Ra s t w b a];cases pf s [t] [w]with
  |none=>rfl
  |some c=>exact AJ (by simpa using h)
def rD:Option Sub->Pu.D
 |some s=>.hZ false (sD s)
 |none=>.g8
def Ni(n:Nat){a ws:List Tm}{s:Sub}(f:∀t∈a,t.w)(d:∀t∈ws,t.w)(g:s.w)(j:s.length+a.length<=1000):
  ab (tab (n+1)) lg [.hZ false (sD s),.tup (a.map Tm.D),.tup (ws.map Tm.D)]=.ok (rD (pf s a ws)):=by
 rw[E5]
 by_cases h:a.length=ws.length
 ·obtain⟨p,o,m,e⟩:=Rb _ _ _ a ws s .no .no .no h f d g j;have b:di _ (Nl (Pu.au (aa 1) (Pu.au (aa 2) ae))) JQ [.bo (.hZ false (sD s)),.bo (.tup (a.map Tm.D)),.bo (.tup (ws.map Tm.D)),.od false _,.no,.no,.no]=_:=(c6 (by simp[Nl])).trans e;unfold JQ at b;cases c:pf s a ws with
  |none=>rw[c]at b;simp[k8,h,b,rD]
  |some q=>rw[c]at b;simp[k8,h,b,rD]
 ·rw[AJ h];have l:((a.length:Int)==(ws.length:Int))=false:=beq_eq_false_iff_ne.mpr (by lia);simp[k8,l,rD]
abbrev Fc:=Str×List Int
def fD(f:Fc):Pu.D:=.tup [.str f.1,.tup (f.2.map Pu.D.int)]
abbrev NG:=List (Str×List Fc)
def EB(q:Str×List Fc):Pu.D×List Pu.D:=(.str q.1,q.2.map fD)
def Dc(k:Str)(f:Fc):NG->NG
 |[]=>[(k,[f])]
 |(a,l)::gs=>if a=k then(a,l++[f])::gs else(a,l)::Dc k f gs
def Hx:NG->Str->List Fc
 |[],_=>[]
 |(a,l)::gs,k=>if a=k then l else Hx gs k
def HB(k:Str)(f:Fc)(b:Str):∀gs:NG,Hx (Dc k f gs) b=if k=b then Hx gs b++[f]else Hx gs b:=by
 intro a;induction a with
 |nil=>
  unfold Dc Hx
  by_cases h:k=b<;>simp[h,Hx]
 |cons a gs e=>
  obtain⟨d,l⟩:=a;unfold Dc
  by_cases h:d=k
  ·subst h
   by_cases c:d=b<;>simp[Hx,c]
  ·rw[fJ h];unfold Hx;rw[e]
   by_cases c:d=b
   ·rw[fM c,fM c,fJ (λz=>h (c.trans z.symm))]
   ·rw[fJ c,fJ c]
def B3{k a:Str}:bq (.str a)=some (.inr k)↔a=k:=by simp[bq]
def Nt(k:Str)(f:Fc):∀gs:NG,E8 bq kD (.inr k) (fD f) (gs.map EB)=(Dc k f gs).map EB:=by
 intro a;induction a with
 |nil=>exact rfl
 |cons a gs b=>
  obtain⟨c,l⟩:=a;show(if bq _=some _ then _::gs.map EB else _::E8 bq kD _ _ _)=_;unfold Dc
  by_cases h:c=k
  ·rw[fM (B3.mpr h),fM h];simp[EB]
  ·rw[fJ λz=>h (B3.mp z),fJ h,b];rfl
def UW(gs:NG):Nat:=(gs.map λq=>q.2.length).sum
def LI(k:Str)(f:Fc):∀gs:NG,UW (Dc k f gs)=UW gs+1/\(Dc k f gs).length<=gs.length+1:=by
 intro a;induction a with
 |nil=>simp[Dc,UW]
 |cons _ gs b=>
  obtain⟨c,d⟩:=b;unfold Dc;unfold UW at c⊢;split
  ·simp;lia
  ·simp[c];lia
def HA(k:Str):∀gs:NG,(d8 ((gs.map EB).map λq=>(q.1,Pu.D.lst q.2)) (.inr k)).getD (.lst [])=.lst ((Hx gs k).map fD):=by
 intro a;induction a with
 |nil=>exact rfl
 |cons a gs b=>
  obtain⟨c,l⟩:=a;show(if bq (.str c)=some _ then some _ else d8 _ _).getD _=_;unfold Hx
  by_cases h:c=k
  ·rw[fM (B3.mpr h),fM h];rfl
  ·rw[fJ λz=>h (B3.mp z),fJ h,b]
def Tv(d c:Sl):∀(fs:List Fc)(b:Sl)(gs:NG),gs.length+fs.length<=100000->UW gs+fs.length<=100000->
  ∃g a,EE bq kD 2 (g2 ao (aa 2) (gC (.int 0))) (bp 2) (fs.map fD) [d,c,b] (gs.map EB)=some ([d,c,g],a.map EB)/\∀k,Hx a k=Hx gs k++fs.filter λf=>decide (f.1=k):=by
 intro e;induction e with
 |nil=>rintro b gs _ _;exact⟨b,gs,rfl,λk=>by simp⟩
 |cons f fs h=>
  rintro b gs r o
  rw[fI]at r o;obtain⟨y,x⟩:=LI f.1 f gs;obtain⟨g,a,m,l⟩:=h _ (Dc f.1 f gs) (by lia) (by lia);refine⟨g,a,?_,λk=>?_⟩
  ·rw[fL];unfold EE;have v:g2 ao (aa 2) (gC (.int 0)) [d,c,.pu (fD f)]=.ok _:=rfl;have u:bp 2 [d,c,.pu _]=.ok (fD f):=rfl;simp only[nH,nI];rw[v,u];dsimp only;rw[show bq _=some _ from rfl];dsimp only;have n:(((gs.map EB).map λp=>p.2.length).sum)=UW gs:=by
    rw[hV]
    congr 1
    exact iA λq _=>by simp[EB]
   rw[fM (by rw[n,fF,iT];lia),Nt,m]
  ·rw[l,HB,nB]
   by_cases j:f.1=k
   ·simp[j]
   ·simp[j]
def UC(gs:NG):Pu.D:=.hZ false ((gs.map EB).map λq=>(q.1,.lst q.2))
def Mp(n:Nat)(fs:List Fc)(d:fs.length<=10000):∃gs:NG,ab (tab (n+1)) gz [.lst (fs.map fD)]=.ok (UC gs)/\∀k,Hx gs k=fs.filter λf=>decide (f.1=k):=by
 obtain⟨c,gs,a,b⟩:=Tv (.bo (.lst (fs.map fD))) .no fs .no [] (by simp;lia) (by simp[UW];lia);refine⟨gs,?_,λk=>by rw[b];simp[Hx]⟩;rw[Bo];rw[lA]at a;simp[t9,xq,Vr,Ge,a,UC]
def u4(σ:Str->Int):Tm->Int
 |.i z=>z
 |.s x=>σ x
def OV(σ:Str->Int)(a:List Tm):a.map (ap λx=>.i (σ x))=(a.map (u4 σ)).map Tm.i:=by
 rw[hV];exact iA λt _=>by cases t<;>rfl
theorem zg:∀{b d:List Tm}{s a:Sub},pf s b d=some a->a.map (·.1)=je (s.map (·.1)) (lq b)
 |[],[],s,a,h=>by cases h;rfl
 |[],_::_,s,a,h=>by cases h
 |.i _::_,[],s,a,h=>by cases h
 |.s _::_,[],s,a,h=>by cases h
 |.i i::b,w::d,s,a,h=>by
  rw[JP]at h;split at h
  ·rw[zg h];rfl
  ·cases h
 |.s x::b,w::d,s,a,h=>by
  have c:∀(s:Sub),(lk s x=none->x∉s.map (·.1))/\(∀v,lk s x=some v->x∈s.map (·.1)):=λs=>by
   induction s with
   |nil=>exact⟨λ_=>by simp,λv e=>by cases e⟩
   |cons p r f=>
    obtain⟨y,u⟩:=p;unfold lk
    by_cases e:y=x
    ·rw[fM e];exact⟨λz=>(by cases z),λv _=>(by simp[e])⟩
    ·rw[fJ e];exact⟨λz=>by simp;exact⟨λq=>e q.symm,by simpa using f.1 z⟩,λv z=>fH _ (f.2 v z)⟩
  rw[JO]at h;have g:lq (.s x::b)=x::lq b:=rfl;rw[g];unfold je;cases e:lk s x with
  |some v=>
   rw[e]at h;dsimp only at h;split at h
   ·rw[fM ((c s).2 v e)];exact zg h
   ·cases h
  |none=>
   rw[e]at h;rw[fJ ((c s).1 e),zg h,jK];rfl
def Hd:∀(l c:List Str),c.Nodup->(je c l).Nodup:=by
 intro e;induction e with
 |nil=>rintro c h;exact h
 |cons x l d=>
  rintro c h
  unfold je;split
  ·exact d c h
  ·rename_i q;refine d _ (List.nodup_append.mpr ⟨h,by simp,λa g b f=>?_⟩);rw[List.mem_singleton.mp f];exact λz=>q (z▸g)
theorem Dq:∀{s:Sub},(s.map (·.1)).Nodup->∀p∈s,lk s p.1=some p.2
 |[],_,p,a=>by simp at a
 |(y,v)::r,h,p,a=>by
  rw[fL,List.nodup_cons]at h;unfold lk;rcases List.mem_cons.mp a with rfl|a
  ·exact fM rfl
  ·rw[fJ (λe=>h.1 (by rw[e];exact List.mem_map.mpr ⟨p,a,rfl⟩))];exact Dq h.2 p a
def qc(s:Sub)(x:Str):Int:=match lk s x with
 |some (.i z)=>z
 |_=>0
def bE:Tm->Prop
 |.i _=>True
 |.s _=>False
theorem Ic:∀{ts d:List Tm}{s a:Sub},(∀p∈s,bE p.2)->(∀w∈d,bE w)->pf s ts d=some a->∀p∈a,bE p.2
 |[],[],s,a,h,_,e=>by cases e;exact h
 |[],_::_,s,a,h,_,e=>by cases e
 |.i _::_,[],s,a,h,_,e=>by cases e
 |.s _::_,[],s,a,h,_,e=>by cases e
 |.i i::ts,w::d,s,a,h,b,e=>by
  rw[JP]at e;split at e
  ·exact Ic h (λu c=>b u (fH _ c)) e
  ·cases e
 |.s x::ts,w::d,s,a,h,b,e=>by
  rw[JO]at e;split at e
  ·split at e
   ·exact Ic h (λu c=>b u (fH _ c)) e
   ·cases e
  ·refine Ic (λp f=>?_) (λu c=>b u (fH _ c)) e;rcases List.mem_append.mp f with z|z
   ·exact h p z
   ·rw[List.mem_singleton.mp z];exact b w fN
def CZ{b:List Tm}{d:List Int}{s:Sub}(h:pf [] b (d.map Tm.i)=some s):d=b.map (u4 (qc s))/\s.map (λp=>p.2.D)=((je [] (lq b)).map (qc s)).map Pu.D.int:=by
 have g:=zg h;have q:(s.map (·.1)).Nodup:=by rw[g];exact Hd _ _ (by simp)
 constructor
 ·have j:=(zh h).2;have c:b.length=d.length:=by simpa using congrArg lT j
  refine pK (by simp[c]) λk r u=>?_;have f:k<b.length:=by lia
  have a:=congrArg (λl=>l[k]?) j;simp only[gO,gF f,gF r,sG]at a;replace a:dO s b[k]=some _:=gV a;rw[List.getElem_map];cases e:b[k]with
  |i z=>rw[e]at a;exact(Tm.i.inj (gV a)).symm
  |s x=>
   rw[e]at a;replace a:lk s x=some _:=a;show d[k]=qc s x;unfold qc;rw[a]
 ·rw[lA]at g;rw[<-g,hV,hV];refine iA λp m=>?_;have n:=(Ic (ts:=b) (s:=[]) (by simp) (λw o=>by obtain⟨z,_,rfl⟩:=List.mem_map.mp o;trivial) h) p m;show p.2.D=.int _;unfold qc;rw[(Dq q p m)];cases e:p.2 with
  |i z=>rfl
  |s x=>rw[e]at n;exact n.elim
def TX{a:List Tm}(σ:Str->Int):∃s,pf [] a ((a.map (u4 σ)).map Tm.i)=some s/\∀x∈je [] (lq a),qc s x=σ x:=by
 obtain⟨s,c,j⟩:=qa a (s:=[]) (λx v e=>by cases e);rw[OV]at c;refine⟨s,c,λx d=>?_⟩;have b:=zg c;have h:(s.map (·.1)).Nodup:=by rw[b];exact Hd _ _ (by simp)
 rw[lA]at b;rw[<-b]at d;obtain⟨p,g,rfl⟩:=List.mem_map.mp d;have f:=Dq h p g;unfold qc;rw[f,<-(j p.1 p.2 f)]
def Ik(a:List f7)(r:List Int)(s:List Pu.D):List f7:=if r∈bf a then a.map (λp=>if p.1=r then(p.1,s)else p)else a++[(r,s)]
def Av(a:List f7)(r:List Int)(s:List Pu.D):bf (Ik a r s)=bf (kg a r s):=by
 unfold Ik kg
 by_cases h:r∈bf a
 ·rw[fM h,fM h];unfold bf;rw[hV];refine iA λp _=>?_;show(if p.1=r then _ else p).1=p.1;split<;>rfl
 ·rw[fJ h,fJ h]
def Ls(a:List f7)(r:List Int)(s:List Pu.D):(Ik a r s).length<=a.length+1:=by
 have b:=congrArg lT (Av a r s);have c:=uj a r s;simp only[bf,fF]at b
 lia
def CM{b:Nat}{c:List f7}{r:List Int}{s:List Pu.D}(h:∀p∈c,p.2.length<=b)(d:s.length<=b):∀p∈Ik c r s,p.2.length<=b:=λp a=>by
 unfold Ik at a;split at a
 ·obtain⟨q,e,rfl⟩:=List.mem_map.mp a;split
  ·exact d
  ·exact h q e
 ·rcases List.mem_append.mp a with z|z
  ·exact h p z
  ·rwa [List.mem_singleton.mp z]
def BH(a:List f7)(r:List Int)(s:List Pu.D):Ig (a.map wx) (rK r) (.tup s)=(Ik a r s).map wx:=by
 by_cases h:r∈bf a
 ·have c:x8 (a.map wx) (rK r)=true:=by
   unfold x8;rw[List.any_eq_true];obtain⟨q,b,e⟩:=List.mem_map.mp h;exact⟨wx q,List.mem_map.mpr ⟨q,b,rfl⟩,by simp only[decide_eq_true_eq];exact ff.mpr e⟩
  unfold Ig Ik;rw[fM c,fM h,hV,hV];refine iA λp _=>?_;show(if bu (tI p.1)=some _ then _ else wx p)=wx (if p.1=r then _ else p)
  by_cases e:p.1=r
  ·rw[fM (ff.mpr e),fM e];rfl
  ·rw[fJ λz=>e (ff.mp z),fJ e]
 ·rw[Ll h];unfold Ik kg;rw[fJ h,fJ h]
def VO(f:List Pu.D->Res):En->Out:=(ak (cz 5 (af f (Pu.au (gC (.hZ false [])) (Pu.au (aa 2) (Pu.au (g2 ao (aa 4) (gC (.int 1))) ae)))))
 (wy (g2 ma (aa 5) (gC .g8)) (fz [4] (Au 3 (g1 wt (aa 5)) (js (Pu.au (bp 4) ae)))) jq))
def Iy(b:List Tm)(a:List f7)(f:Fc):List f7:=match pf [] b (f.2.map Tm.i)with
 |some s=>Ik a ((je [] (lq b)).map (qc s)) [fD f]
 |none=>a
def FX(F:List Pu.D->Res)(a:List Tm)(y:∀f:Fc,F [.hZ false [],.tup (a.map Tm.D),.tup (f.2.map Pu.D.int)]=.ok (rD (pf [] a (f.2.map Tm.i))))(j g:Sl):∀(fs:List Fc)(b:List f7)(m d:Sl),b.length+fs.length<=10000->
  ∃u r,turns (az 4) (VO F) (fs.map fD) [j,g,.pu (.tup (a.map Tm.D)),.od true (b.map wx),m,d]=.nx [j,g,.pu (.tup (a.map Tm.D)),.od true ((fs.foldl (Iy a) b).map wx),u,r]:=by
 intro n;induction n with
 |nil=>rintro b m d _;exact⟨m,d,rfl⟩
 |cons f fs o=>
  rintro b m d h
  rw[fI]at h;rw[fL,bc (δ1:=[j,g,.pu _,.od true _,.pu _,d]) rfl,oO];have l:ao (fD f) (.int 1)=some _:=rfl;have c:=y f;have p:VO F [j,g,.pu (.tup (a.map Tm.D)),.od true (b.map wx),.pu (fD f),d]=.nx [j,g,.pu (.tup (a.map Tm.D)),.od true ((Iy a b f).map wx),.pu (fD f),.pu (rD (pf [] a (f.2.map Tm.i)))]:=by
   unfold Iy;cases e:pf [] a _ with
   |none=>
    rw[e]at c;replace c:F [.hZ false [],.tup _,.tup _]=.ok .g8:=c;simp[VO,l,c,rD,F0]
   |some s=>
    dsimp only;rw[e]at c;have v:wt (.hZ false (sD s))=some (tI ((je [] (lq a)).map (qc s))):=by
     rw[MV];unfold sD tI;rw[hV,<-((CZ e).2)];rfl
    have x:b.length<16777216:=by lia
    replace c:F [.hZ false [],.tup _,.tup _]=.ok _:=c;simp[VO,l,c,rD,F0,Au,v,(ku ((je [] (lq a)).map (qc s)))];rw[fM (by rw[iT];lia),(BH b ((je [] (lq a)).map (qc s)) [fD f])]
  rw[p];have q:(Iy a b f).length<=b.length+1:=by
   unfold Iy;split
   ·exact Ls ..
   ·lia
  exact o _ _ _ (by lia)
def OZ(a:List Tm)(x:List Int):∀(fs:List Fc)(b:List f7),x∈bf (fs.foldl (Iy a) b)↔x∈bf b\/∃f∈fs,∃s,pf [] a (f.2.map Tm.i)=some s/\x=(je [] (lq a)).map (qc s):=by
 intro c;induction c with
 |nil=>rintro b;simp
 |cons f fs d=>
  rintro b
  rw[oO,d];have:x∈bf (Iy a b f)↔x∈bf b\/∃s,pf [] a (f.2.map Tm.i)=some s/\x=(je [] (lq a)).map (qc s):=by
   unfold Iy;cases e:pf [] a _ with
   |none=>simp
   |some s=>rw[Av,Du];simp
  rw[this];simp only[iK,exists_eq_or_imp,or_assoc]
def NA(c:List Tm):∀(fs:List Fc)(a:List f7),(fs.foldl (Iy c) a).length<=a.length+fs.length:=by
 intro b;induction b with
 |nil=>rintro a;simp
 |cons f fs d=>
  rintro a
  rw[oO,fI];have g:=d (Iy c a f);have e:(Iy c a f).length<=a.length+1:=by
   unfold Iy;split
   ·exact Ls ..
   ·lia
  lia
def Ww(d:List Tm):∀(fs:List Fc)(a:List f7),(bf a).Nodup->(bf (fs.foldl (Iy d) a)).Nodup:=by
 intro b;induction b with
 |nil=>rintro a h;exact h
 |cons f fs c=>
  rintro a h
  refine c _ ?_;unfold Iy;split
  ·rw[Av];exact xr h
  ·exact h
theorem Wx(b:List Tm):∀(fs:List Fc)(a:List f7),(∀p∈a,p.2.length<=1)->∀p∈fs.foldl (Iy b) a,p.2.length<=1
 |[],a,h=>h
 |f::fs,a,h=>by
  refine Wx b fs _ ?_;unfold Iy;split
  ·exact CM h (by simp)
  ·exact h
def UI(fs:List Fc)(a:At)(σ:Str->Int):Prop:=∃f∈fs,f.1=a.nm/\f.2=a.ts.map (u4 σ)
def OR(fs:List Fc)(a:At):FT:=⟨je [] (lq a.ts),(fs.filter λf=>decide (f.1=a.nm)).foldl (Iy a.ts) [],UI fs a⟩
def wg{σ τ:Str->Int}{a:List Tm}(h:∀x∈lq a,σ x=τ x):a.map (u4 σ)=a.map (u4 τ):=by
 refine iA λt b=>?_;cases t with
 |i z=>rfl
 |s x=>exact h x (lh.mpr b)
def OQ{fs:List Fc}{a:At}(n:a.good)(q:fs.length<=20):(OR fs a).ok:=by
 have o:=oz a.ts;have u:=n.2.2.1;have g:=we (lq a.ts) [];have p:(fs.filter λf=>decide (f.1=a.nm)).length<=fs.length:=iW ..;have j:=NA a.ts (fs.filter λf=>decide (f.1=a.nm)) [];simp only[jM,lS]at g j;refine⟨⟨Hd _ _ (by simp),λx c=>?_,?_,Ww _ _ _ (by simp),λr=>?_,Wx _ _ _ (by simp)⟩,λσ τ h ⟨f,b,m,l⟩=>⟨f,b,m,?_⟩,?_,?_⟩
 ·rcases(ja x _ _).mp c with z|z
  ·simp at z
  ·exact fw (z9 n.2.2.2 x z)
 ·show(je [] _).length<=100
  lia
 ·show r∈bf ((fs.filter λf=>decide _).foldl _ [])↔∃σ,UI fs a σ/\r=(je [] _).map σ;rw[OZ];constructor
  ·rintro (z|⟨f,b,s,d,rfl⟩)
   ·simp at z
   ·rw[oP,decide_eq_true_eq]at b;exact⟨qc s,⟨f,b.1,b.2,(CZ d).1⟩,rfl⟩
  ·rintro ⟨σ,⟨f,b,m,l⟩,rfl⟩
   obtain⟨s,d,c⟩:=TX σ;rw[<-l]at d;exact .inr ⟨f,List.mem_filter.mpr ⟨b,by simpa using m⟩,s,d,iA λx e=>(c x e).symm⟩
 ·rw[l];exact wg λx c=>h x ((ja x _ _).mpr (.inr c))
 ·show((fs.filter λf=>decide _).foldl _ []).length<=20
  lia
 ·show(je [] _).length<=4
  lia
def OY(F G:List Pu.D->Res){a:At}{gs:NG}{b:List Str}(o:gH a.nm=true)(l:∀f:Fc,F [.hZ false [],.tup (a.ts.map Tm.D),.tup (f.2.map Pu.D.int)]=.ok (rD (pf [] a.ts (f.2.map Tm.i))))(j:G [.tup (a.ts.map Tm.D)]=.ok (cg b))(p:(Hx gs a.nm).length<=10000):
  de (ak (cz 2 (g2 ao (aa 0) (gC (.int 1))))
 (ak (ou 3)
 (ak (di (az 4) (aj (va (aa 1) (g2 ao (aa 0) (gC (.int 0))) (cq ae))) (VO F))
 (fz [3] (cm (af (zi "Fits" "columns" "rows") (Pu.au (af G (Pu.au (aa 2) ae)) (Pu.au (bp 3) ae))))))) [.bo a.D,.bo (UC gs),.no,.no,.no,.no])=.ok (fy b ((Hx gs a.nm).foldl (Iy a.ts) [])):=by
 obtain⟨n,m,e⟩:=FX F a.ts l _ _ _ [] .no .no (by simp;omega);have g:ao a.D (.int 1)=some _:=rfl;have h:aj (va (aa 1) (g2 ao (aa 0) (gC (.int 0))) (cq ae)) [.bo a.D,.bo (UC gs),.pu (.tup (a.ts.map Tm.D)),.od true [],.no,.no]=.ok ((Hx gs a.nm).map fD):=by
  have d:va (aa 1) (g2 ao (aa 0) (gC (.int 0))) (cq ae) [.bo a.D,.bo (UC gs),.pu (.tup (a.ts.map Tm.D)),.od true [],.no,.no]=.ok (.lst ((Hx gs a.nm).map fD)):=by
   rw[<-(HA a.nm gs)];rfl
  unfold aj;rw[d];rfl
 have c:=(c6 h).trans e;simp[g,ou,c,j,(B2 b _)]
def Gw(n:Nat){fs:List Fc}{gs:NG}{a:At}(b:a.good)(c:∀k,Hx gs k=fs.filter λf=>decide (f.1=k))(j:fs.length<=20):ab (tab (n+2)) o9 [a.D,UC gs]=.ok (OR fs a).D:=by
 have l:=b.2.2.1;have h:(fs.filter λf=>decide (f.1=a.nm)).length<=fs.length:=iW ..;have:=OY _ _ (gs:=gs) (fw b.1) (λf=>by
  have:=Ni n (ws:=f.2.map Tm.i) (s:=[]) (λt e=>(b.2.2.2 t e).w) (λw d=>by obtain⟨z,_,rfl⟩:=List.mem_map.mp d;trivial) (λp g=>by simp at g) (by simp;lia);rw[hV]at this;exact this) (vy n a.ts (by lia) true) (by rw[c];lia)
 rw[c]at this;exact this
def Bi(U:List (List Int)):List (List Int)->List (List Int)
 |[]=>U
 |r::l=>Bi (if r∈U then U else U++[r]) l
def Mm:∀(l U:List (List Int)),U.Nodup->(Bi U l).Nodup:=by
 intro c;induction c with
 |nil=>rintro U h;exact h
 |cons r l d=>
  rintro U h
  refine d _ ?_;split
  ·exact h
  ·rename_i e;refine List.nodup_append.mpr ⟨h,by simp,λa g b f=>?_⟩;rw[List.mem_singleton.mp f];exact λz=>e (z▸g)
def Zf:∀(l U:List (List Int))(x:List Int),x∈Bi U l↔x∈U\/x∈l:=by
 intro a;induction a with
 |nil=>rintro U x;simp[Bi]
 |cons r l b=>
  rintro U x
  unfold Bi;rw[b]
  by_cases h:r∈U
  ·rw[fM h,iK];constructor
   ·rintro (q|q)
    ·exact .inl q
    ·exact .inr (.inr q)
   ·rintro (q|q|q)
    ·exact .inl q
    ·exact .inl (q▸h)
    ·exact .inr q
  ·rw[fJ h,lC,nF,iK,or_assoc]
def Vu:∀(l U:List (List Int)),(l.map rK).foldl L2.xa (U.map rK)=(Bi U l).map rK:=by
 intro a;induction a with
 |nil=>rintro U;exact rfl
 |cons r l b=>
  rintro U
  rw[fL,oO];unfold Bi;rw[<-b]
  congr 1
  unfold L2.xa;have e:L2.x8 (U.map rK) (rK r)=decide (r∈U):=by
   by_cases h:r∈U
   ·rw[decide_eq_true h];exact L2.rf.mpr (List.mem_map.mpr ⟨r,h,rfl⟩)
   ·rw[decide_eq_false h];cases q:L2.x8 _ _ with
    |false=>rfl
    |true=>
     obtain⟨g,c,e⟩:=List.mem_map.mp (L2.rf.mp q);exact absurd (Ow e▸c) h
  rw[e]
  by_cases h:r∈U
  ·rw[fM (decide_eq_true h),fM h]
  ·rw[fJ (by simp[h]),fJ h,jK];rfl
def Km:∀F:List (List Int),kr (F.map tI)=some (F.map rK):=by
 intro a;induction a with
 |nil=>exact rfl
 |cons f F b=>rw[fL,kr,ku,b];rfl
def K5{α:Type}[DecidableEq α]:∀(l U:List α),l.Nodup->(∀x∈l,x∈U)->l.length<=U.length:=by
 intro b;induction b with
 |nil=>rintro _ _ _;exact iO _
 |cons a l c=>
  rintro U f h
  obtain⟨j,g⟩:=List.nodup_cons.mp f;have e:=h a fN;have:=c _ g λx d=>(List.mem_erase_of_ne (λ(z:x=a)=>j (z▸d))).mpr (h x (fH _ d));rw[List.length_erase_of_mem e]at this;have m:=List.length_pos_of_mem e;rw[fI]
  lia
def N1:∀{R:List (List Int)},(∀r∈R,r≠[])->j9 (R.map tI)=some R:=by
 intro a;induction a with
 |nil=>rintro _;exact rfl
 |cons r R b=>
  rintro h
  have d:∀l:List Int,rg (l.map Pu.D.int)=some l:=λl=>by
   induction l with
   |nil=>rfl
   |cons i r c=>rw[fL,rg,c];rfl
  have e:Kj (tI r)=some r:=by
   unfold tI Kj;dsimp only;rw[d];cases r with
   |nil=>exact absurd rfl (h [] fN)
   |cons i r=>rfl
  rw[fL,j9,e,b λg f=>h g (fH _ f)]
def WK:∀(l:List Pu.D)(R:List (List Int)),(∀d∈l,d∈R.map tI)->∃G:List (List Int),l=G.map tI:=by
 intro a;induction a with
 |nil=>rintro R _;exact⟨[],rfl⟩
 |cons d l b=>
  rintro R h
  obtain⟨f,e,rfl⟩:=List.mem_map.mp (h d fN);obtain⟨G,rfl⟩:=b R λd c=>h d (fH _ c);exact⟨f::G,rfl⟩
def Vx{a L U:List (List Int)}{m:Nat}(J:U.length<64)(h:∀r∈a,r.length=m/\r∈U)(E:L.Nodup)(b:∀r,r∈L↔r∈a):∃R:List (List Int),gw (.lst (a.map tI))=some (.lst (R.map tI))/\md (.lst (L.map tI))=some (.lst (R.map tI))/\R.length<=1000:=by
 cases a with
 |nil=>
  have:=List.eq_nil_iff_forall_not_mem.mpr λr v=>by simpa using(b r).mp v
  subst this;exact⟨[],rfl,rfl,iO _⟩
 |cons f l=>
  show∃R:List _,((kr _).bind λB=>if(L2.ug B).length<=76 then(gj _).map Pu.D.lst else none)=_/\_;rw[Km];show∃R:List _,(if(L2.ug _).length<=76 then(gj _).map Pu.D.lst else none)=_/\(gj _).map Pu.D.lst=_/\_;have H:L2.ug _=(Bi [] _).map rK:=Vu (f::l) [];have em:((Bi [] (f::l)).map rK).map kT=(Bi [] (f::l)).map tI:=by
   rw[hV];exact iA λg _=>Qr g
  have j:=Mm (f::l) [] lQ;have n:∀x,x∈Bi [] (f::l)↔x∈f::l:=λx=>by rw[Zf];simp
  generalize Bi [] _=R at *;have le:=K5 R U j λx u=>(h x ((n x).mp u)).2;have A:m=0->R.length<=1:=λz=>K5 R [[]] j λx u=>by
   have q:=(h x ((n x).mp u)).1;rw[z]at q;rw[List.length_eq_zero_iff.mp q];exact List.mem_singleton.mpr rfl
  rw[H,fM (by rw[fF];lia),em];have p:∃G:List _,gj (R.map tI)=some (G.map tI)/\G.length<=1000:=by
   unfold gj
   by_cases y:(R.map tI).length<2
   ·rw[fM y];exact⟨R,rfl,by lia⟩
   ·rw[fJ y,fM (by rw[fF];lia)];have ne:∀r∈R,r≠[]:=λr v z=>by
     have:=(h r ((n r).mp v)).1;rw[z]at this;have:=A this.symm;rw[fF]at y
     lia
    have e:jl (R.map tI)=some (0,R):=by unfold jl;rw[N1 ne]
    rw[e];dsimp only;rw[fM j];have o:=(k6 (R.zip (R.map tI))).map (·.2);rw[List.map_snd_zip (by simp)]at o;obtain⟨G,c⟩:=WK _ R λd C=>o.mem_iff.mp C;have gl:G.length=R.length:=by
     have:=o.length_eq;rw[c]at this;simpa using this
    exact⟨G,by rw[c],by lia⟩
  obtain⟨G,c,I⟩:=p;exact⟨G,by rw[c];rfl,by rw[(Eb (((pH j E).mpr λx=>by rw[n x,b x]).map tI) c)];rfl,I⟩
def Zj:∀(l a:Sub),(a.map (·.1)++l.map (·.1)).Nodup->yd (sD a) (l.map λp=>(.inr p.1,p.2.D))=sD (a++l):=by
 intro b;induction b with
 |nil=>rintro a _;simp[yd]
 |cons b l d=>
  obtain⟨x,w⟩:=b
  rintro a c
  have f:lk a x=none:=by
   have e:x∉a.map _:=λh=>(List.nodup_append.mp c).2.2 x h x (by simp) rfl;clear c;induction a with
   |nil=>rfl
   |cons p r g=>
    obtain⟨y,u⟩:=p;simp only[fL,iK,not_or]at e;show(if y=x then some u else lk r x)=none;rw[fJ (λz=>e.1 z.symm)];exact g e.2
  show yd (Ar _ _ w.D) _=_;rw[Ou w f,d _ (by simpa using c)];simp
def Aa(s:Sub):Tm->Int
 |.i z=>z
 |.s x=>match lk s x with
  |some (.i z)=>z
  |_=>0
def BG(n:Nat){s:Sub}{ts:List Tm}(j:ts.length<=900)(h:∀x,Tm.s x∈ts->∃z,lk s x=some (.i z)):ab (tab (n+1)) yx [.tup (ts.map Tm.D),.hZ false (sD s)]=.ok (.tup ((ts.map (Aa s)).map Pu.D.int)):=by
 rw[Xv];have e:a7 (aj (aa 0)) [1] _ (MD (jw (g1 (fb "str") (aa 0))) (g2 ao (aa 1) (aa 0)) (bp 0)) [.bo (.tup (ts.map Tm.D)),.bo (.hZ false (sD s))]=.ok (.lst (ts.map λt=>Pu.D.int (Aa s t))):=
  ir (f:=Tm.D) (by simp) (by lia) λt c=>by
   cases t with
   |i z=>simp[cf,Tm.D,Aa]
   |s x=>
    obtain⟨z,b⟩:=h x c;have a:=B5 x s;rw[b]at a;have d:ao (.hZ false _) (.str x)=some _:=a;simp[cf,Tm.D,Aa,d,b]
 have g:(ts.map λt=>Pu.D.int (Aa s t))=(ts.map (Aa s)).map Pu.D.int:=by rw[hV];rfl
 simp[Jj,e]
def EI(σ:Str->Int):∀c:List Str,Ep (c.map Pu.D.str) ((c.map σ).map Pu.D.int)=some ((c.map λx=>(x,Tm.i (σ x))).map λp=>(.inr p.1,p.2.D)):=by
 intro a;induction a with
 |nil=>exact rfl
 |cons x c b=>
  rw[fL,fL,fL];unfold Ep;rw[b];rfl
def i7(c:List Str)(σ:Str->Int):Sub:=c.map λx=>(x,Tm.i (σ x))
def Xr{c:List Str}(σ:Str->Int)(b:c.Nodup)(d:c.length<=1000)(r:En->e9)(U:En)(a:r U=.ok [cg c,tI (c.map σ)]):si r U=.ok (.hZ false (sD (i7 c σ))):=by
 unfold si;rw[a];show(match Ep _ _ with
  |some l=>if(c.map Pu.D.str).length<=fR then Res.ok _ else .st
  |none=>.st)=_
 rw[EI];dsimp only;rw[fM (by rw[fF,iT];lia)];have:=Zj (i7 c σ) [] (by
  unfold i7;simpa[qS]using b)
 exact congrArg (λl=>Res.ok _) this
def Hz(σ:Str->Int)(x:Str):∀c:List Str,x∈c->lk (i7 c σ) x=some (.i (σ x)):=by
 intro a;induction a with
 |nil=>rintro h;simp at h
 |cons y c b=>
  rintro h
  show(if y=x then some _ else lk _ x)=_
  by_cases e:y=x
  ·rw[fM e,e]
  ·rw[fJ e];exact b ((List.mem_cons.mp h).resolve_left λz=>e z.symm)
def uh(c:List Str)(r:List Int)(x:Str):Int:=r.getD (c.idxOf x) 0
def rl{c:List Str}{σ:Str->Int}{x:Str}(h:x∈c):uh c (c.map σ) x=σ x:=Da σ c x h
def Zd{c:List Str}{σ:Str->Int}:c.map (uh c (c.map σ))=c.map σ:=iA λx a=>rl a
def PH(a:List Tm)(c:List Str)(r:List Int):List Int:=a.map (u4 (uh c r))
def Yh(F G P:List Pu.D->Res){b:Nat}{j:List Tm}{c g o:List Str}{h d:List f7}{S:(Str->Int)->Prop}(R:Rep b g d S)(x:G [.tup (j.map Tm.D)]=.ok (cg o))(y:F [fy c h,cg o]=.ok (fy g d))(z:d.length<=100000)
  (v:∀σ:Str->Int,P [.tup (j.map Tm.D),.hZ false (sD (i7 g σ))]=.ok (tI (j.map (u4 σ)))){Q:Pu.D}(r:md (.lst (((bf d).map (PH j g)).map tI))=some Q):
  de (ak (fz [1] (cz 2 (af F (Pu.au (bp 1) (Pu.au (af G (Pu.au (aa 0) ae)) ae)))))
 (cm (g1 md (a7 (ij (fm xs.cls "rows" (aa 2))) [0,2] (gC (.bl true)) (af P (Pu.au (aa 1) (Pu.au (si (Pu.au (fm xs.cls "columns" (aa 2)) (Pu.au (aa 0) ae))) ae)))))) [.bo (.tup (j.map Tm.D)),.pu (fy c h),.no])=.ok Q:=by
 have u:=R.cl;have l:a7 (ij (fm xs.cls "rows" (aa 2))) [0,2] (gC (.bl true)) (af P (Pu.au (aa 1) (Pu.au (si (Pu.au (fm xs.cls "columns" (aa 2)) (Pu.au (aa 0) ae))) ae))) [.bo (.tup (j.map Tm.D)),.pu (fy c h),.pu (fy g d)]=.ok (.lst (d.map λp=>tI (PH j g p.1))):=by
  refine ir (f:=λp:f7=>tI p.1) ?_ (by lia) λp m=>?_
  ·simp;intro a b _;rfl
  ·obtain⟨σ,_,e⟩:=(R.mem p.1).mp (List.mem_map.mpr ⟨p,m,rfl⟩);have q:=Xr _ R.cn (by lia) (Pu.au (fm xs.cls "columns" (aa 2)) (Pu.au (aa 0) ae)) [.pu (tI p.1),.bo (.tup (j.map Tm.D)),.pu (fy g d)] (by
    have:g.map (uh g p.1)=p.1:=by rw[e];exact Zd
    rw[this];simp)
   have m:=v (uh g p.1);generalize _=L at q m⊢;unfold PH;show af P _ [.pu _,.bo _,.pu _]=_;rw[UO,EZ,EZ,q];simp[m]
 have n:(d.map λp=>tI (PH j g p.1))=((bf d).map (PH j g)).map tI:=by
  rw[hV,hV];rfl
 rw[n]at l;simp[x,y];rw[l];simp only[hV]at r;simp[r]
end LK
end
section
set_option genInjectivity true
namespace LK
open PySem PySem.Spec PyProof.Rows Pu
def fK(f:Fc):L2.aq:=[.inl (.inr f.1),.inr (f.2.map sL)]
def NY(f:Fc):kT (fK f)=fD f:=by
 show Pu.D.tup [.str f.1,.tup _]=_;rw[hV];rfl
def Uj(f:Fc):bu (fD f)=some (fK f):=by rw[<-NY];exact nh _
def PP{f g:Fc}(h:fK f=fK g):f=g:=by
 obtain⟨x,a⟩:=f;obtain⟨y,b⟩:=g;unfold fK at h;simp only[List.cons.injEq,Sum.inl.injEq,Sum.inr.injEq,and_true]at h;obtain⟨m,c⟩:=h;have:a=b:=by
  induction a generalizing b with
  |nil=>cases b with
   |nil=>rfl
   |cons _ _=>cases c
  |cons i r l=>cases b with
   |nil=>cases c
   |cons j t=>
    injection c with e d
    rw[uK e,l t d]
 rw[m,this]
def yn(F:List Fc):List Fc->List Fc
 |[]=>F
 |f::r=>yn (if f∈F then F else F++[f]) r
def Ml:∀(l F:List Fc),F.Nodup->(yn F l).Nodup:=by
 intro c;induction c with
 |nil=>rintro F h;exact h
 |cons f l d=>
  rintro F h
  refine d _ ?_;split
  ·exact h
  ·rename_i e;refine List.nodup_append.mpr ⟨h,by simp,λa j b g=>?_⟩;rw[List.mem_singleton.mp g];exact λz=>e (z▸j)
def Wt:∀(l F:List Fc),(yn F l).length<=F.length+l.length:=by
 intro a;induction a with
 |nil=>rintro F;simp[yn]
 |cons f l b=>
  rintro F
  unfold yn;have:=b (if f∈F then F else F++[f]);split at this
  ·simp;rename_i h;rw[fM h];lia
  ·rename_i h;rw[fJ h];simp at this⊢;lia
def Ze:∀(l F:List Fc)(f:Fc),f∈yn F l↔f∈F\/f∈l:=by
 intro a;induction a with
 |nil=>rintro F f;simp[yn]
 |cons g l b=>
  rintro F f
  rw[yn,b,iK]
  by_cases h:g∈F
  ·rw[fM h];constructor
   ·rintro (z|z)
    ·exact .inl z
    ·exact .inr (.inr z)
   ·rintro (z|rfl|z)
    ·exact .inl z
    ·exact .inl h
    ·exact .inr z
  ·rw[fJ h,lC,nF,or_assoc]
theorem Ja:∀(l F:List Fc),(∀f∈F,gH f.1=true)->(∀f∈l,gH f.1=true)->∀f∈yn F l,gH f.1=true
 |[],F,h,_=>h
 |g::l,F,h,k=>by
  refine Ja l _ ?_ λf hf=>k f (fH _ hf);split
  ·exact h
  ·intro f hf;rcases List.mem_append.mp hf with hf|hf
   ·exact h f hf
   ·rw[List.mem_singleton.mp hf];exact k g fN
def J1{x y:Str}{c d:List Int}(h:xy x c=xy y d):x=y/\c=d:=by
 have j:¬(x.cps.toList.map kU++(-1)::c<y.cps.toList.map kU++(-1)::d):=λz=>by
  have a:x.cps.toList.map kU++(-1)::c=y.cps.toList.map kU++(-1)::d:=h;rw[a]at z;exact pF _ z
 have g:¬(y.cps.toList.map kU++(-1)::d<x.cps.toList.map kU++(-1)::c):=λz=>by
  have a:x.cps.toList.map kU++(-1)::c=y.cps.toList.map kU++(-1)::d:=h;rw[a]at z;exact pF _ z
 have f:=λz=>j ((B0 x.cps.toList y.cps.toList c d).mpr z);have e:=λz=>g ((B0 y.cps.toList x.cps.toList d c).mpr z);have b:x.cps.toList=y.cps.toList:=by
  by_cases q:x.cps.toList=y.cps.toList
  ·exact q
  ·exact absurd (.inl (qC (λz=>f (.inl z)) (kS q))) e
 refine⟨Rw b,?_⟩
 by_cases q:c=d
 ·exact q
 ·exact absurd (.inr ⟨b.symm,qC (λz=>f (.inr ⟨b,z⟩)) (kS q)⟩) e
def Yx:∀{F:List Fc},(∀f∈F,gH f.1=true)->kc (F.map fD)=some (F.map λf=>xy f.1 f.2):=by
 intro a;induction a with
 |nil=>rintro _;exact rfl
 |cons f F b=>
  rintro h
  have d:∀l:List Int,rg (l.map Pu.D.int)=some l:=λl=>by
   induction l with
   |nil=>rfl
   |cons i r c=>rw[fL,rg,c];rfl
  have e:Nz (fD f)=some (xy f.1 f.2):=by
   show(if gH f.1 then(rg _).map _ else none)=_;rw[fM (h f fN),d];rfl
  rw[fL,kc,e,b λg j=>h g (fH _ j)];rfl
def QJ{α β:Type}(h:α->β):∀(l:List β)(F:List α),(∀d∈l,d∈F.map h)->∃G:List α,l=G.map h:=by
 intro a;induction a with
 |nil=>rintro F _;exact⟨[],rfl⟩
 |cons d l b=>
  rintro F e
  obtain⟨f,g,rfl⟩:=List.mem_map.mp (e d fN);obtain⟨G,rfl⟩:=b F λd c=>e d (fH _ c);exact⟨f::G,rfl⟩
abbrev Bz(f:Fc):List Int:=xy f.1 f.2
def Lx{F:List Fc}(v:F.Nodup)(y:∀f∈F,gH f.1=true)(z:F.length<64):∃G:List Fc,gj (F.map fD)=some (G.map fD)/\(∀f,f∈G↔f∈F)/\G.length=F.length/\G.Pairwise λf g=>Bz f<Bz g:=by
 unfold gj
 by_cases m:(F.map fD).length<2
 ·rw[fM m];refine⟨F,rfl,λf=>Iff.rfl,rfl,?_⟩
  match F,m with
  |[],_=>exact .nil
  |[f],_=>exact List.pairwise_singleton ..
  |_::_::_,h=>simp at h;lia
 ·rw[fJ m,fM (by rw[fF];exact z)];have x:j9 (F.map fD)=none:=by
   cases F with
   |nil=>simp at m
   |cons f r=>rfl
  have e:jl (F.map fD)=some (2,F.map λf=>xy f.1 f.2):=by
   unfold jl;rw[x,Yx y];rfl
  rw[e];dsimp only;have q:(F.map λf=>xy f.1 f.2).Nodup:=by
   rw[List.Nodup,nU];refine tH (λ{a b} p B=>?_) v;obtain⟨o,n⟩:=J1 B;exact p (Prod.ext o n)
  rw[fM q];have u:(F.map λf=>xy f.1 f.2).zip (F.map fD)=F.map λf=>_:=List.zip_map' ..;have c:=k6 ((F.map λf=>xy f.1 f.2).zip (F.map fD));have j:=zy (l:=(F.map λf=>xy f.1 f.2).zip _) (by rwa [u,hV]);rw[u]at c j⊢;obtain⟨G,E⟩:=QJ _ _ F λd C=>c.mem_iff.mp C;rw[E]at c j⊢;have inj:∀{f g:Fc},((Bz f,fD f):List Int×Pu.D)=(Bz g,fD g)->f=g:=λ{f g} h=>by
   obtain⟨o,n⟩:=J1 (congrArg Prod.fst h);exact Prod.ext o n
  refine⟨G,by rw[hV];rfl,λf=>?_,by have:=c.length_eq;rwa [fF,fF]at this,by rw[nU]at j;exact j⟩;have:=c.mem_iff (a:=(Bz f,fD f));rw[pM,pM]at this;constructor
  ·intro h;obtain⟨g,A,e⟩:=this.mp ⟨f,h,rfl⟩;rwa [<-inj e]
  ·intro h;obtain⟨g,A,e⟩:=this.mpr ⟨f,h,rfl⟩;rwa [<-inj e]
def O5:∀(l F:List Fc),(l.map fK).foldl L2.xa (F.map fK)=(yn F l).map fK:=by
 intro a;induction a with
 |nil=>rintro F;exact rfl
 |cons f l b=>
  rintro F
  rw[fL,oO];unfold yn;rw[<-b]
  congr 1
  unfold L2.xa;have e:L2.x8 (F.map fK) (fK f)=decide (f∈F):=by
   by_cases h:f∈F
   ·rw[decide_eq_true h];exact L2.rf.mpr (List.mem_map.mpr ⟨f,h,rfl⟩)
   ·rw[decide_eq_false h];cases q:L2.x8 _ _ with
    |false=>rfl
    |true=>
     obtain⟨g,c,e⟩:=List.mem_map.mp (L2.rf.mp q);exact absurd (PP e▸c) h
  rw[e]
  by_cases h:f∈F
  ·rw[fM (decide_eq_true h),fM h]
  ·rw[fJ (by simp[h]),fJ h,jK];rfl
def Hu:∀F:List Fc,kr (F.map fD)=some (F.map fK):=by
 intro a;induction a with
 |nil=>exact rfl
 |cons f F b=>rw[fL,kr,Uj,b];rfl
def Rz(f:Fc):bz (fD f)=some (.tuple [.str f.1,.tuple (f.2.map kL)]):=by
 unfold fD;rw[bz,b9,b9,b9,bz,bz,t7]
def Bc{f:Fc}(ok:gH f.1=true):iB (.tuple [.str f.1,.tuple (f.2.map kL)])=true:=by
 obtain⟨a,c,_⟩:=B8 (b:=2) (k:=Bz f) (xs:=[.str f.1,.tuple _]) ⟨f.1,f.2,rfl,ok,rfl⟩;unfold iB;rw[gG];refine⟨?_,decide_eq_true ?_⟩
 ·exact a
 ·rw[jZ];lia
def Uw{f g:Fc}(c:gH f.1=true)(a:gH g.1=true):zp (fD f) (fD g)=some (.bl (decide (Bz f<Bz g))):=by
 unfold zp;unfold cZ;rw[Rz,Rz];dsimp only;rw[Bc c,Bc a];have:=CI (b:=2) (k:=Bz f) (l:=Bz g) (xs:=[.str f.1,.tuple _]) (ys:=[.str g.1,.tuple _]) ⟨f.1,f.2,rfl,c,rfl⟩ ⟨g.1,g.2,rfl,a,rfl⟩;rw[Bool.and_self,fM rfl,EC,this];rfl
def f0:Fc:=("",[])
def Gb:List Fc->Bool
 |[]=>true
 |[_]=>true
 |f::g::r=>decide (Bz f<Bz g) && Gb (g::r)
theorem D3:∀F:List Fc,((hJ (F.length - 1)).all λj=>decide (Bz (F.getD j f0)<Bz (F.getD (j+1) f0)))=Gb F
 |[]=>rfl
 |[_]=>rfl
 |f::g::r=>by
  have e:(f::g::r).length - 1=(g::r).length - 1+1:=by simp
  rw[e,List.range_succ_eq_map,iF,List.all_map];unfold Gb;rw[<-(D3 _)];rfl
def Ki{F:List Fc}{k:Nat}(h:k<F.length):ao (.lst (F.map fD)) (.int (k:Int))=some (fD (F.getD k f0)):=by
 refine L2.wa ?_;simp[h]
def Vq(n:Nat){F:List Fc}(c:∀f∈F,gH f.1=true)(h:F.length<=1000):ab (tab (n+1)) my [.lst (F.map fD)]=.ok (.bl (Gb F)):=by
 rw[Hk];have d:a7 (dq (Pu.au (g2 zr (g1 cy (aa 0)) (gC (.int 1))) ae)) [0] (gC (.bl true)) (g2 zp (g2 ao (aa 1) (aa 0)) (g2 ao (aa 1) (g2 a6 (aa 0) (gC (.int 1))))) [.bo (.lst (F.map fD))]=.ok (.lst ((hJ (F.length - 1)).map λj=>Pu.D.bl (decide (Bz (F.getD j f0)<Bz (F.getD (j+1) f0))))):=by
  refine r8 ?_ (by lia) λj l=>?_
  ·have:((F.length:Int) - 1).toNat=F.length - 1:=by lia
   rw[<-this];exact j5 _ _ (by simp) (by lia)
  ·have g:(0+(j:Int))+1=((j+1:Nat):Int):=by push_cast;lia
   have e:(0+(j:Int))=((j:Nat):Int):=by lia
   have ok:∀k,k<F.length->gH (F.getD k f0).1=true:=λk a=>by
    have:F.getD k f0=F[k]:=by simp[a]
    rw[this];exact c _ (nD a)
   show(g2 zp _ _) [.pu _,.bo _]=_;simp only[ZY,YD,fZ,jP,jQ,Aw,Ax,YF,g];rw[e,(Ki (k:=j) (by lia)),(Ki (k:=j+1) (by lia))];simp only[Ax,Aw,(Uw (ok j (by lia)) (ok (j+1) (by lia)))]
 have b:=Bx (λj=>decide (Bz (F.getD j f0)<Bz (F.getD (j+1) f0))) (hJ (F.length - 1));rw[D3]at b;simp -implicitDefEqProofs [yq,d,b,-gW]
def Ff{F:List Fc}(b:∀f∈F,gH f.1=true)(j:F.length<64):∃G:List Fc,gw (.lst (F.map fD))=some (.lst (G.map fD))/\(∀f,f∈G↔f∈F)/\G.length<=F.length/\G.Pairwise λf g=>Bz f<Bz g:=by
 cases F with
 |nil=>exact⟨[],rfl,(λf=>Iff.rfl),fQ _,.nil⟩
 |cons f r=>
  show∃G:List Fc,((kr _).bind λa=>if(L2.ug a).length<=76 then(gj _).map Pu.D.lst else none)=_/\_;rw[Hu];show∃G:List Fc,(if(L2.ug _).length<=76 then(gj _).map Pu.D.lst else none)=_/\_;have d:L2.ug _=(yn [] _).map fK:=O5 (f::r) [];have e:=Wt (f::r) [];rw[jM,lS]at e;have em:((yn [] (f::r)).map fK).map kT=(yn [] (f::r)).map fD:=by
   rw[hV];exact iA λg _=>NY g
  rw[d,fM (by rw[fF];lia),em];obtain⟨G,g1,g2,l,c⟩:=Lx (Ml _ [] lQ) (Ja _ [] (by intro f h;cases h) b) (by lia);refine⟨G,by rw[g1];rfl,λg=>?_,by lia,c⟩;rw[g2 g,Ze];simp
theorem Ro:∀{G:List Fc},G.Pairwise (λf g=>Bz f<Bz g)->Gb G=true
 |[],_=>rfl
 |[_],_=>rfl
 |f::g::r,h=>by
  rw[List.pairwise_cons]at h;unfold Gb;rw[decide_eq_true (h.1 g fN),Ro h.2];rfl
def Qk(f:Fc):Prop:=U3 f.1=true/\1<=f.2.length/\f.2.length<=4
def T9(n:Nat){f:Fc}(h:Qk f):ab (tab (n+4)) qz [fD f]=.ok (.bl true):=by
 rw[Tg];obtain⟨a,j,g⟩:=h;have c:ab (tab (n+3)) jr [fD f]=.ok (.bl true):=by rw[Ak];simp[wb,fD]
 have b:=qg (n+2) (l:=f.2) (f:=Pu.D.int) (lo:=1) (hi:=4) (y:="is_number") (d:=lx) (by kernel_rfl) rfl (by lia) (by lia) (by lia) λz e=>by
  rw[show n+2=_+1 from rfl,A4];simp[uo]
 unfold fD at *;simp[Fi,c,(Iv _ a),b]
def fA(f:Fc):At:=⟨f.1,f.2.map Tm.i⟩
def GN(f:Fc):(fA f).D=fD f:=by
 unfold fA At.D fD;rw[hV];rfl
def Z5(n:Nat){F:List Fc}(y:F.length<=900)(h:∀f∈F,∀g∈F,f.1=g.1->f.2.length=g.2.length):ab (tab (n+1)) cw [.lst (F.map fD)]=.ok (.bl true):=by
 have p:F.map fD=(F.map fA).map At.D:=by
  rw[hV];exact iA λf _=>(GN f).symm
 have l:∀a∈F.map fA,∀b∈F.map fA,a.nm=b.nm->a.ts.length=b.ts.length:=λa v b u e=>by
  obtain⟨f,r,rfl⟩:=List.mem_map.mp v;obtain⟨g,q,rfl⟩:=List.mem_map.mp u;show(f.2.map Tm.i).length=(g.2.map Tm.i).length;rw[fF,fF];exact h f r g q e
 have j:(F.map fA).length<=900:=by rwa [fF]
 rw[p];generalize F.map fA=m at l j;rw[mr];obtain⟨o,x,e⟩:=K8 _ m [] .no l (λa _ d e=>by cases e) (by simp;lia);have c:di _ (aj (wz 0)) Hw [.bo (.lst (m.map At.D)),.od false [],.no]=_:=(c6 (by simp)).trans e;unfold Hw at c;simp[jd,c]
structure Bk(G:List Fc):Prop where
 g:∀f∈G,Qk f
 one:∀f∈G,∀g∈G,f.1=g.1->f.2.length=g.2.length
 pw:G.Pairwise λf g=>Bz f<Bz g
 len:G.length<=9
def Mw(n:Nat){G:List Fc}(B:Bk G):ab (tab (n+5)) iu [.lst (G.map fD)]=.ok (.lst (G.map fD)):=by
 have e:=B.len;rw[C1];have d:a7 (aj (aa 0)) [] _ (af (ab (tab (n+4)) qz) (Pu.au (aa 0) ae)) [.bo (.lst (G.map fD))]=.ok (.lst (G.map λ_=>Pu.D.bl true)):=
  ir (f:=fD) (by simp) (by lia) λf a=>by
   simp[cf,(T9 n (B.g f a))]
 have b:=Bx (λ_:Fc=>true) G;rw[List.all_eq_true.mpr λ_ _=>rfl]at b;have c:=Vq (n+3) (F:=G) (λf a=>fw (B.g f a).1) (by lia);rw[Ro B.pw]at c;simp[um,d,b,c,(Z5 (n+3) (F:=G) (by lia) B.one),fq]
end LK
end
section
set_option genInjectivity true
namespace LK
open PySem PySem.Spec PyProof.Rows Pu
structure wh(hd:List Tm)(as:List At):Prop where
 h:∀t∈hd,t.good
 g:∀x∈as,x.good
 hl:hd.length<=2
 al:as.length<=3
 ne:1<=as.length
 sh:∀x∈as,∀y∈as,x.nm=y.nm->x.ts.length=y.ts.length
 st:∀x,Tm.s x∈hd->∃b∈as,Tm.s x∈b.ts
def OG(n:Nat){b:List Tm}{a:List At}(A:wh b a):ab (tab (n+6)) gf [fj b a]=.ok (fj b a):=by
 have m:=A.ne;have o:=A.hl;have j:=A.al;have e:ab (tab (n+5)) jr [fj b a]=.ok (.bl true):=by rw[Ak];simp[wb,fj]
 rw[Aj];unfold fj at *;simp[qu,e,(qg (n+4) (l:=b) (f:=Tm.D) (lo:=0) (hi:=4) (y:="is_term") (d:=q8) (by kernel_rfl) rfl (by lia) (by lia) (by lia) λt c=>F3 (n+2) (A.h t c)),(qg (n+4) (l:=a) (f:=At.D) (lo:=1) (hi:=6) (y:="is_atom") (d:=wc) (by kernel_rfl) rfl (by lia) (by lia) (by lia) λt c=>T8 n (A.g t c)),(U4 (n+4) (as:=a) (by lia) A.sh),(Ly (n+3) A.h A.g (by lia) (by lia) A.st)]
def OW(CA n m g h j l:List Pu.D->Res){b:List Tm}{as:List At}{bk:Pu.D}{d B Q c:Pu.D}{wd:List Str}{f:At->Pu.D}(C:as.length<=1000)(A:CA [fj b as]=.ok B)(z:n [bk]=.ok bk)(y:m [bk]=.ok d)(x:∀a∈as,g [a.D,d]=.ok (f a))(v:h [.tup (b.map Tm.D)]=.ok (cg wd))
  (u:j [.lst (as.map f),cg wd]=.ok c)(r:l [.tup (b.map Tm.D),c]=.ok Q):
  de (ak (fz [0] (Gc (af CA (Pu.au (bp 0) ae))))
 (ak (cz 2 (af m (Pu.au (af n (Pu.au (aa 1) ae)) ae)))
 (ak (cz 3 (g2 ao (aa 0) (gC (.int 0))))
 (ak (b8 4 (a7 (aj (g2 ao (aa 0) (gC (.int 1)))) [2] (gC (.bl true)) (af g (Pu.au (aa 0) (Pu.au (aa 1) ae)))))
 (cm (af l (Pu.au (aa 3) (Pu.au (af j (Pu.au (aa 4) (Pu.au (af h (Pu.au (aa 3) ae)) ae))) ae))))))) [.pu (fj b as),.bo bk,.no,.no,.no])=.ok Q:=by
 have p:ao (fj b as) (.int 0)=some _:=rfl;have o:ao (fj b as) (.int 1)=some _:=rfl;have e:a7 (aj (g2 ao (aa 0) (gC (.int 1)))) [2] _ (af g (Pu.au (aa 0) (Pu.au (aa 1) ae))) [.pu (fj b as),.bo bk,.pu d,.pu (.tup (b.map Tm.D)),.no]=.ok (.lst (as.map f)):=
  ir (f:=At.D) (by simp[o]) (by lia) λa q=>by
   have:=x a q;simp[cf,this]
 simp[Gc,A,z,y,p,e,v,u,r]
def Ma{a:List Tm}{c:List Str}(σ:Str->Int)(h:∀x,Tm.s x∈a->x∈c):a.map (Aa (i7 c σ))=a.map (u4 σ):=by
 refine iA λt b=>?_;cases t with
 |i z=>rfl
 |s x=>
  show(match lk _ x with|some (.i z)=>z|_=>0)=σ x;rw[Hz σ x c (h x b)]
def GD(n:Nat){b:Nat}{a:List Tm}{c:List Str}{d:List f7}{S:(Str->Int)->Prop}(R:Rep b c d S)(B:∀t∈a,t.good)(J:a.length<=2)(E:∀x,x∈c↔Tm.s x∈a)(v:d.length<=8000):
  ∃L:List (List Int),L.Nodup/\(∀r,r∈L↔∃σ,S σ/\r=a.map (u4 σ))/\∀Q,md (.lst (L.map tI))=some Q->ab (tab (n+3)) lu [.tup (a.map Tm.D),fy c d]=.ok Q:=by
 have A:=oz a;have u:=we (lq a) [];simp only[jM,lS]at u;obtain⟨g,j,I,H⟩:=vm n (names:=je [] _) R (λx e=>by
  rcases(ja x _ _).mp e with z|z
  ·simp at z
  ·exact fw (z9 B x z)) (by lia) (by lia)
 have f:∀x,x∈(c.filter λx=>decide (x∈je [] (lq a)))↔Tm.s x∈a:=λx=>by
  rw[oP,decide_eq_true_eq,ja,E x,lh];simp
 generalize (c.filter λx=>decide (x∈je [] _))=h at *;refine⟨(bf g).map (PH a h),?_,λr=>?_,λQ G=>?_⟩
 ·rw[List.Nodup,nU];refine List.Pairwise.imp_of_mem (λ{r t} v m p C=>p ?_) j.rn;obtain⟨σ,_,rfl⟩:=(j.mem r).mp v;obtain⟨τ,_,rfl⟩:=(j.mem t).mp m;refine iA λx e=>?_;have:=List.map_inj_left.mp C _ ((f x).mp e);have q:uh h _ x=uh h _ x:=this;rwa [rl e,rl e]at q
 ·have l:∀σ:Str->Int,PH a h _=a.map (u4 σ):=λσ=>wg λx e=>rl ((f x).mpr (lh.mp e));rw[pM];constructor
  ·rintro ⟨t,m,rfl⟩
   obtain⟨σ,o,rfl⟩:=(j.mem t).mp m;exact⟨σ,o,l σ⟩
  ·rintro ⟨σ,o,rfl⟩
   exact⟨h.map σ,(j.mem _).mpr ⟨σ,o,rfl⟩,l σ⟩
 ·have:=Yh _ _ _ j (vy (n+1) a (by lia) true) H (by lia) (λσ=>by
   have y:=BG (n+1) (s:=i7 h σ) (ts:=a) (by lia) λx e=>⟨σ x,Hz σ x h ((f x).mpr e)⟩;rw[Ma σ λx e=>(f x).mpr e]at y;exact y) G
  exact this
def oi{d:fc}{k m:Nat}(h:k=m){a:List Pu.D}{r:Res}(e:ab (tab k) d a=r):ab (tab m) d a=r:=by
 subst h;exact e
def Eu:Nat->List (List Int)
 |0=>[[]]
 |m+1=>(Eu m).map ((-1)::·)++((Eu m).map (0::·)++((Eu m).map (1::·)++(Eu m).map (2::·)))
def Zg:∀(r:List Int),(∀z∈r,-1<=z/\z<=2)->r∈Eu r.length:=by
 intro b;induction b with
 |nil=>rintro _;simp[Eu]
 |cons z r c=>
  rintro h
  have e:=h z fN;have a:=c λy d=>h y (fH _ d);rw[fI];unfold Eu;rw[lC,lC,lC];have:z=-1\/z=0\/z=1\/z=2:=by lia
  obtain rfl|rfl|rfl|rfl:=this
  ·exact .inl (List.mem_map.mpr ⟨r,a,rfl⟩)
  ·exact .inr (.inl (List.mem_map.mpr ⟨r,a,rfl⟩))
  ·exact .inr (.inr (.inl (List.mem_map.mpr ⟨r,a,rfl⟩)))
  ·exact .inr (.inr (.inr (List.mem_map.mpr ⟨r,a,rfl⟩)))
def Wy{m:Nat}(h:m<=2):(Eu m).length<64:=by
 match m,h with
 |0,_=>decide
 |1,_=>decide
 |2,_=>decide
def Mn(n:Nat){d:List Tm}{l:List At}{G:List Fc}{P:List (List Int)}(A:wh d l)(B:Bk G)(hv:∀f∈G,∀z∈f.2,-1<=z/\z<=2)(hh:∀z,Tm.i z∈d->-1<=z/\z<=2)(T:∀r,r∈P↔∃σ,(∀a∈l,UI G a σ)/\r=d.map (u4 σ)):
  ∃R:List (List Int),gw (.lst (P.map tI))=some (.lst (R.map tI))/\R.length<=1000/\ab (tab (n+9)) nc [fj d l,.lst (G.map fD)]=.ok (.lst (R.map tI)):=by
 have ι:=A.al;have M:=B.len;have C:=A.hl;have ε:=oz d;have H:=we (lq d) [];simp only[jM,lS]at H;obtain⟨gs,e3,E⟩:=Mp (n+7) G (by lia);obtain⟨c,o,R,h1,h2,h3,e6⟩:=Tt (n+3) (wd:=je [] _) (fs:=l.map (OR G)) (λx u=>by
  rcases(ja x _ _).mp u with z|z
  ·simp at z
  ·exact fw (z9 A.h x z)) (by lia) (λf q=>by
  obtain⟨a,j,rfl⟩:=List.mem_map.mp q;exact OQ (A.g a j) (by lia)) (by rw[fF];lia)
 have hc:∀x,x∈c↔Tm.s x∈d:=λx=>by
  rw[h3 x,ja,lh];constructor
  ·rintro ⟨_,z|z⟩
   ·simp at z
   ·exact z
  ·intro u;obtain⟨a,j,y⟩:=A.st x u;refine⟨List.mem_flatMap.mpr ⟨OR G a,List.mem_map.mpr ⟨a,j,rfl⟩,?_⟩,.inr u⟩;exact(ja x _ _).mpr (.inr (lh.mpr y))
 obtain⟨L,L1,L2,L3⟩:=GD (n+5) R A.h A.hl hc h1;have O:∀σ,Et _ σ↔∀a∈l,UI G a σ:=λσ=>⟨λh a j=>h (OR G a) (List.mem_map.mpr ⟨a,j,rfl⟩),λh f q=>by
  obtain⟨a,j,rfl⟩:=List.mem_map.mp q;exact h a j⟩
 have p:∀r∈P,r.length=d.length/\r∈Eu d.length:=λr hr=>by
  obtain⟨σ,v,rfl⟩:=(T r).mp hr;have N:(d.map (u4 σ)).length=d.length:=fF ..;refine⟨N,?_⟩;have:=Zg (d.map (u4 σ)) λz hz=>by
   obtain⟨t,J,rfl⟩:=List.mem_map.mp hz;cases t with
   |i z=>exact hh z J
   |s x=>
    obtain⟨a,j,y⟩:=A.st x J;obtain⟨f,q,_,e⟩:=v a j;exact hv f q _ (by rw[e];exact List.mem_map.mpr ⟨.s x,y,rfl⟩)
  rwa [N]at this
 obtain⟨Q,q1,q2,Y⟩:=Vx (L:=L) (U:=Eu d.length) (m:=d.length) (Wy C) p L1 λr=>by
  rw[L2 r,T r];exact⟨by rintro ⟨σ,a,b⟩;exact⟨σ,(O σ).mp a,b⟩,by rintro ⟨σ,a,b⟩;exact⟨σ,(O σ).mpr a,b⟩⟩
 refine⟨Q,q1,Y,?_⟩;have I:ab (tab (n+8)) g9 [.lst (l.map λa=>(OR G a).D),cg (je [] (lq d))]=.ok (fy c o):=by
  have:=oi (m:=n+8) (by lia) e6;rw[hV]at this;exact this
 have run:=OW (ab (tab (n+8)) gf) (ab (tab (n+8)) iu) (ab (tab (n+8)) gz) _ (ab (tab (n+8)) fk) _ (ab (tab (n+8)) lu)
  (as:=l) (bk:=.lst _) (wd:=je [] _) (f:=λa=>(OR G a).D) (by lia) (oi (by lia) (OG (n+2) A)) (oi (by lia) (Mw (n+3) B)) (oi (by lia) e3) (λa j=>Gw (n+6) (A.g a j) E (by lia)) (oi (by lia) (vy (n+7) d (by lia) true)) I (oi (by lia) (L3 _ q2))
 exact run
def VZ(r t:Int):Nat:=((aZ r+t) % 3+1).toNat
def Pk(r t:Int):1<=VZ r t/\VZ r t<=3/\((VZ r t:Nat):Int)=(aZ r+t) % 3+1:=by
 unfold VZ
 lia
def dF(b:List Int)(a t k:Int):Fc:=(Jc (i4 b (a+1+4 * k) 3),(hJ (VZ (i4 b (a+1+4 * k) 3) t)).map λ(j:Nat)=>i4 b (a+2+4 * k+(j:Int)) 4 - 1)
def OF(n:Nat):En->Res:=(a7 (dq (Pu.au (aa 7) ae)) [1,5,0] (gC (.bl true)) (g2 zr (af (ab (tab n) a8) (Pu.au (aa 3) (Pu.au (g2 a6 (g2 a6 (g2 a6 (aa 1) (gC (.int 2))) (g2 kf (gC (.int 4)) (aa 2))) (aa 0)) (Pu.au (gC (.int 4)) ae)))) (gC (.int 1))))
def VI(n:Nat):En->Out:=(ak (cz 6 (g2 ao (cq (Pu.au (gC (.str "r")) (Pu.au (gC (.str "s")) (Pu.au (gC (.str "t")) ae)))) (af (ab (tab n) a8) (Pu.au (aa 0) (Pu.au (g2 a6 (g2 a6 (aa 1) (gC (.int 1))) (g2 kf (gC (.int 4)) (aa 5))) (Pu.au (gC (.int 3)) ae))))))
 (ak (fz [6] (cz 7 (g2 a6 (g2 xm (g2 a6 (gM fo (cq (Pu.au (gC (.str "t")) (Pu.au (gC (.str "r")) (Pu.au (gC (.str "s")) ae)))) (aa 6)) (aa 4)) (gC (.int 3))) (gC (.int 1)))))
 (fz [6] (rj 3 (Pu.js (Pu.au (bp 6) (Pu.au (g1 jj (OF n)) ae)))))))
def P7(b:List Int)(a t k:Int):Qk (dF b a t k):=by
 obtain⟨g,f⟩:=c9 b (a+1+4 * k) 3 (by decide);obtain⟨c,d,_⟩:=Pk _ t;unfold dF Qk;dsimp only;rw[fF,jI];refine⟨?_,c,by lia⟩;have:i4 b (a+1+4 * k) 3=0\/i4 b (a+1+4 * k) 3=1\/i4 b (a+1+4 * k) 3=2:=by lia
 rcases this with e|e|e<;>rw[e]<;>decide+kernel
def FC(b:List Int)(a t k:Int):∀z∈(dF b a t k).2,-1<=z/\z<=2:=λz c=>by
 obtain⟨j,_,rfl⟩:=List.mem_map.mp c;obtain⟨e,d⟩:=c9 b (a+2+4 * k+(j:Int)) 4 (by decide)
 lia
def OE(b:List Int)(a t:Int)(k l:Int)(h:(dF b a t k).1=(dF b a t l).1):(dF b a t k).2.length=(dF b a t l).2.length:=by
 obtain⟨p,o⟩:=c9 b (a+1+4 * k) 3 (by decide);obtain⟨q,g1⟩:=c9 b (a+1+4 * l) 3 (by decide);unfold dF at h⊢;rw[fF,jI,fF,jI];have d:i4 b (a+1+4 * k) 3=0\/i4 b (a+1+4 * k) 3=1\/i4 b (a+1+4 * k) 3=2:=by lia
 have c:i4 b (a+1+4 * l) 3=0\/i4 b (a+1+4 * l) 3=1\/i4 b (a+1+4 * l) 3=2:=by lia
 have g:("r":Str)≠"s":=by decide+kernel
 have f:("r":Str)≠"t":=by decide+kernel
 have e:("s":Str)≠"t":=by decide+kernel
 have n:Jc 0="r":=by decide+kernel
 have m:Jc 1="s":=by decide+kernel
 have j:Jc 2="t":=by decide+kernel
 rcases d with d|d|d<;>rcases c with c|c|c<;>rw[d,c]at h⊢<;>simp only[n,m,j]at h<;>
  first
  |exact absurd h g
  |exact absurd h f
  |exact absurd h e
  |exact absurd h.symm g
  |exact absurd h.symm f
  |exact absurd h.symm e
def OJ(n:Nat)(b:List Int)(a t k:Int)(E:0<=a)(B:0<=k){F:List Fc}(G:F.length<=1000)(c q p:Sl):
  ∃o m,VI (n+2) [.bo (fe b),.bo (.int a),c,.ow (F.map fD),.pu (.int t),.pu (.int k),q,p]=.nx [.bo (fe b),.bo (.int a),c,.ow ((F++[dF b a t k]).map fD),.pu (.int t),.pu (.int k),o,m]:=by
 have g:=i5 n b (a+1+4 * k) 3 (by lia) (by decide);obtain⟨x,v⟩:=c9 b _ 3 (by decide);unfold dF;generalize i4 b _ 3=r at g x v⊢;have em:=λz=>Eo 4 z (.inl (by decide));obtain⟨A,y,u⟩:=Pk r t;have d:∀(f:Pu.D),OF (n+2) [.bo (fe b),.bo (.int a),c,.ow (F.map fD),.pu (.int t),.pu (.int k),.pu f,.pu (.int (_ % 3+1))]=.ok (.lst (((hJ _).map λ(j:Nat)=>i4 b (a+2+4 * k+(j:Int)) 4 - 1).map Pu.D.int)):=λf=>by
  rw[hV,<-u];refine r8 (j5 _ _ (j':=((VZ r t))) (by simp) (by lia)) (by lia) λj C=>?_;simp[cf,em,(i5 n b (a+2+4 * k+j) 4 (by lia) (by decide))]
 have e:F.length<16777216:=by lia
 have:r=0\/r=1\/r=2:=by lia
 obtain⟨l,h,_⟩:=NX this;simp -implicitDefEqProofs [VI,em,(λz=>L9 z 3 (by decide)),g,l,h,d,e,fD,-hV]
def FK(n:Nat)(d:List Int)(a t:Int)(x:0<=a)(g:Sl):∀(l:List Int)(F:List Fc)(f c b:Sl),(∀k∈l,0<=k)->F.length+l.length<=1000->
  ∃r p o,turns (az 5) (VI (n+2)) (l.map Pu.D.int) [.bo (fe d),.bo (.int a),g,.ow (F.map fD),.pu (.int t),f,c,b]=.nx [.bo (fe d),.bo (.int a),g,.ow ((F++l.map (dF d a t)).map fD),.pu (.int t),r,p,o]:=by
 intro m;induction m with
 |nil=>rintro F f c b _ _;exact⟨f,c,b,by simp[turns]⟩
 |cons k l q=>
  rintro F f c b h u
  rw[fI]at u;obtain⟨p,o,e⟩:=OJ n d a t k x (h k fN) (F:=F) (by lia) g c b;obtain⟨B,A,z,y⟩:=q (F++[dF d a t k]) _ p o (λj v=>h j (fH _ v)) (by simp;lia);rw[fL,bc (δ1:=[.bo _,.bo _,g,.ow _,.pu _,.pu _,c,b]) rfl,e];dsimp only;rw[y];simp
def FJ(n:Nat)(a:List Int):∃G:List Fc,Bk G/\(∀f∈G,∀z∈f.2,-1<=z/\z<=2)/\(∀f∈G,f.2.length<=3)/\ab (tab (n+3)) ny [fe a,.int 60,.int 9]=.ok (.lst (G.map fD)):=by
 rw[M8];have p:=i5 n a 60 10 (by decide) (by decide);obtain⟨A,y⟩:=c9 a 60 10 (by decide);generalize i4 a 60 10=r at p A y;have m:=i5 n a 110 6 (by decide) (by decide);generalize i4 a 110 6=u at m;have h:∃t,Ii (.int 0) (.int (u - 3))=some (.int t):=by
  exact⟨_,rfl⟩
 obtain⟨t,H⟩:=h;obtain⟨x,v,q,o⟩:=FK n a 60 t (by decide) _ (ml r.toNat) [] .no .no .no (λk I=>(Ga I).1) (by simp[ml];lia);have b:∀f∈(ml r.toNat).map (dF a 60 t),∃k,f=dF a 60 t k:=λf c=>by
  obtain⟨k,_,rfl⟩:=List.mem_map.mp c;exact⟨k,rfl⟩
 have E:((ml r.toNat).map (dF a 60 t)).length<=9:=by simp[ml];lia
 generalize (ml r.toNat).map (dF a 60 t)=F at o b E;obtain⟨G,C,d,L,B⟩:=Ff (λf c=>by obtain⟨k,rfl⟩:=b f c;exact fw (P7 a 60 t k).1) (by lia);refine⟨G,⟨λf c=>?_,λf c g J e=>?_,B,by lia⟩,λf c=>?_,λf c=>?_,?_⟩
 ·obtain⟨k,rfl⟩:=b f ((d f).mp c);exact P7 a 60 t k
 ·obtain⟨k,rfl⟩:=b f ((d f).mp c);obtain⟨l,rfl⟩:=b g ((d g).mp J);exact OE a 60 t k l e
 ·obtain⟨k,rfl⟩:=b f ((d f).mp c);exact FC a 60 t k
 ·obtain⟨k,rfl⟩:=b f ((d f).mp c);unfold dF;rw[fF,jI];exact(Pk _ _).2.1
 have j:di (az 5) (dq (Pu.au (af (ab (tab (n+2)) a8) (Pu.au (aa 0) (Pu.au (aa 1) (Pu.au (g2 a6 (aa 2) (gC (.int 1))) ae)))) ae)) (VI (n+2)) [.bo (fe a),.bo (.int 60),.bo (.int 9),.ow [],.pu (.int t),.no,.no,.no]=.nx [.bo (fe a),.bo (.int 60),.bo (.int 9),.ow (F.map fD),.pu (.int t),x,v,q]:=by
  rw[c6 (j5 _ _ (j':=r) (by simp[p]) (by lia)),Ln];exact o
 unfold VI OF at j;simp -implicitDefEqProofs [Cm,m,H,j,C]
def dS(s:Sub):Pu.D:=.hZ false (sD s)
def IX:En->Out:=(wy (q9 (jw (g1 (fb "str") (aa 3))) (g2 bw (aa 3) (aa 1))) (fz [3] (rj 1 (bp 3))) jq)
def Zb(d c:Sl):∀(b:List Tm)(a:List Str)(m:Sl),(∀t∈b,t.w)->(∀x∈a,gH x=true)->a.length+b.length<=1000->
  ∃v,turns (az 3) IX (b.map Tm.D) [d,.ow (a.map Pu.D.str),c,m]=.nx [d,.ow ((je a (lq b)).map Pu.D.str),c,v]/\(∀x∈je a (lq b),gH x=true):=by
 intro n;induction n with
 |nil=>rintro a m _ e _;exact⟨m,rfl,e⟩
 |cons t b f=>
  rintro a m q e C
  rw[fI]at C;rw[fL,bc (δ1:=[d,.ow _,c,.pu t.D]) rfl];have j:∀u∈b,u.w:=λu B=>q u (fH _ B);cases t with
  |i z=>
   have r:IX [d,.ow (a.map Pu.D.str),c,.pu (Tm.i z).D]=.nx [d,.ow (a.map Pu.D.str),c,.pu (Tm.i z).D]:=by simp[IX,Tm.D]
   exact f a _ j e (by lia)
  |s x=>
   have A:=q _ fN;have l:=(sj e A).2;have o:a.length<16777216:=by lia
   have r:IX [d,.ow (a.map Pu.D.str),c,.pu (Tm.s x).D]=.nx [d,.ow ((if x∈a then a else a++[x]).map Pu.D.str),c,.pu (Tm.s x).D]:=by
    by_cases h:x∈a
    ·simp[IX,Tm.D,l,h]
    ·simp[IX,Tm.D,l,h,o]
   rw[r];have p:je a (lq (.s x::b))=je (if x∈a then a else a++[x]) (lq b):=by
    show(if x∈a then je a (lq b)else je _ (lq b))=_
    by_cases h:x∈a<;>simp[h]
   rw[p];refine f _ _ j ?_ ?_
   ·split
    ·exact e
    ·intro y g;rcases List.mem_append.mp g with g|g
     ·exact e y g
     ·rwa [List.mem_singleton.mp g]
   ·split
    ·lia
    ·simp;lia
def UE:En->Out:=di (az 3) (aj (g2 ao (aa 2) (gC (.int 1)))) IX
def M3:∀(a b c:List Str),je c (a++b)=je (je c a) b:=by
 intro e;induction e with
 |nil=>rintro _ _;exact rfl
 |cons x a d=>
  rintro b c
  show(if x∈c then je c _ else je _ _)=je (if x∈c then je c a else je _ a) b
  by_cases h:x∈c
  ·rw[fM h,fM h];exact d b c
  ·rw[fJ h,fJ h];exact d b _
def Kx(g:Sl):∀(f:List At)(c:List Str)(l d:Sl),(∀a∈f,a.w/\a.ts.length<=4)->(∀x∈c,gH x=true)->c.length+4 * f.length<=900->
  ∃r j,turns (az 2) UE (f.map At.D) [g,.ow (c.map Pu.D.str),l,d]=.nx [g,.ow ((je c (gm f)).map Pu.D.str),r,j]:=by
 intro m;induction m with
 |nil=>rintro c l d _ _ _;exact⟨l,d,rfl⟩
 |cons a f p=>
  rintro c l d h y u
  rw[fI]at u;obtain⟨A,H⟩:=h a fN;obtain⟨j,e,z⟩:=Zb g _ a.ts c d A.2 y (by lia);have B:UE [g,.ow _,.pu a.D,d]=.nx [g,.ow _,.pu a.D,j]:=(c6 (by simp[At.D])).trans e;have q:(je c (lq a.ts)).length<=c.length+4:=by
   have G:=we (lq a.ts) c;have E:=oz a.ts
   lia
  obtain⟨o,n,C⟩:=p _ _ j (λb v=>h b (fH _ v)) z (by lia);refine⟨o,n,?_⟩;rw[fL,bc (δ1:=[g,.ow _,.pu a.D,d]) rfl,B];dsimp only;rw[C];have:gm (a::f)=lq a.ts++gm f:=by simp[gm]
  rw[this,M3]
def Uv(n:Nat)(b:Bool){c:List At}(h:∀a∈c,a.w/\a.ts.length<=4)(j:c.length<=200):ab (tab (n+1)) ib [if b then .tup (c.map At.D)else .lst (c.map At.D)]=.ok (.lst ((je [] (gm c)).map Pu.D.str)):=by
 rw[Bq];cases b with
 |true=>
  obtain⟨g,f,e⟩:=Kx _ c [] .no .no h (by simp) (by simp;lia);have d:di _ (aj (wz 0)) UE [.bo _,.ow [],.no,.no]=.nx [.bo (.tup (c.map At.D)),.ow _,g,f]:=(c6 (by simp)).trans e;unfold UE IX at d;simp[mh,d]
 |false=>
  obtain⟨g,f,e⟩:=Kx _ c [] .no .no h (by simp) (by simp;lia);have d:di _ (aj (wz 0)) UE [.bo _,.ow [],.no,.no]=.nx [.bo (.lst (c.map At.D)),.ow _,g,f]:=(c6 (by simp)).trans e;unfold UE IX at d;simp[mh,d]
def UF:En->Out:=(wy (jw (g1 (fb "str") (aa 3))) (rj 2 (g2 ao (aa 0) (aa 3))) (fz [3] (rj 2 (bp 3))))
def IZ{s:Sub}(b:Sl):∀(c:List Tm)(a:List Int)(f:Sl),(∀x,Tm.s x∈c->∃z,lk s x=some (.i z))->a.length+c.length<=1000->
  ∃l,turns (az 3) UF (c.map Tm.D) [.bo (dS s),b,.ow (a.map Pu.D.int),f]=.nx [.bo (dS s),b,.ow ((a++c.map (Aa s)).map Pu.D.int),l]:=by
 intro g;induction g with
 |nil=>rintro a f _ _;exact⟨f,by simp[turns]⟩
 |cons t c j=>
  rintro a f h p
  rw[fI]at p;obtain⟨l,e⟩:=j (a++[Aa s t]) _ (λx o=>h x (fH _ o)) (by simp;lia);have d:a.length<16777216:=by lia
  have r:UF [.bo (dS s),b,.ow (a.map Pu.D.int),.pu t.D]=.nx [.bo (dS s),b,.ow ((a++[Aa s t]).map Pu.D.int),.pu t.D]:=by
   cases t with
   |i z=>simp[UF,Tm.D,Aa,d]
   |s x=>
    obtain⟨z,n⟩:=h x fN;have m:=B5 x s;rw[n]at m;have q:ao (dS s) (.str x)=some _:=m;simp[UF,Tm.D,Aa,q,n,d]
  rw[fL,bc (δ1:=[.bo _,b,.ow _,.pu t.D]) rfl,r];dsimp only;rw[e];simp
def IY(n:Nat){s:Sub}{ts:List Tm}(c:ts.length<=900)(h:∀x,Tm.s x∈ts->∃z,lk s x=some (.i z)):ab (tab (n+1)) km [dS s,.tup (ts.map Tm.D)]=.ok (tI (ts.map (Aa s))):=by
 rw[Tj];obtain⟨b,e⟩:=IZ _ ts [] .no h (by simp;lia);have a:di (az 3) (aj (wz 1)) UF [.bo (dS s),.bo (.tup (ts.map Tm.D)),.ow [],.no]=.nx [.bo (dS s),.bo (.tup (ts.map Tm.D)),.ow ((ts.map (Aa s)).map Pu.D.int),b]:=by
  rw[c6 (ds:=ts.map Tm.D) (by simp)];simpa using e
 unfold UF at a;simp[Fk,a,tI,-hV]
def Pq:∀R:List (List Int),b9 (R.map tI)=some (R.map λr=>.tuple (r.map kL)):=by
 intro a;induction a with
 |nil=>exact rfl
 |cons r R b=>rw[fL,b9,b,tI,bz,t7];rfl
def Y3:∀R:List (List Int),gE (R.map λr=>.tuple (r.map kL))=true:=by
 intro a;induction a with
 |nil=>exact rfl
 |cons r R b=>rw[fL,gE,b,jC,iq];rfl
def GP(r t:List Int):iG (.tuple (r.map kL)) (.tuple (t.map kL))=decide (r=t):=y7 (λa b=>by rw[iG];by_cases h:a=b<;>simp[h]) r t
def GB{z:Int}{ns:List Int}:lj (.int z) (.lst (ns.map Pu.D.int))=some (.bl (!decide (z∈ns))):=by
 have e:Bb (.int z) (.lst (ns.map Pu.D.int))=some (decide (z∈ns)):=by
  show(match b9 _,bz _ with
   |some c,some q=>if gE c && iB q then some _ else none
   |_,_=>none)=_
  have f:bz (.int z)=some _:=rfl;rw[t7,f];dsimp only;rw[iq,show iB _=true from rfl];show some _=_
  congr 1
  induction ns with
  |nil=>rfl
  |cons b R d=>
   have g:iG (.int b) (.int z)=decide (b=z):=by rw[iG];by_cases h:b=z<;>simp[h]
   rw[fL,mB,d,g]
   by_cases q:z=b
   ·simp[q]
   ·have a:¬b=z:=λz=>q z.symm;simp[q,a]
 unfold lj;rw[e];rfl
def mj(a:List Int):List Fc->List Int
 |[]=>a
 |f::fs=>mj (a++f.2.filter λz=> !decide (z∈a)) fs
def Zi(z:Int):∀(fs:List Fc)(a:List Int),z∈mj a fs↔z∈a\/∃f∈fs,z∈f.2:=by
 intro b;induction b with
 |nil=>rintro a;simp[mj]
 |cons f fs c=>
  rintro a
  unfold mj;rw[c,lC,oP];simp only[iK,exists_eq_or_imp];constructor
  ·rintro ((h|h)|h)
   ·exact .inl h
   ·exact .inr (.inl h.1)
   ·exact .inr (.inr h)
  ·rintro (h|h|h)
   ·exact .inl (.inl h)
   ·by_cases q:z∈a
    ·exact .inl (.inl q)
    ·exact .inl (.inr ⟨h,by simp[q]⟩)
   ·exact .inr h
def K6:∀(fs:List Fc)(a:List Int),(∀f∈fs,f.2.length<=3)->(mj a fs).length<=a.length+3 * fs.length:=by
 intro b;induction b with
 |nil=>rintro a _;simp[mj]
 |cons f fs c=>
  rintro a h
  unfold mj;have e:=c (a++f.2.filter λz=> !decide (z∈a)) λg d=>h g (fH _ d);have l:=h f fN;have j:(f.2.filter λz=> !decide (z∈a)).length<=f.2.length:=iW ..;rw[gI]at e;rw[fI]
  lia
def WM:En->Out:=qq 4 (a7 (aj (g2 ao (aa 5) (gC (.int 1)))) [4] (g2 bw (aa 0) (aa 1)) (bp 0))
def IK(m l j d:Sl)(c:List Sl):∀(fs:List Fc)(a:List Int)(n:Sl),(∀f∈fs,f.2.length<=3)->a.length+3 * fs.length<=1000->
  ∃p,turns (az 5) WM (fs.map fD) ([m,l,j,d,.ow (a.map Pu.D.int),n]++c)=.nx ([m,l,j,d,.ow ((mj a fs).map Pu.D.int),p]++c):=by
 intro o;induction o with
 |nil=>rintro a n _ _;exact⟨n,rfl⟩
 |cons f fs q=>
  rintro a n h v
  rw[fI]at v;have C:=h f fN;have A:(f.2.filter λz=> !decide (z∈a)).length<=f.2.length:=iW ..;obtain⟨p,e⟩:=q (a++f.2.filter λz=> !decide (z∈a)) (.pu (fD f)) (λg x=>h g (fH _ x)) (by rw[gI];lia);refine⟨p,?_⟩;rw[fL,bc (δ1:=[m,l,j,d,.ow _,.pu _]++c) rfl];have u:ao (fD f) (.int 1)=some _:=rfl;have r:a7 (aj (g2 ao (aa 5) (gC (.int 1)))) [4] (g2 bw (aa 0) (aa 1)) _ ([m,l,j,d,.ow (a.map Pu.D.int),.pu (fD f)]++c)=.ok (.lst ((f.2.filter λz=> !decide _).map Pu.D.int)):=
   gr (b:=λz=> !decide (z∈a)) (by simp[u]) (by lia) λz B=>by
    simp[cf,(GB (z:=z) (ns:=a))]
  have y:WM ([m,l,j,d,.ow (a.map Pu.D.int),.pu (fD f)]++c)=.nx ([m,l,j,d,.ow ((a++f.2.filter λz=> !decide (z∈a)).map Pu.D.int),.pu (fD f)]++c):=by
   unfold WM qq;rw[r];generalize (f.2.filter λz=> !decide (z∈a))=g at A;have:a.length+g.length<=fR:=by rw[iT];lia
   simp[sk,this]
  rwa [y]
def vf(N:List Int)(a:List (List Int)):List (List Int):=a.flatMap λr=>N.map λz=>r++[z]
def Ek(N:List Int):Nat->List (List Int)
 |0=>[[]]
 |k+1=>vf N (Ek N k)
def H9(N:List Int):∀(k:Nat)(r:List Int),r∈Ek N k↔r.length=k/\∀z∈r,z∈N:=by
 intro e;induction e with
 |zero=>
  rintro r
  show r∈[[]]↔_;rw[nF];constructor
  ·rintro rfl;simp
  ·rintro ⟨h,_⟩;exact List.length_eq_zero_iff.mp h
 |succ k b=>
  rintro r
  show r∈vf N _↔_;unfold vf;rw[tZ];constructor
  ·rintro ⟨t,j,l⟩
   obtain⟨z,f,rfl⟩:=List.mem_map.mp l;obtain⟨d,c⟩:=(b t).mp j;refine⟨by simp[d],λy g=>?_⟩;rcases List.mem_append.mp g with q|q
   ·exact c y q
   ·rwa [List.mem_singleton.mp q]
  ·rintro ⟨d,c⟩
   have a:r≠[]:=λz=>by rw[z]at d;cases d
   refine⟨r.dropLast,(b _).mpr ⟨by rw[List.length_dropLast];lia,λz f=>c z (List.dropLast_subset _ f)⟩,List.mem_map.mpr ⟨r.getLast a,c _ (List.getLast_mem a),List.dropLast_concat_getLast a⟩⟩
def Uq(N:List Int):∀a:List (List Int),(vf N a).length=a.length * N.length:=by
 intro b;induction b with
 |nil=>simp[vf]
 |cons r a c=>
  have:=c;unfold vf at this⊢;rw[rA,gI,this,fF,fI,uM,uN]
  lia
def R7(N:List Int):∀k,(Ek N k).length=N.length ^ k:=by
 intro a;induction a with
 |zero=>exact rfl
 |succ k b=>
  show(vf N _).length=_;rw[Uq,b,Nat.pow_succ]
def UG:En->Out:=(fz [4] (rj 2 (g2 a6 (aa 3) (cq (Pu.au (bp 4) ae)))))
def Y4(c b:Sl)(r:List Int)(p:r.length<=100):∀(N:List Int)(a:List (List Int))(d:Sl),a.length+N.length<=2000000->
  ∃l,turns (az 4) UG (N.map Pu.D.int) [c,b,.ow (a.map fe),.pu (fe r),d]=.nx [c,b,.ow ((a++N.map λz=>r++[z]).map fe),.pu (fe r),l]:=by
 intro f;induction f with
 |nil=>rintro a d _;exact⟨d,by simp[turns]⟩
 |cons z N g=>
  rintro a d h
  rw[fI]at h;obtain⟨l,e⟩:=g (a++[r++[z]]) _ (by simp;lia);rw[fL,bc (δ1:=[c,b,.ow _,.pu _,.pu _]) rfl];have m:a6 (fe r) (.lst [.int z])=some (fe (r++[z])):=by
   show(if(r.map Pu.D.int).length+[Pu.D.int z].length<=fR then some _ else none)=_;rw[fM (by rw[fF,iT];simp;lia)];simp
  have j:a.length<16777216:=by lia
  have n:UG [c,b,.ow (a.map fe),.pu (fe r),.pu (.int z)]=.nx [c,b,.ow ((a++[r++[z]]).map fe),.pu (fe r),.pu (.int z)]:=by
   generalize o:fe (r++[z])=R at m;rw[jK,fL,lA,o];simp[UG,m,j]
  rw[n];dsimp only;rw[e];simp
def aW:En->Out:=(fz [1] (di (az 4) (aj (wz 1)) UG))
def Y5(N:List Int)(d:Sl):∀(b a:List (List Int))(f c:Sl),(∀r∈b,r.length<=100)->a.length+b.length * N.length<=2000000->
  ∃l e,turns (az 3) aW (b.map fe) [d,.bo (fe N),.ow (a.map fe),f,c]=.nx [d,.bo (fe N),.ow ((a++vf N b).map fe),l,e]:=by
 intro g;induction g with
 |nil=>rintro a f c _ _;exact⟨f,c,by simp[turns,vf]⟩
 |cons r b j=>
  rintro a f c m h
  rw[fI,uM,uN]at h;obtain⟨e,u⟩:=Y4 d _ r (m r fN) N a c (by lia);obtain⟨l,n,q⟩:=j (a++N.map λz=>r++[z]) _ e (λt o=>m t (fH _ o)) (by rw[gI,fF];lia);rw[fL,bc (δ1:=[d,.bo _,.ow _,.pu _,c]) rfl];have p:aW [d,.bo (fe N),.ow (a.map fe),.pu (fe r),c]=.nx [d,.bo (fe N),.ow ((a++N.map λz=>r++[z]).map fe),.pu (fe r),e]:=by
   show di _ (aj (wz 1)) UG [d,.bo (fe N),.ow _,.pu _,c]=_;exact u
  rw[p];dsimp only;rw[q];simp[vf]
def Ur(n:Nat){N:List Int}{a:List (List Int)}(f:∀r∈a,r.length<=100)(g:a.length * N.length<=2000000):ab (tab (n+1)) mz [.lst (a.map fe),fe N]=.ok (.lst ((vf N a).map fe)):=by
 rw[Hm];obtain⟨d,c,e⟩:=Y5 N _ a [] .no .no f (by simpa using g);have b:di _ (aj (wz 0)) aW [.bo _,.bo _,.ow [],.no,.no]=.nx [.bo (.lst (a.map fe)),.bo _,.ow _,d,c]:=(c6 rfl).trans (by simpa using e);unfold aW UG at b;simp[yt,b]
def aT(F:List Pu.D->Res):En->Out:=(cz 2 (af F (Pu.au (aa 2) (Pu.au (aa 1) ae))))
def LA(F:List Pu.D->Res)(N:List Int)(K:Nat)(p:∀k,k<K->F [.lst ((Ek N k).map fe),fe N]=.ok (.lst ((Ek N (k+1)).map fe)))(c:Sl):∀(l:List Pu.D)(k:Nat)(a f:Sl),(a=.ow ((Ek N k).map fe)\/a=.pu (.lst ((Ek N k).map fe)))->k+l.length<=K->
  ∃b j,(b=.ow ((Ek N (k+l.length)).map fe)\/b=.pu (.lst ((Ek N (k+l.length)).map fe)))/\turns (az 3) (aT F) l [c,.bo (fe N),a,f]=.nx [c,.bo (fe N),b,j]:=by
 intro g;induction g with
 |nil=>rintro k a f h _;exact⟨a,f,h,rfl⟩
 |cons d l m=>
  rintro k a f h n
  rw[fI]at n;have e:=p k (by lia);obtain⟨b,j,q,r⟩:=m (k+1) _ (.pu d) (.inr rfl) (by lia);refine⟨b,j,by rw[fI,show k+_=k+1+l.length by lia];exact q,?_⟩;rw[bc (δ1:=[c,.bo _,a,.pu d]) rfl];have o:aT F [c,.bo (fe N),a,.pu d]=.nx [c,.bo (fe N),.pu (.lst ((Ek N (k+1)).map fe)),.pu d]:=by
   unfold aT;rcases h with rfl|rfl<;>simp[e]
  rwa [o]
def DL{N:List Int}{k j:Nat}(a:N.length<=30)(d:k<=4)(e:j<k):N.length ^ j * N.length<=2000000:=by
 have c:30 ^ j<=30 ^ 3:=sA (by decide) (by lia);have b:=iU (Nat.pow_le_pow_left a j) c;have f:=Nat.mul_le_mul b a
 lia
def UR(F:List Pu.D->Res){N:List Int}{k:Nat}(m:k<=4)(e:∀j,j<k->F [.lst ((Ek N j).map fe),fe N]=.ok (.lst ((Ek N (j+1)).map fe))):
  de (ak (b8 2 (cq (Pu.au (cq ae) ae)))
 (ak (di (az 3) (dq (Pu.au (aa 0) ae)) (aT F))
 (fz [2] (cm (bp 2)))) [.bo (.int (k:Nat)),.bo (fe N),.no,.no])=.ok (.lst ((Ek N k).map fe)):=by
 obtain⟨l,h,b,f⟩:=LA F N k e _ (ik 0 k) 0 _ .no (.inl rfl) (by rw[yh];lia);rw[yh,lS]at b;have d:=j5 [.bo _,.bo (fe N),.ow ((Ek N 0).map fe),.no] (Pu.au (aa 0) ae) (j':=(k:Int)) rfl (by lia);have a:=(c6 d).trans f;have g:(Ek N 0).map fe=[.lst []]:=rfl;rw[g]at a;have c:b8 2 (cq (Pu.au (cq ae) ae)) [.bo (.int k),.bo (fe N),.no,.no]=.nx [.bo (.int k),.bo (fe N),.ow [.lst []],.no]:=by
  simp
 rw[j6,c];dsimp only;rw[j6,a];rcases b with rfl|rfl<;>rfl
def DK(n:Nat){N:List Int}{k:Nat}(d:N.length<=30)(a:k<=4):ab (tab (n+2)) ju [.int (k:Nat),fe N]=.ok (.lst ((Ek N k).map fe)):=by
 rw[Jz];exact UR _ a λj c=>Ur n (λr b=>by have:=((H9 N j r).mp b).1;lia) (by rw[R7];exact DL d a c)
def PQ{f g:Fc}(h:fA f=fA g):f=g:=by
 have b:f.2.map Tm.i=g.2.map Tm.i:=congrArg At.ts h;have a:f.2=g.2:=by
  have:=congrArg (List.map λt:Tm=>match t with|.i z=>z|.s _=>0) b;simpa[qS]using this
 exact Prod.ext (congrArg At.nm h) a
def Qf(F:List Fc):F.map fD=(F.map fA).map At.D:=by
 rw[hV];exact iA λf _=>(GN f).symm
def GM{f:Fc}(h:gH f.1=true):(fA f).w:=⟨h,λt a=>by
 obtain⟨z,_,rfl⟩:=List.mem_map.mp a;trivial⟩
def Yl{f:Fc}{G:List Fc}(m:gH f.1=true)(c:∀g∈G,gH g.1=true):lj (fD f) (.lst (G.map fD))=some (.bl (!decide (f∈G))):=by
 have e:Bb (fD f) (.lst (G.map fD))=some (decide (f∈G)):=by
  show(match b9 _,bz _ with
   |some h,some q=>if gE h && iB q then some _ else none
   |_,_=>none)=_
  rw[Qf,Gi,<-GN,Iq];dsimp only;have:=M4 (fA f);rw[Qw (λa n=>by obtain⟨g,l,rfl⟩:=List.mem_map.mp n;exact GM (c g l)),tm (N8 (GM m)) (by lia)];show some _=_
  congr 1
  clear c;induction G with
  |nil=>rfl
  |cons b o j=>
   rw[fL,fL,mB,j,X2]
   by_cases q:f=b
   ·simp[q]
   ·have d:¬fA b=fA f:=λz=>q (PQ z).symm;simp[q,d]
 unfold lj;rw[e];rfl
def CC{f:Fc}(h:gH f.1=true):zj (fD f):=by
 rw[<-GN];exact⟨_,Iq _,N8 (GM h),by have:=M4 (fA f);lia⟩
def HP{a b c:List Str}{x:Str}(h:a=b++x::c):ao (cg a) (.int (b.length:Int))=some (.str x):=by
 refine L2.wa ?_;rw[gO,h,iY (fQ _)];simp
def QV{a b c:List Str}{x:Str}(σ:Str->Int)(h:a=b++x::c):ao (fe (a.map σ)) (.int (b.length:Int))=some (.int (σ x)):=by
 refine L2.wa ?_;rw[gO,gO,h,iY (fQ _)];simp
def Kt{σ:Str->Int}{x:Str}:∀{c:List Str},x∉c->lk (i7 c σ) x=none:=by
 intro a;induction a with
 |nil=>rintro _;exact rfl
 |cons y c b=>
  rintro h
  simp only[iK,not_or]at h;show(if y=x then some _ else lk _ x)=none;rw[fJ λz=>h.1 z.symm];exact b h.2
def lE(o n m l j h g f e d c b a:Sl):En:=[o,n,m,l,j,h,g,f,e,d,c,b,a]
def XU:En->Out:=(O3 8 (g2 ao (aa 3) (aa 9)) (g2 ao (aa 7) (aa 9)))
def KO(r q p l o n m f d c:Sl){a:List Str}(σ:Str->Int)(E:a.Nodup)(N:a.length<=1000)(L:l=.pu (cg a)\/l=.ow (a.map Pu.D.str)):∀(g b:List Str)(u:Sl),a=b++g->
  ∃y,turns (az 9) XU ((List.range' b.length g.length).map λ(i:Nat)=>Pu.D.int (i:Int)) (lE r q p l o n m (.pu (fe (a.map σ))) (.od false (sD (i7 b σ))) u f d c)=.nx (lE r q p l o n m (.pu (fe (a.map σ))) (.od false (sD (i7 a σ))) y f d c):=by
 intro v;induction v with
 |nil=>
  rintro b u h
  rw[jT]at h;subst h;exact⟨u,rfl⟩
 |cons x g A=>
  rintro b u h
  have C:=HP h;have B:=QV σ h;have H:x∉b:=λz=>by
   rw[h,oU]at E;exact E.2.2 x z x fN rfl
  have I:Ar (sD (i7 b σ)) (.inr x) (.int (σ x))=sD (i7 (b++[x]) σ):=by
   have:=Ou (s:=i7 b σ) (.i (σ x)) (Kt H);rw[show(Tm.i _).D=.int _ from rfl]at this;rw[this];unfold i7;rw[jK];rfl
  obtain⟨y,e⟩:=A (b++[x]) _ (by rw[h];simp);refine⟨y,?_⟩;rw[fI,List.range'_succ,fL,bc (δ1:=lE r q p l o n m _ _ _ f d c) rfl];have j:(sD (i7 b σ)).length<fR:=by
   rw[CW];unfold i7;rw[fF,iT];have:=congrArg lT h;rw[gI]at this
   lia
  have J:XU (lE r q p l o n m (.pu (fe (a.map σ))) (.od false (sD (i7 b σ))) (.pu (.int b.length)) f d c)=.nx (lE r q p l o n m (.pu (fe (a.map σ))) (.od false (sD (i7 (b++[x]) σ))) (.pu (.int b.length)) f d c):=by
   rw[<-I];have G:bq (.str x)=some _:=rfl;obtain rfl|rfl:=L
   ·simp[lE,XU,C,B,O3,Ym,D4,G,j]
   ·simp[lE,XU,C,B,O3,Ym,D4,G,j]
  rw[J];have M:(b++[x]).length=b.length+1:=by simp
  rw[M]at e;exact e
def cE(F:List Pu.D->Res):En->Res:=(a7 (aj (g2 ao (aa 1) (gC (.int 1)))) [8] (gC (.bl true)) (Pu.js (Pu.au (g2 ao (aa 0) (gC (.int 0))) (Pu.au (af F (Pu.au (aa 1) (Pu.au (g2 ao (aa 0) (gC (.int 1))) ae))) ae))))
noncomputable def Sa:En->Res:=(a7 (aj (aa 10)) [2] (g2 bw (aa 0) (aa 1)) (bp 0))
def aR(F:List Pu.D->Res):En->Out:=(ak (xq 8)
 (ak (di (az 9) (dq (Pu.au (g1 cy (aa 3)) ae)) XU)
 (ak (b8 10 (cE F))
 (fz [5] (wy (g2 jn Sa (cq ae)) (rj 6 (af F (Pu.au (aa 8) (Pu.au (g2 ao (aa 1) (gC (.int 0))) ae)))) jq)))))
def Wj(b:List At)(G:List Fc)(σ:Str->Int):Bool:=b.all λa=>decide ((a.nm,a.ts.map (u4 σ))∈G)
def Q4{c:List At}{G:List Fc}{σ:Str->Int}:Wj c G σ=true↔∀a∈c,UI G a σ:=by
 unfold Wj;rw[List.all_eq_true];constructor
 ·intro h a b;exact⟨_,of_decide_eq_true (h a b),rfl,rfl⟩
 ·intro h a b;obtain⟨f,g,e,d⟩:=h a b;rwa [decide_eq_true_eq,<-e,<-d]
def MW(F:List Pu.D->Res){m:List Tm}{l:List At}{G:List Fc}{c:List Str}(σ:Str->Int)(ha:∀a∈l,gH a.nm=true)(ζ:l.length<=1000)(hG:∀g∈G,gH g.1=true)(hn:c.Nodup)(β:c.length<=1000)
  (T:∀a∈l,F [dS (i7 c σ),.tup (a.ts.map Tm.D)]=.ok (tI (a.ts.map (u4 σ))))(Q:F [dS (i7 c σ),.tup (m.map Tm.D)]=.ok (tI (m.map (u4 σ)))){n:Sl}(h3:n=.pu (cg c)\/n=.ow (c.map Pu.D.str))
  (v u z v8 L o j h:Sl) {P:List (List Int)} (hP:P.length<=2000000):
  ∃A w8 x U,aR F (lE v (.pu (fj m l)) (.pu (.lst (G.map fD))) n u z (.ow (P.map tI)) (.pu (fe (c.map σ))) v8 L o j h)=.nx (lE v (.pu (fj m l)) (.pu (.lst (G.map fD))) n u A (.ow ((if Wj l G σ then P++[m.map (u4 σ)]else P).map tI)) (.pu (fe (c.map σ))) w8 x U j h):=by
 have s1:xq 8 (lE v _ _ n u z _ _ v8 L o j h)=.nx (lE v (.pu (fj m l)) (.pu (.lst (G.map fD))) n u z (.ow (P.map tI)) (.pu (fe (c.map σ))) _ L o j h):=rfl;obtain⟨x,e⟩:=KO v (.pu (fj m l)) (.pu (.lst (G.map fD))) n u z (.ow (P.map tI)) o j h σ hn β h3 c [] L rfl;have hr:dq (Pu.au (g1 cy (aa 3)) ae) (lE v (.pu (fj m l)) (.pu (.lst (G.map fD))) n u z (.ow (P.map tI)) (.pu (fe (c.map σ))) (.od false []) L o j h)=.ok ((List.range' 0 c.length).map λ(i:Nat)=>Pu.D.int (i:Int)):=by
  have:=j5 (lE v (.pu (fj m l)) (.pu (.lst (G.map fD))) n u z (.ow (P.map tI)) (.pu (fe (c.map σ))) (.od false []) L o j h) (Pu.au (g1 cy (aa 3)) ae) (j':=c.length) (by
   obtain rfl|rfl:=h3
   ·simp[lE]
   ·simp[lE]) (by lia)
  rw[this,iZ];unfold ik;rw[List.range_eq_range']
  congr 1
  exact iA λi _=>by rw[Int.zero_add]
 have s2:=(c6 hr).trans e;have i0:ao (fj m l) (.int 0)=some _:=rfl;have i1:ao (fj m l) (.int 1)=some _:=rfl;have B:cE F (lE v (.pu (fj m l)) (.pu (.lst (G.map fD))) n u z (.ow (P.map tI)) (.pu (fe (c.map σ))) (.od false (sD (i7 c σ))) x o j h)=.ok (.lst (l.map λa=>fD (a.nm,a.ts.map (u4 σ)))):=by
  refine ir (f:=At.D) (by simp[lE,i1]) (by lia) λa J=>?_;have q:=T a J;have j0:ao a.D (.int 0)=some _:=rfl;have j1:ao a.D (.int 1)=some _:=rfl;have hc:cf [8] (lE v (.pu (fj m l)) (.pu (.lst (G.map fD))) n u z (.ow (P.map tI)) (.pu (fe (c.map σ))) _ x o j h) _=[.pu a.D,.od false (sD (i7 c σ))]:=rfl;rw[hc];unfold dS at q;unfold tI at q;simp[j0,j1,q,fD]
 have C:(l.map λa=>fD (a.nm,a.ts.map (u4 σ)))=(l.map λa=>((a.nm,a.ts.map (u4 σ)):Fc)).map fD:=by rw[hV];rfl
 rw[C]at B;have y:∀f∈l.map (λa=>((a.nm,a.ts.map (u4 σ)):Fc)),gH f.1=true:=λf M=>by
  obtain⟨a,J,rfl⟩:=List.mem_map.mp M;exact ha a J
 have O:(l.map (λa=>((a.nm,a.ts.map (u4 σ)):Fc))).length<=1000:=by rwa [fF]
 have E:((l.map (λa=>((a.nm,a.ts.map (u4 σ)):Fc))).filter λf=> !decide (f∈G)).isEmpty=Wj l G σ:=by
  unfold Wj;rw[List.filter_map];clear T B C y O s1 s2 e hr i1 ha ζ Q i0;induction l with
  |nil=>rfl
  |cons a l ih=>
   rw[nB,iF,<-ih]
   by_cases q:(a.nm,a.ts.map (u4 σ))∈G
   ·simp[q]
   ·simp[q]
 generalize l.map _=p at B y O E;have s3:b8 10 (cE F) (lE v (.pu (fj m l)) (.pu (.lst (G.map fD))) n u z (.ow (P.map tI)) (.pu (fe (c.map σ))) (.od false (sD (i7 c σ))) x o j h)=.nx (lE v (.pu (fj m l)) (.pu (.lst (G.map fD))) n u z (.ow (P.map tI)) (.pu (fe (c.map σ))) (.od false (sD (i7 c σ))) x (.ow (p.map fD)) j h):=by
  rw[EW,B];rfl
 obtain⟨A,Y⟩:∃A,nk 5 (lE v _ _ n u z _ _ _ x _ j h)=lE v _ _ n u A _ _ _ x _ j h:=by
  cases z<;>exact⟨_,rfl⟩
 have δ:Sa (lE v (.pu (fj m l)) (.pu (.lst (G.map fD))) n u A (.ow (P.map tI)) (.pu (fe (c.map σ))) (.od false (sD (i7 c σ))) x (.ow (p.map fD)) j h)=.ok (.lst ((p.filter λf=> !decide (f∈G)).map fD)):=by
  unfold Sa;refine gr (b:=λf=> !decide _) rfl (by lia) λf M=>?_;have hc:cf [2] (lE v (.pu (fj m l)) _ n u A (.ow (P.map tI)) (.pu (fe (c.map σ))) (.od false (sD (i7 c σ))) x (.ow (p.map fD)) j h) _=[.pu (fD f),.pu (.lst (G.map fD))]:=rfl;rw[hc];simp[(Yl (f:=f) (G:=G) (y f M) hG)]
 have α:wK ((p.filter λf=> !decide (f∈G)).map fD):=YV λd m=>by
  obtain⟨f,M,rfl⟩:=List.mem_map.mp m;exact CC (y f (List.mem_filter.mp M).1)
 have N:=(Qd α).1;rw[List.isEmpty_map,E]at N;refine⟨A,.od false (sD (i7 c σ)),x,.ow (p.map fD),?_⟩;unfold aR;rw[j6,s1];dsimp only;rw[j6,s2];dsimp only;rw[j6,s3];dsimp only;rw[YA,Y,Em];have H:g2 jn Sa (cq ae) (lE v (.pu (fj m l)) (.pu (.lst (G.map fD))) n u A (.ow (P.map tI)) (.pu (fe (c.map σ))) (.od false (sD (i7 c σ))) x (.ow (p.map fD)) j h)=.ok (.bl (Wj l G σ)):=by
  rw[ZY,δ];simp[N]
 rw[ZX,H];cases Wj l G σ with
 |false=>rfl
 |true=>
  have I:af F (Pu.au (aa 8) (Pu.au (g2 ao (aa 1) (gC (.int 0))) ae)) (lE v (.pu (fj m l)) (.pu (.lst (G.map fD))) n u A (.ow (P.map tI)) (.pu (fe (c.map σ))) (.od false (sD (i7 c σ))) x (.ow (p.map fD)) j h)=.ok (tI (m.map (u4 σ))):=by
   exact Q
  rw[ro];dsimp only;rw[YE,I];have γ:(P.map tI).length<16777216:=by rw[fF];lia
  have hg:∀(a b:Sl)(r:List Sl),(lE v (.pu (fj m l)) (.pu (.lst (G.map fD))) n u A _ (.pu (fe (c.map σ))) (.od false (sD (i7 c σ))) x (.ow (p.map fD)) j h)[6]?=some (.ow (P.map tI)):=λ_ _ _=>rfl;rw[hg .no .no []];dsimp only;rw[ro,fM γ,fM rfl,jK];rfl
def KC{a:List Str}{r:List Int}(c:a.Nodup)(h:r.length=a.length):a.map (uh a r)=r:=by
 refine pK (by simp[h]) λi b d=>?_;rw[fF]at b;rw[List.getElem_map];unfold uh;rw[List.Nodup.idxOf_getElem c i b,gW,gF d];rfl
def Hr(c:List Tm)(d:List At)(G:List Fc)(a:List Str)(b:List (List Int)):List (List Int):=(b.filter λr=>Wj d G (uh a r)).map λr=>c.map (u4 (uh a r))
def MX(F:List Pu.D->Res){f:List Tm}{d:List At}{G:List Fc}{b:List Str}(ha:∀a∈d,gH a.nm=true)(J:d.length<=1000)(hG:∀g∈G,gH g.1=true)(O:b.Nodup)(I:b.length<=1000)
  (M:∀σ:Str->Int,∀a∈d,F [dS (i7 b σ),.tup (a.ts.map Tm.D)]=.ok (tI (a.ts.map (u4 σ))))(L:∀σ:Str->Int,F [dS (i7 b σ),.tup (f.map Tm.D)]=.ok (tI (f.map (u4 σ)))){q:Sl}(h3:q=.pu (cg b)\/q=.ow (b.map Pu.D.str))
  (x v j h:Sl):∀(m P:List (List Int))(p u o n c:Sl),(∀r∈m,r.length=b.length)->P.length+m.length<=2000000->
  ∃C B A z l,turns (az 7) (aR F) (m.map fe) (lE x (.pu (fj f d)) (.pu (.lst (G.map fD))) q v p (.ow (P.map tI)) u o n c j h)=.nx (lE x (.pu (fj f d)) (.pu (.lst (G.map fD))) q v C (.ow ((P++Hr f d G b m).map tI)) B A z l j h):=by
 intro y;induction y with
 |nil=>rintro P p u o n c _ _;exact⟨p,u,o,n,c,by simp[turns,Hr]⟩
 |cons r m H=>
  rintro P p u o n c N hl
  rw[fI]at hl;obtain⟨U,T,Q,E,e⟩:=MW F _ ha J hG O I (M _) (L _) h3 x v p o n c j h (P:=P) (by lia);rw[(KC O (N r fN))]at e;have α:(if Wj d G (uh b r)then P++[f.map (u4 (uh b r))]else P).length<=P.length+1:=by split<;>simp
  obtain⟨C,B,A,z,l,e2⟩:=H (if Wj d G (uh b r)then P++[f.map (u4 (uh b r))]else P) U _ T Q E (λt Y=>N t (fH _ Y)) (by lia);refine⟨C,B,A,z,l,?_⟩;rw[fL,bc (δ1:=lE x _ _ q v p _ _ o n c j h) rfl,e];dsimp only;rw[e2];have:(if Wj d G (uh b r)then P++[f.map (u4 (uh b r))]else P)++Hr f d G b m=P++Hr f d G b (r::m):=by
   unfold Hr;rw[nB];cases Wj d G _<;>simp
  rw[this]
def IV{p:List Tm}{j:List At}{G:List Fc}{N:List Int}(A:∀z,z∈N↔∃f∈G,z∈f.2)(m:∀x,Tm.s x∈p->∃b∈j,Tm.s x∈b.ts){c:List Str}(n:c=je [] (gm j))(r:List Int):
  r∈Hr p j G c (Ek N c.length)↔∃σ,(∀a∈j,UI G a σ)/\r=p.map (u4 σ):=by
 have l:∀x,x∈c↔∃a∈j,Tm.s x∈a.ts:=λx=>by
  rw[n,ja,wk];simp
 unfold Hr;rw[pM];constructor
 ·rintro ⟨t,v,rfl⟩
  obtain⟨_,q⟩:=List.mem_filter.mp v;exact⟨uh c t,Q4.mp q,rfl⟩
 ·rintro ⟨σ,g,rfl⟩
  refine⟨c.map σ,List.mem_filter.mpr ⟨(H9 N c.length _).mpr ⟨by simp,λz u=>?_⟩,Q4.mpr λa d=>?_⟩,?_⟩
  ·obtain⟨x,h,rfl⟩:=List.mem_map.mp u;obtain⟨a,d,y⟩:=(l x).mp h;obtain⟨f,o,_,e⟩:=g a d;exact(A _).mpr ⟨f,o,by rw[e];exact List.mem_map.mpr ⟨.s x,y,rfl⟩⟩
  ·obtain⟨f,o,B,q⟩:=g a d;exact⟨f,o,B,by rw[(λa d=>wg λx h=>rl ((l x).mpr ⟨a,d,lh.mp h⟩)) a d];exact q⟩
  ·exact wg λx h=>rl ((l x).mpr (m x (lh.mp h)))
def Wd{x:Str}(h:x∈Ac):U3 x=true:=by
 have:∀y∈Ac,U3 y=true:=by decide+kernel
 exact this x h
def LB{t:Tm}(h:t.ok):t.good:=by
 cases t with
 |s x=>exact Wd h
 |i z=>trivial
def P2{a:At}(h:a.ok):a.good:=by
 obtain⟨g,f⟩:=h;have d:U3 "r"=true:=by decide+kernel
 have c:U3 "s"=true:=by decide+kernel
 have b:U3 "t"=true:=by decide+kernel
 refine⟨?_,?_,?_,λt b=>LB (f t b)⟩
 ·rcases g with ⟨e,_⟩|⟨e,_⟩|⟨e,_⟩<;>rw[e]
  ·exact d
  ·exact c
  ·exact b
 ·lia
 ·lia
def Sh(a:At):Prop:=(a.nm="r"/\a.ts.length=2)\/(a.nm="s"/\a.ts.length=3)\/(a.nm="t"/\a.ts.length=1)
def Sh.len{a b:At}(h:Sh a)(k:Sh b)(e:a.nm=b.nm):a.ts.length=b.ts.length:=by
 have m:("r":Str)≠"s":=by decide+kernel
 have l:("r":Str)≠"t":=by decide+kernel
 have j:("s":Str)≠"t":=by decide+kernel
 rcases h with ⟨g,f⟩|⟨g,f⟩|⟨g,f⟩<;>rcases k with ⟨d,c⟩|⟨d,c⟩|⟨d,c⟩<;>rw[g,d]at e<;>
  first
  |exact f.trans c.symm
  |exact absurd e m
  |exact absurd e l
  |exact absurd e j
  |exact absurd e.symm m
  |exact absurd e.symm l
  |exact absurd e.symm j
def M6{d:List Tm}{h:List At}(D:Drawn d h):wh d h/\∀z,Tm.i z∈d->-1<=z/\z<=2:=by
 have c:∀x,Tm.s x∈d->∃b∈h,Tm.s x∈b.ts:=λx m=>by
  rcases D.ho _ m with ⟨z,e,_⟩|⟨y,e,l⟩
  ·cases e
  ·cases e;exact wk.mp l
 refine⟨⟨λt n=>?_,λa g=>P2 (D.ok a g),D.hl,D.len.2,D.len.1,λa g b f e=>Sh.len (D.ok a g).1 (D.ok b f).1 e,c⟩,λz j=>?_⟩
 ·cases t with
  |i z=>trivial
  |s x=>
   obtain⟨b,f,o⟩:=c x n;exact(P2 (D.ok b f)).2.2.2 _ o
 ·rcases D.ho _ j with ⟨y,e,q⟩|⟨y,e,_⟩
  ·cases e
   lia
  ·cases e
def W1:wh [] [⟨"t",[.i 0]⟩]:=by
 refine⟨by simp,λa c=>?_,by simp,by simp,by simp,λa c b e _=>?_,by simp⟩
 ·rw[List.mem_singleton.mp c];exact⟨by decide+kernel,by decide,by decide,λt d=>by rw[List.mem_singleton.mp d];trivial⟩
 ·rw[List.mem_singleton.mp c,List.mem_singleton.mp e]
def Xq:∀R:List (List Int),iC (R.map λr=>PyData.tuple (r.map kL))<=3:=by
 intro a;induction a with
 |nil=>exact iO _
 |cons r R b=>
  rw[fL,iC];have e:=b;have d:=Cv r;have c:(PyData.tuple (r.map kL)).depth<=3:=by rw[jZ];lia
  lia
def GR(R:List (List Int)):jn (.lst (R.map tI)) (.lst (R.map tI))=some (.bl true):=by
 have t:bz (.lst (R.map tI))=some (.list (R.map λr=>.tuple (r.map kL))):=by rw[bz,Pq]
 have l:jC (.list (R.map λr=>.tuple (r.map kL)))=true:=Y3 R;have d:(PyData.list (R.map λr=>.tuple (r.map kL))).depth<=63:=by
  rw[jZ];have:=Xq R
  lia
 unfold jn;rw[C3 t t l d l d,iG,y7 GP,decide_eq_true rfl];rfl
def GX:∀d:List At,iC (d.map At.P)<=2:=by
 intro b;induction b with
 |nil=>exact iO _
 |cons a d c=>
  rw[fL,iC];have f:=c;have e:=M4 a
  lia
def X0{G:List Fc}(h:∀g∈G,gH g.1=true):jn (.lst (G.map fD)) (.lst (G.map fD))=some (.bl true):=by
 rw[Qf];have c:∀a∈G.map fA,a.w:=λa f=>by
  obtain⟨g,e,rfl⟩:=List.mem_map.mp f;exact GM (h g e)
 generalize G.map fA=b at c;have t:bz (.lst (b.map At.D))=some (.list (b.map At.P)):=by rw[bz,Gi]
 have l:jC (.list (b.map At.P))=true:=Qw c;have d:(PyData.list (b.map At.P)).depth<=63:=by
  rw[jZ];have:=GX b
  lia
 unfold jn;rw[C3 t t l d l d,iG,y7 X2,decide_eq_true rfl];rfl
def WR(T A F:List Pu.D->Res):En->Out:=(ak (b8 4 (cq ae))
 (ak (xn 2 5 4 (a7 (aj (g2 ao (aa 5) (gC (.int 1)))) [4] (g2 bw (aa 0) (aa 1)) (bp 0)) (di (az 5) (aj (wz 2)) WM))
 (ak (b8 6 (cq ae))
 (ak (di (az 7) (aj (af T (Pu.au (g1 cy (aa 3)) (Pu.au (aa 4) ae)))) (aR F))
 (ak (b8 11 (g1 fq (aa 2)))
 (ak (fz [1] (cz 12 (af A (Pu.au (bp 1) (Pu.au (aa 11) ae)))))
 (cm (q9 (g1 (fb "list") (aa 12)) (q9 (g2 jn (aa 12) (g1 gw (aa 6))) (g2 jn (aa 11) (aa 2)))))))))))
def HF(T A F:List Pu.D->Res){h:List Tm}{c:List At}{G:List Fc}{b:List Str}{R:List (List Int)}(x:b=je [] (gm c))(ha:∀a∈c,gH a.nm=true)(z:c.length<=1000)(L:∀g∈G,gH g.1=true)(q:∀f∈G,f.2.length<=3)(θ:G.length<=9)(y:b.length<=4)
  (E:∀σ:Str->Int,∀a∈c,F [dS (i7 b σ),.tup (a.ts.map Tm.D)]=.ok (tI (a.ts.map (u4 σ))))(C:∀σ:Str->Int,F [dS (i7 b σ),.tup (h.map Tm.D)]=.ok (tI (h.map (u4 σ)))){d:Sl}(M:d=.pu (cg b)\/d=.ow (b.map Pu.D.str))
  (hT:T [.int (b.length:Nat),fe (mj [] G)]=.ok (.lst ((Ek (mj [] G) b.length).map fe)))
  (hA:A [fj h c,.lst (G.map fD)]=.ok (.lst (R.map tI))) (J:gw (.lst ((Hr h c G b (Ek (mj [] G) b.length)).map tI))=some (.lst (R.map tI))) (e:Sl):
  WR T A F (lE e (.pu (fj h c)) (.pu (.lst (G.map fD))) d .no .no .no .no .no .no .no .no .no)=.rt (.bl true):=by
 have hn:b.Nodup:=by rw[x];exact Hd _ _ (by simp)
 have B:=K6 G [] q;simp only[jM,lS]at B;have u:(Ek (mj [] G) b.length).length<=1000000:=by
  rw[R7];have h1:(mj [] G).length ^ b.length<=30 ^ b.length:=Nat.pow_le_pow_left (by lia) _;have h2:30 ^ b.length<=30 ^ 4:=sA (by decide) y
  lia
 have s1:b8 4 (cq ae) (lE e _ _ d .no .no .no .no .no .no .no .no .no)=.nx (lE e (.pu (fj h c)) (.pu (.lst (G.map fD))) d _ .no .no .no .no .no .no .no .no):=rfl;obtain⟨l,e2⟩:=IK e _ _ d [.no,.no,.no,.no,.no,.no,.no] G [] .no q (by simp;lia);have s2:xn 2 5 4 (a7 (aj (g2 ao (aa 5) (gC (.int 1)))) [4] (g2 bw (aa 0) (aa 1)) (bp 0)) (di (az 5) (aj (wz 2)) WM) (lE e (.pu (fj h c)) (.pu (.lst (G.map fD))) d (.ow []) .no .no .no .no .no .no .no .no)=.nx (lE e (.pu (fj h c)) (.pu (.lst (G.map fD))) d (.ow ((mj [] G).map Pu.D.int)) l .no .no .no .no .no .no .no):=by
  rwa [EY]
 have Y:b8 6 (cq ae) (lE e _ _ d _ l .no .no .no .no .no .no .no)=.nx (lE e (.pu (fj h c)) (.pu (.lst (G.map fD))) d (.ow ((mj [] G).map Pu.D.int)) l _ .no .no .no .no .no .no):=rfl;obtain⟨p,o,n,m,j,N⟩:=MX F ha z L hn (by lia) E C M e _ .no .no (Ek (mj [] G) b.length) [] l .no .no .no .no (λr hr=>((H9 _ _ _).mp hr).1) (by simp;lia);rw[qB]at N;have hw:aj (af T (Pu.au (g1 cy (aa 3)) (Pu.au (aa 4) ae))) (lE e (.pu (fj h c)) (.pu (.lst (G.map fD))) d (.ow ((mj [] G).map Pu.D.int)) l (.ow []) .no .no .no .no .no .no)=.ok ((Ek (mj [] G) b.length).map fe):=by
  have e1:af T (Pu.au (g1 cy (aa 3)) (Pu.au (aa 4) ae)) (lE e (.pu (fj h c)) (.pu (.lst (G.map fD))) d (.ow ((mj [] G).map Pu.D.int)) l (.ow []) .no .no .no .no .no .no)=.ok (.lst ((Ek (mj [] G) b.length).map fe)):=by
   rw[<-hT];have I:(b.map Pu.D.str).length=b.length:=fF ..;obtain rfl|rfl:=M
   ·show T [.int _,fe _]=_;rw[I]
   ·show T [.int _,fe _]=_;rw[I]
  unfold aj;rw[e1];rfl
 have H:=(c6 hw).trans N;generalize (Hr h c G b _).map tI=v at J H;have U:b8 11 (g1 fq (aa 2)) (lE e _ (.pu (.lst (G.map fD))) d _ p _ o n m j .no .no)=.nx (lE e (.pu (fj h c)) _ d (.ow ((mj [] G).map Pu.D.int)) p (.ow v) o n m j _ .no):=rfl;have Q:fz [1] (cz 12 (af A (Pu.au (bp 1) (Pu.au (aa 11) ae)))) (lE e (.pu (fj h c)) (.pu (.lst (G.map fD))) d (.ow ((mj [] G).map Pu.D.int)) p (.ow v) o n m j (.ow (G.map fD)) .no)=.nx (lE e (.pu (fj h c)) (.pu (.lst (G.map fD))) d (.ow ((mj [] G).map Pu.D.int)) p (.ow v) o n m j (.ow (G.map fD)) (.pu (.lst (R.map tI)))):=by
  simp[lE,hA]
 have O:cm (q9 (g1 (fb "list") (aa 12)) (q9 (g2 jn (aa 12) (g1 gw (aa 6))) (g2 jn (aa 11) (aa 2)))) (lE e (.pu (fj h c)) (.pu (.lst (G.map fD))) d (.ow ((mj [] G).map Pu.D.int)) p (.ow v) o n m j (.ow (G.map fD)) (.pu (.lst (R.map tI))))=.rt (.bl true):=by
  simp[lE,J,(GR R),(X0 L)]
 unfold WR;rw[j6,s1];dsimp only;rw[j6,s2];dsimp only;rw[j6,Y];dsimp only;rw[j6,H];dsimp only;rw[j6,U];dsimp only;rw[j6,Q];dsimp only;exact O
def aX(c b a:List Pu.D->Res)(Z:En->Out):En->Out:=(ak (cz 1 (af c (Pu.au (aa 0) (Pu.au (gC (.int 0)) (Pu.au (gC (.int 3)) ae)))))
 (ak (cz 2 (af b (Pu.au (aa 0) (Pu.au (gC (.int 60)) (Pu.au (gC (.int 9)) ae)))))
 (ak (cz 3 (af a (Pu.au (g2 ao (aa 1) (gC (.int 1))) ae)))
 (ak (wy (g2 BE (g1 cy (aa 3)) (gC (.int 4))) (ak (b8 3 (cq ae))
 (cz 1 (Pu.js (Pu.au (Pu.js ae) (Pu.au (Pu.js (Pu.au (Pu.js (Pu.au (gC (.str "t")) (Pu.au (Pu.js (Pu.au (gC (.int 0)) ae)) ae))) ae)) ae))))) jq)
 Z))))
def HG(f e d:List Pu.D->Res)(Z:En->Out){S:Pu.D}{c:List Tm}{b:List At}{bk:Pu.D}{a:List Str}(j:f [S,.int 0,.int 3]=.ok (fj c b))(r:e [S,.int 60,.int 9]=.ok bk)(p:d [.tup (b.map At.D)]=.ok (cg a))(v:a.length<=1000):
  aX f e d Z (lE (.pu S) .no .no .no .no .no .no .no .no .no .no .no .no)=if 4<a.length then Z (lE (.pu S) (.pu (fj [] [⟨"t",[.i 0]⟩])) (.pu bk) (.ow []) .no .no .no .no .no .no .no .no .no)else Z (lE (.pu S) (.pu (fj c b)) (.pu bk) (.pu (cg a)) .no .no .no .no .no .no .no .no .no):=by
 have g:ao (fj c b) (.int 1)=some _:=rfl;generalize u:fj c b=q at j g⊢;have n:cz 1 (af f (Pu.au (aa 0) (Pu.au (gC (.int 0)) (Pu.au (gC (.int 3)) ae)))) (lE (.pu S) .no .no .no .no .no .no .no .no .no .no .no .no)=.nx (lE (.pu S) (.pu q) .no .no .no .no .no .no .no .no .no .no .no):=by
  simp[lE,j]
 have m:cz 2 (af e (Pu.au (aa 0) (Pu.au (gC (.int 60)) (Pu.au (gC (.int 9)) ae)))) (lE (.pu S) (.pu q) .no .no .no .no .no .no .no .no .no .no .no)=.nx (lE (.pu S) (.pu q) (.pu bk) .no .no .no .no .no .no .no .no .no .no):=by
  simp[lE,r]
 have l:cz 3 (af d (Pu.au (g2 ao (aa 1) (gC (.int 1))) ae)) (lE (.pu S) (.pu q) (.pu bk) .no .no .no .no .no .no .no .no .no .no)=.nx (lE (.pu S) (.pu q) (.pu bk) (.pu (cg a)) .no .no .no .no .no .no .no .no .no):=by
  simp[lE,g,p]
 have o:g2 BE (g1 cy (aa 3)) (gC (.int 4)) (lE (.pu S) (.pu q) (.pu bk) (.pu (cg a)) .no .no .no .no .no .no .no .no .no)=.ok (.bl (decide ((4:Int)<a.length))):=by
  simp[lE]
 unfold aX;rw[j6,n];dsimp only;rw[j6,m];dsimp only;rw[j6,l];dsimp only;rw[j6,ZX,o,ro]
 by_cases h:4<a.length
 ·rw[fM h,decide_eq_true (by lia)];rfl
 ·rw[fJ h,decide_eq_false (by lia)];rfl
def HD(n:Nat)(e:List Int):ab (tab (n+11)) ux [fe e]=.ok (.bl true):=by
 obtain⟨m,b,D,e1⟩:=Sk (n+5) e 0 3 (by decide) (by decide) (by decide);obtain⟨G,B,L,o,e2⟩:=FJ (n+7) e;obtain⟨A,q⟩:=M6 D;have u:=A.al;have v:=K6 G [] o;have y:=B.len;simp only[jM,lS]at v;have U:∀z,z∈mj [] G↔∃f∈G,z∈f.2:=λz=>by rw[Zi];simp
 have c:∀(m:List Tm)(b:List At)(E:Sl),wh m b->_->(je [] _).length<=4->_->
   WR (ab (tab (n+10)) ju) (ab (tab (n+10)) nc) _ (lE (.pu (fe e)) _ _ E .no .no .no .no .no .no .no .no .no)=.rt _:=λm b E A q l Y=>by
  obtain⟨R,J,r2,I⟩:=Mn (n+1) A B L q (IV U A.st rfl);have u:=A.al;have Q:=A.hl;have H:∀x,x∈je [] (gm b)↔∃a∈b,Tm.s x∈a.ts:=λx=>by rw[ja,wk];simp
  have put:∀(σ:Str->Int)(p:List Tm),p.length<=900->(∀x,Tm.s x∈p->x∈je [] (gm b))->ab _ km [dS _,.tup _]=.ok _:=λσ p O j=>by
   have:=IY (n+9) (s:=i7 _ σ) (ts:=p) O λx N=>⟨σ x,Hz σ x _ (j x N)⟩;rw[Ma σ j]at this;exact this
  exact HF _ _ _ rfl (λa d=>fw (A.g a d).1) (by lia) (λg T=>fw (B.g g T).1) o y l
   (λσ a d=>put σ a.ts (by have:=(A.g a d).2.2.1;lia) λx j=>(H x).mpr ⟨a,d,j⟩)
   (λσ=>put σ m (by lia) λx j=>(H x).mpr (A.st x j)) Y
   (oi (by lia) (DK (n+8) (by lia) l)) (oi (by lia) I) J _
 have r:=we (gm b) [];have M:(gm b).length<=12:=by
  rw[<-Rx];have h1:=oz (Pr b);have h2:=R8 A.g
  lia
 simp only[jM,lS]at r;have C:aX (ab (tab (n+10)) jz) (ab (tab (n+10)) ny) (ab (tab (n+10)) ib) (WR (ab (tab (n+10)) ju) (ab (tab (n+10)) nc) (ab (tab (n+10)) km)) (lE (.pu (fe e)) .no .no .no .no .no .no .no .no .no .no .no .no)=.rt (.bl true):=by
  rw[(HG _ _ _ _ (S:=fe e) (oi (by lia) e1) (oi (by lia) e2) (oi (by lia) (Uv (n+9) true (λa d=>⟨(A.g a d).w,(A.g a d).2.2.1⟩) (by lia))) (by lia))]
  by_cases h:4<(je [] (gm b)).length
  ·rw[fM h];exact c [] [⟨"t",[.i 0]⟩] _ W1 (by simp) (by decide) (.inr rfl)
  ·rw[fJ h];exact c m b _ A q (by lia) (.inl rfl)
 rw[VF];show de (aX _ _ _ (WR _ _ _) (lE _ .no .no .no .no .no .no .no .no .no .no .no .no))=_;rw[C];rfl
def Y2(a:List Int)(b:a.length<=63):ab (tab 29) ux [.lst (a.map D.int)]=.ok (.bl true):=HD 18 a
end LK
end
section
namespace LK
open PySem PySem.Spec PyProof.Rows L2 Pu
def dD{b:List fG}(h:b.length=1):∃a,b=[a]:=List.length_eq_one_iff.mp h
def dC{c:List fG}(h:c.length=2):∃a b,c=[a,b]:=by
 obtain _|⟨a,c⟩:=c
 ·cases h
 ·obtain⟨b,rfl⟩:=dD (Nat.succ.inj h);exact⟨a,b,rfl⟩
def cD{d:List fG}(h:d.length=3):∃a b c,d=[a,b,c]:=by
 obtain _|⟨a,d⟩:=d
 ·cases h
 ·obtain⟨b,c,rfl⟩:=dC (Nat.succ.inj h);exact⟨a,b,c,rfl⟩
def eB{e:List fG}(h:e.length=4):∃a b c d,e=[a,b,c,d]:=by
 obtain _|⟨a,e⟩:=e
 ·cases h
 ·obtain⟨b,c,d,rfl⟩:=cD (Nat.succ.inj h);exact⟨a,b,c,d,rfl⟩
def dX(K:gA)(d:fc):Prop:=∃f e kV g c a ct od h b,pN K kF d.x=some (some (.ref f))/\K.lookup f=some ⟨e,od,.func (jO d.x d.x (f9 d.st) (dh d.st) (a9 d.st) .none kV g c h a ct),b⟩/\lO K a d.x=true/\kA K (.ref f)=true
def eO{K:gA}{d:fc}{f h kV j g b ct od m e}(a:pN K kF d.x=some (some (.ref f)))(l:K.lookup f=some ⟨h,od,.func (jO d.x d.x (f9 d.st) (dh d.st) (a9 d.st) .none kV j g m b ct),e⟩)(c:lO K b d.x=true)(k:kA K (.ref f)=true):dX K d:=⟨_,_,_,_,_,_,_,_,_,_,a,l,c,k⟩
def HZ{K:gA}(kV c a:fG)(e:Option Addr)(d ct:fG):Binds K (jO "__init__" "Fits.__init__" (f9 Nr) (dh Nr) (a9 Nr) .none kV c a e d ct) ["self","columns","rows"] []:=by
 refine .all λf b=>?_;obtain⟨_,_,_,rfl⟩:=cD b;rfl
def WJ:∀d∈Hf,Dw d=true/\d.lm=false:=by decide+kernel
def VL:∀d∈Hf,Gp d.st d.x:=by
 intro d b;simp only[Hf,iK,lW,or_false]at b;obtain rfl|rfl|rfl|rfl|rfl|rfl|rfl|rfl|rfl|rfl|rfl|rfl|rfl|rfl|rfl|rfl|rfl|rfl|rfl|rfl|rfl|rfl|rfl|rfl|rfl|rfl|rfl|rfl|rfl|rfl|rfl|rfl|rfl|rfl|rfl|rfl|rfl|rfl|rfl|rfl|rfl:=b
 all_goals (intro _ _ _ _ _ _ c a;first|(obtain⟨_,rfl⟩:=dD a;rfl)|(obtain⟨_,_,rfl⟩:=dC a;rfl)|(obtain⟨_,_,_,rfl⟩:=cD a;rfl)|(obtain⟨_,_,_,_,rfl⟩:=eB a;rfl))
def OX{l:PySem.W.OpenLaw}{w:iI}{K:gA}{h:Heap}{g:Str->Option fG}{N:Addr}{n:Nat}{s:FS}(X:K.In h)(G:h.Ns kF g)(I:g "law"=some (.ref N))(hl:(tab n).fns "law"=some s)(hm:s.ms=[false])(H:∀L:List Int,L.length<=63->s.f [.lst (L.map D.int)]=.ok (.bl true))
  {O:Tok}
  {b j:Addr} {r u B p m C:fG} {q E:Option Addr} {o:Array (Option fG)}
  (hD:∀d∈Hf,dX K d)
  (hB:∀x∈rq,pN K kF x=some none)
  (s0:pN K kF "LETTERS"=some (some (.str "abcdefghijklmnopqrstuvwxyz" O)))
  (fc0_0:pN K kF "Fits"=some (some (.ref b)))
  (fc0_1:rJ K b Str.empty=true)
  (fc0_2:qL K b=true)
  (fc0_3:sY K b=true)
  (fc0_4:lK K (.ref b) "__setattr__"=some (some (.builtin "object.__setattr__")))
  (fc0_5:lK K (.ref b) "columns"=some none)
  (fc0_6:lK K (.ref b) "rows"=some none)
  (fc0_7:uG K b=true)
  (fc0_8:lK K (.ref b) "__init__"=some (some (.ref j)))
  (fc0_9:PySem.W.isFn K (.ref j)=true)
  (fc0_10:kA K (.ref b)=true)
  (fc0_11:K.lookup j=some ⟨r,q,.func (jO "__init__" "Fits.__init__" (f9 Nr) (dh Nr) (a9 Nr) .none u B p E m C),o⟩)
  (fc0_12:lO K m "Fits.__init__"=true):
  ∃M:oZ,(∀(s:fP)(v:fG),BindsTo s M ⟨[v],[]⟩ [("_law_script",v)])/\∀base:Heap,K.In base->base.Ns kF g->Bm g base->ll l.prog w K g base Wk n N M ["_law_script"] (Rt K):=by
 obtain⟨_,_,kV,dc,Q,cd,ct,_,an,_,a,l,c,k⟩:=hD ux (by simp only[Hf,iK,true_or,or_true]);cases I.symm.trans (tO X G a);have z:∀d∈Hf,vL K g d:=by
  intro d z;obtain⟨_,_,_,_,_,_,_,_,_,_,a,l,c,k⟩:=hD d z;exact OC X G (WJ d z).1 (VL d z) a l c k
 have Y:∀x y,gs x=some y->∃t,g x=some (.str y t):=by
  intro x y e;unfold gs at e
  by_cases J:x="LETTERS"
  ·rw[fM J]at e;cases e;subst J;exact⟨_,tO X G s0⟩
  rw[fJ J]at e;cases e
 have hb:∀x∈rq,g x=none:=λx U=>PySem.W.mg_none_of X G (hB x U);have hX:xS K g xs:=by
  refine⟨λc n1 n2 h=>?_⟩
  ·by_cases A:c="Fits"
   ·subst A;cases h;refine λP w base=>⟨b,j,_,tO X G fc0_0,⟨fc0_1,fc0_2,fc0_3,fc0_4⟩,fc0_5,fc0_6,by decide,⟨fc0_7,fc0_8,fc0_9,fc0_10⟩,HZ _ _ _ _ _ _,HY fc0_11 fc0_12 (vn (d:=⟨"__init__",Nr,[false,false,false],false⟩) (by decide+kernel)).1 rfl (by decide) (by decide+kernel) ⟨fc0_1,fc0_2,fc0_3,fc0_4⟩ fc0_5 fc0_6⟩
   ·simp only[xs,fJ A]at h;cases h
 refine⟨jO ux.x ux.x (f9 ux.st) (dh ux.st) (a9 ux.st) .none kV dc Q an cd ct,λs v=>.of_eq rfl,λbase T _ bm=>?_⟩;exact QM QI rfl a l c k T bm z Y hb hX hl hm H
end LK
namespace PySem.W.Fast
def tw10634342127840019994:Nat:=0
def tw15844087263571363778:Nat:=0
def tw4867423225989541991:Nat:=0
def tw3850960899565079819:Nat:=0
def tw59271211886901978:Nat:=0
def tw819655634979489779:Nat:=0
def tw5459318741833645994:Nat:=0
def tw13763386386224178727:Nat:=0
def tw5973965010595667413:Nat:=0
def tw8389708745311981195:Nat:=0
def tw13859682368210078440:Nat:=0
def tw10205313046845999282:Nat:=0
def tw15002445375425946632:Nat:=0
def tw8856583247667695788:Nat:=0
def tw7967683726868176120:Nat:=0
def tw16973403997187181530:Nat:=0
def tw1172442851113600877:Nat:=0
def tw3969385443720339588:Nat:=0
def tw12803841777629001352:Nat:=0
def tw17516253605100220385:Nat:=0
def tw2388141919365481694:Nat:=0
def tw15321185969804656805:Nat:=0
def tw16536876091911472876:Nat:=0
def tw12681125794776370292:Nat:=0
def tw15199194663626965760:Nat:=0
def tw6593797003292998869:Nat:=0
def tw13271251759990643249:Nat:=0
def tw12582109356830961835:Nat:=0
def tw2660390328628413682:Nat:=0
def tw1838734783442654790:Nat:=0
def tw14836924022087697358:Nat:=0
def tw14245175650709897137:Nat:=0
def tw2599650811036744948:Nat:=0
def tw3810009903906724496:Nat:=0
def tw10612967942364614484:Nat:=0
def tw17454244978312166606:Nat:=0
def tw9369843881770320497:Nat:=0
def tw5770393185093177789:Nat:=0
def tw5215532611170334680:Nat:=0
def tw16194875665850815257:Nat:=0
def tw887844579647607598:Nat:=0
def tw12436094347675479918:Nat:=0
def tw14720960535656704873:Nat:=0
def tw8019534971983024046:Nat:=0
def tw2379087298345377139:Nat:=0
def tw4262105471744783205:Nat:=0
def tw5205737458670222990:Nat:=0
def tw9995957310746456495:Nat:=0
def tw2673289523592075608:Nat:=0
def tw17888316832011232582:Nat:=0
def tw10726875117045945071:Nat:=0
def tw15737315717304850338:Nat:=0
def tw18130306090793391297:Nat:=0
def tw12103684464069316178:Nat:=0
def tw6882608686008139637:Nat:=0
def tw15754822700604633772:Nat:=0
def tw1429121518816248119:Nat:=0
def tw5946223738858968592:Nat:=0
def tw2865426301172941420:Nat:=0
def tw11617211435944412621:Nat:=0
def tw16794061085707229627:Nat:=0
def tw7387977952256751716:Nat:=0
def tw12732098422133376293:Nat:=0
def tw4492796395847296314:Nat:=0
def tw6583633356777844868:Nat:=0
def tw16149673598637944154:Nat:=0
def tw6265300595907727954:Nat:=0
def tw11342430465399409609:Nat:=0
def tw7751102545508489563:Nat:=0
def tw14666245902436105692:Nat:=0
def tw5599891407665785750:Nat:=0
def tw1054925857742784515:Nat:=0
def tw9178320498882524096:Nat:=0
def tw15164692567562055750:Nat:=0
def tw10668971575111127160:Nat:=0
def tw2934132915440648318:Nat:=0
def tw7483531495598238230:Nat:=0
def tw16501393079886693467:Nat:=0
def tw2107961729706934103:Nat:=0
def tw15031383568428665918:Nat:=0
def tw14101723591450153250:Nat:=0
def tw16455175349354519173:Nat:=0
def tw13434102469397877505:Nat:=0
def tw11170275679805668809:Nat:=0
def tw3669753307085000232:Nat:=0
def tw4757341217086790527:Nat:=0
end PySem.W.Fast
open PySem PySem.W PyProof.Rows
set_option maxRecDepth 100000 in
set_option maxHeartbeats 0 in
theorem PySem.Challenge.cw_askbook_k03_answers_holds : PySem.Challenge.rw_askbook_k03_answers.Holds := by
 w_on;o_law;k_head;(case hw=>w_witness2)
 k_fill
 refine Pu.ZO (l:=PySem.Challenge.rw_askbook_k03_answers) (k:=30) rfl rfl ⟨rfl,by decide,by decide⟩ (by decide) (λw h Y=>PySem.W.kIn_of Y) ?hNt ?hTb ?hFn
 case hNt=>intro w;kernel_rfl
 case hTb=>intro w h Y p g;cases g
 case hFn=>
  intro w m o h j G b
  refine' LK.OX (n:=30) j G b (Pu.DS 29 rfl) rfl LK.Y2 ?hD ?hB ?s0 ?fc0_0 ?fc0_1 ?fc0_2 ?fc0_3 ?fc0_4 ?fc0_5 ?fc0_6 ?fc0_7 ?fc0_8 ?fc0_9 ?fc0_10 ?fc0_11 ?fc0_12
  case hD=>
   intro d f
   simp only[LK.Hf,List.mem_cons,List.not_mem_nil,or_false]at f
   rcases f with rfl|rfl|rfl|rfl|rfl|rfl|rfl|rfl|rfl|rfl|rfl|rfl|rfl|rfl|rfl|rfl|rfl|rfl|rfl|rfl|rfl|rfl|rfl|rfl|rfl|rfl|rfl|rfl|rfl|rfl|rfl|rfl|rfl|rfl|rfl|rfl|rfl|rfl|rfl|rfl|rfl
   all_goals (refine' LK.eO ?a ?l ?c ?k;(case a=>k_is);(case l=>k_is);(case c=>k_is);(case k=>k_is))
  case hB=>
   intro x e
   simp only[Pu.rq,List.mem_cons,List.not_mem_nil,or_false]at e
   rcases e with rfl|rfl|rfl|rfl|rfl|rfl|rfl|rfl|rfl|rfl|rfl|rfl|rfl|rfl|rfl|rfl|rfl|rfl|rfl|rfl
   all_goals k_is
  (case s0=>k_is)
  (case fc0_0=>k_is)
  (case fc0_1=>k_is)
  (case fc0_2=>k_is)
  (case fc0_3=>k_is)
  (case fc0_4=>k_is)
  (case fc0_5=>k_is)
  (case fc0_6=>k_is)
  (case fc0_7=>k_is)
  (case fc0_8=>k_is)
  (case fc0_9=>k_is)
  (case fc0_10=>k_is)
  (case fc0_11=>k_is)
  (case fc0_12=>k_is)
end
