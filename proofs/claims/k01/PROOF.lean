import PyProof.Rows.All
import Wide.All
import OpenK.AllK
import Wide.FinOn
import Lean
import PyProof.EqAt
import PyProof.EqKinds
import PyProof.TupleCall
import KE.KTryMore
import KE.KDictLaws
import KE.KDictList
import KE.KDictOf
import PyProof.AttrMiss
import PyProof.SetScanFacts
import PyProof.SetKind
import KE.KIntText
import PyProof.ZipIter
import PyProof.WalkInts
import KE.KMinKey
import KE.RegKTryMore
import PySem.Challenge.RW_askbook_k01_books
set_option Elab.async false
set_option linter.all false
set_option maxRecDepth 100000
set_option maxHeartbeats 4000000
open Nat renaming le_refl→kA0,ne_of_lt→kAf,le_trans→kAn,lt_of_lt_of_le→kAo,zero_le→kAt,lt_irrefl→kAx
open Bool renaming and_eq_true→kA1,false_eq_true→kA9,not_true→kAv,false_ne_true→kB7
open List renaming replicate→kA2,length_map→kA3,map_cons→kA4,range→kA5,mem_cons→kA6,length_cons→kA7,getElem?_set_ne→kAa,getElem?_set_self→kAd,size_toArray→kAe,getElem?_eq_some_iff→kAh,length_append→kAi,mem_cons_self→kAk,mem_cons_of_mem→kAl,all_cons→kAm,length_set→kAp,mem_map→kAr,getElem?_map→kAs,mem_of_getElem?→kAy,append_nil→kB0,mem_range→kB1,getElem?_eq_getElem→kB2,not_mem_nil→kB3,mem_append→kB4,mem_singleton→kB5,getD_eq_getElem?_getD→kB6,mem_append_right→kB8,length_range→kB9,cons_lt_cons_iff→kBa,getElem?_append_left→kBc,length_replicate→kBd,getElem?_append_right→kBf,drop_eq_getElem_cons→kBg,getElem?_eq_none→kBh
open PySem.W renaming nsIn→kA8,keepIn→kAc,fnOf→kAj,codeIn→kAq,mg_none_of→kAu
open Array renaming length_toList→kAb,getElem?_toList→kAw,getElem?_eq_getElem→kAz,getElem?_eq_some_iff→kBe
open Option renaming some→kAg,bind_eq_some_iff→kBb
section
namespace L2
open PySem
noncomputable def rk:List Str:=["many"]
end L2
end
section
namespace L2
open PySem PySem.Spec PyProof.Rows
noncomputable abbrev fo:=Sum Int Str
noncomputable def yc:fo→Value→Bool
 |.inl k,v=>Value.isInt k v
 |.inr x,v=>Value.isStrOf x v
noncomputable def zkd(w:World):fo→Int
 |.inl k=>hashInt k
 |.inr x=>hashStr w x
theorem cq:∀{k:fo}{v:Value},yc k v=true→(∃i t,k=Sum.inl i∧v=Value.int i t)∨(∃x t,k=Sum.inr x∧v=Value.str x t)
 |.inl i,v,h=>by
  obtain⟨t,e⟩:=Value.isInt_shape (k:=i) (v:=v) h;exact .inl ⟨i,t,rfl,e⟩
 |.inr x,v,h=>by
  obtain⟨t,e⟩:=Value.isStrOf_shape (x:=x) (v:=v) h;exact .inr ⟨x,t,rfl,e⟩
theorem O1(i:Int)(t:Tok):yc (.inl i) (.int i t)=true:=by simp[yc,Value.isInt]
theorem O3(x:Str)(t:Tok):yc (.inr x) (.str x t)=true:=by simp[yc,Value.isStrOf]
theorem zca(a b:Int):decide ((Sum.inl a:fo)=Sum.inl b)=(a==b):=by
 by_cases e:a=b
 ·subst e;simp
 ·have h:¬(Sum.inl a:fo)=Sum.inl b:=λq=>e (Sum.inl.inj q);rw[decide_eq_false h];exact(beq_eq_false_iff_ne.mpr e).symm
theorem zce(a b:Str):decide ((Sum.inr a:fo)=Sum.inr b)=decide (a=b):=by
 by_cases e:a=b
 ·subst e;simp
 ·have h:¬(Sum.inr a:fo)=Sum.inr b:=λq=>e (Sum.inr.inj q);rw[decide_eq_false h,decide_eq_false e]
theorem zcb(a:Int)(b:Str):decide ((Sum.inl a:fo)=Sum.inr b)=false:=decide_eq_false (λq=>nomatch q)
theorem zcd(a:Str)(b:Int):decide ((Sum.inr a:fo)=Sum.inl b)=false:=decide_eq_false (λq=>nomatch q)
noncomputable def bq(prog:Program)(w:World):PySem.KeyKind prog w fo where
 is:=yc
 hash:=zkd w
 inj:=λv a b ha hb=>by
  rcases cq ha with ⟨i,t,rfl,rfl⟩|⟨x,t,rfl,rfl⟩
  ·rcases cq hb with ⟨j,u,rfl,e⟩|⟨y,u,rfl,e⟩
   ·injection e with e1 _;rw[e1]
   ·exact nomatch e
  ·rcases cq hb with ⟨j,u,rfl,e⟩|⟨y,u,rfl,e⟩
   ·exact nomatch e
   ·injection e with e1 _;rw[e1]
 byValue:=λk v h=>by
  rcases cq h with ⟨i,t,rfl,rfl⟩|⟨x,t,rfl,rfl⟩<;>rfl
 pyHash:=λhv h=>by
  rcases cq hv with ⟨i,t,rfl,rfl⟩|⟨x,t,rfl,rfl⟩
  ·exact wpAny_pyHash_int h
  ·exact wpAny_pyHash_str h
 eqBool:=λhu hv h=>by
  rcases cq hu with ⟨i,t,rfl,rfl⟩|⟨x,t,rfl,rfl⟩
  ·rcases cq hv with ⟨j,u,rfl,rfl⟩|⟨y,u,rfl,rfl⟩
   ·rw[zca]at h;exact wpAny_eqBool_int h
   ·rw[zcb]at h;exact SeqAt.EqAt.int_str i t y u _ _ _ _ h
  ·rcases cq hv with ⟨j,u,rfl,rfl⟩|⟨y,u,rfl,rfl⟩
   ·rw[zcd]at h;exact SeqAt.EqAt.str_int x t j u _ _ _ _ h
   ·rw[zce]at h;exact wpAny_eqBool_str h
 «strs»:=λk x t v h=>by
  rcases cq h with ⟨i,u,rfl,e⟩|⟨y,u,rfl,e⟩
  ·exact nomatch e
  ·injection e with e1 _
   subst e1;cases v<;>rfl
theorem Ic(prog:Program)(w:World)(i:Int)(t:Tok):(bq prog w).is (.inl i) (.int i t)=true:=O1 i t
theorem Ie(prog:Program)(w:World)(x:Str)(t:Tok):(bq prog w).is (.inr x) (.str x t)=true:=O3 x t
end L2
namespace L2
open PySem PySem.Spec PyProof.Rows
noncomputable abbrev NK:=Sum fo (List fo)
noncomputable abbrev az:=List NK
noncomputable def yu(prog:Program)(w:World)(h:Heap):NK→Value→Prop
 |.inl k,v=>(bq prog w).is k v=true
 |.inr ks,v=>∃b,v=.ref b∧IsTupleKey (bq prog w) h ks b
noncomputable def NItems(prog:Program)(w:World)(h:Heap):az→List Value→Prop
 |[],vs=>vs=[]
 |k::r,vs=>∃v t,vs=v::t∧yu prog w h k v∧NItems prog w h r t
def cx(prog:Program)(w:World)(h:Heap)(ks:az)(a:Addr):Prop:=∃o items n,h.get? a=some o∧o.cls=.type "tuple"∧o.data=.seq items n∧NItems prog w h ks items.toList
section
variable{prog:Program}{w:World}
theorem Ta{h:Heap}:∀{x y:NK}{v:Value},yu prog w h x v→yu prog w h y v→x=y
 |.inl a,.inl b,v,h1,h2=>by rw[(bq prog w).inj v a b h1 h2]
 |.inl a,.inr ys,v,h1,⟨b,e,_⟩=>by subst e;exact absurd ((bq prog w).byValue _ _ h1) (by intro z;cases z)
 |.inr xs,.inl b,v,⟨c,e,_⟩,h2=>by subst e;exact absurd ((bq prog w).byValue _ _ h2) (by intro z;cases z)
 |.inr xs,.inr ys,v,⟨b,e,q⟩,⟨c,e',q'⟩=>by subst e;cases e';rw[q.inj q']
theorem NItems.inj{h:Heap}:∀{x y:az}{vs:List Value},NItems prog w h x vs→NItems prog w h y vs→x=y
 |[],[],_,_,_=>rfl
 |[],_::_,vs,h1,⟨v,t,e,_⟩=>by rw[show vs=[]from h1]at e;cases e
 |_::_,[],vs,⟨v,t,e,_⟩,h2=>by rw[show vs=[]from h2]at e;cases e
 |a::x,b::y,vs,⟨v,t,e,h1,h2⟩,⟨v',t',e',h1',h2'⟩=>by
  subst e;cases e';rw[Ta h1 h1',NItems.inj h2 h2']
theorem Kz{h h':Heap}{d:Addr}{o:Obj}{es ep}(ho:h.get? d=some o)(hd:o.data=.dict es ep)(hs:Heap.SameBut d h h'):∀{k:NK}{v:Value},yu prog w h k v→yu prog w h' k v
 |.inl k,v,e=>e
 |.inr ks,v,⟨b,e,q⟩=>⟨b,e,q.keeps ho hd hs⟩
theorem NItems.keeps{h h':Heap}{d:Addr}{o:Obj}{es ep}(ho:h.get? d=some o)(hd:o.data=.dict es ep)(hs:Heap.SameBut d h h'):∀{ks:az}{vs:List Value},NItems prog w h ks vs→NItems prog w h' ks vs
 |[],_,e=>e
 |_::_,_,⟨v,t,e,h1,h2⟩=>⟨v,t,e,Kz ho hd hs h1,NItems.keeps ho hd hs h2⟩
noncomputable def qm(w:World)(prog:Program):NK→Int
 |.inl k=>(bq prog w).hash k
 |.inr ks=>tupleKeyHash (bq prog w) ks
noncomputable def M5:NK→Nat
 |.inl _=>1
 |.inr ks=>ks.length+1
noncomputable def v9(k:az):Nat:=(k.map M5).sum
variable{A:Around}{E:Value→Shared→Prop}{s:Shared}
theorem P1{k:NK}{v:Value}{Q:Int→Shared→Prop}(hu:A.units<cLine)(hk:yu prog w s.heap k v)(h:Q (qm w prog k) {s with toks:=s.toks+M5 k}):wpAny (model prog w) A (pyHash v) Q E s:=by
 cases k with
 |inl k=>exact(bq prog w).pyHash hk h
 |inr ks=>obtain⟨b,rfl,q⟩:=hk;exact wpAny_pyHash_tuple hu q h
theorem P2{ks:az}{a:Addr}{Q:Int→Shared→Prop}(hu:A.units+4<cLine)(hk:cx prog w s.heap ks a)(h:Q (reduceHash (Builtin.Tuple.tupleHashOf (ks.map (qm w prog)))) {s with toks:=s.toks+(v9 ks+1)}):
  wpAny (model prog w) A (pyHash (.ref a)) Q E s:=by
 obtain⟨o,items,n,ho,hc,hd,hi⟩:=hk;have hT:s.TypeIs (.ref a) "tuple":=⟨o,ho,hc⟩;unfold pyHash
 first|unfold pyHashByItsType|skip
 first|refine wpAny_bind (wpAny_cRoomFor_or (.inr (by omega)) ?_)|skip
 refine wpAny_bind (wpAny_specialOf hT F.slot_tuple_hash.lookup ?_);show wpAny _ _ (if(some (Value.builtin "tuple.__hash__")==some Value.none)=true then _ else _) Q E s;rw[if_neg (by rw[beq_builtin_none];exact kB7)];refine wpAny_bind (wpAny_specialOf hT F.slot_tuple_hash.lookup ?_);show wpAny _ _ (callSpecialIfBoundUnlessNone? (.ref a) "__hash__" _>>=_) Q E s;refine wpAny_bind (wpAny_callSpecialIfBoundUnlessNone?_slot hT F.slot_tuple_hash (wpAny_call_entry F.slot_tuple_hash hT F.entry_tuple_hash ?_ (F.args_tuple_hash_1 _)));show wpAny _ _ (Builtin.Tuple.tupleItemsOf (.ref a)>>=_) _ _ s;refine wpAny_bind (wpAny_tupleItemsOf ho hd ?_);refine wpAny_bind ?_;rw[←Array.forIn_toList];refine wpAny_forIn_list _
  (λbg (b:Array Int) s'=>∃done left,ks=done++left∧NItems prog w s.heap left bg∧b.toList=done.map (qm w prog)∧s'={s with toks:=s.toks+v9 done})
  _ ?_ ?_ _ _ ⟨[],ks,rfl,hi,rfl,rfl⟩
 ·rintro x bg b s' ⟨done,left,rfl,hl,hb,rfl⟩
  cases left with
  |nil=>cases (show x::bg=[]from hl)
  |cons k ks'=>
   obtain⟨v,t,e,h1,hl'⟩:=hl;cases e;refine wpAny_bind (P1 (by show A.units+_<cLine;omega) h1 ?_)
   first
    |exact wpAny_pure ⟨done++[k],ks',by simp,hl',by simp[hb],by simp[v9,Nat.add_assoc]⟩
    |exact wpAny_bind (wpAny_pure (wpAny_pure ⟨done++[k],ks',by simp,hl',by simp[hb],by simp[v9,Nat.add_assoc]⟩))
 ·rintro b s' ⟨done,left,rfl,hl,hb,rfl⟩
  cases left with
  |cons k ks'=>obtain⟨v,t,e,_⟩:=hl;cases e
  |nil=>
  rw[kB0]at h;show wpAny _ _ (retInt (Builtin.Tuple.tupleHashOf b.toList)) _ _ _;rw[hb];refine wpAny_ret_mkInt ?_;show wpAny _ _ (if(decide (-(2:Int) ^ 63≤Builtin.Tuple.tupleHashOf (done.map (qm w prog))) && decide (Builtin.Tuple.tupleHashOf (done.map (qm w prog))<2 ^ 63))=true then _ else _) Q E _;unfold reduceHash at h
  by_cases hr:(decide (-(2:Int) ^ 63≤Builtin.Tuple.tupleHashOf (done.map (qm w prog))) && decide (Builtin.Tuple.tupleHashOf (done.map (qm w prog))<2 ^ 63))=true
  ·rw[if_pos hr];rw[if_pos hr]at h;exact wpAny_pure (by simpa[Nat.add_assoc]using h)
  ·rw[if_neg hr];rw[if_neg hr]at h;exact wpAny_bind (wpAny_rule (wpAny_pure (by simpa[Nat.add_assoc]using h)))
theorem P3{ks:List fo}{a:Addr}{n:Nat}{Q:Bool→Shared→Prop}(hk:IsTupleKey (bq prog w) s.heap ks a)(h:Q true s):wpAny (model prog w) A (eqIsQuiet (n+1) (.ref a)) Q E s:=by
 have hT:=hk.typeIs;obtain⟨o,items,n,ho,_,hd,hi⟩:=hk;unfold eqIsQuiet;refine wpAny_bind (wpAny_specialOf hT F.slot_tuple_eq.lookup ?_);show wpAny _ _ (isInstance (.ref a) (.type "tuple")>>=_) _ _ s;refine wpAny_bind (wpAny_isInstance hT isSubtype_tuple_tuple ?_);simp only[kAv,kA9,if_false];refine wpAny_bind (wpAny_seqItems ho hd ?_);refine wpAny_bind ?_;show wpAny _ _ (forIn items _ _) _ _ s;rw[←Array.forIn_toList];refine wpAny_forIn_list _ (λbg r s'=>r.1=none∧s'=s∧∀v∈bg,carriedByValue v=true) _ ?_ ?_ _ _ ⟨rfl,rfl,hi.byValue⟩
 ·rintro v bg r s' ⟨hr,rfl,hall⟩
  rw[eqIsQuiet_byValue _ (hall v kAk)];refine wpAny_bind (wpAny_pure ?_);simp only[kAv,kA9,if_false];exact wpAny_pure ⟨rfl,rfl,λu hu'=>hall u (kAl _ hu')⟩
 ·rintro ⟨r1,r2⟩ s' ⟨hr,rfl,_⟩
  simp only at hr;subst hr;exact wpAny_pure h
theorem Bh{ks:az}{a:Addr}{Q:Bool→Shared→Prop}(hk:cx prog w s.heap ks a)(h:Q true s):wpAny (model prog w) A (eqIsQuiet 8 (.ref a)) Q E s:=by
 obtain⟨o,items,n,ho,hc,hd,hi⟩:=hk;have hT:s.TypeIs (.ref a) "tuple":=⟨o,ho,hc⟩;unfold eqIsQuiet;refine wpAny_bind (wpAny_specialOf hT F.slot_tuple_eq.lookup ?_);show wpAny _ _ (isInstance (.ref a) (.type "tuple")>>=_) _ _ s;refine wpAny_bind (wpAny_isInstance hT isSubtype_tuple_tuple ?_);simp only[kAv,kA9,if_false];refine wpAny_bind (wpAny_seqItems ho hd ?_);refine wpAny_bind ?_;show wpAny _ _ (forIn items _ _) _ _ s;rw[←Array.forIn_toList];refine wpAny_forIn_list _ (λbg r s'=>r.1=none∧s'=s∧∃left,NItems prog w s.heap left bg) _ ?_ ?_ _ _ ⟨rfl,rfl,ks,hi⟩
 ·rintro v bg r s' ⟨hr,rfl,left,hl⟩
  cases left with
  |nil=>cases (show v::bg=[]from hl)
  |cons k ks'=>
   obtain⟨v',t,e,h1,hl'⟩:=hl;cases e;refine wpAny_bind ?_;have go:wpAny (model prog w) A (eqIsQuiet 7 v) (λb s''=>b=true∧s''=s') E s':=by
    cases k with
    |inl k=>rw[eqIsQuiet_byValue _ ((bq prog w).byValue _ _ h1)];exact wpAny_pure ⟨rfl,rfl⟩
    |inr ys=>obtain⟨b,rfl,q⟩:=h1;exact P3 q ⟨rfl,rfl⟩
   refine wpAny_mono go (λb s'' ⟨e1,e2⟩=>?_) λ_ _ q=>q;subst e1 e2;simp only[kAv,kA9,if_false];exact wpAny_pure ⟨rfl,rfl,ks',hl'⟩
 ·rintro ⟨r1,r2⟩ s' ⟨hr,rfl,_⟩
  simp only at hr;subst hr;exact wpAny_pure h
theorem Di{k:fo}{v:Value}{b:Addr}{its:Array Value}{Q:Bool→Shared→Prop}(hu:A.units<cLine)(hk:yc k v=true)(hb:s.heap.IsTuple b its)(h:Q false s):wpAny (model prog w) A (eqBool v (.ref b)) Q E s∧wpAny (model prog w) A (eqBool (.ref b) v) Q E s:=by
 rcases cq hk with ⟨i,t,rfl,rfl⟩|⟨x,t,rfl,rfl⟩
 ·exact⟨SeqAt.EqAt.int_tuple i t hb hu _ _ _ _ h,SeqAt.EqAt.tuple_int i t hb hu _ _ _ _ h⟩
 ·exact⟨SeqAt.EqAt.str_tuple x t hb hu _ _ _ _ h,SeqAt.EqAt.tuple_str x t hb hu _ _ _ _ h⟩
theorem Om{x y:NK}{u v:Value}{Q:Bool→Shared→Prop}(hu:A.units<cLine)(hx:yu prog w s.heap x u)(hy:yu prog w s.heap y v)(h:Q (decide (x=y)) s):wpAny (model prog w) A (eqBool u v) Q E s:=by
 cases x with
 |inl a=>
  cases y with
  |inl b=>exact(bq prog w).eqBool hx hy (by
    have e:decide (a=b)=decide ((Sum.inl a:NK)=Sum.inl b):=by by_cases q:a=b<;>simp[q]
    rw[e];exact h)
  |inr ys=>
   obtain⟨b,rfl,o,its,n,h1,h2,h3,_⟩:=hy;exact(Di hu hx ⟨o,h1,h2,n,h3⟩ h).1
 |inr xs=>
  cases y with
  |inl b=>
   obtain⟨c,rfl,o,its,n,h1,h2,h3,_⟩:=hx;exact(Di hu hy ⟨o,h1,h2,n,h3⟩ h).2
  |inr ys=>
   obtain⟨b,rfl,q⟩:=hx;obtain⟨c,rfl,q'⟩:=hy;exact wpAny_eqBool_tuple hu q q' (by
    have e:decide (xs=ys)=decide ((Sum.inr xs:NK)=Sum.inr ys):=by by_cases q:xs=ys<;>simp[q]
    rw[e];exact h)
theorem NItems.length{h:Heap}:∀{x:az}{vs:List Value},NItems prog w h x vs→x.length=vs.length
 |[],vs,e=>by rw[show vs=[]from e];rfl
 |_::_,_,⟨v,t,e,_,h2⟩=>by rw[e,kA7,kA7,NItems.length h2]
theorem Lx{x y:az}{a b:Addr}{P:Fin→Shared→Prop}(hu:A.units+2<cLine)(hx:cx prog w s.heap x a)(hy:cx prog w s.heap y b)(h:P (.done (.ret (.bool (decide (x=y))))) s):
  wpAny (model prog w) A (Builtin.«tuple.__eq__» ⟨[.ref a,.ref b],[]⟩) P E s:=by
 obtain⟨oa,xs,na,hoa,hca,hda,hia⟩:=hx;obtain⟨ob,ys,nb,hob,hcb,hdb,hib⟩:=hy;have hTb:s.TypeIs (.ref b) "tuple":=⟨ob,hob,hcb⟩;show wpAny _ _ (isInstance (.ref b) (.type "tuple")>>=_) _ _ s;refine wpAny_bind (wpAny_isInstance hTb isSubtype_tuple_tuple ?_);simp only[kAv,kA9,if_false];refine wpAny_bind (wpAny_tupleItemsOf hoa hda ?_);refine wpAny_bind (wpAny_tupleItemsOf hob hdb ?_);refine wpAny_bind ?_;refine wpAny_forIn_list _
  (λbg r s'=>r.1=none∧s'=s∧∃x' y' xs' ys',bg=List.zip xs' ys'∧NItems prog w s.heap x' xs'∧NItems prog w s.heap y' ys'∧decide (x'=y')=decide (x=y)∧(xs'.length==ys'.length)=(xs.size==ys.size))
  _ ?_ ?_ _ _ ⟨rfl,rfl,x,y,xs.toList,ys.toList,rfl,hia,hib,rfl,by simp⟩
 ·rintro ⟨u,v⟩ bg r s' ⟨hr,rfl,x',y',xs',ys',hz,hx',hy',hdec,hlen⟩
  cases x' with
  |nil=>rw[show xs'=[]from hx']at hz;simp at hz
  |cons k1 x''=>
   cases y' with
   |nil=>rw[show ys'=[]from hy']at hz;simp at hz
   |cons k2 y''=>
    obtain⟨u',xs'',rfl,h1,hx''⟩:=hx';obtain⟨v',ys'',rfl,h2,hy''⟩:=hy';simp only[List.zip_cons_cons,List.cons.injEq,Prod.mk.injEq]at hz;obtain⟨⟨rfl,rfl⟩,rfl⟩:=hz;refine wpAny_bind (Om (by omega) h1 h2 ?_)
    by_cases hk:k1=k2
    ·subst hk;rw[decide_eq_true rfl];simp only[kAv,kA9,if_false];refine wpAny_pure ⟨rfl,rfl,x'',y'',xs'',ys'',rfl,hx'',hy'',?_,by simpa using hlen⟩;rw[←hdec]
     by_cases hxy:x''=y''
     ·simp[hxy]
     ·simp[hxy]
    ·rw[decide_eq_false hk];simp only[Bool.not_false,if_true];have hf:decide (x=y)=false:=by rw[←hdec];simp[hk]
     rw[hf]at h;exact wpAny_bind (wpAny_pure (wpAny_pure (wpAny_pure h)))
 ·rintro ⟨r1,r2⟩ s' ⟨hr,rfl,x',y',xs',ys',hz,hx',hy',hdec,hlen⟩
  simp only at hr;subst hr;refine wpAny_pure ?_;have hfin:(xs.size==ys.size)=decide (x=y):=by
   rw[←hdec,←hlen,←hx'.length,←hy'.length];cases x' with
   |nil=>
    cases y' with
    |nil=>simp
    |cons _ _=>simp
   |cons _ _=>
    cases y' with
    |nil=>simp
    |cons _ _=>
     obtain⟨_,_,rfl,_⟩:=hx';obtain⟨_,_,rfl,_⟩:=hy';simp at hz
  show P (.done (.ret (.bool (xs.size==ys.size)))) s';rw[hfin];exact h
theorem On{x y:az}{a b:Addr}{Q:Bool→Shared→Prop}(hu:A.units+4<cLine)(hx:cx prog w s.heap x a)(hy:cx prog w s.heap y b)(h:Q (decide (x=y)) s):
  wpAny (model prog w) A (eqBool (.ref a) (.ref b)) Q E s:=by
 have tx:s.TypeIs (.ref a) "tuple":=let ⟨o,_,_,h1,h2,_⟩:=hx;⟨o,h1,h2⟩;have ty:s.TypeIs (.ref b) "tuple":=let ⟨o,_,_,h1,h2,_⟩:=hy;⟨o,h1,h2⟩;unfold eqBool
 try with_reducible refine wpAny_holding ?_
 show wpAny _ _ (if(Value.ref a==Value.ref b)=true then _ else _) Q E s
 by_cases hab:(Value.ref a==Value.ref b)=true
 ·rw[if_pos hab];have e:a=b:=by have:=eq_of_beq hab;injection this
  subst e;obtain⟨o,items,n,ho,_,hd,hi⟩:=hx;obtain⟨o',items',n',ho',_,hd',hi'⟩:=hy;obtain rfl:o=o':=kAg.inj (ho.symm.trans ho');rw[hd]at hd';injection hd' with h1 _
  subst h1;obtain rfl:=hi.inj hi';exact wpAny_bind (wpAny_rule (wpAny_pure (by simpa using h)))
 ·rw[if_neg hab];exact wpAny_bind (wpAny_richCompare_same_room (op:=.Eq) tx ty F.slot_tuple_eq
   (wpAny_call_entry F.slot_tuple_eq tx F.entry_tuple_eq (Lx (by show A.units+1+2<cLine;omega) hx hy ⟨_,rfl,(λe=>nomatch e),wpAny_truthy_bool h⟩) (F.args_tuple_eq_2 _ _)) (by omega))
end
noncomputable def ar(prog:Program)(w:World):HeapKind prog w az where
 is:=cx prog w
 hash:=λk=>reduceHash (Builtin.Tuple.tupleHashOf (k.map (qm w prog)))
 draws:=λk=>v9 k+1
 room:=λA=>A.units+4<cLine
 inj:=λhx hy=>by
  obtain⟨o,items,n,ho,_,hd,hi⟩:=hx;obtain⟨o',items',n',ho',_,hd',hi'⟩:=hy;obtain rfl:o=o':=kAg.inj (ho.symm.trans ho');rw[hd]at hd';injection hd' with h1 _
  subst h1;exact hi.inj hi'
 keeps:=λx ho hd hs=>by
  obtain⟨o',items,n,ho',hc,hd',hi⟩:=x;refine⟨o',items,n,(hs.2 _ ?_).trans ho',hc,hd',hi.keeps ho hd hs⟩
  rintro rfl
  obtain rfl:=kAg.inj (ho'.symm.trans ho);rw[hd]at hd';exact nomatch hd'
 pyHash:=λhu hk h=>P2 hu hk h
 eqBool:=λhu hx hy h=>On hu hx hy h
 quiet:=λhk h=>Bh hk h
theorem i7{prog:Program}{w:World}{A:Around}(h:A.units+5<cLine):(ar prog w).room A.in1:=by show A.units+1+4<cLine;omega
end L2
namespace L2
open PySem PySem.Spec PyProof.Rows
inductive V where
 |non|bl (b:Bool)|int (i:Int)|str (x:Str)|byt (b:Array UInt8)|flt (b:UInt64)|ref (a:Addr)|ty (n:String)
 deriving DecidableEq
noncomputable def RelV:V→Value→Prop
 |.non,u=>u=Value.none
 |.bl b,u=>u=Value.bool b
 |.int i,u=>∃t,u=Value.int i t
 |.str x,u=>∃t,u=Value.str x t
 |.byt b,u=>∃t,u=Value.bytes b t
 |.flt b,u=>∃t,u=Value.float b t
 |.ref a,u=>u=Value.ref a
 |.ty n,u=>u=Value.type n
noncomputable abbrev Vals:List V→List Value→Prop:=Paired RelV
theorem Vals.length{xs:List V}{us:List Value}(r:Vals xs us):xs.length=us.length:=Paired.length r
theorem Vals.get:∀{xs:List V}{us:List Value}{i:Nat}{x:V},Vals xs us→xs[i]?=some x→∃u,us[i]?=some u∧RelV x u
 |_,_,_,_,.nil,e=>by simp at e
 |_,_,0,_,.cons r _,e=>by simp at e;subst e;exact⟨_,rfl,r⟩
 |_,_,i+1,x,.cons _ t,e=>by
  obtain⟨u,h1,h2⟩:=Vals.get (i:=i) (x:=x) t (by simpa using e);exact⟨u,by simpa using h1,h2⟩
theorem Vals.set{x:V}{u:Value}(r:RelV x u):∀{xs:List V}{us:List Value}(i:Nat),Vals xs us→Vals (xs.set i x) (us.set i u)
 |_,_,_,.nil=>.nil
 |_,_,0,.cons _ t=>.cons r t
 |_,_,i+1,.cons q t=>.cons q (Vals.set r i t)
theorem Vals.append:∀{xs ys:List V}{us ws:List Value},Vals xs us→Vals ys ws→Vals (xs++ys) (us++ws)
 |_,_,_,_,.nil,s=>s
 |_,_,_,_,.cons r t,s=>.cons r (Vals.append t s)
theorem Vals.take:∀{xs:List V}{us:List Value}(n:Nat),Vals xs us→Vals (xs.take n) (us.take n)
 |_,_,0,_=>.nil
 |_,_,_+1,.nil=>.nil
 |_,_,n+1,.cons r t=>.cons r (Vals.take n t)
theorem Vals.drop:∀{xs:List V}{us:List Value}(n:Nat),Vals xs us→Vals (xs.drop n) (us.drop n)
 |_,_,0,r=>r
 |_,_,_+1,.nil=>.nil
 |_,_,n+1,.cons _ t=>Vals.drop n t
noncomputable def RelO:Option V→Option Value→Prop
 |some v,some u=>RelV v u
 |none,none=>True
 |_,_=>False
noncomputable def KV{κ:Type}:List (κ×V)→List (κ×Value)→Prop:=Paired λ(p:κ×V)(q:κ×Value)=>p.1=q.1∧RelV p.2 q.2
noncomputable def kV:fo→V
 |.inl i=>.int i
 |.inr x=>.str x
inductive HO where
 |lst (xs:List V)
 |tup (xs:List V)
 |dK (kvs:List (fo×V))|dT (kvs:List (az×V))
 |set (S:Int→Bool) (n:Nat)
 |ins (C dx:Addr) (fs:List (Str×V))
 |own (x:Addr)
 |xd (fs:List (Str×V))
 |met (f x:Addr)
 |rng (lo hi:Int)
 |frz (o:Obj) (u:HO)
 |tbl (q:Str)
 |ext (φ:Heap→Prop)
noncomputable abbrev Hp:=Addr→Option HO
noncomputable def upd(H:Hp)(a:Addr)(o:HO):Hp:=λb=>if b=a then some o else H b
theorem cb{H:Hp}{a:Addr}{o:HO}:upd H a o a=some o:=by unfold upd;rw[if_pos rfl]
theorem bp{H:Hp}{a b:Addr}{o:HO}(h:b≠a):upd H a o b=H b:=by unfold upd;rw[if_neg h]
theorem zgd{H:Hp}{a b:Addr}{o u:HO}(h:H a=some o)(h':H b=some u)(d:o≠u):a≠b:=by
 intro e;subst e;rw[h]at h';exact d (kAg.inj h')
theorem cn{H:Hp}{a b:Addr}{o:HO}(h:H a=some o)(h':H b=none):a≠b:=by
 intro e;subst e;rw[h]at h';cases h'
noncomputable def nkAt(H:Hp):NK→V→Prop
 |.inl k,v=>v=kV k
 |.inr ks,v=>∃b,v=.ref b∧H b=some (.tup (ks.map kV))
noncomputable def NkL(H:Hp):az→List V→Prop
 |[],vs=>vs=[]
 |k::r,vs=>∃v t,vs=v::t∧nkAt H k v∧NkL H r t
def TkAt(H:Hp)(k:az)(b:Addr):Prop:=∃vs,H b=some (.tup vs)∧NkL H k vs
theorem nkAt.mono{H H':Hp}(ht:∀b xs,H b=some (.tup xs)→H' b=some (.tup xs)):∀{k:NK}{v:V},nkAt H k v→nkAt H' k v
 |.inl _,_,e=>e
 |.inr _,_,⟨b,e,q⟩=>⟨b,e,ht _ _ q⟩
theorem NkL.mono{H H':Hp}(ht:∀b xs,H b=some (.tup xs)→H' b=some (.tup xs)):∀{k:az}{vs:List V},NkL H k vs→NkL H' k vs
 |[],_,e=>e
 |_::_,_,⟨v,t,e,q,r⟩=>⟨v,t,e,nkAt.mono ht q,NkL.mono ht r⟩
theorem TkAt.mono{H H':Hp}(ht:∀b xs,H b=some (.tup xs)→H' b=some (.tup xs)){k:az}{b:Addr}(h:TkAt H k b):TkAt H' k b:=
 let ⟨vs,h1,h2⟩:=h
 ⟨vs,ht _ _ h1,h2.mono ht⟩
noncomputable def Trip(H:Hp)(q:Str):List Value→Prop
 |[]=>True
 |.int _ _::.int _ _::.ref c'::r=>(∃(oc:Obj) (vs:Array Value) (t:Tok),H c'=some (.frz oc (.own 0))∧oc.data=.fields vs∧vs[1]?=some (.str q t))∧Trip H q r
 |_=>False
theorem Trip.mono{H H':Hp}{q:Str}(hz:∀b o u,H b=some (.frz o u)→H' b=some (.frz o u))(l:List Value)(h:Trip H q l):Trip H' q l:=by
 fun_induction Trip H q l with
 |case1=>unfold Trip;trivial
 |case2 _ _ _ _ c' r ih=>
  obtain⟨⟨oc,vs,t,e1,e2⟩,h2⟩:=h;unfold Trip;exact⟨⟨oc,vs,t,hz _ _ _ e1,e2⟩,ih h2⟩
 |case3=>exact h.elim
section
variable(P:Program)(w:World)
noncomputable def ObjOk(H:Hp)(h:Heap)(a:Addr):HO→Prop
 |.lst xs=>xs.length≤sizeLine∧∃(its:List Value) (n:Nat),Vals xs its∧h.get? a=some {cls:=.type "list",data:=.seq its.toArray n}
 |.tup xs=>xs.length≤sizeLine∧∃its:List Value,Vals xs its∧IsTup h a its.toArray
 |.dK kvs=>kvs.length≤sizeLine∧(a==sysModules)=false∧∃vs,KV kvs vs∧h.DictOf (bq P w) a vs
 |.dT kvs=>kvs.length≤sizeLine∧(a==sysModules)=false∧∃xs:List (az×Addr×Value),
   Paired (λ(p:az×V)(q:az×Addr×Value)=>p.1=q.1∧TkAt H p.1 q.2.1∧RelV p.2 q.2.2) kvs xs∧
   ∃o es ep,h.get? a=some o∧o.ExactDict∧o.data=.dict es ep∧es.toList=xs.map (entryOfKey (ar P w))∧(xs.map (·.1)).Nodup
 |.set S n=>h.SetOf (intKind P w) a S n
 |.ins C dx fs=>H dx=some (.own a)∧fs.length≤1000∧dx≠a∧h.get? a=some (PySem.W.instObj C dx)∧
   ∃mA,h.Ns1 dx mA∧(∀f,RelO (fs.lookup f) (mA f))∧PySem.Within mA (fs.map (·.1))
 |.own _=>∃o,h.get? a=some o
 |.xd fs=>∃mA,h.Ns1 a mA∧∀f,RelO (fs.lookup f) (mA f)
 |.rng lo hi=>∃t u v,h.get? a=some {cls:=.type "range",data:=.fields #[.int lo t,.int hi u,.int 1 v]}
 |.frz o u=>h.get? a=some o∧ObjOk H h a u
 |.tbl q=>∃ps:Array Value,h.get? a=some {cls:=.none,data:=.fields ps}∧Trip H q ps.toList
 |.met f x=>h.get? a=some (PySem.W.methodObj (.ref f) (.ref x))
 |.ext φ=>φ h∧(∃o,h.get? a=some o)∧∀h1 h2:Heap,φ h1→(∀o,h1.get? a=some o→h2.get? a=some o)→φ h2
def HOk(H:Hp)(h:Heap):Prop:=∀a o,H a=some o→ObjOk P w H h a o
end
section
variable{P:Program}{w:World}{H H':Hp}{h h':Heap}{a:Addr}{o:HO}
theorem ObjOk.lt(x:ObjOk P w H h a o):a<h.objs.size:=by
 cases o with
 |lst xs=>obtain⟨_,_,_,_,e⟩:=x;exact Heap.lt_size e
 |tup xs=>obtain⟨_,_,_,p⟩:=x;exact p.lt
 |dK kvs=>obtain⟨_,_,_,_,o,_,_,e,_⟩:=x;exact Heap.lt_size e
 |dT kvs=>obtain⟨_,_,_,_,o,_,_,e,_⟩:=x;exact Heap.lt_size e
 |set S n=>obtain⟨o,_,_,_,e,_⟩:=x;exact Heap.lt_size e
 |ins C dx fs=>obtain⟨_,_,_,e,_⟩:=x;exact Heap.lt_size e
 |own y=>obtain⟨_,e⟩:=x;exact Heap.lt_size e
 |xd fs=>obtain⟨_,⟨_,_,_,e,_⟩,_⟩:=x;exact Heap.lt_size e
 |rng lo hi=>obtain⟨_,_,_,e⟩:=x;exact Heap.lt_size e
 |frz ob u=>obtain⟨e,_⟩:=x;exact Heap.lt_size e
 |tbl q=>obtain⟨ps,e,_⟩:=x;exact Heap.lt_size e
 |met f y=>exact Heap.lt_size (show h.get? a=some _ from x)
 |ext φ=>obtain⟨_,⟨_,e⟩,_⟩:=x;exact Heap.lt_size e
theorem Paired.mapP{α β:Type}{F G:α→β→Prop}:∀{l₁:List α}{l₂:List β},Paired F l₁ l₂→(∀a b,F a b→G a b)→Paired G l₁ l₂
 |_,_,.nil,_=>.nil
 |_,_,.cons r t,f=>.cons (f _ _ r) (Paired.mapP t f)
theorem ObjOk.stay(x:ObjOk P w H h a o)(k:∀b u,(b=a∨H b=some (.own a))→h.get? b=some u→h'.get? b=some u)
  (ho:∀b,H b=some (.own a)→H' b=some (.own a))(ht:∀b xs,H b=some (.tup xs)→H' b=some (.tup xs))(hz:∀b o u,H b=some (.frz o u)→H' b=some (.frz o u):=by exact λ_ _ _ q=>q):ObjOk P w H' h' a o:=by
 induction o with
 |lst xs=>obtain⟨z,its,n,r,e⟩:=x;exact⟨z,its,n,r,k _ _ (.inl rfl) e⟩
 |tup xs=>obtain⟨z,its,r,ob,e,c⟩:=x;exact⟨z,its,r,ob,k _ _ (.inl rfl) e,c⟩
 |dK kvs=>obtain⟨z,y,vs,r,ob,es,ep,e,c⟩:=x;exact⟨z,y,vs,r,ob,es,ep,k _ _ (.inl rfl) e,c⟩
 |dT kvs=>
  obtain⟨z,y,xs,r,ob,es,ep,e,c⟩:=x;exact⟨z,y,xs,Paired.mapP r λp q z=>⟨z.1,z.2.1.mono ht,z.2.2⟩,ob,es,ep,k _ _ (.inl rfl) e,c⟩
 |set S n=>obtain⟨ob,es,ep,t,e,c⟩:=x;exact⟨ob,es,ep,t,k _ _ (.inl rfl) e,c⟩
 |ins C dx fs=>
  obtain⟨d,z,ne,e,mA,⟨od,es,ep,e2,c⟩,r⟩:=x;exact⟨ho _ d,z,ne,k _ _ (.inl rfl) e,mA,⟨od,es,ep,k _ _ (.inr d) e2,c⟩,r⟩
 |own y=>obtain⟨ob,e⟩:=x;exact⟨ob,k _ _ (.inl rfl) e⟩
 |xd fs=>obtain⟨mA,⟨od,es,ep,e,c⟩,r⟩:=x;exact⟨mA,⟨od,es,ep,k _ _ (.inl rfl) e,c⟩,r⟩
 |rng lo hi=>obtain⟨t,u,v,e⟩:=x;exact⟨t,u,v,k _ _ (.inl rfl) e⟩
 |frz ob u ih=>obtain⟨e,q⟩:=x;exact⟨k _ _ (.inl rfl) e,ih q⟩
 |tbl q=>
  obtain⟨ps,e,r⟩:=x;exact⟨ps,k a _ (.inl rfl) e,r.mono hz⟩
 |met f y=>
  have e:h.get? a=some (PySem.W.methodObj (.ref f) (.ref y)):=x;show h'.get? a=some (PySem.W.methodObj (.ref f) (.ref y));exact k a _ (.inl rfl) e
 |ext φ=>obtain⟨p,⟨o,e⟩,st⟩:=x;exact⟨st _ _ p λo q=>k _ _ (.inl rfl) q,⟨o,k _ _ (.inl rfl) e⟩,st⟩
theorem HOk.lt(x:HOk P w H h)(e:H a=some o):a<h.objs.size:=(x a o e).lt
theorem HOk.fresh(x:HOk P w H h)(e:h.objs.size≤a):H a=none:=by
 cases q:H a with
 |none=>rfl
 |some u=>exact absurd (kAo (x.lt q) e) (kAx _)
theorem HOk.kept(x:HOk P w H h)(k:∀b u,h.get? b=some u→h'.get? b=some u):HOk P w H h':=λa o e=>
 (x a o e).stay (λb u _ q=>k b u q) (λ_ q=>q) λ_ _ q=>q
theorem HOk.laid(x:HOk P w H h)(k:∀b u,h.get? b=some u→h'.get? b=some u)(hp:h.objs.size≤a)(new:ObjOk P w (upd H a o) h' a o):HOk P w (upd H a o) h':=λb u e=>by
 have hn:=x.fresh hp
 by_cases hb:b=a
 ·subst hb;rw[cb]at e;cases e;exact new
 ·rw[bp hb]at e;exact(x b u e).stay (λc v _ q=>k c v q) (λc q=>by rw[bp (cn q hn)];exact q) (λc xs q=>by rw[bp (cn q hn)];exact q) λc ob u q=>by rw[bp (cn q hn)];exact q
end
def Rd(H:Hp)(a:Addr)(u:HO):Prop:=H a=some u∨∃o,H a=some (.frz o u)
theorem Rd.of{H:Hp}{a:Addr}{u:HO}(h:H a=some u):Rd H a u:=.inl h
theorem Rd.ok{P:Program}{w:World}{H:Hp}{h:Heap}{a:Addr}{u:HO}(r:Rd H a u)(x:HOk P w H h):ObjOk P w H h a u:=by
 rcases r with r|⟨o,r⟩
 ·exact x a u r
 ·obtain⟨_,q⟩:=x a _ r;exact q
noncomputable def Mut:Option HO→Prop
 |some (.lst _)=>True
 |some (.dK _)=>True
 |some (.dT _)=>True
 |some (.set _ _)=>True
 |some (.ins _ _ _)=>True
 |some (.ext _)=>True
 |_=>False
section
variable{P:Program}{w:World}{H:Hp}{h h':Heap}{x e:Addr}{o':HO}
theorem HOk.write(ok:HOk P w H h)(mu:Mut (H x))(he:e=x∨H e=some (.own x))(k:∀b u,b≠e→h.get? b=some u→h'.get? b=some u)(heo:∃u,h'.get? e=some u)
  (new:ObjOk P w (upd H x o') h' x o'):HOk P w (upd H x o') h':=λb u q=>by
 have nown:∀c y,H c=some (.own y)→c≠x:=λc y r z=>by subst z;rw[r]at mu;exact mu
 have ntup:∀c xs,H c=some (.tup xs)→c≠x:=λc xs r z=>by subst z;rw[r]at mu;exact mu
 have nfrz:∀c ob v,H c=some (.frz ob v)→c≠x:=λc ob v r z=>by subst z;rw[r]at mu;exact mu
 by_cases hb:b=x
 ·subst hb;rw[cb]at q;cases q;exact new
 ·rw[bp hb]at q
  by_cases hbe:b=e
  ·have q':H b=some (.own x):=by
    rcases he with z|z
    ·exact absurd (hbe.trans z) hb
    ·rw[hbe];exact z
   rw[q]at q';cases q';obtain⟨v,hv⟩:=heo;exact⟨v,by rw[hbe];exact hv⟩
  ·refine(ok b u q).stay (λc v hc r=>k c v ?_ r) (λc r=>by rw[bp (nown c b r)];exact r) (λc xs r=>by rw[bp (ntup c xs r)];exact r) λc ob v r=>by rw[bp (nfrz c ob v r)];exact r
   rcases hc with rfl|hc
   ·exact hbe
   ·rintro rfl
    rcases he with z|z
    ·exact nown c b hc z
    ·rw[hc]at z;cases z;exact hb rfl
end
structure Un(fs ex:List Addr)(H H':Hp)(h h':Heap):Prop where
 keep:∀b o,h.get? b=some o→H b=none→b∉fs→b∉ex→h'.get? b=some o
 slot:∀b o,h.get? b=some o→H b=none→b∈fs→b∉ex→∃sl,h'.get? b=some {o with slots:=sl}
 free:∀b o,h.get? b=some o→H b=none→b∉ex→H' b=none
 there:∀b o,h.get? b=some o→b∉ex→∃o',h'.get? b=some o'
 tups:∀b xs,H b=some (.tup xs)→H' b=some (.tup xs)
 frzs:∀b o u,H b=some (.frz o u)→H' b=some (.frz o u)
 tbls:∀b q,H b=some (.tbl q)→H' b=some (.tbl q)
section
variable{fs fs' ex ex':List Addr}{H H1 H2:Hp}{h h1 h2 h':Heap}{a x e:Addr}{o:HO}
theorem Un.any(u:Un fs ex H H1 h h1){b:Addr}{ob:Obj}(q:h.get? b=some ob)(n:H b=none)(hx:b∉ex):∃sl,h1.get? b=some {ob with slots:=sl}:=by
 by_cases hb:b∈fs
 ·exact u.slot b ob q n hb hx
 ·exact⟨ob.slots,u.keep b ob q n hb hx⟩
theorem Un.trans(a:Un fs ex H H1 h h1)(b:Un fs ex H1 H2 h1 h2):Un fs ex H H2 h h2 where
 keep:=λc ob q n hc hx=>b.keep c ob (a.keep c ob q n hc hx) (a.free c ob q n hx) hc hx
 slot:=λc ob q n hc hx=>by
  obtain⟨sl,e1⟩:=a.slot c ob q n hc hx;obtain⟨sl',e2⟩:=b.slot c _ e1 (a.free c ob q n hx) hc hx;exact⟨sl',e2⟩
 free:=λc ob q n hx=>by
  obtain⟨o',e1⟩:=a.there c ob q hx;exact b.free c o' e1 (a.free c ob q n hx) hx
 there:=λc ob q hx=>by
  obtain⟨o',e1⟩:=a.there c ob q hx;exact b.there c o' e1 hx
 tups:=λc xs q=>b.tups c xs (a.tups c xs q)
 frzs:=λc ob xs q=>b.frzs c ob xs (a.frzs c ob xs q)
 tbls:=λp q z=>b.tbls p q (a.tbls p q z)
theorem Un.kept(k:∀b u,h.get? b=some u→h'.get? b=some u):Un fs ex H H h h':=
 ⟨λb ob q _ _ _=>k b ob q,λb ob q _ _ _=>⟨ob.slots,k b ob q⟩,λ_ _ _ n _=>n,λb ob q _=>⟨ob,k b ob q⟩,λ_ _ q=>q,λ_ _ _ q=>q,λ_ _ q=>q⟩
theorem Un.refl:Un fs ex H H h h:=Un.kept λ_ _ q=>q
theorem Un.laid(k:∀b u,h.get? b=some u→h'.get? b=some u)(hp:h.objs.size≤a)(hn:H a=none):Un fs ex H (upd H a o) h h' where
 keep:=λb u q _ _ _=>k b u q
 slot:=λb u q _ _ _=>⟨u.slots,k b u q⟩
 free:=λb u q n _=>by rw[bp (kAf (kAo (Heap.lt_size q) hp))];exact n
 there:=λb u q _=>⟨u,k b u q⟩
 tups:=λb xs q=>by rw[bp (cn q hn)];exact q
 frzs:=λb u xs q=>by rw[bp (cn q hn)];exact q
 tbls:=λb _ q=>by rw[bp (cn q hn)];exact q
theorem Un.write(mu:Mut (H x))(he:e=x∨H e=some (.own x))(k:∀b u,b≠e→h.get? b=some u→h'.get? b=some u)(heo:∃u,h'.get? e=some u):Un fs ex H (upd H x o) h h':=by
 have hx:∀b,H b=none→b≠x:=λb n z=>by subst z;rw[n]at mu;exact mu
 have hb:∀b,H b=none→b≠e:=λb n z=>by
  subst z;rcases he with r|r
  ·exact hx b n r
  ·rw[n]at r;cases r
 have hm:∀b u,H b=some u→¬Mut (some u)→b≠x:=λb u q nm z=>by subst z;rw[q]at mu;exact nm mu
 refine⟨λb u q n _ _=>k b u (hb b n) q,λb u q n _ _=>⟨u.slots,k b u (hb b n) q⟩,λb u q n _=>by rw[bp (hx b n)];exact n,λb u q _=>?_,
  λb xs q=>by rw[bp (hm b _ q λz=>z)];exact q,λb u xs q=>by rw[bp (hm b _ q λz=>z)];exact q,λb _ q=>by rw[bp (hm b _ q λz=>z)];exact q⟩
 by_cases hbe:b=e
 ·subst hbe;exact heo
 ·exact⟨u,k b u hbe q⟩
theorem Un.mono(u:Un fs ex H H1 h h1)(hs:∀b∈fs,b∈fs')(hx:∀b∈ex,b∈ex'):Un fs' ex' H H1 h h1:=
 ⟨λb ob q n hb he=>u.keep b ob q n (λz=>hb (hs b z)) λz=>he (hx b z),λ_ _ q n _ he=>u.any q n λz=>he (hx _ z),λb ob q n he=>u.free b ob q n λz=>he (hx b z),λb ob q he=>u.there b ob q λz=>he (hx b z),u.tups,u.frzs,u.tbls⟩
end
noncomputable def trk(h:Heap)(H:Hp):List Addr:=(kA5 h.objs.size).filter λa=>(H a).isSome
noncomputable def Cg(h:Heap)(H:Hp):Heap:=PySem.W.hideAll h (trk h H)
theorem Ot(h:Heap)(H:Hp):(Cg h H).objs.size=h.objs.size:=PySem.W.hideAll_size _ _
theorem Si{h:Heap}{H:Hp}{b:Addr}{o:Obj}(e:h.get? b=some o)(n:H b=none):(Cg h H).get? b=some o:=
 PySem.W.hideAll_get _ e λhm=>by
  have q:(H b).isSome=true:=(List.mem_filter.mp hm).2;rw[n]at q;simp at q
theorem Xv{h:Heap}{H:Hp}{b:Addr}{o:Obj}(e:(Cg h H).get? b=some o):h.get? b=some o∧H b=none:=by
 have e':h.get? b=some o:=PySem.W.of_hideAll (trk h H) e;refine⟨e',?_⟩;cases q:H b with
 |none=>rfl
 |some x=>
  have hm:b∈trk h H:=List.mem_filter.mpr ⟨kB1.mpr (Heap.lt_size e'),by simp[q]⟩;have z:(Cg h H).get? b=none:=PySem.W.hideAll_none (trk h H) hm;rw[z]at e;cases e
noncomputable def Wd(g h:Heap)(L:Addr):List (Addr×Obj):=(kA5 h.objs.size).filterMap λa=>if a=L∨(g.get? a).isSome=true then none else(h.get? a).map λo=>(a,o)
noncomputable def bg(g h:Heap)(L d:Addr):List (Addr×Obj):=(Wd g h L).filter λp=>decide (p.1≠d)
end L2
namespace L2
open PySem PySem.Spec PyProof.Rows
structure Mod(K:PySem.W.Frag)(mg:Str→Option Value)(base:Heap):Prop where
 kin:K.In base
 glob:base.Ns mainGlobals mg
 blt:∃mb,base.Ns builtinsNs mb∧∀x:Str,x≠"__name__"→mb x=bootBuiltins x
 nolimit:base.NoLimit
structure Cx where
 prog:Program
 w:World
 K:PySem.W.Frag
 mg:Str→Option Value
 base:Heap
 A:Around
 N:List Str
 s₀:Shared
 H₀:Hp
 env:Env
 outer:List Env
 stack:List Env
 ex:List Addr
 fn:Str→Bool
 calm:Bool
 pn:List (Addr×Obj)
 xe:Value→Shared→Prop
noncomputable def wy(l:List Env):List Addr:=l.filterMap (·.frame)
noncomputable abbrev Cx.fs(X:Cx):List Addr:=wy X.outer
def Vis(sc:Scope)(x:Str):Prop:=sc.names.lookup x=some .local∨sc.names.lookup x=some .cell∨sc.names.lookup x=some .free
def V6(sc:Scope)(x:Str):Prop:=sc.names.lookup x=some .local∨sc.names.lookup x=some .cell
noncomputable def zj5(env:Env)(h:Heap)(m:Str→Option Value)(x:Str)(u:Value):Prop:=
 (env.kindOf x=some .local∧m x=some u)∨((env.kindOf x=some .cell∨env.kindOf x=some .free)∧∃c,env.cells.lookup x=some c∧h.IsCell c (some u))
structure Cx.Ok(X:Cx):Prop where
 mod:Mod X.K X.mg X.base
 kind:X.env.scope.kind=.function
 glob:X.env.globals=mainGlobals
 blt:X.env.builtins=builtinsNs
 above:X.s₀.heap.objs.size≤X.env.locals
 inj:∀x y c,X.env.cells.lookup x=some c→X.env.cells.lookup y=some c→x=y
 has:∀x,(X.env.kindOf x=some .cell∨X.env.kindOf x=some .free)→∃c,X.env.cells.lookup x=some c
 cab:∀x c,X.fn x=true→X.env.cells.lookup x=some c→X.s₀.heap.objs.size≤c
 hd:X.calm=true→X.A.handled=none
 frames:X.A.frames=some X.stack
 stk:X.stack=X.outer∨(X.stack=X.env::X.outer∧X.env.frame=some X.env.locals)
 exf:∀b∈X.ex,b≠X.env.locals∧∀x c,X.env.cells.lookup x=some c→c≠b
 bs:∀b o,X.base.get? b=some o→X.s₀.heap.get? b=some o∧X.H₀ b=none
 bsz:X.base.objs.size≤X.s₀.heap.objs.size
 noex:∀b o,X.base.get? b=some o→b∉X.ex
 exfs:∀b∈X.ex,b∉X.fs
 funs:X.s₀.heap.FunFrames X.base X.outer
 frf:∀b∈X.fs,X.H₀ b=none
structure Inv(X:Cx)(pins:List (Addr×Obj))(σ:List (Option V))(H:Hp)(s:Shared):Prop where
 ok:X.Ok
 os:s.os=X.s₀.os
 bare:AllBare s.gens
 base:Un X.fs X.ex X.H₀ H X.s₀.heap s.heap
 loc:∃m,s.heap.Ns X.env.locals m∧∀(i:Nat)(x:Str)(v:V),X.N[i]?=some x→σ[i]?=some (some v)→Vis X.env.scope x→∃u,RelV v u∧zj5 X.env s.heap m x u
 cell:∀x c,X.env.cells.lookup x=some c→∃v,s.heap.IsCell c v
 free:H X.env.locals=none
 freeC:∀x c,X.env.cells.lookup x=some c→H c=none∨(X.fn x=false∧∃o,H c=some (.frz o (.own 0)))
 pin:∀p∈X.pn++pins,s.heap.get? p.1=some p.2∧H p.1=none∧p.1≠X.env.locals∧p.1∉X.fs∧∀v,p.2.data≠.cell v
 hok:HOk X.prog X.w H s.heap
 len:σ.length=X.N.length
section
variable{X:Cx}{pins:List (Addr×Obj)}{σ:List (Option V)}{H H':Hp}{s:Shared}{h':Heap}
theorem Cx.Ok.nofr(ok:X.Ok){b:Addr}{o:Obj}(e:X.base.get? b=some o):b∉X.fs:=λhb=>by
 have:=(ok.funs.mem hb).1;rw[e]at this;cases this
theorem Inv.bs(I:Inv X pins σ H s):∀b o,X.base.get? b=some o→s.heap.get? b=some o∧H b=none:=λb o e=>
 ⟨I.base.keep b o (I.ok.bs b o e).1 (I.ok.bs b o e).2 (I.ok.nofr e) (I.ok.noex b o e),I.base.free b o (I.ok.bs b o e).1 (I.ok.bs b o e).2 (I.ok.noex b o e)⟩
theorem Inv.bk(I:Inv X pins σ H s):∀b o,X.base.get? b=some o→s.heap.get? b=some o:=λb o e=>(I.bs b o e).1
theorem Inv.mod(I:Inv X pins σ H s):Mod X.K X.mg X.base:=I.ok.mod
theorem Inv.kIn(I:Inv X pins σ H s):X.K.In s.heap:=I.ok.mod.kin.keeps I.bk
theorem Inv.nolimit(I:Inv X pins σ H s):s.heap.NoLimit:=I.ok.mod.nolimit.keeps I.bk
theorem Inv.fr(I:Inv X pins σ H s):∃m,Fr X.base X.env.locals s.heap m:=
 let ⟨m,hn,_⟩:=I.loc
 ⟨m,hn,I.bk,kAn I.ok.bsz I.ok.above⟩
theorem Inv.lt(I:Inv X pins σ H s):X.env.locals<s.heap.objs.size:=let ⟨_,hn,_⟩:=I.loc;hn.lt
theorem Inv.sz(I:Inv X pins σ H s):X.s₀.heap.objs.size≤s.heap.objs.size:=kAn I.ok.above (Nat.le_of_lt I.lt)
theorem Inv.nofs(I:Inv X pins σ H s){a:Addr}(h:s.heap.objs.size≤a):a∉X.fs:=λhb=>by
 obtain⟨_,o,ho,_⟩:=I.ok.funs.mem hb;exact absurd (kAo (Heap.lt_size ho) (kAn I.sz h)) (kAx _)
theorem Inv.cne(I:Inv X pins σ H s):∀x c,X.env.cells.lookup x=some c→c≠X.env.locals:=λx c e z=>by
 obtain⟨v,o,ho,hd⟩:=I.cell x c e;obtain⟨m,⟨o',es,ep,ho',hd',_⟩,_⟩:=I.loc;rw[z,ho']at ho;cases ho;rw[hd']at hd;cases hd
theorem Inv.funs(I:Inv X pins σ H s):s.heap.FunFrames X.base X.outer:=by
 have all:∀(l:List Env),(∀b∈wy l,b∈X.fs)→X.s₀.heap.FunFrames X.base l→s.heap.FunFrames X.base l:=by
  intro l;induction l with
  |nil=>intro _ _;trivial
  |cons env r ih=>
   intro hs hl;obtain⟨hk,⟨L,o,hf,hn,ho,hd⟩,hr⟩:=hl;have hL:L∈X.fs:=hs L (by unfold wy;rw[List.filterMap_cons,hf];exact kAk);obtain⟨sl,e⟩:=I.base.slot L o ho (I.ok.frf L hL) hL λz=>I.ok.exfs L z hL;exact⟨hk,⟨L,_,hf,hn,e,hd⟩,ih (λb hb=>hs b (by unfold wy;rw[List.filterMap_cons,hf];exact kAl _ hb)) hr⟩
 exact all X.outer (λ_ hb=>hb) I.ok.funs
theorem Inv.stack(I:Inv X pins σ H s):s.heap.FunFrames X.base X.stack:=by
 rcases I.ok.stk with e|⟨e,hf⟩
 ·rw[e];exact I.funs
 ·rw[e];obtain⟨m,hn,_⟩:=I.loc;refine .cons (by rw[I.ok.kind];decide) hf hn ?_ I.funs;exact Heap.get?_none_of_le (kAn I.ok.bsz I.ok.above)
theorem Inv.stkSub(I:Inv X pins σ H s):∀b∈wy X.stack,b∈X.env.locals::X.fs:=λb hb=>by
 rcases I.ok.stk with e|⟨e,hf⟩
 ·rw[e]at hb;exact kAl _ hb
 ·rw[e]at hb;unfold wy at hb;rw[List.filterMap_cons,hf]at hb;exact hb
theorem Inv.stkFree(I:Inv X pins σ H s):∀b∈wy X.stack,H b=none:=λb hb=>by
 rcases kA6.mp (I.stkSub b hb)with e|hb
 ·rw[e];exact I.free
 ·obtain⟨_,o,ho,_⟩:=I.ok.funs.mem hb;exact I.base.free b o ho (I.ok.frf b hb) λz=>I.ok.exfs b z hb
theorem Inv.step{g':Array GenState}{t':Nat}{d':Drawn}{ch:List Addr}(I:Inv X pins σ H s)
  (hch:∀b∈ch,(b∈X.ex∨X.s₀.heap.objs.size≤b)∧b≠X.env.locals∧(∀x c,X.env.cells.lookup x=some c→c≠b)∧∀p∈X.pn++pins,p.1≠b)
  (keep:∀b o,b≠X.env.locals→b∉X.fs→b∉ch→s.heap.get? b=some o→H b=none→h'.get? b=some o)
  (slot:∀b o,b≠X.env.locals→b∈X.fs→b∉ch→s.heap.get? b=some o→H b=none→∃sl,h'.get? b=some {o with slots:=sl}) (free:∀b o,b∉ch→s.heap.get? b=some o→H b=none→H' b=none)
  (there:∀b o,b∉ch→s.heap.get? b=some o→∃o',h'.get? b=some o')
  (tups:∀b xs,H b=some (.tup xs)→H' b=some (.tup xs)) (frzs:∀b o u,H b=some (.frz o u)→H' b=some (.frz o u)) (tbls:∀b q,H b=some (.tbl q)→H' b=some (.tbl q))
  (ns:∀m,s.heap.Ns X.env.locals m→h'.Ns X.env.locals m) (hok:HOk X.prog X.w H' h') (hg:AllBare g'):
  Inv X pins σ H' {s with heap:=h',gens:=g',drawn:=d',toks:=t'}:=by
 have neL:∀b o,X.s₀.heap.get? b=some o→b≠X.env.locals:=λb o e=>kAf (kAo (Heap.lt_size e) I.ok.above);have neC:∀b o,X.s₀.heap.get? b=some o→b∉X.ex→b∉ch:=λb o e hx hb=>by
  rcases(hch b hb).1 with z|z
  ·exact hx z
  ·exact absurd (kAo (Heap.lt_size e) z) (kAx _)
 have cellK:∀x c,X.env.cells.lookup x=some c→∀v,s.heap.IsCell c v→h'.IsCell c v:=λx c e v ⟨o,ho,hd⟩=>by
  have nch:c∉ch:=λz=>(hch c z).2.2.1 x c e rfl;rcases I.freeC x c e with fr|⟨_,ob,fr⟩
  ·by_cases hc:c∈X.fs
   ·obtain⟨sl,q⟩:=slot c o (I.cne x c e) hc nch ho fr;exact⟨_,q,hd⟩
   ·exact⟨o,keep c o (I.cne x c e) hc nch ho fr,hd⟩
  ·obtain⟨q1,_⟩:=I.hok c _ fr;obtain⟨q2,_⟩:=hok c _ (frzs c ob _ fr);rw[ho]at q1;cases q1;exact⟨o,q2,hd⟩
 refine⟨I.ok,I.os,hg,⟨λb o e n hb hx=>?_,λb o e n hb hx=>?_,λb o e n hx=>?_,λb o e hx=>?_,λb xs e=>tups b xs (I.base.tups b xs e),λb o xs e=>frzs b o xs (I.base.frzs b o xs e),λb q e=>tbls b q (I.base.tbls b q e)⟩,?_,λx c e=>?_,?_,λx c e=>?_,λp hp=>?_,hok,I.len⟩
 ·exact keep b o (neL b o e) hb (neC b o e hx) (I.base.keep b o e n hb hx) (I.base.free b o e n hx)
 ·obtain⟨sl,e1⟩:=I.base.slot b o e n hb hx;obtain⟨sl',e2⟩:=slot b _ (neL b o e) hb (neC b o e hx) e1 (I.base.free b o e n hx);exact⟨sl',e2⟩
 ·obtain⟨o',e1⟩:=I.base.there b o e hx;exact free b o' (neC b o e hx) e1 (I.base.free b o e n hx)
 ·obtain⟨o',e1⟩:=I.base.there b o e hx;exact there b o' (neC b o e hx) e1
 ·obtain⟨m,hn,hl⟩:=I.loc;refine⟨m,ns m hn,λi x v e1 e2 e3=>?_⟩;obtain⟨u,r,l⟩:=hl i x v e1 e2 e3;refine⟨u,r,?_⟩;rcases l with l|⟨k,c,e,z⟩
  ·exact .inl l
  ·exact .inr ⟨k,c,e,cellK x c e _ z⟩
 ·obtain⟨v,z⟩:=I.cell x c e;exact⟨v,cellK x c e v z⟩
 ·obtain⟨m,⟨o,_,_,ho,_⟩,_⟩:=I.loc;exact free _ o (λz=>(hch _ z).2.1 rfl) ho I.free
 ·obtain⟨v,o,ho,hd⟩:=I.cell x c e;rcases I.freeC x c e with fr|⟨hf,ob,fr⟩
  ·exact .inl (free c o (λz=>(hch c z).2.2.1 x c e rfl) ho fr)
  ·exact .inr ⟨hf,ob,frzs c ob _ fr⟩
 ·obtain⟨e,n,ne,nf,d⟩:=I.pin p hp;have nch:p.1∉ch:=λz=>(hch p.1 z).2.2.2 p hp rfl;exact⟨keep p.1 p.2 ne nf nch e n,free p.1 p.2 nch e n,ne,nf,d⟩
theorem Inv.un{t':Nat}(I:Inv X pins σ H s)(u:Un X.fs [] H H' s.heap h')(hok:HOk X.prog X.w H' h'):Inv X pins σ H' {s with heap:=h',toks:=t'}:=by
 obtain⟨m,⟨o,es,ep,ho,r⟩,_⟩:=id I.loc;obtain⟨sl,hL⟩:=u.any ho I.free (by simp);exact I.step (g':=s.gens) (d':=s.drawn) (ch:=[]) (λ_ z=>nomatch z) (λb o _ hb _ e n=>u.keep b o e n hb (by simp)) (λb o _ hb _ e n=>u.slot b o e n hb (by simp)) (λb o _ e n=>u.free b o e n (by simp)) (λb o _ e=>u.there b o e (by simp)) u.tups u.frzs u.tbls (λm' hm=>by
  obtain⟨o',es',ep',ho',r'⟩:=hm;rw[ho]at ho';cases ho';exact⟨_,es',ep',hL,r'⟩) hok I.bare
theorem Inv.call{g':Array GenState}{t':Nat}{d':Drawn}{ch:List Addr}(I:Inv X pins σ H s)(u:Un (wy X.stack) ch H H' s.heap h')(hok:HOk X.prog X.w H' h')(hg:AllBare g')
  (hch:∀b∈ch,(b∈X.ex∨X.s₀.heap.objs.size≤b)∧b≠X.env.locals∧(∀x c,X.env.cells.lookup x=some c→c≠b)∧∀p∈X.pn++pins,p.1≠b):
  Inv X pins σ H' {s with heap:=h',gens:=g',drawn:=d',toks:=t'}:=by
 obtain⟨m,⟨o,es,ep,ho,r⟩,_⟩:=id I.loc;obtain⟨sl,hL⟩:=u.any ho I.free λz=>(hch _ z).2.1 rfl;exact I.step (ch:=ch) hch (λb o hL hb hc e n=>u.keep b o e n (λz=>(kA6.mp (I.stkSub b z)).elim hL hb) hc) (λb o _ _ hc e n=>u.any e n hc) (λb o hc e n=>u.free b o e n hc) (λb o hc e=>u.there b o e hc) u.tups u.frzs u.tbls (λm' hm=>by
  obtain⟨o',es',ep',ho',r'⟩:=hm;rw[ho]at ho';cases ho';exact⟨_,es',ep',hL,r'⟩) hok hg
theorem Inv.turned{t':Nat}{it:Addr}(I:Inv X pins σ H s)(k:∀b o,b≠it→s.heap.get? b=some o→h'.get? b=some o)(hn:H it=none)(hL:it≠X.env.locals)
  (h1:it∈X.ex∨X.s₀.heap.objs.size≤it)(h2:∀x c,X.env.cells.lookup x=some c→c≠it)(h3:∀p∈X.pn++pins,p.1≠it):Inv X pins σ H {s with heap:=h',toks:=t'}:=by
 have nit:∀b u,H b=some u→b≠it:=λb u e z=>by rw[z,hn]at e;cases e
 refine I.step (g':=s.gens) (d':=s.drawn) (ch:=[it]) (λb hb=>?_) (λb o _ _ hc e _=>k b o (λz=>hc (by simp[z])) e) (λb o _ _ hc e _=>⟨o.slots,k b o (λz=>hc (by simp[z])) e⟩) (λ_ _ _ _ n=>n)
  (λb o hc e=>⟨o,k b o (λz=>hc (by simp[z])) e⟩) (λ_ _ e=>e) (λ_ _ _ e=>e) (λ_ _ e=>e) (λm hm=>?_) (λb u e=>?_) I.bare
 ·have e:b=it:=by simpa using hb
  subst e;exact⟨h1,hL,h2,h3⟩
 ·obtain⟨o,es,ep,ho,r⟩:=hm;exact⟨o,es,ep,k _ o (Ne.symm hL) ho,r⟩
 ·refine(I.hok b u e).stay (λc v hc q=>k c v ?_ q) (λ_ q=>q) λ_ _ q=>q;rcases hc with z|z
  ·rw[z];exact nit b u e
  ·exact nit c _ z
theorem Inv.tok(I:Inv X pins σ H s)(t:Nat):Inv X pins σ H {s with toks:=t}:=I.un (h':=s.heap) (t':=t) Un.refl I.hok
theorem Inv.kept{t':Nat}(I:Inv X pins σ H s)(k:∀b u,s.heap.get? b=some u→h'.get? b=some u):Inv X pins σ H {s with heap:=h',toks:=t'}:=I.un (Un.kept k) (I.hok.kept k)
theorem Inv.laid{a:Addr}{o:HO}{t':Nat}(I:Inv X pins σ H s)(k:∀b u,s.heap.get? b=some u→h'.get? b=some u)(hp:s.heap.objs.size≤a)(new:ObjOk X.prog X.w (upd H a o) h' a o):
  Inv X pins σ (upd H a o) {s with heap:=h',toks:=t'}:=I.un (Un.laid k hp (I.hok.fresh hp)) (I.hok.laid k hp new)
theorem Inv.write{x e:Addr}{o:HO}{t':Nat}(I:Inv X pins σ H s)(mu:Mut (H x))(he:e=x∨H e=some (.own x))(k:∀b u,b≠e→s.heap.get? b=some u→h'.get? b=some u)(heo:∃u,h'.get? e=some u)
  (new:ObjOk X.prog X.w (upd H x o) h' x o):Inv X pins σ (upd H x o) {s with heap:=h',toks:=t'}:=I.un (Un.write mu he k heo) (I.hok.write mu he k heo new)
theorem Inv.pins_of{pins':List (Addr×Obj)}(I:Inv X pins σ H s)(h:∀p∈pins',s.heap.get? p.1=some p.2∧H p.1=none∧p.1≠X.env.locals∧p.1∉X.fs∧∀v,p.2.data≠.cell v):Inv X pins' σ H s:=
 ⟨I.ok,I.os,I.bare,I.base,I.loc,I.cell,I.free,I.freeC,λp hp=>(kB4.mp hp).elim (λz=>I.pin p (List.mem_append_left _ z)) (h p),I.hok,I.len⟩
theorem A4{N:List Str}(hN:N.Nodup){i j:Nat}{x:Str}(a:N[i]?=some x)(b:N[j]?=some x):i=j:=by
 obtain⟨h1,e1⟩:=kAh.mp a;obtain⟨h2,e2⟩:=kAh.mp b;exact(List.getElem_inj hN).mp (e1.trans e2.symm)
theorem xq{M:Model}{A:Around}{E:Value→Shared→Prop}{i:Nat}{x:Str}{v:V}{u:Value}{Q:Unit→Shared→Prop}(I:Inv X pins σ H s)(hN:X.N.Nodup)(hi:X.N[i]?=some x)(hx:V6 X.env.scope x)(r:RelV v u)
  (h:∀s',Inv X pins (σ.set i (some v)) H s'→(∃a,Heap.SameBut a s.heap s'.heap∧(a=X.env.locals∨X.env.cells.lookup x=some a))→Q () s')(hf:X.fn x=true∨X.env.scope.names.lookup x=some .local:=by first|exact .inl rfl|exact .inr rfl|assumption):wpAny M A (storeName X.env x u) Q E s:=by
 obtain⟨m,hn,hl⟩:=id I.loc;have hcls:(X.env.scope.kind==.class||(X.env.scope.kind==.module && X.env.locals !=X.env.globals))=false:=by rw[I.ok.kind];rfl
 have hiσ:i<σ.length:=by rw[I.len];exact(kAh.mp hi).1
 have cne:=I.cne;have tracked:∀{a:Addr}{h':Heap},(∃o,s.heap.get? a=some o∧H a=none)→Heap.SameBut a s.heap h'→HOk X.prog X.w H h':=λ{a h'} ha hs b ob e=>by
  obtain⟨_,_,hfree⟩:=ha;refine(I.hok b ob e).stay (λc w' hc q=>(hs.2 c ?_).trans q) (λ_ q=>q) λ_ _ q=>q
  rintro rfl
  rcases hc with rfl|hc
  ·rw[hfree]at e;cases e
  ·rw[hfree]at hc;cases hc
 rcases hx with hk|hk
 ·refine wpAny_storeName_local hk hn (λh' hn' hs=>?_) hcls;obtain⟨oL,_,_,hoL,_⟩:=id hn;refine h _ ⟨I.ok,I.os,I.bare,⟨λb o e n hb hx=>?_,λb o e n hb hx=>?_,I.base.free,λb o e hx=>?_,I.base.tups,I.base.frzs,I.base.tbls⟩,⟨_,hn',λj y v' e1 e2 e3=>?_⟩,λy c e=>?_,I.free,I.freeC,λp hp=>?_,tracked ⟨oL,hoL,I.free⟩ hs,by simpa using I.len⟩ ⟨_,hs,.inl rfl⟩
  ·exact(hs.2 b (kAf (kAo (Heap.lt_size e) I.ok.above))).trans (I.base.keep b o e n hb hx)
  ·obtain⟨sl,e1⟩:=I.base.slot b o e n hb hx;exact⟨sl,(hs.2 b (kAf (kAo (Heap.lt_size e) I.ok.above))).trans e1⟩
  ·obtain⟨o',e1⟩:=I.base.there b o e hx;exact⟨o',(hs.2 b (kAf (kAo (Heap.lt_size e) I.ok.above))).trans e1⟩
  ·by_cases hj:j=i
   ·subst hj;rw[hi]at e1;cases e1;rw[kAd hiσ]at e2;cases e2;exact⟨u,r,.inl ⟨hk,by simp⟩⟩
   ·rw[kAa (Ne.symm hj)]at e2;obtain⟨u',r',q⟩:=hl j y v' e1 e2 e3;refine⟨u',r',?_⟩;rcases q with ⟨k,e⟩|⟨k,c,e,z⟩
    ·refine .inl ⟨k,?_⟩;have:y≠x:=λe=>hj (A4 hN e1 (e▸hi));simp[this,e]
    ·exact .inr ⟨k,c,e,z.sameBut hs (cne y c e)⟩
  ·obtain⟨w',z⟩:=I.cell y c e;exact⟨w',z.sameBut hs (cne y c e)⟩
  ·obtain⟨e,n,ne,nf,d⟩:=I.pin p hp;exact⟨(hs.2 p.1 ne).trans e,n,ne,nf,d⟩
 ·have hfn:X.fn x=true:=by
   rcases hf with z|z
   ·exact z
   ·rw[z]at hk;cases hk
  obtain⟨c,hc⟩:=I.ok.has x (.inl hk);obtain⟨w',z⟩:=I.cell x c hc;refine wpAny_storeName_cell I.ok.kind hk hc z (λh' hc' hs=>?_);obtain⟨oc,hoc,hocd⟩:=id z;have hfr:H c=none:=(I.freeC x c hc).elim (λz=>z) λz=>by rw[hfn]at z;exact absurd z.1 (by decide)
  refine h {s with heap:=h'} ⟨I.ok,I.os,I.bare,⟨λb o e n hb hx=>?_,λb o e n hb hx=>?_,I.base.free,λb o e hx=>?_,I.base.tups,I.base.frzs,I.base.tbls⟩,⟨m,hn.sameBut hs (Ne.symm (cne x c hc)),λj y v' e1 e2 e3=>?_⟩,λy c' e=>?_,I.free,I.freeC,λp hp=>?_,tracked ⟨oc,hoc,hfr⟩ hs,by simpa using I.len⟩ ⟨c,hs,.inr hc⟩
  ·exact(hs.2 b (kAf (kAo (Heap.lt_size e) (I.ok.cab x c hfn hc)))).trans (I.base.keep b o e n hb hx)
  ·obtain⟨sl,e1⟩:=I.base.slot b o e n hb hx;exact⟨sl,(hs.2 b (kAf (kAo (Heap.lt_size e) (I.ok.cab x c hfn hc)))).trans e1⟩
  ·obtain⟨o',e1⟩:=I.base.there b o e hx;exact⟨o',(hs.2 b (kAf (kAo (Heap.lt_size e) (I.ok.cab x c hfn hc)))).trans e1⟩
  ·by_cases hj:j=i
   ·subst hj;rw[hi]at e1;cases e1;rw[kAd hiσ]at e2;cases e2;exact⟨u,r,.inr ⟨.inl hk,c,hc,hc'⟩⟩
   ·rw[kAa (Ne.symm hj)]at e2;obtain⟨u',r',q⟩:=hl j y v' e1 e2 e3;refine⟨u',r',?_⟩;rcases q with q|⟨k,c',e,z'⟩
    ·exact .inl q
    ·refine .inr ⟨k,c',e,z'.sameBut hs ?_⟩
     rintro rfl
     exact hj (A4 hN e1 (I.ok.inj _ _ _ e hc▸hi))
  ·by_cases hcc:c'=c
   ·subst hcc;exact⟨_,hc'⟩
   ·obtain⟨w2,z2⟩:=I.cell y c' e;exact⟨w2,z2.sameBut hs hcc⟩
  ·obtain⟨e,n,ne,nf,d⟩:=I.pin p hp;refine⟨(hs.2 p.1 ?_).trans e,n,ne,nf,d⟩;intro q;rw[q,hoc]at e;have q':oc=p.2:=kAg.inj e;exact d w' (by rw[←q'];exact hocd)
theorem Bx{M:Model}{A:Around}{E:Value→Shared→Prop}{i:Nat}{x:Str}{v:V}{u:Value}{Q:Unit→Shared→Prop}(I:Inv X pins σ H s)(hN:X.N.Nodup)(hi:X.N[i]?=some x)(hx:V6 X.env.scope x)(r:RelV v u)
  (h:∀s',Inv X pins (σ.set i (some v)) H s'→Q () s')(hf:X.fn x=true∨X.env.scope.names.lookup x=some .local:=by first|exact .inl rfl|exact .inr rfl|assumption):wpAny M A (storeName X.env x u) Q E s:=
 xq I hN hi hx r (λs' I' _=>h s' I') hf
theorem Inv.call'{s':Shared}{ch:List Addr}(I:Inv X pins σ H s)(ho:s'.os=s.os)(u:Un (wy X.stack) ch H H' s.heap s'.heap)(hok:HOk X.prog X.w H' s'.heap)(hg:AllBare s'.gens)
  (hch:∀b∈ch,(b∈X.ex∨X.s₀.heap.objs.size≤b)∧b≠X.env.locals∧(∀x c,X.env.cells.lookup x=some c→c≠b)∧∀p∈X.pn++pins,p.1≠b):Inv X pins σ H' s':=by
 obtain⟨h',g',d',t',o'⟩:=s';have e:o'=s.os:=ho;subst e;exact I.call (g':=g') (t':=t') (d':=d') u hok hg hch
end
noncomputable abbrev XK:=Value→Option Addr→Hp→Prop
noncomputable abbrev St:=List (Option V)
noncomputable abbrev VK:=V→Hp→Prop
noncomputable abbrev TE:=St→Hp→VK→Prop
noncomputable abbrev TT:=St→Hp→(Bool→Hp→Prop)→Prop
noncomputable abbrev TA:=St→Hp→(List V→Hp→Prop)→Prop
structure Ends where
 nx:St→Hp→Prop
 rt:VK
 bk:St→Hp→Prop:=λ_ _=>False
 ct:St→Hp→Prop:=λ_ _=>False
noncomputable abbrev TS:=Ends→St→Hp→Prop
def EP(X:Cx)(pins:List (Addr×Obj))(σ:St)(Q:VK)(u:Value)(s':Shared):Prop:=∃v H',Inv X pins σ H' s'∧RelV v u∧Q v H'
def TP(X:Cx)(pins:List (Addr×Obj))(σ:St)(Q:Bool→Hp→Prop)(b:Bool)(s':Shared):Prop:=∃H',Inv X pins σ H' s'∧Q b H'
def AP(X:Cx)(pins:List (Addr×Obj))(σ:St)(Q:List V→Hp→Prop)(us:List Value)(s':Shared):Prop:=∃vs H',Inv X pins σ H' s'∧Vals vs us∧Q vs H'
noncomputable def SP(X:Cx)(pins:List (Addr×Obj))(D:Ends)(f:Flow)(s':Shared):Prop:=
 match f with
 |.next=>∃σ' H',Inv X pins σ' H' s'∧D.nx σ' H'
 |.brk=>∃σ' H',Inv X pins σ' H' s'∧D.bk σ' H'
 |.cont=>∃σ' H',Inv X pins σ' H' s'∧D.ct σ' H'
 |.ret u=>∃v σ' H',Inv X pins σ' H' s'∧RelV v u∧D.rt v H'
noncomputable def PE(X:Cx)(e:Expr)(t:TE):Prop:=
 ∀(pins:List (Addr×Obj))(s:Shared)(σ:St)(H:Hp)(Q:VK),Inv X pins σ H s→t σ H Q→wpAny (model X.prog X.w) X.A (eval e X.env) (EP X pins σ Q) X.xe s
noncomputable def PT(X:Cx)(e:Expr)(t:TT):Prop:=
 ∀(pins:List (Addr×Obj))(s:Shared)(σ:St)(H:Hp)(Q:Bool→Hp→Prop),Inv X pins σ H s→t σ H Q→wpAny (model X.prog X.w) X.A (isTrue e X.env (eval e X.env)) (TP X pins σ Q) X.xe s
noncomputable def PW(X:Cx)(e:Expr)(t:TT):Prop:=
 ∀(whole:Sem Value)(pins:List (Addr×Obj))(s:Shared)(σ:St)(H:Hp)(Q:Bool→Hp→Prop),Inv X pins σ H s→t σ H Q→wpAny (model X.prog X.w) X.A (isTrue e X.env whole) (TP X pins σ Q) X.xe s
theorem PW.pt{X:Cx}{e:Expr}{t:TT}(h:PW X e t):PT X e t:=h _
noncomputable def PA(X:Cx)(es:List Expr)(t:TA):Prop:=
 ∀(pos:Pos)(pins:List (Addr×Obj))(s:Shared)(σ:St)(H:Hp)(Q:List V→Hp→Prop),Inv X pins σ H s→t σ H Q→wpAny (model X.prog X.w) X.A (spliced (backTo pos (starEach es X.env))) (AP X pins σ Q) X.xe s
noncomputable def PS(X:Cx)(st:Stmt)(t:TS):Prop:=
 ∀(pins:List (Addr×Obj))(s:Shared)(σ:St)(H:Hp)(D:Ends),Inv X pins σ H s→t D σ H→wpAny (model X.prog X.w) X.A (exec st X.env) (SP X pins D) X.xe s
noncomputable def PSs(X:Cx)(st:List Stmt)(t:TS):Prop:=
 ∀(pins:List (Addr×Obj))(s:Shared)(σ:St)(H:Hp)(D:Ends),Inv X pins σ H s→t D σ H→wpAny (model X.prog X.w) X.A (execs st X.env) (SP X pins D) X.xe s
theorem gx{α:Type}{t:Sem α}{Q Q':α→Shared→Prop}{M:Model}{A:Around}{E:Value→Shared→Prop}{s:Shared}(h:wpAny M A t Q E s)(hQ:∀a s,Q a s→Q' a s):wpAny M A t Q' E s:=wpAny_mono h hQ λ_ _ x=>x
end L2
namespace L2
open PySem PySem.Spec PyProof.Rows
section
variable{X:Cx}
noncomputable def Cw(i:Nat):TE:=λσ H Q=>∃v,σ[i]?=some (some v)∧Q v H
noncomputable def tC(v:V):TE:=λ_ H Q=>Q v H
theorem Fl{i:Nat}{x:Str}{pos:Pos}(hN:X.N[i]?=some x)(hv:Vis X.env.scope x)(hd:(x==("__debug__":Str))=false:=by decide)(hcd:(x==("__classdict__":Str))=false:=by decide):PE X (.Name x pos) (Cw i):=by
 intro pins s σ H Q I h;obtain⟨v,e,h⟩:=h;obtain⟨m,hn,hl⟩:=I.loc;obtain⟨u,r,l⟩:=hl i x v hN e hv;have fin:EP X pins σ Q u s:=⟨v,H,I,r,h⟩;rcases l with ⟨hk,hm⟩|⟨hk,c,hc,hcell⟩
 ·exact wpAny_Name (wpAny_loadName_local I.ok.kind hk hn hm fin) hd
 ·rcases hk with hk|hk
  ·exact wpAny_Name (wpAny_loadName_cell I.ok.kind hk hc hcell fin) hd
  ·exact wpAny_Name (wpAny_loadName_free I.ok.kind hk hc hcell fin hcd) hd
theorem T1{i j pos}:PE X (.Constant (.int i) j pos) (tC (.int i)):=λ_ _ _ H _ I h=>wpAny_Constant_int ⟨.int i,H,I.tok _,⟨_,rfl⟩,h⟩
theorem zgm{b j pos}:PE X (.Constant (.bool b) j pos) (tC (.bl b)):=λ_ _ _ H _ I h=>Constant_bool ⟨.bl b,H,I,rfl,h⟩
theorem zc0{j pos}:PE X (.Constant .none j pos) (tC .non):=λ_ _ _ H _ I h=>Constant_none ⟨.non,H,I,rfl,h⟩
theorem zc4{x j pos}:PE X (.Constant (.str x) j pos) (tC (.str x)):=λ_ _ _ H _ I h=>Calls.Constant_str ⟨.str x,H,I.tok _,⟨_,rfl⟩,h⟩
def Gl(X:Cx)(x:Str):Prop:=X.env.kindOf x=some .globalImplicit
theorem n6{E:Value→Shared→Prop}{pins:List (Addr×Obj)}{s:Shared}{σ:St}{H:Hp}{x:Str}{u:Value}{pos:Pos}{Q:Value→Shared→Prop}(I:Inv X pins σ H s)(hg:Gl X x)(hm:X.mg x=some u)(h:Q u s)
  (hd:(x==("__debug__":Str))=false:=by decide):wpAny (model X.prog X.w) X.A (eval (.Name x pos) X.env) Q E s:=
 Calls.Name_function_global I.ok.kind hg (Calls.loadGlobal_global (by rw[I.ok.glob];exact I.mod.glob.keeps I.bk) hm h) hd
theorem E4{E:Value→Shared→Prop}{pins:List (Addr×Obj)}{s:Shared}{σ:St}{H:Hp}{x:Str}{u:Value}{pos:Pos}{Q:Value→Shared→Prop}(I:Inv X pins σ H s)(hg:Gl X x)(hm:X.mg x=none)(hv:bootBuiltins x=some u)(h:Q u s)
  (hn:x≠"__name__":=by decide)(hd:(x==("__debug__":Str))=false:=by decide):wpAny (model X.prog X.w) X.A (eval (.Name x pos) X.env) Q E s:=by
 obtain⟨mb,h1,h2⟩:=I.mod.blt;exact Calls.Name_function_global I.ok.kind hg (Calls.loadGlobal_builtin (by rw[I.ok.glob];exact I.mod.glob.keeps I.bk) hm (by rw[I.ok.blt];exact h1.keeps I.bk) ((h2 x hn).trans hv) h) hd
theorem Nf{x:Str}{v:V}{u:Value}{pos:Pos}(hg:Gl X x)(hm:X.mg x=some u)(r:RelV v u)(hd:(x==("__debug__":Str))=false:=by decide):PE X (.Name x pos) (tC v):=
 λ_ _ _ H _ I h=>n6 I hg hm ⟨v,H,I,r,h⟩ hd
theorem Nc{x:Str}{v:V}{u:Value}{pos:Pos}(hg:Gl X x)(hm:X.mg x=none)(hv:bootBuiltins x=some u)(r:RelV v u)(hn:x≠"__name__":=by decide)(hd:(x==("__debug__":Str))=false:=by decide):PE X (.Name x pos) (tC v):=
 λ_ _ _ H _ I h=>E4 I hg hm hv ⟨v,H,I,r,h⟩ hn hd
variable{a b:Expr}{ta tb:TE}{pos:Pos}
noncomputable def tB(t:TE):TT:=λσ H Q=>t σ H λx H1=>∃c,x=.bl c∧Q c H1
variable{tA tB':TT}{bg:List Expr}
noncomputable def zkr(t u:TT):TT:=λσ H Q=>t σ H λc H1=>if c=true then u σ H1 Q else Q false H1
noncomputable def tOr(t u:TT):TT:=λσ H Q=>t σ H λc H1=>if c=true then Q true H1 else u σ H1 Q
noncomputable def zkw(t:TT):TT:=λσ H Q=>t σ H λc H1=>Q (!c) H1
theorem Yy(ha:PT X a tA):PW X (.BoolOp .And [a] pos) tA:=by
 intro wh pins s σ H Q I h;refine isTrue_and (gx (ha pins s σ H Q I h) λc s1 e=>?_);cases c with
 |true=>exact isTrue_and_nil e
 |false=>exact e
theorem zd0(ha:PT X a tA):PW X (.BoolOp .Or [a] pos) tA:=by
 intro wh pins s σ H Q I h;refine isTrue_or (gx (ha pins s σ H Q I h) λc s1 e=>?_);cases c with
 |false=>exact isTrue_or_nil e
 |true=>exact e
theorem zdy(ha:PT X a tA)(hb:PW X (.BoolOp .And (b::bg) pos) tB'):PW X (.BoolOp .And (a::b::bg) pos) (zkr tA tB'):=by
 intro wh pins s σ H Q I h;refine isTrue_and (gx (ha pins s σ H _ I h) λc s1 ⟨H1,I1,q1⟩=>?_);cases c with
 |true=>exact hb wh pins s1 σ H1 Q I1 q1
 |false=>exact⟨H1,I1,q1⟩
theorem zgz(ha:PT X a tA)(hb:PW X (.BoolOp .Or (b::bg) pos) tB'):PW X (.BoolOp .Or (a::b::bg) pos) (tOr tA tB'):=by
 intro wh pins s σ H Q I h;refine isTrue_or (gx (ha pins s σ H _ I h) λc s1 ⟨H1,I1,q1⟩=>?_);cases c with
 |true=>exact⟨H1,I1,q1⟩
 |false=>exact hb wh pins s1 σ H1 Q I1 q1
theorem zdd(ha:PT X a tA):PT X (.UnaryOp .Not a pos) (zkw tA):=by
 intro pins s σ H Q I h;exact isTrue_not (ha pins s σ H (λc H1=>Q (!c) H1) I h)
noncomputable def zho(ta tb:TE):TE:=λσ H Q=>ta σ H λx H1=>∃c,x=.bl c∧if c=true then tb σ H1 Q else Q (.bl false) H1
noncomputable def zkx(ta tb:TE):TE:=λσ H Q=>ta σ H λx H1=>∃c,x=.bl c∧if c=true then Q (.bl true) H1 else tb σ H1 Q
noncomputable def zht(ta:TE):TE:=λσ H Q=>ta σ H λx H1=>∃c,x=.bl c∧Q (.bl (!c)) H1
theorem zc2{op}{t:TE}(h:PE X a t):PE X (.BoolOp op [a] pos) t:=λpins s σ H Q I hw=>BoolOp_one (h pins s σ H Q I hw)
theorem zcy(ha:PE X a ta)(hb:PE X (.BoolOp .And (b::bg) pos) tb):PE X (.BoolOp .And (a::b::bg) pos) (zho ta tb):=by
 intro pins s σ H Q I h;refine BoolOp_and (gx (ha pins s σ H _ I h) λv s1 ⟨x,H1,I1,r1,q1⟩=>?_);obtain⟨c,rfl,q1⟩:=q1;cases r1;refine wpAny_truthy_bool ?_;cases c with
 |true=>exact hb pins s1 σ H1 Q I1 q1
 |false=>exact⟨.bl false,H1,I1,rfl,q1⟩
theorem zgo(ha:PE X a ta)(hb:PE X (.BoolOp .Or (b::bg) pos) tb):PE X (.BoolOp .Or (a::b::bg) pos) (zkx ta tb):=by
 intro pins s σ H Q I h;refine BoolOp_or (gx (ha pins s σ H _ I h) λv s1 ⟨x,H1,I1,r1,q1⟩=>?_);obtain⟨c,rfl,q1⟩:=q1;cases r1;refine wpAny_truthy_bool ?_;cases c with
 |false=>exact hb pins s1 σ H1 Q I1 q1
 |true=>exact⟨.bl true,H1,I1,rfl,q1⟩
theorem zc1(ha:PE X a ta):PE X (.UnaryOp .Not a pos) (zht ta):=by
 intro pins s σ H Q I h;refine UnaryOp_ (gx (ha pins s σ H _ I h) λv s1 ⟨x,H1,I1,r1,q1⟩=>?_);obtain⟨c,rfl,q1⟩:=q1;cases r1;exact not_of (wpAny_truthy_bool ⟨.bl (!c),H1,I1,rfl,q1⟩)
noncomputable def tIf(t:TT)(ta tb:TE):TE:=λσ H Q=>t σ H λc H1=>if c=true then ta σ H1 Q else tb σ H1 Q
theorem Iu{c:Expr}(hc:PT X c tA)(ha:PE X a ta)(hb:PE X b tb):PE X (.IfExp c a b pos) (tIf tA ta tb):=by
 intro pins s σ H Q I h;refine wpAny_IfExp (gx (hc pins s σ H _ I h) λd s1 ⟨H1,I1,q1⟩=>?_);cases d with
 |true=>exact ha pins s1 σ H1 Q I1 q1
 |false=>exact hb pins s1 σ H1 Q I1 q1
end
end L2
namespace L2
open PySem PySem.Spec PyProof.Rows
noncomputable def SqL(K:PySem.W.Frag)(H:Hp)(a:Addr)(xs:List V):Prop:=
 Rd H a (.lst xs)∨
  ∃(o:Obj) (its:Array Value) (n:Nat),K.lookup a=some o∧o.cls=.type "list"∧o.dict=none∧o.data=.seq its n∧its.size≤sizeLine∧Vals xs its.toList
noncomputable def SqT(K:PySem.W.Frag)(H:Hp)(a:Addr)(xs:List V):Prop:=
 Rd H a (.tup xs)∨
  ∃(o:Obj) (its:Array Value) (n:Nat),K.lookup a=some o∧o.cls=.type "tuple"∧o.data=.seq its n∧its.size≤sizeLine∧Vals xs its.toList
noncomputable def zj7:Value→Option V
 |.none=>some .non
 |.bool b=>some (.bl b)
 |.int i _=>some (.int i)
 |.str x _=>some (.str x)
 |.bytes b _=>some (.byt b)
 |.float b _=>some (.flt b)
 |.ref a=>some (.ref a)
 |.type n=>some (.ty n)
 |_=>none
theorem RelV.abs{x:V}{u:Value}(r:RelV x u):zj7 u=some x:=by
 cases x with
 |non=>cases r;rfl
 |bl _=>cases r;rfl
 |int _=>obtain⟨t,rfl⟩:=r;rfl
 |str _=>obtain⟨t,rfl⟩:=r;rfl
 |byt _=>obtain⟨t,rfl⟩:=r;rfl
 |flt _=>obtain⟨t,rfl⟩:=r;rfl
 |ref _=>cases r;rfl
 |ty _=>cases r;rfl
theorem RelV.inj{x y:V}{u:Value}(r:RelV x u)(q:RelV y u):x=y:=kAg.inj (r.abs.symm.trans q.abs)
theorem Vals.inj:∀{xs ys:List V}{us:List Value},Vals xs us→Vals ys us→xs=ys
 |_,_,_,.nil,.nil=>rfl
 |_,_,_,.cons r t,.cons r' t'=>by rw[r.inj r',Vals.inj t t']
section
variable{X:Cx}{pins:List (Addr×Obj)}{σ:St}{H:Hp}{s:Shared}{a:Addr}{xs ys:List V}
theorem SqL.of{K:PySem.W.Frag}(h:H a=some (.lst xs)):SqL K H a xs:=.inl (.inl h)
theorem SqT.of{K:PySem.W.Frag}(h:H a=some (.tup xs)):SqT K H a xs:=.inl (.inl h)
theorem Inv.list(I:Inv X pins σ H s)(h:SqL X.K H a xs):∃its:List Value,Vals xs its∧PlainL s.heap a its.toArray∧xs.length≤sizeLine:=by
 rcases h with h|⟨o,its,n,hk,hc,hd,hs,hz,r⟩
 ·obtain⟨z,its,n,r,e⟩:=h.ok I.hok;exact⟨its,r,⟨_,n,e,rfl,rfl,rfl⟩,z⟩
 ·refine⟨its.toList,r,⟨o,n,I.kIn a o hk,hc,hd,by simpa using hs⟩,?_⟩;have e:=r.length;simp only[kAb]at e;omega
theorem Inv.tuple(I:Inv X pins σ H s)(h:SqT X.K H a xs):∃its:List Value,Vals xs its∧IsTup s.heap a its.toArray∧xs.length≤sizeLine:=by
 rcases h with h|⟨o,its,n,hk,hc,hs,hz,r⟩
 ·obtain⟨z,its,r,p⟩:=h.ok I.hok;exact⟨its,r,p,z⟩
 ·refine⟨its.toList,r,⟨o,I.kIn a o hk,hc,n,by simpa using hs⟩,?_⟩;have e:=r.length;simp only[kAb]at e;omega
theorem Inv.list_inj(I:Inv X pins σ H s)(h:SqL X.K H a xs)(h':SqL X.K H a ys):xs=ys:=by
 obtain⟨its,r,⟨o,n,e,_,_,d⟩,_⟩:=I.list h;obtain⟨its',r',⟨o',n',e',_,_,d'⟩,_⟩:=I.list h';rw[e]at e';cases e';rw[d]at d';injection d' with d1 _
 have:its=its':=by simpa using congrArg Array.toList d1
 subst this;exact r.inj r'
theorem Inv.tuple_inj(I:Inv X pins σ H s)(h:SqT X.K H a xs)(h':SqT X.K H a ys):xs=ys:=by
 obtain⟨its,r,⟨o,e,_,n,d⟩,_⟩:=I.tuple h;obtain⟨its',r',⟨o',e',_,n',d'⟩,_⟩:=I.tuple h';rw[e]at e';cases e';rw[d]at d';injection d' with d1 _
 have:its=its':=by simpa using congrArg Array.toList d1
 subst this;exact r.inj r'
end
noncomputable abbrev Cx.wish(X:Cx)(E:Value→Shared→Prop):Cx:={X with xe:=E}
noncomputable abbrev Cx.nox(X:Cx):Cx:=X.wish λ_ _=>False
theorem Cx.Ok.wish{X:Cx}(ok:X.Ok)(E:Value→Shared→Prop):(X.wish E).Ok:=
 ⟨ok.mod,ok.kind,ok.glob,ok.blt,ok.above,ok.inj,ok.has,ok.cab,ok.hd,ok.frames,ok.stk,ok.exf,ok.bs,ok.bsz,ok.noex,ok.exfs,ok.funs,ok.frf⟩
theorem Cx.Ok.unwish{X:Cx}{E:Value→Shared→Prop}(ok:(X.wish E).Ok):X.Ok:=
 ⟨ok.mod,ok.kind,ok.glob,ok.blt,ok.above,ok.inj,ok.has,ok.cab,ok.hd,ok.frames,ok.stk,ok.exf,ok.bs,ok.bsz,ok.noex,ok.exfs,ok.funs,ok.frf⟩
section
variable{X:Cx}{pins:List (Addr×Obj)}{σ:St}{H:Hp}{s:Shared}{E:Value→Shared→Prop}
theorem Inv.wish(I:Inv X pins σ H s)(E:Value→Shared→Prop):Inv (X.wish E) pins σ H s:=⟨I.ok.wish E,I.os,I.bare,I.base,I.loc,I.cell,I.free,I.freeC,I.pin,I.hok,I.len⟩
theorem Inv.unwish(I:Inv (X.wish E) pins σ H s):Inv X pins σ H s:=⟨I.ok.unwish,I.os,I.bare,I.base,I.loc,I.cell,I.free,I.freeC,I.pin,I.hok,I.len⟩
theorem SP.unwish{D:Ends}{f:Flow}{s':Shared}(h:SP (X.wish E) pins D f s'):SP X pins D f s':=by
 cases f with
 |next=>obtain⟨σ',H',I,q⟩:=h;exact⟨σ',H',I.unwish,q⟩
 |brk=>obtain⟨σ',H',I,q⟩:=h;exact⟨σ',H',I.unwish,q⟩
 |cont=>obtain⟨σ',H',I,q⟩:=h;exact⟨σ',H',I.unwish,q⟩
 |ret u=>obtain⟨v,σ',H',I,r,q⟩:=h;exact⟨v,σ',H',I.unwish,r,q⟩
theorem PE.nox{e:Expr}{t:TE}(h:PE X.nox e t):PE X e t:=λpins s σ H Q I hw=>
 wpAny_mono (h pins s σ H Q (I.wish _) hw) (λ_ _ ⟨v,H',I',r,q⟩=>⟨v,H',I'.unwish,r,q⟩) λ_ _ z=>False.elim z
theorem PT.nox{e:Expr}{t:TT}(h:PT X.nox e t):PT X e t:=λpins s σ H Q I hw=>
 wpAny_mono (h pins s σ H Q (I.wish _) hw) (λ_ _ ⟨H',I',q⟩=>⟨H',I'.unwish,q⟩) λ_ _ z=>False.elim z
theorem PSs.nox{st:List Stmt}{t:TS}(h:PSs X.nox st t):PSs X st t:=λpins s σ H D I hw=>
 wpAny_mono (h pins s σ H D (I.wish _) hw) (λ_ _ q=>q.unwish) λ_ _ z=>False.elim z
end
section
variable{X:Cx}{st:Stmt}{bg:List Stmt}{t u:TS}{e:Expr}{te:TE}{pos:Pos}
noncomputable def zaz:TS:=λD σ H=>D.nx σ H
noncomputable def zhx(t u:TS):TS:=λD σ H=>t {D with nx:=u D} σ H
theorem Yo:PSs X [] zaz:=λ_ _ σ H _ I h=>wpAny_execs_nil ⟨σ,H,I,h⟩
theorem Iy(h1:PS X st t)(h2:PSs X bg u):PSs X (st::bg) (zhx t u):=by
 intro pins s σ H D I h;refine wpAny_execs_cons (gx (h1 pins s σ H {D with nx:=u D} I h) λf s1 q=>?_);cases f with
 |next=>
  obtain⟨σ',H',I',q⟩:=q;exact h2 pins s1 σ' H' D I' q
 |ret v=>exact q
 |brk=>exact q
 |cont=>exact q
theorem zd(h1:PS X st t):PSs X [st] t:=by
 intro pins s σ H D I h;refine wpAny_execs_cons (gx (h1 pins s σ H D I h) λf s1 q=>?_);cases f with
 |next=>exact wpAny_execs_nil q
 |ret v=>exact q
 |brk=>exact q
 |cont=>exact q
theorem Inv.quiet{pins:List (Addr×Obj)}{σ:St}{H:Hp}{s:Shared}(I:Inv X pins σ H s):interactive X.env=false:=by simp[interactive,I.ok.kind]
theorem zdb{x j pos pos'}:PS X (.Expr (.Constant (.str x) j pos) pos') zaz:=λ_ s σ H _ I h=>wpAny_Expr (Calls.Constant_str (show SP X _ _ .next {s with toks:=s.toks+1}from⟨σ,H,I.tok _,h⟩)) I.quiet
noncomputable def zhr(te:TE):TS:=λD σ H=>te σ H λ_ H1=>D.nx σ H1
theorem zc(he:PE X e te)(hs:swapsWith e none pos.line X.env=pure false:=by rfl):PS X (.Expr e pos) (zhr te):=by
 intro pins s σ H D I h;exact wpAny_Expr_any (gx (he pins s σ H _ I h) λv s1 ⟨x,H1,I1,r1,q1⟩=>⟨σ,H1,I1,q1⟩) I.quiet hs
noncomputable def zky(te:TE):TS:=λD σ H=>te σ H D.rt
theorem Ub(he:PE X e te):PS X (.Return (some e) pos) (zky te):=by
 intro pins s σ H D I h;exact wpAny_Return_some (gx (he pins s σ H _ I h) λv s1 ⟨x,H1,I1,r1,q1⟩=>⟨x,σ,H1,I1,r1,q1⟩)
noncomputable def zhw:TS:=λD _ H=>D.rt .non H
theorem Yl:PS X (.Return none pos) zhw:=λ_ _ σ H _ I h=>wpAny_Return_none ⟨.non,σ,H,I,rfl,h⟩
noncomputable def zku(c:TT)(t u:TS):TS:=λD σ H=>c σ H λb H1=>if b=true then t D σ H1 else u D σ H1
theorem zap{c:Expr}{a b:List Stmt}{tc:TT}(hc:PT X c tc)(ha:PSs X a t)(hb:PSs X b u):PS X (.If c a b pos) (zku tc t u):=by
 intro pins s σ H D I h;refine wpAny_If (gx (hc pins s σ H _ I h) λd s1 ⟨H1,I1,q1⟩=>?_);cases d with
 |true=>exact ha pins s1 σ H1 D I1 q1
 |false=>exact hb pins s1 σ H1 D I1 q1
end
noncomputable abbrev TG:=V→St→Hp→(St→Hp→Prop)→Prop
noncomputable abbrev Z6:=List V→St→Hp→(St→Hp→Prop)→Prop
noncomputable def PG(X:Cx)(target:Expr)(t:TG):Prop:=
 ∀(pins:List (Addr×Obj))(s:Shared)(σ:St)(H:Hp)(v:V)(u:Value)(Q:St→Hp→Prop),Inv X pins σ H s→RelV v u→t v σ H Q→
  wpAny (model X.prog X.w) X.A (assign target X.env u) (λ_ s'=>∃σ' H',Inv X pins σ' H' s'∧Q σ' H') X.xe s
noncomputable def PGs(X:Cx)(ts:List Expr)(t:Z6):Prop:=
 ∀(pins:List (Addr×Obj))(s:Shared)(σ:St)(H:Hp)(vs:List V)(us:List Value)(Q:St→Hp→Prop),Inv X pins σ H s→Vals vs us→t vs σ H Q→
  wpAny (model X.prog X.w) X.A (assignInOrder ((assignEach ts X.env).map (·.2)) us) (λ_ s'=>∃σ' H',Inv X pins σ' H' s'∧Q σ' H') X.xe s
noncomputable abbrev TIp:=V→V→Hp→VK→Prop
noncomputable def PIp(X:Cx)(op:Operator)(t:TIp):Prop:=
 ∀(pins:List (Addr×Obj))(s:Shared)(σ:St)(H:Hp)(x y:V)(v u:Value)(Q:VK),Inv X pins σ H s→RelV x v→RelV y u→t x y H Q→
  wpAny (model X.prog X.w) X.A (inplaceOp op v u) (EP X pins σ Q) X.xe s
section
variable{X:Cx}{pos:Pos}
noncomputable def p5(i:Nat):TG:=λv σ H Q=>Q (σ.set i (some v)) H
theorem Nh{i:Nat}{x:Str}(hN:X.N.Nodup)(hi:X.N[i]?=some x)(hx:V6 X.env.scope x)(hf:X.fn x=true∨X.env.scope.names.lookup x=some .local:=by first|exact .inl rfl|exact .inr rfl|assumption):PG X (.Name x pos) (p5 i):=by
 intro pins s σ H v u Q I r h;exact wpAny_assign_Name (Bx I hN hi hx r (λs' I'=>⟨_,H,I',h⟩) hf)
noncomputable def bx:Z6:=λvs σ H Q=>vs=[]∧Q σ H
noncomputable def ae(t:TG)(u:Z6):Z6:=λvs σ H Q=>∃v r,vs=v::r∧t v σ H λσ' H'=>u r σ' H' Q
theorem Yc:PGs X [] bx:=by
 intro pins s σ H vs us Q I r h;obtain⟨e,h⟩:=h;subst e;cases r;exact assignInOrder_nil ⟨σ,H,I,h⟩
theorem T3{e:Expr}{es:List Expr}{t:TG}{u:Z6}(h1:PG X e t)(h2:PGs X es u)
  (hs:(assignEach (e::es) X.env).map (·.2)=assign e X.env::(assignEach es X.env).map (·.2):=by rfl):PGs X (e::es) (ae t u):=by
 intro pins s σ H vs us Q I r h;obtain⟨v,vr,e1,h⟩:=h;subst e1;cases r with
 |cons r rr=>
  rw[hs];refine assignInOrder_cons (gx (h1 pins s σ H _ _ _ I r h) λ_ s1 ⟨σ1,H1,I1,q1⟩=>?_);exact h2 pins s1 σ1 H1 _ _ Q I1 rr q1
noncomputable def ir(K:PySem.W.Frag)(n:Nat)(t:Z6):TG:=λv σ H Q=>∃a xs,v=.ref a∧SqT K H a xs∧xs.length=n∧t xs σ H Q
theorem zc6{es:List Expr}{k:Nat}{t:Z6}{n:Nat}(hc:X.calm=true)(h:PGs X es t)
  (hn:(assignEach es X.env).length=n:=by rfl)(hst:(assignEach es X.env).findIdx? (·.1)=none:=by rfl):PG X (.Tuple es k pos) (ir X.K n t):=by
 intro pins s σ H v u Q I r hw;obtain⟨a,xs,e1,hq,hl,hw⟩:=hw;subst e1;cases r;obtain⟨its,rv,ht,hz⟩:=I.tuple hq;refine assign_Tuple_tuple (I.ok.hd hc) ht (by simp[hn,←hl,rv.length]) hst λh' hx=>?_;have I1:Inv X pins σ H {s with heap:=h'}:=I.kept (t':=s.toks) λb o e=>hx b o (kAf (Heap.lt_size e)) e;exact h pins _ σ H xs _ Q I1 (by simpa using rv) hw
noncomputable def Lr(te:TE)(g:TG):TS:=λD σ H=>te σ H λx H1=>g x σ H1 D.nx
theorem Lc{i:Nat}{x:Str}{e:Expr}{te:TE}{pos':Pos}(hN:X.N.Nodup)(hi:X.N[i]?=some x)(hx:V6 X.env.scope x)(he:PE X e te)(hs:swapsWith e (some (.Name x pos')) pos.line X.env=pure false:=by rfl)(hf:X.fn x=true∨X.env.scope.names.lookup x=some .local:=by first|exact .inl rfl|exact .inr rfl|assumption):
  PS X (.Assign [.Name x pos'] e pos) (Lr te (p5 i)):=by
 intro pins s σ H D I h;refine wpAny_Assign_Name (gx (he pins s σ H _ I h) λv s1 ⟨y,H1,I1,r1,q1⟩=>?_) hs;exact Bx I1 hN hi hx r1 (λs2 I2=>⟨_,H1,I2,q1⟩) hf
noncomputable def zhp(i:Nat)(te:TE)(ti:TIp):TS:=λD σ H=>∃x,σ[i]?=some (some x)∧te σ H λy H1=>ti x y H1 λz H2=>D.nx (σ.set i (some z)) H2
theorem zda{i:Nat}{x:Str}{e:Expr}{te:TE}{op:Operator}{ti:TIp}{pos':Pos}(hN:X.N.Nodup)(hi:X.N[i]?=some x)(hx:V6 X.env.scope x)(he:PE X e te)(ho:PIp X op ti)(hf:X.fn x=true∨X.env.scope.names.lookup x=some .local:=by first|exact .inl rfl|exact .inr rfl|assumption):
  PS X (.AugAssign (.Name x pos') op e pos) (zhp i te ti):=by
 intro pins s σ H D I h;obtain⟨v,e1,h⟩:=h;obtain⟨m,hn,hl⟩:=I.loc;have vis:Vis X.env.scope x:=by rcases hx with k|k;exact .inl k;exact .inr (.inl k)
 obtain⟨u,r,l⟩:=hl i x v hi e1 vis;refine wpAny_AugAssign_Name ?_;have go:wpAny (model X.prog X.w) X.A (eval e X.env) (λw s₂=>wpAny (model X.prog X.w) X.A (inplaceOp op u w) (λr s₃=>wpAny (model X.prog X.w) X.A (storeName X.env x r) (λ_=>SP X pins D .next) X.xe s₃) X.xe s₂) X.xe s:=by
  refine gx (he pins s σ H _ I h) λw s1 ⟨y,H1,I1,r1,q1⟩=>?_;refine gx (ho pins s1 σ H1 v y u w _ I1 r r1 q1) λz s2 ⟨zv,H2,I2,r2,q2⟩=>?_;exact Bx I2 hN hi hx r2 (λs3 I3=>⟨_,H2,I3,q2⟩) hf
 rcases l with ⟨hk,hm⟩|⟨hk,c,hc,hcell⟩
 ·exact wpAny_loadName_local I.ok.kind hk hn hm go
 ·rcases hk with hk|hk
  ·exact wpAny_loadName_cell I.ok.kind hk hc hcell go
  ·rcases hx with k|k
   ·have:X.env.scope.names.lookup x=some .free:=hk;rw[k]at this;cases this
   ·have:X.env.scope.names.lookup x=some .free:=hk;rw[k]at this;cases this
noncomputable def ipI(f:Int→Int→Int):TIp:=λx y H Q=>∃i j,x=.int i∧y=.int j∧Q (.int (f i j)) H
theorem zb2:PIp X .Add (ipI λi j=>i+j):=by
 intro pins s σ H x y v u Q I r1 r2 h;obtain⟨i,j,e1,e2,q⟩:=h;subst e1;subst e2;obtain⟨t,rfl⟩:=r1;obtain⟨t',rfl⟩:=r2;exact iadd_int ⟨.int _,H,I.tok _,⟨_,rfl⟩,q⟩
end
section
variable{X:Cx}{pos:Pos}
noncomputable def zet(c:TT)(tb:TS):TS:=λD σ H=>∃W:Nat→St→Hp→Prop,(∃m,W m σ H)∧∀m σ H,W m σ H→
 c σ H λb H1=>if b=true then∃N:St→Hp→Prop,(∀σ' H',N σ' H'→∃m',m'<m∧W m' σ' H')∧tb {D with nx:=N,ct:=N,bk:=D.nx} σ H1 else D.nx σ H1
theorem Ud{c:Expr}{body:List Stmt}{tc:TT}{tb:TS}(hp:PassesOwn (model X.prog X.w) X.A X.env X.xe)(hc:PT X c tc)(hb:PSs X body tb):PS X (.While c body [] pos) (zet tc tb):=by
 intro pins s σ H D I h;obtain⟨W,⟨m0,w0⟩,turn⟩:=h;refine wpAny_While (codeAny_whileLoop (λn s'=>∃σ' H',Inv X pins σ' H' s'∧W n σ' H') ?_ m0 ⟨σ,H,I,w0⟩)
 rintro n s1 ⟨σ1,H1,I1,w1⟩
 refine wpAny_passesOwn hp (gx (hc pins s1 σ1 H1 _ I1 (turn n σ1 H1 w1)) λb s2 ⟨H2,I2,q2⟩=>?_);cases b with
 |true=>
  obtain⟨N,hN,q2⟩:=q2;rw[if_pos rfl];refine wpAny_passesOwn hp (gx (hb pins s2 σ1 H2 _ I2 q2) λf s3 q3=>?_);cases f with
  |next=>
   obtain⟨σ3,H3,I3,n3⟩:=q3;obtain⟨m',hm,w3⟩:=hN σ3 H3 n3;exact⟨m',hm,σ3,H3,I3,w3⟩
  |cont=>
   obtain⟨σ3,H3,I3,n3⟩:=q3;obtain⟨m',hm,w3⟩:=hN σ3 H3 n3;exact⟨m',hm,σ3,H3,I3,w3⟩
  |brk=>exact q3
  |ret v=>exact q3
 |false=>
  rw[if_neg kB7];exact wpAny_execs_nil ⟨σ1,H2,I2,q2⟩
end
structure It where
 go:Nat→Hp→Prop
 yld:Nat→Hp→V→Hp→Prop
 stop:Nat→Hp→Prop
noncomputable def B4(X:Cx)(pins:List (Addr×Obj))(H:Hp)(b:Addr):Prop:=
 H b=none∧b≠X.env.locals∧b∉X.fs∧(b∈X.ex∨X.s₀.heap.objs.size≤b)∧(∀x c,X.env.cells.lookup x=some c→c≠b)∧∀p∈X.pn++pins,p.1≠b
theorem Inv.fpOk{X:Cx}{pins:List (Addr×Obj)}{σ:St}{H H':Hp}{s:Shared}{b:Addr}(I:Inv X pins σ H s)(hb:s.heap.objs.size≤b)(hn:H' b=none):B4 X pins H' b:=by
 refine⟨hn,Nat.ne_of_gt (kAo I.lt hb),I.nofs hb,.inr (kAn I.sz hb),λx c e z=>?_,λp hp z=>?_⟩
 ·obtain⟨v,q⟩:=I.cell x c e;exact absurd (kAo q.lt (by rw[z];exact hb)) (kAx _)
 ·exact absurd (kAo (Heap.lt_size (I.pin p hp).1) (by rw[z];exact hb)) (kAx _)
structure Turn(P:Program)(w:World)(K:PySem.W.Frag)(tg:Expr)(J:It)(fp:List Addr)(it:Addr)(tn:Nat→Heap→Prop):Prop where
 mem:it∈fp
 obj:∀i h,tn i h→∀b∈fp,∃o,h.get? b=some o∧∀v,o.data≠.cell v
 keep:∀i h h',tn i h→(∀b∈fp,∀o,h.get? b=some o→h'.get? b=some o)→tn i h'
 item:∀(X:Cx),X.prog=P→X.w=w→X.K=K→X.calm=true→∀(i:Nat)(pins:List (Addr×Obj))(s:Shared)(σ:St)(H:Hp)(E:Value→Shared→Prop),Inv X pins σ H s→(∀b∈fp,B4 X pins H b)→tn i s.heap→J.go i H→
  wpAny (model P w) X.A (pyNext (.ref it)) (λr s1=>∃u,r=some u∧
   wpAny (model P w) X.A (letOwnedTupleGo tg (.ref it) u) (λ_ s2=>∃x H',Inv X pins σ H' s2∧RelV x u∧J.yld i H x H'∧tn (i+1) s2.heap∧∀b∈fp,H' b=none) E s1) E s
 done:∀(X:Cx),X.prog=P→X.w=w→X.K=K→X.calm=true→∀(i:Nat)(pins:List (Addr×Obj))(s:Shared)(σ:St)(H:Hp)(E:Value→Shared→Prop),Inv X pins σ H s→(∀b∈fp,B4 X pins H b)→tn i s.heap→J.stop i H→
  wpAny (model P w) X.A (pyNext (.ref it)) (λr s1=>r=none∧Inv X pins σ H s1) E s
 self:∀(A:Around)(i:Nat)(s:Shared)(Q:Value→Shared→Prop)(E:Value→Shared→Prop),tn i s.heap→Q (.ref it) s→wpAny (model P w) A (pyIter (.ref it)) Q E s
noncomputable abbrev TI:=St→Hp→(It→Hp→Prop)→Prop
noncomputable def PIE(X:Cx)(pins:List (Addr×Obj))(σ:St)(tg:Expr)(R:It→Hp→Prop)(itv:Value)(s2:Shared):Prop:=
 ∃(it:Addr) (fp:List Addr) (tn:Nat→Heap→Prop) (J:It) (H':Hp),itv=.ref it∧Inv X pins σ H' s2∧Turn X.prog X.w X.K tg J fp it tn∧tn 0 s2.heap∧(∀b∈fp,B4 X pins H' b)∧R J H'
noncomputable def PI(X:Cx)(tg iter:Expr)(wi:TI):Prop:=
 ∀(pins:List (Addr×Obj))(s:Shared)(σ:St)(H:Hp)(R:It→Hp→Prop),Inv X pins σ H s→wi σ H R→
  wpAny (model X.prog X.w) X.A (eval iter X.env) (λv s1=>wpAny (model X.prog X.w) X.A (pyIter v) (PIE X pins σ tg R) X.xe s1) X.xe s
theorem Hi{M:Model}{A:Around}{E:Value→Shared→Prop}{s:Shared}{tg:Expr}{it:Addr}{u:Value}{o:Obj}{n:String}{vs:Array Value}{Q:Unit→Shared→Prop}(ho:s.heap.get? it=some o)(hc:o.cls=.type n)(hd:o.data=.fields vs)
  (hn:["enumerate","zip","dict_itemiterator","dict_reverseitemiterator","odict_iterator","itertools.zip_longest","itertools.pairwise"].contains n=false)(hQ:Q () s):wpAny M A (letOwnedTupleGo tg (.ref it) u) Q E s:=by
 unfold letOwnedTupleGo;cases tg<;>first
  |exact wpAny_pure hQ
  | (cases u <;> first
    |exact wpAny_pure hQ
    | (refine wpAny_bind (wpAny_load ho ?_)
       rw[hc,hd];show wpAny M A (if(["enumerate","zip","dict_itemiterator","dict_reverseitemiterator","odict_iterator","itertools.zip_longest","itertools.pairwise"].contains n && vs[0]?==some (rawInt _))=true then _ else _) Q E s;rw[if_neg (by intro h;rw[hn,Bool.false_and]at h;cases h)];exact wpAny_pure hQ))
noncomputable def Itl(K:PySem.W.Frag)(a:Addr):It:=
 ⟨λi H=>∃xs x,SqL K H a xs∧xs[i]?=some x,λi H x H'=>H'=H∧∀xs,SqL K H a xs→xs[i]?=some x,λi H=>∃xs,SqL K H a xs∧xs.length≤i⟩
noncomputable def Itt(K:PySem.W.Frag)(a:Addr):It:=
 ⟨λi H=>∃xs x,SqT K H a xs∧xs[i]?=some x,λi H x H'=>H'=H∧∀xs,SqT K H a xs→xs[i]?=some x,λi H=>∃xs,SqT K H a xs∧xs.length≤i⟩
noncomputable def Itr(lo:Int)(n:Nat):It:=⟨λi _=>i<n,λi H x H'=>H'=H∧x=.int (lo+i),λi _=>n≤i⟩
theorem Qi{P:Program}{w:World}{K:PySem.W.Frag}{tg:Expr}(a it:Addr):Turn P w K tg (Itl K a) [it] it (λi h=>h.IsListIter it a i) where
 mem:=by simp
 obj:=λi h st b hb=>by
  have e:b=it:=by simpa using hb
  subst e;obtain⟨o,e,c,d⟩:=st;exact⟨o,e,λv z=>by rw[d]at z;cases z⟩
 keep:=λi h h' st k=>st.at λo e=>k it (by simp) o e
 item:=by
  intro X hP hw hK hc i pins s σ H E I hf st hg;subst hP hw hK;obtain⟨xs,x,hq,hx⟩:=hg;obtain⟨its,rv,p,hz⟩:=I.list hq;obtain⟨u,hu,ru⟩:=rv.get hx;obtain⟨f0,f1,f2,f3,f4,f5⟩:=hf it (by simp);refine wpAny_pyNext_list_item st p.isList (x:=u) (by simpa using hu) λh' st' sb=>?_;have I1:Inv X pins σ H {s with heap:=h'}:=I.turned (t':=s.toks) (λb o hb e=>(sb.2 b hb).trans e) f0 f1 f3 f4 f5;obtain⟨o,e,c,d⟩:=id st';exact⟨u,rfl,Hi (s:={s with heap:=h'}) e c d (by decide) ⟨x,H,I1,ru,⟨rfl,λys hy=>by rw[I.list_inj hy hq];exact hx⟩,st',λb hb=>(hf b hb).1⟩⟩
 done:=by
  intro X hP hw hK hc i pins s σ H E I hf st hg;subst hP hw hK;obtain⟨xs,hq,hx⟩:=hg;obtain⟨its,rv,p,hz⟩:=I.list hq;obtain⟨f0,f1,f2,f3,f4,f5⟩:=hf it (by simp);have hl:=rv.length;exact wpAny_pyNext_list_end (I.ok.hd hc) st p.isList (by simp;omega) λh' eb=>⟨rfl,I.turned (t':=s.toks) (λb o hb e=>eb b o hb e) f0 f1 f3 f4 f5⟩
 self:=λ_ _ _ _ _ st h=>wpAny_pyIter_listiter st h
theorem L1{P:Program}{w:World}{K:PySem.W.Frag}{tg:Expr}(a it:Addr):Turn P w K tg (Itt K a) [it] it (λi h=>h.IsTupleIter it a i) where
 mem:=by simp
 obj:=λi h st b hb=>by
  have e:b=it:=by simpa using hb
  subst e;obtain⟨o,e,c,d⟩:=st;exact⟨o,e,λv z=>by rw[d]at z;cases z⟩
 keep:=λi h h' st k=>st.at λo e=>k it (by simp) o e
 item:=by
  intro X hP hw hK hc i pins s σ H E I hf st hg;subst hP hw hK;obtain⟨xs,x,hq,hx⟩:=hg;obtain⟨its,rv,p,hz⟩:=I.tuple hq;obtain⟨u,hu,ru⟩:=rv.get hx;obtain⟨f0,f1,f2,f3,f4,f5⟩:=hf it (by simp);refine wpAny_pyNext_tuple_item st (show s.heap.IsTuple a its.toArray from p) (x:=u) (by simpa using hu) λh' st' sb=>?_;have I1:Inv X pins σ H {s with heap:=h'}:=I.turned (t':=s.toks) (λb o hb e=>(sb.2 b hb).trans e) f0 f1 f3 f4 f5;obtain⟨o,e,c,d⟩:=id st';exact⟨u,rfl,Hi (s:={s with heap:=h'}) e c d (by decide) ⟨x,H,I1,ru,⟨rfl,λys hy=>by rw[I.tuple_inj hy hq];exact hx⟩,st',λb hb=>(hf b hb).1⟩⟩
 done:=by
  intro X hP hw hK hc i pins s σ H E I hf st hg;subst hP hw hK;obtain⟨xs,hq,hx⟩:=hg;obtain⟨its,rv,p,hz⟩:=I.tuple hq;obtain⟨f0,f1,f2,f3,f4,f5⟩:=hf it (by simp);have hl:=rv.length;exact wpAny_pyNext_tuple_end (I.ok.hd hc) st (show s.heap.IsTuple a its.toArray from p) (by simp;omega) λh' eb=>⟨rfl,I.turned (t':=s.toks) (λb o hb e=>eb b o hb e) f0 f1 f3 f4 f5⟩
 self:=λ_ _ _ _ _ st h=>wpAny_pyIter_tupleiter st h
theorem L0{P:Program}{w:World}{K:PySem.W.Frag}{tg:Expr}(it:Addr)(lo:Int)(n:Nat):Turn P w K tg (Itr lo n) [it] it (λi h=>IsRangeIter h it (lo+(i:Nat) * 1) ((n:Int) - (i:Nat)) 1) where
 mem:=by simp
 obj:=λi h st b hb=>by
  have e:b=it:=by simpa using hb
  subst e;exact⟨_,st,λv z=>by
   have z':Data.fields _=Data.cell v:=z;cases z'⟩
 keep:=λi h h' st k=>k it (by simp) _ st
 item:=by
  intro X hP hw hK hc i pins s σ H E I hf st hg;subst hP hw hK;obtain⟨f0,f1,f2,f3,f4,f5⟩:=hf it (by simp);have W:=Walks.range (prog:=X.prog) (w:=X.w) (I.ok.hd hc) it lo 1 n;refine W.item i s _ _ hg st λv h' tk hv st' kk=>?_;obtain⟨t,rfl⟩:=hv;have I1:Inv X pins σ H {s with heap:=h',toks:=tk}:=I.turned (λb o hb e=>kk b o (by simpa using hb) e) f0 f1 f3 f4 f5;refine⟨_,rfl,Hi (s:={s with heap:=h',toks:=tk}) (n:="range_iterator") st' rfl rfl (by decide) ⟨.int (lo+i),H,I1,⟨t,?_⟩,⟨rfl,rfl⟩,st',λb hb=>(hf b hb).1⟩⟩;rw[Int.mul_one]
 done:=by
  intro X hP hw hK hc i pins s σ H E I hf st hg;subst hP hw hK;obtain⟨f0,f1,f2,f3,f4,f5⟩:=hf it (by simp);exact wpAny_pyNext_range_end (I.ok.hd hc) st (by have:n≤i:=hg;omega) λh' eb=>⟨rfl,I.turned (t':=s.toks) (λb o hb e=>eb b o hb e) f0 f1 f3 f4 f5⟩
 self:=λ_ _ _ _ _ st h=>wpAny_pyIter_rangeiter st h
end L2
namespace L2
open PySem PySem.Spec PyProof.Rows
section
variable{X:Cx}{tg:Expr}
theorem Uw{pins:List (Addr×Obj)}{σ:St}{H:Hp}{s:Shared}{R:It→Hp→Prop}{E:Value→Shared→Prop}{lo hi:Int}{t u v:Tok}{tk:Nat}(I:Inv X pins σ H s)(h1:-(2 ^ 62)≤lo)(h2:lo<2 ^ 62)(h3:-(2 ^ 62)≤hi)(h4:hi<2 ^ 62)
  (q:R (Itr lo (hi - lo).toNat) H):wpAny (model X.prog X.w) X.A (pyIter (.ref s.heap.objs.size)) (PIE X pins σ tg R) E {s with heap:=s.heap.push {cls:=.type "range",data:=.fields #[.int lo t,.int hi u,.int 1 v]},toks:=tk}:=by
 refine wpAny_pyIter_range (IsRange.new ..) (small_one h1 h2 h3 h4) ?_;have I1:Inv X pins σ H {s with heap:=s.heap.push {cls:=.type "range",data:=.fields #[.int lo t,.int hi u,.int 1 v]},toks:=tk}:=I.kept λb o e=>Heap.get?_push_of_some _ e;refine⟨(s.heap.push {cls:=.type "range",data:=.fields #[.int lo t,.int hi u,.int 1 v]}).objs.size,[(s.heap.push {cls:=.type "range",data:=.fields #[.int lo t,.int hi u,.int 1 v]}).objs.size],_,_,H,rfl,
  I1.kept (t':=tk) λb o e=>Heap.get?_push_of_some _ e,L0 _ lo (hi - lo).toNat,?_,λb hb=>?_,q⟩
 ·have e1:lo+((0:Nat):Int) * 1=lo:=by simp
  have e2:(((hi - lo).toNat:Nat):Int) - ((0:Nat):Int)=Builtin.Range.rangeSize lo hi 1:=by rw[rangeSize_one];split<;>omega
  show IsRangeIter _ _ (lo+((0:Nat):Int) * 1) ((((hi - lo).toNat:Nat):Int) - ((0:Nat):Int)) 1;rw[e1,e2];exact Heap.get?_push_size _ rfl
 ·have e:b=(s.heap.push {cls:=.type "range",data:=.fields #[.int lo t,.int hi u,.int 1 v]}).objs.size:=by simpa using hb
  subst e;exact I1.fpOk (kA0 _) (I1.hok.fresh (kA0 _))
noncomputable def zf1(ta:TA):TI:=λσ H R=>ta σ H λvs H1=>∃j:Int,vs=[.int j]∧-(2 ^ 62)≤j∧j<2 ^ 62∧R (Itr 0 j.toNat) H1
theorem Pq{a:Expr}{ta:TA}{p pos:Pos}(hg:Gl X "range")(hm:X.mg "range"=none)(ha:PA X [a] ta)(hs:starEach [a] X.env=[(false,eval a X.env)]:=by rfl):PI X tg (.Call (.Name "range" p) [a] [] pos) (zf1 ta):=by
 intro pins s σ H R I h;refine Call_ (E4 I hg hm boot_range (PyProof.Rows.callWith_type1 (gx (ha pos pins s σ H _ I h) λus s1 ⟨vs,H1,I1,r1,q1⟩=>?_) hs rfl));obtain⟨j,e,q1,q2,q⟩:=q1;subst e;cases r1 with
 |cons r rr=>
  cases rr;obtain⟨t,rfl⟩:=r;exact call_range_1 (Uw I1 (by omega) (by omega) q1 q2 (by simpa using q))
noncomputable def zkt(wi:TI)(g:TG)(tb:TS):TS:=λD σ H=>wi σ H λJ H1=>∃W:Nat→Nat→St→Hp→Prop,(∃m,W 0 m σ H1)∧∀i m σ H,W i m σ H→
 (J.stop i H∧D.nx σ H)∨(J.go i H∧∃N:St→Hp→Prop,(∀σ' H',N σ' H'→∃m',m'<m∧W (i+1) m' σ' H')∧∀x H',J.yld i H x H'→g x σ H' λσ2 H2=>tb {D with nx:=N,ct:=N,bk:=D.nx} σ2 H2)
noncomputable def xi(fp:List Addr)(h:Heap):List (Addr×Obj):=fp.filterMap λb=>(h.get? b).map λo=>(b,o)
theorem n9{fp:List Addr}{h:Heap}{b:Addr}{o:Obj}(hb:b∈fp)(e:h.get? b=some o):(b,o)∈xi fp h:=List.mem_filterMap.mpr ⟨b,hb,by rw[e];rfl⟩
theorem Pk{fp:List Addr}{h:Heap}{p:Addr×Obj}(hp:p∈xi fp h):p.1∈fp∧h.get? p.1=some p.2:=by
 obtain⟨b,hb,e⟩:=List.mem_filterMap.mp hp;cases q:h.get? b with
 |none=>rw[q]at e;cases e
 |some o=>
  rw[q]at e;have e':(b,o)=p:=kAg.inj e;subst e';exact⟨hb,q⟩
theorem Inv.pinned{pins:List (Addr×Obj)}{σ:St}{H:Hp}{s:Shared}{fp:List Addr}(I:Inv X pins σ H s)(hf:∀b∈fp,B4 X pins H b)(ho:∀b∈fp,∃o,s.heap.get? b=some o∧∀v,o.data≠.cell v):Inv X (pins++xi fp s.heap) σ H s:=
 I.pins_of λp hp=>(kB4.mp hp).elim (λz=>I.pin p (kB8 _ z)) λz=>by
  obtain⟨hb,e⟩:=Pk z;obtain⟨f0,f1,f2,_⟩:=hf p.1 hb;obtain⟨o,e',d⟩:=ho p.1 hb;rw[e]at e';cases e';exact⟨e,f0,f1,f2,d⟩
theorem Inv.unpinned{pins pl:List (Addr×Obj)}{σ:St}{H:Hp}{s:Shared}(I:Inv X (pins++pl) σ H s):Inv X pins σ H s:=I.pins_of λp hp=>I.pin p (kB8 _ (List.mem_append_left _ hp))
theorem zdc{iter:Expr}{body:List Stmt}{wi:TI}{g:TG}{tb:TS}{pos:Pos}(hp:PassesOwn (model X.prog X.w) X.A X.env X.xe)(hc:X.calm=true)(hi:PI X tg iter wi)(hg:PG X tg g)(hb:PSs X body tb)
  (hs:∀x,foldedSetIterable iter X.env x=pure x:=by intro _;rfl):PS X (.For tg iter body [] pos) (zkt wi g tb):=by
 intro pins s σ H D I h;refine wpAny_For (gx (hi pins s σ H _ I h) λv s1 h1=>gx h1 λitv s2 h2=>?_) hs;obtain⟨it,fp,tn,J,H2,e,I2,T,st2,f2,W,⟨m0,w0⟩,turn⟩:=h2;subst e;have stat:∀{H':Hp},(∀b∈fp,H' b=none)→∀b∈fp,B4 X pins H' b:=λhn b hb=>⟨hn b hb,(f2 b hb).2⟩;refine codeAny_forLoop_any (λn s'=>∃i σ' H',Inv X pins σ' H' s'∧tn i s'.heap∧(∀b∈fp,H' b=none)∧W i n σ' H') ?_ m0 ⟨0,σ,H2,I2,st2,λb hb=>(f2 b hb).1,w0⟩
 rintro n s3 ⟨i,σ3,H3,I3,st3,fr3,w3⟩
 rcases turn i n σ3 H3 w3 with ⟨stop,qn⟩|⟨go,N,hN,step⟩
 ·refine wpAny_passesOwn hp (gx (T.done X rfl rfl rfl hc i pins s3 σ3 H3 X.xe I3 (stat fr3) st3 stop) λr s4 ⟨hr,I4⟩=>?_);subst hr;exact wpAny_execs_nil ⟨σ3,H3,I4,qn⟩
 ·refine wpAny_passesOwn hp (gx (T.item X rfl rfl rfl hc i pins s3 σ3 H3 X.xe I3 (stat fr3) st3 go) λr s4 ⟨u,hr,h4⟩=>?_);subst hr;refine wpAny_passesOwn hp (gx h4 λ_ s5 ⟨x,H5,I5,r5,y5,st5,fr5⟩=>?_);have I5':=I5.pinned (stat fr5) (T.obj _ _ st5);refine wpAny_passesOwn hp (gx (hg _ s5 σ3 H5 x u _ I5' r5 (step x H5 y5)) λ_ s6 ⟨σ6,H6,I6,q6⟩=>?_);refine wpAny_passesOwn hp (gx (hb _ s6 σ6 H6 _ I6 q6) λf s7 q7=>?_);have again:∀{σ7:St}{H7:Hp},Inv X (pins++xi fp s5.heap) σ7 H7 s7→N σ7 H7→∃m,m<n∧∃i σ' H',Inv X pins σ' H' s7∧tn i s7.heap∧(∀b∈fp,H' b=none)∧W i m σ' H':=λ{σ7 H7} I7 n7=>by
   obtain⟨m',hm,w7⟩:=hN σ7 H7 n7;refine⟨m',hm,i+1,σ7,H7,I7.unpinned,T.keep _ _ _ st5 λb hb o e=>(I7.pin (b,o) (kB8 _ (kB8 _ (n9 hb e)))).1,λb hb=>?_,w7⟩;obtain⟨o,e,d⟩:=T.obj _ _ st5 b hb;exact(I7.pin (b,o) (kB8 _ (kB8 _ (n9 hb e)))).2.1
  cases f with
  |next=>obtain⟨σ7,H7,I7,n7⟩:=q7;exact again I7 n7
  |cont=>obtain⟨σ7,H7,I7,n7⟩:=q7;exact again I7 n7
  |brk=>obtain⟨σ7,H7,I7,q7⟩:=q7;exact⟨σ7,H7,I7.unpinned,q7⟩
  |ret v=>obtain⟨x7,σ7,H7,I7,r7,q7⟩:=q7;exact⟨x7,σ7,H7,I7.unpinned,r7,q7⟩
end
end L2
namespace L2
open PySem PySem.Spec PyProof.Rows
noncomputable abbrev R2:=V→V→Hp→VK→Prop
noncomputable def OpR(X:Cx)(f:Value→Value→Sem Value)(r:R2):Prop:=
 ∀(pins:List (Addr×Obj))(s:Shared)(σ:St)(H:Hp)(x y:V)(v u:Value)(Q:VK),Inv X pins σ H s→RelV x v→RelV y u→r x y H Q→
  wpAny (model X.prog X.w) X.A (f v u) (EP X pins σ Q) X.xe s
noncomputable def UnR(X:Cx)(f:Value→Sem Value)(r:V→Hp→VK→Prop):Prop:=
 ∀(pins:List (Addr×Obj))(s:Shared)(σ:St)(H:Hp)(x:V)(v:Value)(Q:VK),Inv X pins σ H s→RelV x v→r x H Q→
  wpAny (model X.prog X.w) X.A (f v) (EP X pins σ Q) X.xe s
noncomputable def CallR(X:Cx)(f:Value)(r:List V→Hp→VK→Prop):Prop:=
 ∀(pins:List (Addr×Obj))(s:Shared)(σ:St)(H:Hp)(xs:List V)(us:List Value)(Q:VK),Inv X pins σ H s→Vals xs us→r xs H Q→
  wpAny (model X.prog X.w) X.A (call f us) (EP X pins σ Q) X.xe s
noncomputable def zj6(X:Cx)(r:V→Hp→(Bool→Hp→Prop)→Prop):Prop:=
 ∀(pins:List (Addr×Obj))(s:Shared)(σ:St)(H:Hp)(x:V)(v:Value)(Q:Bool→Hp→Prop),Inv X pins σ H s→RelV x v→r x H Q→
  wpAny (model X.prog X.w) X.A (truthy v) (TP X pins σ Q) X.xe s
noncomputable def tOp(r:R2)(ta tb:TE):TE:=λσ H Q=>ta σ H λx H1=>tb σ H1 λy H2=>r x y H2 Q
noncomputable def tUn(r:V→Hp→VK→Prop)(ta:TE):TE:=λσ H Q=>ta σ H λx H1=>r x H1 Q
noncomputable def rI(C:Int→Int→Prop)(g:Int→Int→V):R2:=λx y H Q=>∃i j,x=.int i∧y=.int j∧C i j∧Q (g i j) H
noncomputable def Ur(g:Int→Int→V):R2:=λx y H Q=>∃i j,x=.int i∧y=.int j∧Q (g i j) H
noncomputable def rU(g:Int→V):V→Hp→VK→Prop:=λx H Q=>∃i,x=.int i∧Q (g i) H
section
variable{X:Cx}{a b c:Expr}{ta tb tc:TE}{pos:Pos}
theorem zbl(ha:PE X a ta)(hb:PE X b tb){pins:List (Addr×Obj)}{s:Shared}{σ:St}{H:Hp}{R:V→V→Hp→Prop}(I:Inv X pins σ H s)
  (h:ta σ H λx H1=>tb σ H1 λy H2=>R x y H2){Q:Value→Shared→Prop}{f:Value→Value→Sem Value}
  (hf:∀v u s2 x y H2,Inv X pins σ H2 s2→RelV x v→RelV y u→R x y H2→wpAny (model X.prog X.w) X.A (f v u) Q X.xe s2):
  wpAny (model X.prog X.w) X.A (eval a X.env) (λv s₁=>wpAny (model X.prog X.w) X.A (eval b X.env) (λu s₂=>wpAny (model X.prog X.w) X.A (f v u) Q X.xe s₂) X.xe s₁) X.xe s:=by
 refine gx (ha pins s σ H _ I h) λv s1 ⟨x,H1,I1,r1,q1⟩=>?_;refine gx (hb pins s1 σ H1 _ I1 q1) λu s2 ⟨y,H2,I2,r2,q2⟩=>?_;exact hf v u s2 x y H2 I2 r1 r2 q2
theorem Ng{op:Operator}{r:R2}(ho:OpR X (binaryOp op) r)(ha:PE X a ta)(hb:PE X b tb):PE X (.BinOp a op b pos) (tOp r ta tb):=by
 intro pins s σ H Q I h;exact wpAny_BinOp (zbl ha hb I h λv u s2 x y H2 I2 rx ry q=>ho pins s2 σ H2 x y v u Q I2 rx ry q)
theorem zgp{op:UnaryOp}{r:V→Hp→VK→Prop}(ho:UnR X (unaryOp op) r)(ha:PE X a ta):PE X (.UnaryOp op a pos) (tUn r ta):=by
 intro pins s σ H Q I h;exact UnaryOp_ (gx (ha pins s σ H _ I h) λv s1 ⟨x,H1,I1,r1,q1⟩=>ho pins s1 σ H1 x v Q I1 r1 q1)
theorem opI{f:Value→Value→Sem Value}{C:Int→Int→Prop}{g:Int→Int→Int}
  (rule:∀(i j:Int)(t u:Tok)(s:Shared)(Q:Value→Shared→Prop)(E:Value→Shared→Prop),C i j→Q (.int (g i j) s.toks) {s with toks:=s.toks+1}→wpAny (model X.prog X.w) X.A (f (.int i t) (.int j u)) Q E s):
  OpR X f (rI C λi j=>.int (g i j)):=by
 intro pins s σ H x y v u Q I rx ry h;obtain⟨i,j,rfl,rfl,hc,q⟩:=h;obtain⟨t,rfl⟩:=rx;obtain⟨t',rfl⟩:=ry;exact rule i j t t' s _ _ hc ⟨.int (g i j),H,I.tok _,⟨_,rfl⟩,q⟩
theorem zgf{f:Value→Value→Sem Value}{g:Int→Int→Int}
  (rule:∀(i j:Int)(t u:Tok)(s:Shared)(Q:Value→Shared→Prop)(E:Value→Shared→Prop),Q (.int (g i j) s.toks) {s with toks:=s.toks+1}→wpAny (model X.prog X.w) X.A (f (.int i t) (.int j u)) Q E s):
  OpR X f (Ur λi j=>.int (g i j)):=by
 intro pins s σ H x y v u Q I rx ry h;obtain⟨i,j,rfl,rfl,q⟩:=h;obtain⟨t,rfl⟩:=rx;obtain⟨t',rfl⟩:=ry;exact rule i j t t' s _ _ ⟨.int (g i j),H,I.tok _,⟨_,rfl⟩,q⟩
theorem Xw{f:Value→Value→Sem Value}{g:Int→Int→Bool}
  (rule:∀(i j:Int)(t u:Tok)(s:Shared)(Q:Value→Shared→Prop)(E:Value→Shared→Prop),Q (.bool (g i j)) s→wpAny (model X.prog X.w) X.A (f (.int i t) (.int j u)) Q E s):
  OpR X f (Ur λi j=>.bl (g i j)):=by
 intro pins s σ H x y v u Q I rx ry h;obtain⟨i,j,rfl,rfl,q⟩:=h;obtain⟨t,rfl⟩:=rx;obtain⟨t',rfl⟩:=ry;exact rule i j t t' s _ _ ⟨.bl (g i j),H,I,rfl,q⟩
def zjy(i j:Int):Prop:=0<j∧j<1073741824
def zjz(i j:Int):Prop:=0≤j∧j≤1000000∧i.natAbs<2 ^ 64
def CMul(i j:Int):Prop:=(-(2 ^ 64)<i∧i<2 ^ 64)∨(-(2 ^ 64)<j∧j<2 ^ 64)
theorem CMul.ok{i j:Int}(h:CMul i j):IntMulOk i j:=by
 rcases h with ⟨h1,h2⟩|⟨h1,h2⟩
 ·exact .of_left (intBits_le_64 h1 h2)
 ·exact .of_right (intBits_le_64 h1 h2)
theorem K5:OpR X (binaryOp .Add) (Ur λi j=>.int (i+j)):=zgf λ_ _ _ _ _ _ _ q=>add_int q
theorem zcv:OpR X (binaryOp .Sub) (Ur λi j=>.int (i - j)):=zgf λ_ _ _ _ _ _ _ q=>sub_int q
theorem zcr:OpR X (binaryOp .Mult) (rI CMul λi j=>.int (i * j)):=opI λ_ _ _ _ _ _ _ hc q=>mul_int q hc.ok
theorem Xz:OpR X (binaryOp .FloorDiv) (rI zjy λi j=>.int (i / j)):=opI λi j _ _ _ _ _ hc q=>by
 have h1:(0:Int)<j:=hc.1;have h2:j<1073741824:=hc.2;exact floordiv_int (by omega) (by rw[Int.fdiv_eq_ediv_of_nonneg i (by omega)];exact q) (.inl (PyProof.noPylong_small (by omega)))
theorem zcq:OpR X (binaryOp .Mod) (rI (λ_ j=>0<j) λi j=>.int (i % j)):=opI λi j _ _ _ _ _ hc q=>by
 have h1:(0:Int)<j:=hc;exact mod_int' (by omega) (by rw[Int.fmod_eq_emod_of_nonneg i (by omega)];exact q)
theorem zct:OpR X (binaryOp .Pow) (rI zjz λi j=>.int (i ^ j.toNat)):=opI λ_ _ _ _ _ _ _ hc q=>pow_int_small hc.1 hc.2.1 hc.2.2 q
theorem unI{f:Value→Sem Value}{g:Int→Int}
  (rule:∀(i:Int)(t:Tok)(s:Shared)(Q:Value→Shared→Prop)(E:Value→Shared→Prop),Q (.int (g i) s.toks) {s with toks:=s.toks+1}→wpAny (model X.prog X.w) X.A (f (.int i t)) Q E s):
  UnR X f (rU λi=>.int (g i)):=by
 intro pins s σ H x v Q I rx h;obtain⟨i,rfl,q⟩:=h;obtain⟨t,rfl⟩:=rx;exact rule i t s _ _ ⟨.int (g i),H,I.tok _,⟨_,rfl⟩,q⟩
theorem ze2:UnR X (unaryOp .USub) (rU λi=>.int (-i)):=unI λ_ _ _ _ _ q=>neg_int q
end
section
variable{X:Cx}{a b c:Expr}{ta tb tc:TE}{pos:Pos}
theorem Eo{pins:List (Addr×Obj)}{σ:St}{H:Hp}{s:Shared}{Q:VK}{k k':Bool}(I:Inv X pins σ H s)(q:Q (.bl k) H)(e:k=k'):EP X pins σ Q (.bool k') s:=by
 subst e;exact⟨.bl k,H,I,rfl,q⟩
theorem zgj:OpR X (compareOp .Lt) (Ur λi j=>.bl (decide (i<j))):=Xw λ_ _ _ _ _ _ _ q=>lt_int q
theorem zgi:OpR X (compareOp .LtE) (Ur λi j=>.bl (decide (i≤j))):=Xw λ_ _ _ _ _ _ _ q=>le_int q
theorem zgh:OpR X (compareOp .Gt) (Ur λi j=>.bl (decide (j<i))):=Xw λ_ _ _ _ _ _ _ q=>gt_int q
theorem zgg:OpR X (compareOp .GtE) (Ur λi j=>.bl (decide (j≤i))):=Xw λ_ _ _ _ _ _ _ q=>ge_int q
theorem Pn:OpR X (compareOp .In) (λx y H Q=>∃i j,x=.str i∧y=.str j∧Q (.bl (!(Builtin.Str.occurrences j i 0 j.length 1).isEmpty)) H):=by
 intro pins s σ H x y v u Q I rx ry h;obtain⟨i,j,rfl,rfl,q⟩:=h;obtain⟨t,rfl⟩:=rx;obtain⟨t',rfl⟩:=ry;exact in_str (Eo I q rfl)
theorem zcn:OpR X (compareOp .Is) (λx y H Q=>y=.non∧Q (.bl (decide (x=.non))) H):=by
 intro pins s σ H x y v u Q I rx ry h;obtain⟨rfl,q⟩:=h;cases ry;refine is_none_gen (Eo I q ?_);cases x<;>first
  |(cases rx;rfl)
  |(obtain⟨t,rfl⟩:=rx;rfl)
theorem X2:OpR X (compareOp .IsNot) (λx y H Q=>y=.non∧Q (.bl (!decide (x=.non))) H):=by
 intro pins s σ H x y v u Q I rx ry h;obtain⟨rfl,q⟩:=h;cases ry;refine isnot_none_gen (Eo I q ?_);cases x<;>first
  |(cases rx;rfl)
  |(obtain⟨t,rfl⟩:=rx;rfl)
theorem Fh:OpR X (compareOp .NotIn) (λx y H Q=>∃i j,x=.str i∧y=.str j∧Q (.bl (!(!(Builtin.Str.occurrences j i 0 j.length 1).isEmpty))) H):=by
 intro pins s σ H x y v u Q I rx ry h;obtain⟨i,j,rfl,rfl,q⟩:=h;obtain⟨t,rfl⟩:=rx;obtain⟨t',rfl⟩:=ry;exact notIn_str (Eo I q rfl)
theorem OpR.or{f:Value→Value→Sem Value}{r r':R2}(h:OpR X f r)(h':OpR X f r'):OpR X f (λx y H Q=>r x y H Q∨r' x y H Q):=by
 intro pins s σ H x y v u Q I rx ry q;rcases q with q|q
 ·exact h pins s σ H x y v u Q I rx ry q
 ·exact h' pins s σ H x y v u Q I rx ry q
theorem Yb{op:CmpOp}{r:R2}(ho:OpR X (compareOp op) r)(ha:PE X a ta)(hb:PE X b tb)(hm:behindInMarks op b=false):PE X (.Compare a [op] [b] pos) (tOp r ta tb):=by
 intro pins s σ H Q I h;exact wpAny_Compare1 (zbl ha hb I h λv u s2 x y H2 I2 rx ry q=>ho pins s2 σ H2 x y v u Q I2 rx ry q) hm
noncomputable def za0(t:TE):TT:=λσ H Q=>t σ H λx H'=>∃k,x=.bl k∧Q k H'
theorem Np{op:CmpOp}{r:R2}(ho:OpR X (compareOp op) r)(ha:PE X a ta)(hb:PE X b tb)(hm:behindInMarks op b=false):PT X (.Compare a [op] [b] pos) (za0 (tOp r ta tb)):=by
 intro pins s σ H Q I h;refine wpAny_isTrue_Compare1 (gx (ha pins s σ H _ I h) λv s1 ⟨x,H1,I1,r1,q1⟩=>gx (hb pins s1 σ H1 _ I1 q1) λu s2 ⟨y,H2,I2,r2,q2⟩=>
  gx (ho pins s2 σ H2 x y v u _ I2 r1 r2 q2) λc s3 ⟨z,H3,I3,r3,k,e,q3⟩=>?_) hm
 subst e;cases r3;exact wpAny_truthy_bool ⟨H3,I3,q3⟩
noncomputable def Ls(r r':R2)(ta tb tc:TE):TE:=λσ H Q=>ta σ H λx H1=>tb σ H1 λy H2=>r x y H2 λz H3=>∃k,z=.bl k∧
 (if k=true then tc σ H3 λw' H4=>r' y w' H4 Q else Q (.bl false) H3)
theorem Tw{op op':CmpOp}{r r':R2}(ho:OpR X (compareOp op) r)(ho':OpR X (compareOp op') r')(ha:PE X a ta)(hb:PE X b tb)(hc:PE X c tc)
  (hm:lastMarks [op,op'] [b,c]=false:=by with_unfolding_all rfl):PE X (.Compare a [op,op'] [b,c] pos) (Ls r r' ta tb tc):=by
 intro pins s σ H Q I h;refine Compare_chain (gx (ha pins s σ H _ I h) λv s1 ⟨x,H1,I1,r1,q1⟩=>chain_link (gx (hb pins s1 σ H1 _ I1 q1) λu s2 ⟨y,H2,I2,r2,q2⟩=>
  gx (ho pins s2 σ H2 x y v u _ I2 r1 r2 q2) λd s3 ⟨z,H3,I3,r3,k,e,q3⟩=>?_)) hm
 subst e;cases r3;refine wpAny_truthy_bool ?_;cases k with
 |false=>exact ite_ff ⟨.bl false,H3,I3,rfl,q3⟩
 |true=>exact ite_tt (chain_last (gx (hc pins s3 σ H3 _ I3 q3) λw' s4 ⟨z',H4,I4,r4,q4⟩=>ho' pins s4 σ H4 y z' u w' Q I4 r2 r4 q4))
theorem Ue{op op':CmpOp}{r r':R2}(ho:OpR X (compareOp op) r)(ho':OpR X (compareOp op') r')(ha:PE X a ta)(hb:PE X b tb)(hc:PE X c tc)
  (hm:lastMarks [op,op'] [b,c]=false:=by with_unfolding_all rfl):PT X (.Compare a [op,op'] [b,c] pos) (za0 (Ls r r' ta tb tc)):=by
 intro pins s σ H Q I h;refine isTrue_chain (gx (ha pins s σ H _ I h) λv s1 ⟨x,H1,I1,r1,q1⟩=>test_link (gx (hb pins s1 σ H1 _ I1 q1) λu s2 ⟨y,H2,I2,r2,q2⟩=>
  gx (ho pins s2 σ H2 x y v u _ I2 r1 r2 q2) λd s3 ⟨z,H3,I3,r3,k,e,q3⟩=>?_)) hm
 subst e;cases r3;refine wpAny_truthy_bool ?_;cases k with
 |false=>
  obtain⟨k',e',q'⟩:=q3;cases e';exact ite_ff ⟨H3,I3,q'⟩
 |true=>
  refine ite_tt (test_last (gx (hc pins s3 σ H3 _ I3 q3) λw' s4 ⟨z',H4,I4,r4,q4⟩=>gx (ho' pins s4 σ H4 y z' u w' _ I4 r2 r4 q4) λd' s5 ⟨z2,H5,I5,r5,k2,e2,q5⟩=>?_));subst e2;cases r5;exact wpAny_truthy_bool ⟨H5,I5,q5⟩
noncomputable def zbd(K:PySem.W.Frag)(x:V)(H:Hp)(k:Bool):Prop:=
 match x with
 |.non=>k=false
 |.bl b=>k=b
 |.int i=>k=(i !=0)
 |.str y=>y.length≤sizeLine∧k=((y.length:Int) !=0)
 |.byt y=>y.size≤sizeLine∧k=((y.size:Int) !=0)
 |.ref p=>(∃xs,SqL K H p xs∧k= !xs.isEmpty)∨(∃xs,SqT K H p xs∧k= !xs.isEmpty)∨∃kvs,H p=some (.dK kvs)∧k= !kvs.isEmpty
 |_=>False
theorem Kk{κ:Type}{kvs:List (κ×V)}{vs:List (κ×Value)}(r:KV kvs vs):(!vs.isEmpty)= !kvs.isEmpty:=by
 cases r<;>rfl
theorem Am{xs:List V}{its:List Value}(r:Vals xs its):(!its.toArray.isEmpty)= !xs.isEmpty:=by
 cases r<;>simp
theorem Aw:(sizeLine:Nat)<2 ^ 63:=by rw[sizeLine_eq];decide
theorem zew:zj6 X (λx H Q=>∃k,zbd X.K x H k∧Q k H):=by
 intro pins s σ H x v Q I rx h;obtain⟨k,e,q⟩:=h;have hl:=Aw;have hs:sizeLine=16777216:=sizeLine_eq;cases x with
 |non=>
  cases rx;have e':k=false:=e;subst e';exact truthy_none ⟨H,I,q⟩
 |bl b=>
  cases rx;have e':k=b:=e;subst e';exact wpAny_truthy_bool ⟨H,I,q⟩
 |int i=>
  obtain⟨t,rfl⟩:=rx;have e':k=(i !=0):=e;subst e';exact PySem.P.truthy_int ⟨H,I,q⟩
 |str y=>
  obtain⟨t,rfl⟩:=rx;obtain⟨hy,e'⟩:y.length≤sizeLine∧k=((y.length:Int) !=0):=e;subst e';exact PySem.P.truthy_str (by omega) ⟨H,I.tok _,q⟩
 |byt y=>
  obtain⟨t,rfl⟩:=rx;obtain⟨hy,e'⟩:y.size≤sizeLine∧k=((y.size:Int) !=0):=e;subst e';exact PySem.W.truthy_bytes (by omega) ⟨H,I.tok _,q⟩
 |ref p=>
  cases rx;have e':(∃xs,SqL X.K H p xs∧k= !xs.isEmpty)∨(∃xs,SqT X.K H p xs∧k= !xs.isEmpty)∨∃kvs,H p=some (.dK kvs)∧k= !kvs.isEmpty:=e;rcases e' with ⟨xs,hx,e'⟩|⟨xs,hx,e'⟩|⟨kvs,hx,e'⟩
  ·subst e';obtain⟨its,r,pl,hz⟩:=I.list hx;have hlen:=r.length;exact wpAny_truthy_list pl.isList (by simp only[kAe];omega) ⟨H,I.tok _,by rw[Am r];exact q⟩
  ·subst e';obtain⟨its,r,pl,hz⟩:=I.tuple hx;have hlen:=r.length;exact truthy_tuple pl (by simp only[kAe];omega) ⟨H,I.tok _,by rw[Am r];exact q⟩
  ·subst e';obtain⟨hz,hS,vs,r,m⟩:kvs.length≤sizeLine∧(p==sysModules)=false∧∃vs,KV kvs vs∧s.heap.DictOf (bq X.prog X.w) p vs:=I.hok p _ hx;have hlen:kvs.length=vs.length:=Paired.length r;exact wpAny_truthy_dict hS m (by omega) ⟨H,I.tok _,by rw[Kk r];exact q⟩
 |_=>exact(show False from e).elim
theorem Uh(ha:PE X a ta)(he:∀whole,isTrue a X.env whole=(do let v ←whole;standAt a.pos;holding [v] (truthy v))):
  PT X a (λσ H Q=>ta σ H λx H'=>∃k,zbd X.K x H' k∧Q k H'):=by
 intro pins s σ H Q I h;exact isTrue_plain (gx (ha pins s σ H _ I h) λv s1 ⟨x,H1,I1,r1,q1⟩=>zew pins s1 σ H1 x v Q I1 r1 q1) (he _)
theorem K6:OpR X (binaryOp .Add) (λx y H Q=>∃i j,x=.str i∧y=.str j∧i.length+j.length≤sizeLine∧Q (.str (i++j)) H):=by
 intro pins s σ H x y v u Q I rx ry h;obtain⟨i,j,rfl,rfl,hz,q⟩:=h;obtain⟨t,rfl⟩:=rx;obtain⟨t',rfl⟩:=ry;exact add_str (λt' tk=>⟨.str (i++j),H,I.tok _,⟨_,rfl⟩,q⟩) hz
theorem we{x:V}{us:List Value}(r:Vals [x] us):∃u,us=[u]∧RelV x u:=by
 cases r with
 |cons r1 r2=>cases r2;exact⟨_,rfl,r1⟩
theorem za2{x y:V}{us:List Value}(r:Vals [x,y] us):∃u w',us=[u,w']∧RelV x u∧RelV y w':=by
 cases r with
 |cons r1 r2=>
  cases r2 with
  |cons r3 r4=>cases r4;exact⟨_,_,rfl,r1,r3⟩
theorem C7:CallR X (.type "int") (λxs H Q=>(∃i,xs=[.int i]∧Q (.int i) H)∨∃k,xs=[.bl k]∧Q (.int (if k then 1 else 0)) H):=by
 intro pins s σ H xs us Q I r h;rcases h with ⟨i,rfl,q⟩|⟨k,rfl,q⟩
 ·obtain⟨u,rfl,t,rfl⟩:=we r;exact call_int_int ⟨.int i,H,I,⟨_,rfl⟩,q⟩
 ·obtain⟨u,rfl,r1⟩:=we r;cases r1;exact call_int_bool ⟨.int (if k then 1 else 0),H,I.tok _,⟨_,rfl⟩,q⟩
noncomputable def zj4(K:PySem.W.Frag)(x:V)(H:Hp)(n:Nat):Prop:=
 match x with
 |.str y=>y.length≤sizeLine∧n=y.length
 |.byt y=>y.size≤sizeLine∧n=y.size
 |.ref p=>(∃xs,SqL K H p xs∧n=xs.length)∨∃xs,SqT K H p xs∧n=xs.length
 |_=>False
theorem Q5:CallR X (.builtin "len") (λxs H Q=>∃x n,xs=[x]∧zj4 X.K x H n∧Q (.int n) H):=by
 intro pins s σ H xs us Q I r h;obtain⟨x,n,rfl,e,q⟩:=h;obtain⟨u,rfl,rx⟩:=we r;have hl:=Aw;have hs:sizeLine=16777216:=sizeLine_eq;cases x with
 |str y=>
  obtain⟨t,rfl⟩:=rx;obtain⟨hy,e'⟩:y.length≤sizeLine∧n=y.length:=e;subst e';exact len_str (by omega) ⟨.int _,H,I.tok _,⟨_,rfl⟩,q⟩
 |byt y=>
  obtain⟨t,rfl⟩:=rx;obtain⟨hy,e'⟩:y.size≤sizeLine∧n=y.size:=e;subst e';exact PySem.W.len_bytes (by omega) ⟨.int _,H,I.tok _,⟨_,rfl⟩,q⟩
 |ref p=>
  cases rx;have e':(∃xs,SqL X.K H p xs∧n=xs.length)∨∃xs,SqT X.K H p xs∧n=xs.length:=e;rcases e' with ⟨xs,hx,e'⟩|⟨xs,hx,e'⟩
  ·subst e';obtain⟨its,r',pl,hz⟩:=I.list hx;have hlen:=r'.length;exact Calls.call_len_list pl.isList (by simp only[kAe];omega) ⟨.int xs.length,H,I.tok _,⟨_,by simp only[kAe];rw[hlen]⟩,q⟩
  ·subst e';obtain⟨its,r',pl,hz⟩:=I.tuple hx;have hlen:=r'.length;exact len_tuple pl (by simp only[kAe];omega) ⟨.int xs.length,H,I.tok _,⟨_,by simp only[kAe];rw[hlen]⟩,q⟩
 |_=>exact(show False from e).elim
end
end L2
namespace L2
open PySem PySem.Spec PyProof.Rows
structure ObjM(h:Heap)(x dx C:Addr)(mA:Str→Option Value):Prop where
 obj:h.get? x=some (PySem.W.instObj C dx)
 ns:h.Ns1 dx mA
 ne:dx≠x
theorem O9{h:Heap}{dx:Addr}{mA:Str→Option Value}(n:h.Ns1 dx mA):∃od,h.get? dx=some od∧∀name,PySem.W.lookIn name od=some (mA name):=by
 obtain⟨o,es,ep,ho,hd,hk,_,hm⟩:=n;refine⟨o,ho,λname=>?_⟩;have e:=hm name;unfold nsFind findBy at e;rw[←Array.find?_toList]at e;unfold PySem.W.lookIn;rw[hd];dsimp only;split
 ·rename_i y q;rw[q]at e;exact congrArg some e
 ·rename_i q;rw[q]at e;have a:es.toList.any (·.refKey)=false:=by
   rw[List.any_eq_false];intro y hy;obtain⟨z,t,hkey⟩:=hk y (Array.mem_toList_iff.mp hy);simp[DictEntry.refKey,hkey]
  have a':¬es.toList.any (·.refKey)=true:=by rw[a];exact kB7
  rw[if_neg a'];exact congrArg some e
theorem ObjM.look{h:Heap}{x dx C:Addr}{mA:Str→Option Value}(I:ObjM h x dx C mA):∃od,PySem.W.InstAt h x (PySem.W.instObj C dx) C (some od)∧∀name,PySem.W.lookIn name od=some (mA name):=
 let ⟨od,ho,hl⟩:=O9 I.ns
 ⟨od,⟨I.obj,rfl,rfl,ho⟩,hl⟩
theorem RelO.some_of{v:V}{o:Option Value}(r:RelO (some v) o):∃u,o=some u∧RelV v u:=by
 cases o with
 |none=>exact(show False from r).elim
 |some u=>exact⟨u,rfl,r⟩
structure Cls(K:PySem.W.Frag)(C:Addr):Prop where
 pg:PySem.W.plainGet K C Str.empty=true
 hd:PySem.W.hasDictIn K C=true
 po:PySem.W.plainOver K C=true
 sa:PySem.W.findIn K (.ref C) "__setattr__"=some (some (.builtin "object.__setattr__"))
theorem Cls.get{K:PySem.W.Frag}{C:Addr}(c:Cls K C)(f:Str):PySem.W.plainGet K C f=true:=c.pg
section
variable{X:Cx}{pins:List (Addr×Obj)}{σ:St}{H:Hp}{s:Shared}{a C dx:Addr}{fs:List (Str×V)}{f:Str}{v:V}{A:Around}{E:Value→Shared→Prop}
theorem Inv.made(I:Inv X pins σ H s):Inv X pins σ (upd (upd H s.heap.objs.size (.own (s.heap.objs.size+1))) (s.heap.objs.size+1) (.ins C s.heap.objs.size []))
  {s with heap:=(s.heap.push PySem.W.emptyDict).push (PySem.W.instObj C s.heap.objs.size)}:=by
 have e1:(s.heap.push PySem.W.emptyDict).get? s.heap.objs.size=some PySem.W.emptyDict:=Heap.get?_push_size s.heap rfl;have e2:((s.heap.push PySem.W.emptyDict).push (PySem.W.instObj C s.heap.objs.size)).get? (s.heap.objs.size+1)=some (PySem.W.instObj C s.heap.objs.size):=by
  have:=Heap.get?_push_size (s.heap.push PySem.W.emptyDict) (o:=PySem.W.instObj C s.heap.objs.size) rfl;rwa [Heap.size_push]at this
 have e3:(s.heap.push PySem.W.emptyDict).Ns s.heap.objs.size (λ_=>none):=⟨PySem.W.emptyDict,#[],_,e1,rfl,(λe he=>absurd he (by simp)),λ_=>rfl⟩;have I1:=I.laid (a:=s.heap.objs.size) (o:=.own (s.heap.objs.size+1)) (h':=s.heap.push PySem.W.emptyDict) (t':=s.toks) (λb u q=>Heap.get?_push_of_some _ q) (kA0 _) ⟨_,e1⟩;refine I1.laid (a:=s.heap.objs.size+1) (o:=.ins C s.heap.objs.size []) (t':=s.toks) (λb u q=>Heap.get?_push_of_some _ q) (Nat.le_of_eq (Heap.size_push _ _)) ?_;have ne:s.heap.objs.size≠s.heap.objs.size+1:=kAf (Nat.lt_succ_self _);refine⟨by rw[bp ne,cb],kAt _,ne,e2,λ_=>none,(Heap.Ns1.of_empty e3).at λo q=>Heap.get?_push_of_some _ q,λ_=>True.intro,λy hy=>absurd rfl hy⟩
end
end L2
namespace L2
open PySem PySem.Spec PyProof.Rows
structure Room(k:Nat)(A:Around):Prop where
 hd:A.handled=none
 dp:A.depth+3 * k+5<recursionLimit
 un:A.units+16 * k+200<cLine
theorem Room.mono{j k:Nat}{A:Around}(r:Room k A)(h:j≤k):Room j A:=⟨r.hd,by have:=r.dp;omega,by have:=r.un;omega⟩
theorem Room.deeper{k:Nat}{A:Around}(r:Room (k+1) A)(env:Env):Room k (A.deeper env):=
 ⟨r.hd,by have:=r.dp;show A.depth+1+3 * k+5<_;omega,by have:=r.un;show A.units+3+16 * k+200<_;omega⟩
theorem Room.in1{k:Nat}{A:Around}(r:Room (k+1) A):Room k A.in1:=
 ⟨r.hd,by have:=r.dp;show A.depth+3 * k+5<_;omega,by have:=r.un;show A.units+1+16 * k+200<_;omega⟩
theorem Room.depth{k:Nat}{A:Around}(r:Room k A):A.depth<recursionLimit:=by have:=r.dp;omega
theorem Room.units{k:Nat}{A:Around}(r:Room k A):A.units+64<cLine:=by have:=r.un;omega
noncomputable def zhs:TA:=λ_ H Q=>Q [] H
noncomputable def zhq(ta:TE)(tr:TA):TA:=λσ H Q=>ta σ H λx H1=>tr σ H1 λxs H2=>Q (x::xs) H2
section
variable{X:Cx}{e:Expr}{es:List Expr}{te:TE}{t:TA}{pos:Pos}
theorem Bc:PA X [] zhs:=λ_ _ _ _ H Q I h=>Calls.spliced_nil ⟨[],H,I,.nil,h⟩
theorem mf(ha:PE X e te)(hr:PA X es t)(hs:starEach (e::es) X.env=(false,eval e X.env)::starEach es X.env:=by rfl):PA X (e::es) (zhq te t):=by
 intro pos pins s σ H Q I h;rw[hs];show wpAny _ _ (spliced ((false,eval e X.env)::backTo pos (starEach es X.env))) _ _ s;refine Calls.spliced_cons (gx (ha pins s σ H _ I h) λu s1 ⟨x,H1,I1,r1,q1⟩=>?_);exact gx (hr pos pins s1 σ H1 _ I1 q1) λus s2 ⟨xs,H2,I2,r2,q2⟩=>⟨x::xs,H2,I2,.cons r1 r2,q2⟩
noncomputable def zk1(t:TA):TE:=λσ H Q=>t σ H λxs H1=>xs.length≤sizeLine∧∀p,H1 p=none→Q (.ref p) (upd H1 p (.tup xs))
noncomputable def zkv(t:TA):TE:=λσ H Q=>t σ H λxs H1=>xs.length≤sizeLine∧∀p,H1 p=none→Q (.ref p) (upd H1 p (.lst xs))
theorem zc5{x1}(h:PA X es t):PE X (.Tuple es x1 pos) (zk1 t):=by
 intro pins s σ H Q I hq;refine wpAny_Tuple_spliced (gx (h pos pins s σ H _ I hq) λus s1 ⟨xs,H1,I1,r,z,q⟩=>⟨by rw[←r.length];exact z,?_⟩);have hf:H1 s1.heap.objs.size=none:=I1.hok.fresh (kA0 _);refine⟨.ref s1.heap.objs.size,upd H1 s1.heap.objs.size (.tup xs),I1.laid (t':=s1.toks) (λb u e=>Heap.get?_push_of_some _ e) (kA0 _) ?_,rfl,q _ hf⟩;exact⟨z,us,r,⟨_,Heap.get?_push_size _ rfl,rfl,_,rfl⟩⟩
theorem zcz(h:PA X es t):PE X (.List es pos) (zkv t):=by
 intro pins s σ H Q I hq;refine wpAny_List_spliced (gx (h pos pins s σ H _ I hq) λus s1 ⟨xs,H1,I1,r,z,q⟩=>⟨by rw[←r.length];exact z,?_⟩);have hf:H1 s1.heap.objs.size=none:=I1.hok.fresh (kA0 _);refine⟨.ref s1.heap.objs.size,upd H1 s1.heap.objs.size (.lst xs),I1.laid (t':=s1.toks) (λb u e=>Heap.get?_push_of_some _ e) (kA0 _) ?_,rfl,q _ hf⟩;exact⟨z,us,0,r,Heap.get?_push_size _ rfl⟩
end
noncomputable abbrev Sp:=List V→Hp→VK→XK→Prop
noncomputable abbrev L7:=List Env→Hp→Shared→XK→Value→Shared→Prop
structure Env0(P:Program)(w:World)(K:PySem.W.Frag)(mg:Str→Option Value)(base:Heap)(A:Around)(outer:List Env)(s:Shared)(H:Hp):Prop where
 frames:A.frames=some outer
 mod:Mod K mg base
 bs:∀b o,base.get? b=some o→s.heap.get? b=some o∧H b=none
 bsz:base.objs.size≤s.heap.objs.size
 funs:s.heap.FunFrames base outer
 frf:∀b∈wy outer,H b=none
 hok:HOk P w H s.heap
 bare:AllBare s.gens
noncomputable def CE(outer:List Env)(P:Program)(w:World)(H:Hp)(s:Shared)(Q:VK)(u:Value)(s':Shared):Prop:=
 ∃v H',s'.os=s.os∧AllBare s'.gens∧Un (wy outer) [] H H' s.heap s'.heap∧HOk P w H' s'.heap∧RelV v u∧Q v H'
noncomputable def CR(CX:L7)(outer:List Env)(P:Program)(w:World)(H:Hp)(s:Shared)(Q:VK)(E:XK)(r:Result)(s':Shared):Prop:=
 match r with
 |.ok (.ret u)=>CE outer P w H s Q u s'
 |.ok _=>False
 |.error e=>CX outer H s E e s'
structure FnOk(P:Program)(w:World)(K:PySem.W.Frag)(mg:Str→Option Value)(base:Heap)(CX:L7)(k:Nat)(f:Addr)(fd:FuncData)(ps:List Str)(sp:Sp):Prop where
 len:∀vs H Q E,sp vs H Q E→vs.length=ps.length
 run:∀(A:Around)(outer:List Env)(s:Shared)(H:Hp)(args:Args)(us:List Value)(vs:List V)(Q:VK)(E:XK),Room k A→Env0 P w K mg base A outer s H→BindsTo s fd args (ps.zip us)→Vals vs us→sp vs H Q E→
  codeAny (model P w) A (.call (.ref f) args) (CR CX outer P w H s Q E) s
theorem FnOk.mono{P:Program}{w:World}{K:PySem.W.Frag}{mg:Str→Option Value}{base:Heap}{CX:L7}{j k:Nat}{f:Addr}{fd:FuncData}{ps:List Str}{sp:Sp}(F:FnOk P w K mg base CX j f fd ps sp)(h:j≤k):
  FnOk P w K mg base CX k f fd ps sp:=⟨F.len,λA outer s H args us vs Q E hr=>F.run A outer s H args us vs Q E (hr.mono h)⟩
theorem FnOk.imp{P:Program}{w:World}{K:PySem.W.Frag}{mg:Str→Option Value}{base:Heap}{CX:L7}{k:Nat}{f:Addr}{fd:FuncData}{ps:List Str}{sp sp':Sp}(F:FnOk P w K mg base CX k f fd ps sp)
  (h:∀vs H Q E,sp' vs H Q E→sp vs H Q E):FnOk P w K mg base CX k f fd ps sp':=
 ⟨λvs H Q E q=>F.len vs H Q E (h _ _ _ _ q),λA outer s H args us vs Q E hr he hb hv hs=>F.run A outer s H args us vs Q E hr he hb hv (h _ _ _ _ hs)⟩
theorem Env0.in1{P:Program}{w:World}{K:PySem.W.Frag}{mg:Str→Option Value}{base:Heap}{A:Around}{outer:List Env}{s:Shared}{H:Hp}(e:Env0 P w K mg base A outer s H):
  Env0 P w K mg base A.in1 outer s H:=⟨e.frames,e.mod,e.bs,e.bsz,e.funs,e.frf,e.hok,e.bare⟩
section
variable{X:Cx}{pins:List (Addr×Obj)}{σ:St}{H:Hp}{s s':Shared}
theorem Inv.env0(I:Inv X pins σ H s):Env0 X.prog X.w X.K X.mg X.base X.A X.stack s H:=
 ⟨I.ok.frames,I.ok.mod,I.bs,kAn I.ok.bsz I.sz,I.stack,I.stkFree,I.hok,I.bare⟩
theorem Inv.after{Q:VK}{u:Value}(I:Inv X pins σ H s)(h:CE X.stack X.prog X.w H s Q u s'):EP X pins σ Q u s':=by
 obtain⟨v,H',os,bare,un,hok,r,q⟩:=h;obtain⟨hh,g,d,t,os'⟩:=s';obtain rfl:os'=s.os:=os;exact⟨v,H',I.call (h':=hh) (g':=g) (d':=d) (t':=t) (ch:=[]) un hok bare (λb z=>absurd z (by simp)),r,q⟩
end
noncomputable def zay(sp:Sp)(dvs:List V)(E:XK)(t:TA):TE:=λσ H Q=>t σ H λvs H1=>sp (vs++dvs) H1 Q E
noncomputable def Binds(K:PySem.W.Frag)(fd:FuncData)(ps:List Str)(ds:List Value):Prop:=
 ∀(s:Shared)(us:List Value),K.In s.heap→(us++ds).length=ps.length→BindsTo s fd ⟨us,[]⟩ (ps.zip (us++ds))
theorem Binds.all{K:PySem.W.Frag}{fd:FuncData}{ps:List Str}(h:∀us:List Value,us.length=ps.length→bindArgs fd ⟨us,[]⟩=pure (ps.zip us)):Binds K fd ps []:=λs us _ hl=>by
 rw[kB0]at hl⊢;exact .of_eq (h us hl)
def j9(CX:L7)(X:Cx)(E:XK):Prop:=∀(pins:List (Addr×Obj))(σ:St)(H:Hp)(s:Shared)(e:Value)(s':Shared),Inv X pins σ H s→CX X.stack H s E e s'→X.xe e s'
section
variable{X:Cx}{CX:L7}{k:Nat}{f C:Addr}{fd:FuncData}{ps:List Str}{sp:Sp}{dvs:List V}{ds:List Value}{E:XK}{x m:Str}{p pos apos:Pos}{e o:Expr}{es:List Expr}{ta:TE}{t:TA}
theorem Lg{pins:List (Addr×Obj)}{σ:St}{H:Hp}{s:Shared}{Q:VK}{us:List Value}{vs:List V}(F:FnOk X.prog X.w X.K X.mg X.base CX k f fd ps sp)(hr:Room k X.A)(hb:Binds X.K fd ps ds)(hd:Vals dvs ds)(hx:j9 CX X E)
  (I:Inv X pins σ H s)(r:Vals vs us)(h:sp (vs++dvs) H Q E):wpAny (model X.prog X.w) X.A (call (.ref f) us) (EP X pins σ Q) X.xe s:=by
 have r2:Vals (vs++dvs) (us++ds):=r.append hd;have hl:(us++ds).length=ps.length:=by rw[←r2.length];exact F.len _ _ _ _ h
 refine wpAny_call (codeAny_mono (F.run X.A X.stack s H ⟨us,[]⟩ (us++ds) (vs++dvs) Q E hr I.env0 (hb s us I.kIn hl) r2 h) λr s' hq=>?_);cases r with
 |error e=>exact hx pins σ H s e s' I hq
 |ok fl=>
  cases fl with
  |ret u=>exact I.after hq
  |next=>exact False.elim hq
  |brk=>exact False.elim hq
  |cont=>exact False.elim hq
theorem Nd(F:FnOk X.prog X.w X.K X.mg X.base CX k f fd ps sp)(hr:Room k X.A)(hg:Gl X x)(hm:X.mg x=some (.ref f))(hk:kAc X.K (.ref f)=true)(hb:Binds X.K fd ps ds)(hd:Vals dvs ds)(hx:j9 CX X E)
  (ha:PA X (e::es) t)(hdb:(x==("__debug__":Str))=false:=by decide)(he:starEach (e::es) X.env=(false,eval e X.env)::starEach es X.env:=by rfl)(hpl:(backTo pos (starEach es X.env)).any (·.1)=false:=by rfl):
  PE X (.Call (.Name x p) (e::es) [] pos) (zay sp dvs E t):=by
 intro pins s σ H Q I h;refine wpAny_Call_Name_kw (n6 I hg hm ?_ hdb);refine PySem.W.callWith_K (h₀:=X.base) I.ok.mod.kin hk (gx (ha pos pins s σ H _ I h) λus s1 ⟨vs,H1,I1,r,q⟩=>⟨I1.kIn,?_⟩) he hpl;exact Lg F hr hb hd hx I1 r q
theorem Tv(F:FnOk X.prog X.w X.K X.mg X.base CX k f fd ps sp)(hr:Room k X.A)(hg:Gl X x)(hm:X.mg x=some (.ref f))(hk:kAc X.K (.ref f)=true)(hb:Binds X.K fd ps ds)(hd:Vals dvs ds)(hx:j9 CX X E)
  (hdb:(x==("__debug__":Str))=false:=by decide):PE X (.Call (.Name x p) [] [] pos) (zay sp dvs E zhs):=by
 intro pins s σ H Q I h;refine wpAny_Call_Name_kw (n6 I hg hm ?_ hdb);exact PySem.W.callWith_K0 I.kIn hk (Lg (us:=[]) F hr hb hd hx I .nil h)
structure Mk(K:PySem.W.Frag)(C f:Addr):Prop where
 makes:PySem.W.makesIn K C=true
 init:PySem.W.findIn K (.ref C) "__init__"=some (some (.ref f))
 fn:PySem.W.isFn K (.ref f)=true
 kp:kAc K (.ref C)=true
end
structure FnScope(N P:List Str)(sc:Scope):Prop where
 kind:sc.kind=.function
 co:sc.isCoroutine=false
 gen:sc.isGenerator=false
 nd:N.Nodup
 pre:N.take P.length=P
 par:∀x∈P,sc.names.lookup x=some .local∨sc.names.lookup x=some .cell
 nofree:∀y∈sc.names,y.2≠.free
theorem C5{kindOf:Str→Option NameKind}{x:Str}:∀{binds:List (Str×Value)}{m:Str→Option Value},(∀v,(x,v)∉binds)→bindL kindOf binds m x=m x
 |[],_,_=>rfl
 |(n,v)::r,m,h=>by
  unfold bindL;rw[C5 λw hw=>h w (kAl _ hw)];split
  ·have:x≠n:=by rintro rfl;exact h v kAk
   simp[this]
  ·rfl
theorem C3{kindOf:Str→Option NameKind}{x:Str}:∀{binds:List (Str×Value)}{m:Str→Option Value},(∀v,(x,v)∉binds)→bindC kindOf binds m x=m x
 |[],_,_=>rfl
 |(n,v)::r,m,h=>by
  unfold bindC;rw[C3 λw hw=>h w (kAl _ hw)];split
  ·rfl
  ·have:x≠n:=by rintro rfl;exact h v kAk
   simp[this]
theorem C4{kindOf:Str→Option NameKind}{x:Str}{v:Value}:∀{P:List Str}{vs:List Value}{i:Nat}{m:Str→Option Value},P.Nodup→P[i]?=some x→vs[i]?=some v→kindOf x=some .local→
  bindL kindOf (P.zip vs) m x=some v
 |[],_,_,_,_,h,_,_=>by simp at h
 |_::_,[],_,_,_,_,h,_=>by simp at h
 |p::P,w::vs,0,m,nd,h1,h2,hk=>by
  simp at h1 h2;subst h1;subst h2;show bindL kindOf ((p,w)::P.zip vs) m p=_;unfold bindL;rw[C5 λv hv=>(List.nodup_cons.mp nd).1 (List.of_mem_zip hv).1,if_pos hk];simp
 |p::P,w::vs,i+1,m,nd,h1,h2,hk=>by
  show bindL kindOf ((p,w)::P.zip vs) m x=_;unfold bindL;exact C4 (i:=i) (List.nodup_cons.mp nd).2 (by simpa using h1) (by simpa using h2) hk
theorem C2{kindOf:Str→Option NameKind}{x:Str}{v:Value}:∀{P:List Str}{vs:List Value}{i:Nat}{m:Str→Option Value},P.Nodup→P[i]?=some x→vs[i]?=some v→kindOf x≠some .local→
  bindC kindOf (P.zip vs) m x=some v
 |[],_,_,_,_,h,_,_=>by simp at h
 |_::_,[],_,_,_,_,h,_=>by simp at h
 |p::P,w::vs,0,m,nd,h1,h2,hk=>by
  simp at h1 h2;subst h1;subst h2;show bindC kindOf ((p,w)::P.zip vs) m p=_;unfold bindC;rw[C3 λv hv=>(List.nodup_cons.mp nd).1 (List.of_mem_zip hv).1,if_neg hk];simp
 |p::P,w::vs,i+1,m,nd,h1,h2,hk=>by
  show bindC kindOf ((p,w)::P.zip vs) m x=_;unfold bindC;exact C2 (i:=i) (List.nodup_cons.mp nd).2 (by simpa using h1) (by simpa using h2) hk
noncomputable def mh(N:List Str)(vs:List V):St:=vs.map some++kA2 (N.length - vs.length) none
noncomputable def t6(CX:L7)(P:Program)(w:World)(K:PySem.W.Frag)(mg:Str→Option Value)(base:Heap)(N:List Str)(qual:Str)(scope:Scope)(f:Addr)(cd:Value)(A:Around)(outer:List Env)(s:Shared)(H:Hp)(E:XK):Cx where
 prog:=P
 w:=w
 K:=K
 mg:=mg
 base:=base
 A:=A.deeper (envOfC qual scope s.heap.objs.size f cd)
 N:=N
 s₀:=s
 H₀:=H
 env:=envOfC qual scope s.heap.objs.size f cd
 outer:=outer
 stack:=envOfC qual scope s.heap.objs.size f cd::outer
 ex:=[]
 calm:=true
 fn:=λx=>decide (x∉rk)
 pn:=[]
 xe:=λe s'=>wpAny (model P w) (A.deeper (envOfC qual scope s.heap.objs.size f cd)) (leaving (envOfC qual scope s.heap.objs.size f cd) e) (λ_ s''=>CX outer H s E e s'') (λe' s''=>CX outer H s E e' s'') s'
theorem Gm{sc:Scope}{n:Nat}{x:Str}(h:sc.names.lookup x=some .cell):∃c,(cellsFrom n sc.names []).lookup x=some c:=by
 have q:=PySem.W.cellsFrom_some sc.names n [] (.inl h);exact Option.isSome_iff_exists.mp q
theorem Ou{CX:L7}{P:Program}{w:World}{K:PySem.W.Frag}{mg:Str→Option Value}{base:Heap}{N ps:List Str}{qual:Str}{scope:Scope}{f:Addr}{cd:Value}{A:Around}{outer:List Env}{s s1:Shared}{H:Hp}{E:XK}{us:List Value}{vs:List V}
  (S:FnScope N ps scope)(hd:A.handled=none)(e0:Env0 P w K mg base A outer s H)(hl:vs.length=ps.length)(r:Vals vs us)
  (x:InCallC s s.heap.objs.size (bindL (envOfC qual scope s.heap.objs.size f cd).kindOf (ps.zip us) λ_=>none) (cellsFrom (s.heap.objs.size+1) scope.names []) (bindC (envOfC qual scope s.heap.objs.size f cd).kindOf (ps.zip us) λ_=>none) s1):
  Inv (t6 CX P w K mg base N qual scope f cd A outer s H E) [] (mh N vs) H s1:=by
 have hpl:ps.length≤N.length:=by have:=congrArg List.length S.pre;rw[List.length_take]at this;omega
 obtain⟨h1,tk,rfl,hk⟩:=x.done;have noA:∀b:Addr,b∉(t6 CX P w K mg base N qual scope f cd A outer s H E).ex:=λb z=>absurd (show b∈([]:List Addr)from z) (by simp);refine⟨⟨e0.mod,S.kind,rfl,rfl,kA0 _,λy z c h1 h2=>?_,λy hy=>?_,λy c _ h=>?_,λ_=>hd,Around.frames_deeper e0.frames,.inr ⟨rfl,rfl⟩,λb z=>absurd z (noA b),e0.bs,e0.bsz,λb _ _=>noA b,λb z=>absurd z (noA b),e0.funs,e0.frf⟩,
  rfl,e0.bare,Un.kept hk,⟨_,x.toInCall.ns,λi y v h1 h2 h3=>?_⟩,λy c h=>⟨_,x.cell y c h⟩,e0.hok.fresh (kA0 _),λy c h=>?_,λp hp=>absurd (show p∈([]:List (Addr×Obj))from hp) (by simp),e0.hok.kept hk,?_⟩
 ·exact name_of_addr x.apart (PySem.mem_of_lookup h1) (PySem.mem_of_lookup h2)
 ·have hy:scope.names.lookup y=some .cell∨scope.names.lookup y=some .free:=hy;rcases hy with hy|hy
  ·exact Gm hy
  ·exact absurd rfl (S.nofree _ (PySem.mem_of_lookup hy))
 ·exact Nat.le_of_lt (x.above y c (PySem.mem_of_lookup h))
 ·have hi:i<vs.length:=by
   unfold mh at h2
   by_cases hi:i<vs.length
   ·exact hi
   ·rw[kBf (by simpa using hi)]at h2;rw[List.getElem?_replicate]at h2;split at h2<;>cases h2
  have ha:vs[i]?=some v:=by
   unfold mh at h2;rw[kBc (by simpa using hi),kAs]at h2;cases e:vs[i]? with
   |none=>rw[e]at h2;cases h2
   |some a=>rw[e]at h2;cases h2;rfl
  obtain⟨u,hu,rv⟩:=r.get ha;have hp:ps[i]?=some y:=by
   rw[←S.pre,List.getElem?_take_of_lt (by omega)];exact h1
  have ndP:ps.Nodup:=by rw[←S.pre];exact S.nd.sublist (List.take_sublist _ _)
  refine⟨u,rv,?_⟩;rcases S.par y (kAy hp)with k|k
  ·exact .inl ⟨k,C4 ndP hp hu k⟩
  ·obtain⟨c,e⟩:=Gm (n:=s.heap.objs.size+1) k;refine .inr ⟨.inl k,c,e,?_⟩;have q:=x.cell y c e;rw[C2 ndP hp hu (by show scope.names.lookup y≠_;rw[k];decide)]at q;exact q
 ·exact .inl (e0.hok.fresh (Nat.le_of_lt (x.above y c (PySem.mem_of_lookup h))))
 ·unfold mh;show _=N.length;rw[kAi,kA3,kBd];omega
theorem zaf{CX:L7}{P:Program}{w:World}{K:PySem.W.Frag}{mg:Str→Option Value}{base:Heap}{k:Nat}{f:Addr}{name qual:Str}{params:Arguments}{body:List Stmt}{scope:Scope}{dV kV doc pm cdv ct oc:Value}{an od:Option Addr}
  {osl:Array (Option Value)} {N ps:List Str} {sp:Sp} (lk:K.lookup f=some ⟨oc,od,.func (kAj name qual params body scope dV kV doc pm an cdv ct),osl⟩) (hcd:kAq K cdv qual=true) (S:FnScope N ps scope)
  (len:∀vs H Q E,sp vs H Q E→vs.length=ps.length)
  (hbody:∀(A:Around)(outer:List Env)(s:Shared)(H:Hp)(vs:List V)(Q:VK)(E:XK),Room k (A.deeper (envOfC qual scope s.heap.objs.size f cdv))→sp vs H Q E→
   ∃t,PSs (t6 CX P w K mg base N qual scope f cdv A outer s H E) body t∧t {nx:=λ_ H'=>Q .non H',rt:=Q} (mh N vs) H):
  FnOk P w K mg base CX (k+1) f (kAj name qual params body scope dV kV doc pm an cdv ct) ps sp:=by
 refine⟨len,λA outer s H args us vs Q E hr e0 hb r hsp=>?_⟩;have hl:=len _ _ _ _ hsp;have KX:K.In s.heap:=e0.mod.kin.keeps λb o e=>(e0.bs b o e).1;have lim:s.heap.NoLimit:=e0.mod.nolimit.keeps λb o e=>(e0.bs b o e).1;have hkind:∀y∈ps.zip us,scope.names.lookup y.1=some .local∨(scope.names.lookup y.1=some .cell∧((cellsFrom (s.heap.objs.size+1) scope.names []).lookup y.1).isSome=true):=λ⟨n,v⟩ hy=>by
  rcases S.par n (List.of_mem_zip hy).1 with q|q
  ·exact .inl q
  ·exact .inr ⟨q,PySem.W.cellsFrom_some _ _ _ (.inl q)⟩
 refine codeAny_call_function hr.depth (KX _ _ lk) rfl S.co S.gen rfl (PySem.W.codeRec_of KX hcd) (hb _ _ _ _ ?_);refine wpAny_newFunctionEnv_cells S.kind hkind λenv he s1 x=>?_;subst he;refine⟨lim.keeps x.toInCall.keep,codeAny_func ?_⟩;obtain⟨t,ht,hq⟩:=hbody A outer s H vs Q E (hr.deeper _) hsp;have I:Inv (t6 CX P w K mg base N qual scope f cdv A outer s H E) [] (mh N vs) H s1:=Ou S hr.hd e0 hl r x;refine wpAny_mono (ht [] s1 (mh N vs) H _ I hq) (λfl s' hs=>?_) λe s' hs=>hs;have fin:∀{σ':St}{H':Hp}{v:V}{u:Value},Inv (t6 CX P w K mg base N qual scope f cdv A outer s H E) [] σ' H' s'→RelV v u→Q v H'→CE outer P w H s Q u s':=
  λ{σ' H' v u} J rv q=>⟨v,H',J.os,J.bare,J.base,J.hok,rv,q⟩
 cases fl with
 |ret u=>
  obtain⟨v,σ',H',J,rv,q⟩:=hs;exact fin J rv q
 |next=>
  obtain⟨σ',H',J,q⟩:=hs;exact fin (v:=V.non) (u:=Value.none) J rfl q
 |brk=>
  obtain⟨_,_,_,q⟩:=hs;exact False.elim q
 |cont=>
  obtain⟨_,_,_,q⟩:=hs;exact False.elim q
end L2
namespace L2
open PySem PySem.Spec PyProof.Rows
section
variable{X:Cx}{x:Str}{p pos:Pos}{e:Expr}{es:List Expr}{t:TA}{id T:String}{r:List V→Hp→VK→Prop}
noncomputable def tCB(r:List V→Hp→VK→Prop)(t:TA):TE:=λσ H Q=>t σ H λvs H1=>r vs H1 Q
theorem qr(hc:CallR X (.builtin id) r)(hg:Gl X x)(hm:X.mg x=none)(hv:bootBuiltins x=some (.builtin id))(ha:PA X (e::es) t)(hn:x≠"__name__":=by decide)(hdb:(x==("__debug__":Str))=false:=by decide)
  (he:starEach (e::es) X.env=(false,eval e X.env)::starEach es X.env:=by rfl)(hpl:(backTo pos (starEach es X.env)).any (·.1)=false:=by rfl):PE X (.Call (.Name x p) (e::es) [] pos) (tCB r t):=by
 intro pins s σ H Q I h;refine wpAny_Call_Name_kw (E4 I hg hm hv ?_ hn hdb);exact PyProof.Rows.callWith_builtin1 (gx (ha pos pins s σ H _ I h) λus s1 ⟨vs,H1,I1,r1,q1⟩=>hc pins s1 σ H1 vs us Q I1 r1 q1) he hpl
theorem m7(hc:CallR X (.type T) r)(hg:Gl X x)(hm:X.mg x=none)(hv:bootBuiltins x=some (.type T))(ha:PA X (e::es) t)(hn:x≠"__name__":=by decide)(hdb:(x==("__debug__":Str))=false:=by decide)
  (he:starEach (e::es) X.env=(false,eval e X.env)::starEach es X.env:=by rfl)(hpl:(backTo pos (starEach es X.env)).any (·.1)=false:=by rfl):PE X (.Call (.Name x p) (e::es) [] pos) (tCB r t):=by
 intro pins s σ H Q I h;refine wpAny_Call_Name_kw (E4 I hg hm hv ?_ hn hdb);exact PyProof.Rows.callWith_type1 (gx (ha pos pins s σ H _ I h) λus s1 ⟨vs,H1,I1,r1,q1⟩=>hc pins s1 σ H1 vs us Q I1 r1 q1) he hpl
end
end L2
namespace HT
open PySem PyProof.Rows
section
variable{prog:Program}{w:World}{A:Around}{E:Value→Shared→Prop}{s:Shared}
theorem Wn{t b:Addr}{vs ws:List Value}{Q:Value→Shared→Prop}(ht:IsTup s.heap t vs.toArray)(hb:IsTup s.heap b ws.toArray)(hv:vs≠[])
  (h1:ws=[]→Q (.ref t) s)(h2:ws≠[]→Q (.ref s.heap.objs.size) {s with heap:=s.heap.push {cls:=.type "tuple",data:=.seq (vs++ws).toArray}})
  (hsz:vs.length+ws.length≤sizeLine):wpAny (model prog w) A (binaryOp .Add (.ref t) (.ref b)) Q E s:=by
 obtain⟨⟨cls,dd,data,sl⟩,ho,hc,n,hd⟩:=id ht;obtain⟨⟨cls2,dd2,data2,sl2⟩,ho2,hc2,n2,hd2⟩:=id hb;simp only at hc hd hc2 hd2;subst hc hd hc2 hd2;have e:vs.toArray++ws.toArray=(vs++ws).toArray:=by simp
 by_cases hw:ws=[]
 ·exact concat_meets ⟨_,ho,rfl⟩ ⟨_,ho2,rfl⟩ noFill_tuple_add seq_tuple_add PySem.F.slot_tuple_add PySem.F.entry_tuple_add (PySem.F.args_tuple_add_2 _ _)
   (tuple_addW1 t b vs.toArray ws.toArray n n2 dd dd2 sl sl2 (by simpa using hv) (by simp[hw])) ⟨ho,ho2,h1 hw⟩
 ·refine concat_meets ⟨_,ho,rfl⟩ ⟨_,ho2,rfl⟩ noFill_tuple_add seq_tuple_add PySem.F.slot_tuple_add PySem.F.entry_tuple_add (PySem.F.args_tuple_add_2 _ _)
   (tuple_addW2 t b vs.toArray ws.toArray n n2 dd dd2 sl sl2 (by simpa using hv) (by simpa using hw) (by rw[kAe,kAe];exact hsz)) ⟨ho,ho2,?_⟩
  rw[e];exact h2 hw
noncomputable def iw(n d:Nat):Option Int→Nat
 |none=>d
 |some v=>if v<0 then(v+(n:Int)).toNat else min v.toNat n
theorem zd7(n d:Nat)(hd:d≤n)(o:Option Int):iw n d o≤n:=by
 cases o with
 |none=>exact hd
 |some v=>
  show(if v<0 then(v+(n:Int)).toNat else min v.toNat n)≤n
  by_cases hv:v<0
  ·rw[if_pos hv];omega
  ·rw[if_neg hv];exact Nat.min_le_right _ _
theorem Mf(v:Int)(n d:Nat):(if v<0 then max (v+(n:Int)) 0 else min v (n:Int))=((iw n d (some v):Nat):Int):=by
 show(if v<0 then max (v+(n:Int)) 0 else min v (n:Int))=(((if v<0 then(v+(n:Int)).toNat else min v.toNat n):Nat):Int)
 by_cases hv:v<0
 ·simp only[if_pos hv];omega
 ·simp only[if_neg hv];omega
theorem Jx(lo hi:Option Int)(n:Nat):Builtin.Slice.sliceAdjust lo hi 1 (n:Int)=(((iw n 0 lo:Nat):Int),((iw n n hi:Nat):Int)):=by
 have h1:¬((1:Int)<0):=by omega
 unfold Builtin.Slice.sliceAdjust;simp only[h1,if_false];refine Prod.ext ?_ ?_
 ·cases lo with
  |none=>rfl
  |some v=>exact Mf v n 0
 ·cases hi with
  |none=>rfl
  |some v=>exact Mf v n n
theorem K9(i j:Nat):Builtin.Slice.slicePlaces (i:Int) (j:Int) 1=j - i:=by
 unfold Builtin.Slice.slicePlaces;have h1:(1:Int)>0:=by omega
 simp only[h1,if_true,Int.ediv_one];split<;>omega
theorem Bt{v:Value}{o:Option Int}{Q:Option Int→Shared→Prop}(p:IsPart v o)(h:Q o s):wpAny (model prog w) A (Builtin.Slice.slicePartIndex v) Q E s:=by
 cases p with
 |none=>exact slicePart_none h
 |int i t=>exact slicePart_int h
theorem nj{sl:Addr}{vl vu:Value}{lo hi:Option Int}{n:Nat}{Q:Int×Int×Nat→Shared→Prop}(hs:s.heap.IsSliceOf sl vl vu .none)(pl:IsPart vl lo)(pu:IsPart vu hi)
  (h:Q (((iw n 0 lo:Nat):Int),1,iw n n hi - iw n 0 lo) s):wpAny (model prog w) A (Builtin.Slice.sliceApplied (.ref sl) (pure (n:Int))) Q E s:=by
 obtain⟨os,hos,hcs,hds⟩:=id hs;unfold Builtin.Slice.sliceApplied Builtin.Slice.sliceFields;refine wpAny_bind (wpAny_bind (wpAny_field hos hds (x:=vl) rfl (wpAny_bind (wpAny_field hos hds (x:=vu) rfl (wpAny_bind (wpAny_field hos hds (x:=.none) rfl (wpAny_pure ?_)))))));refine wpAny_bind (slicePart_none ?_);show wpAny _ _ (if((1:Int)==0)=true then _ else _) _ _ s;rw[if_neg (by decide)];refine wpAny_bind (Bt pl (wpAny_bind (Bt pu (wpAny_bind (wpAny_pure ?_)))));show wpAny _ _ (match Builtin.Slice.sliceAdjust lo hi 1 (n:Int)with|(lo,hi)=>pure (lo,(1:Int),Builtin.Slice.slicePlaces lo hi 1)) _ _ s;rw[Jx lo hi n];show wpAny _ _ (pure (((iw n 0 lo:Nat):Int),(1:Int),Builtin.Slice.slicePlaces ((iw n 0 lo:Nat):Int) ((iw n n hi:Nat):Int) 1)) _ _ s;rw[K9];exact wpAny_pure h
theorem T5(xs:Array Value)(i k:Nat):((kA5 k).filterMap λ(m:Nat)=>xs[((i:Int)+(m:Int) * 1).toNat]?).toArray=((xs.toList.drop i).take k).toArray:=by
 have e:(λ(m:Nat)=>xs[((i:Int)+(m:Int) * 1).toNat]?)=λm=>xs[i+m]?:=by
  funext m
  have:((i:Int)+(m:Int) * 1).toNat=i+m:=by omega
  rw[this]
 rw[e];have:=pick_run xs i k;rw[List.filterMap_map]at this;have e2:((λx=>xs[x]?) ∘ λx=>i+x)=λm=>xs[i+m]?:=rfl;rw[e2]at this;rw[this]
theorem vb{t sl:Addr}{items:Array Value}{vl vu:Value}{lo hi:Option Int}{Q:Value→Shared→Prop}(ht:IsTup s.heap t items)(hs:s.heap.IsSliceOf sl vl vu .none)(pl:IsPart vl lo)(pu:IsPart vu hi)
  (hw:¬(iw items.size 0 lo=0∧iw items.size items.size hi=items.size))
  (h:Q (.ref s.heap.objs.size) {s with heap:=s.heap.push {cls:=.type "tuple",data:=.seq ((items.toList.drop (iw items.size 0 lo)).take (iw items.size items.size hi - iw items.size 0 lo)).toArray}})
  (hsz:items.size≤sizeLine):wpAny (model prog w) A (getItem (.ref t) (.ref sl)) Q E s:=by
 have htake:sizeOk (.seq ((items.toList.drop (iw items.size 0 lo)).take (iw items.size items.size hi - iw items.size 0 lo)).toArray):=by
  show((items.toList.drop (iw items.size 0 lo)).take (iw items.size items.size hi - iw items.size 0 lo)).toArray.size≤sizeLine;rw[kAe,List.length_take,List.length_drop,kAb];omega
 have hj:iw items.size items.size hi≤items.size:=zd7 _ _ (kA0 _) hi;obtain⟨os,hos,hcs,hds⟩:=id hs;have hTs:s.TypeIs (.ref sl) "slice":=⟨os,hos,hcs⟩;unfold getItem
 try with_reducible refine wpAny_holding ?_
 first|refine wpAny_bind (wpAny_pure ?_)|skip
 refine wpAny_bind (wpAny_sequenceKey ht.typeIs (by decide) ?_);refine wpAny_bind (wpAny_callSpecial?_slot (name:=Str.ofString "__getitem__") ht.typeIs PyProof.Rows.slot_tuple_getitem
  (wpAny_call_entry PyProof.Rows.slot_tuple_getitem ht.typeIs entry_tuple_getitem ?_ (args_tuple_getitem _ _)))
 show wpAny _ _ (Builtin.Tuple.tupleItemsOf (.ref t)>>=_) _ _ s;refine wpAny_bind (tupleItemsOf_ ht ?_);refine wpAny_bind (wpAny_typeOf hTs ?_);rw[if_pos (by decide)];refine wpAny_bind (nj hs pl pu ?_);have hno:¬((((iw items.size 0 lo:Nat):Int)==0 && (1:Int)==1 && (iw items.size items.size hi - iw items.size 0 lo)==items.size)=true):=by
  intro q;rw[kA1,kA1]at q;have q1:((iw items.size 0 lo:Nat):Int)=0:=eq_of_beq q.1.1;have q2:iw items.size items.size hi - iw items.size 0 lo=items.size:=eq_of_beq q.2;exact hw ⟨by omega,by omega⟩
 show wpAny _ _ (if(((iw items.size 0 lo:Nat):Int)==0 && (1:Int)==1 && (iw items.size items.size hi - iw items.size 0 lo)==items.size)=true then _ else _) _ _ s;rw[if_neg hno,T5]
 first
  |exact wpAny_bind (m:=Builtin.Tuple.tupleExact _) (wpAny_newObj_type (wpAny_pure ⟨_,rfl,wpAny_pure h⟩) htake)
  |exact wpAny_bind (m:=Builtin.Tuple.tupleExact _) (wpAny_newObj_type (wpAny_bind (wpAny_pure (wpAny_pure ⟨_,rfl,wpAny_pure h⟩))) htake)
  |exact wpAny_bind (wpAny_bind (m:=Builtin.Tuple.tupleExact _) (wpAny_newObj_type (wpAny_pure (wpAny_pure ⟨_,rfl,wpAny_pure h⟩)) htake))
  |exact wpAny_bind (wpAny_bind (m:=Builtin.Tuple.tupleExact _) (wpAny_newObj_type (wpAny_pure ⟨_,rfl,wpAny_pure h⟩) htake))
end
end HT
namespace L2
open PySem PySem.Spec PyProof.Rows
noncomputable abbrev TO:=St→Hp→(Option Int→Hp→Prop)→Prop
noncomputable def PO(X:Cx)(e:Option Expr)(t:TO):Prop:=
 ∀(pins:List (Addr×Obj))(s:Shared)(σ:St)(H:Hp)(Q:Option Int→Hp→Prop),Inv X pins σ H s→t σ H Q→
  wpAny (model X.prog X.w) X.A (evalPart e X.env) (λu s'=>∃o H',Inv X pins σ H' s'∧IsPart u o∧Q o H') X.xe s
noncomputable def Zn:TO:=λ_ H Q=>Q none H
noncomputable def zhv(t:TE):TO:=λσ H Q=>t σ H λx H1=>∃i,x=.int i∧Q (some i) H1
section
variable{X:Cx}{e:Expr}{te:TE}{lo hi:Option Expr}{tl th:TO}{pos p2:Pos}
theorem Yf:PO X none Zn:=by
 intro pins s σ H Q I h;rw[evalPart_none];exact wpAny_pure ⟨none,H,I,.none,h⟩
theorem Yg(h:PE X e te):PO X (some e) (zhv te):=by
 intro pins s σ H Q I hw;rw[evalPart_some];refine gx (h pins s σ H _ I hw) λu s1 ⟨x,H1,I1,r1,q1⟩=>?_;obtain⟨i,rfl,q⟩:=q1;obtain⟨t,rfl⟩:=r1;exact⟨some i,H1,I1,.int i t,q⟩
noncomputable def SlR(X:Cx)(r:V→Option Int→Option Int→Hp→VK→Prop):Prop:=
 ∀(pins:List (Addr×Obj))(s:Shared)(σ:St)(H:Hp)(x:V)(v vl vu:Value)(lo hi:Option Int)(sl:Addr)(Q:VK),Inv X pins σ H s→RelV x v→s.heap.IsSliceOf sl vl vu .none→IsPart vl lo→IsPart vu hi→r x lo hi H Q→
  ∃T id,typeLookup (.type T) "__getitem__"=pure (some (.builtin id))∧s.TypeIs v T∧wpAny (model X.prog X.w) X.A (getItem v (.ref sl)) (EP X pins σ Q) X.xe s
theorem SlR.or{r r':V→Option Int→Option Int→Hp→VK→Prop}(h:SlR X r)(h':SlR X r'):SlR X (λx lo hi H Q=>r x lo hi H Q∨r' x lo hi H Q):=by
 intro pins s σ H x v vl vu lo hi sl Q I rx hs pl pu q;rcases q with q|q
 ·exact h pins s σ H x v vl vu lo hi sl Q I rx hs pl pu q
 ·exact h' pins s σ H x v vl vu lo hi sl Q I rx hs pl pu q
noncomputable def tSl(r:V→Option Int→Option Int→Hp→VK→Prop)(te:TE)(tl th:TO):TE:=λσ H Q=>te σ H λx H1=>tl σ H1 λl H2=>th σ H2 λu H3=>r x l u H3 Q
theorem T2{r:V→Option Int→Option Int→Hp→VK→Prop}(hr:SlR X r)(he:PE X e te)(hl:PO X lo tl)(hu:PO X hi th):PE X (.Subscript e (.Slice lo hi none p2) pos) (tSl r te tl th):=by
 intro pins s σ H Q I h;refine Subscript_ (gx (he pins s σ H _ I h) λv s1 ⟨x,H1,I1,r1,q1⟩=>?_);refine wpAny_Slice (gx (hl pins s1 σ H1 _ I1 q1) λvl s2 ⟨l,H2,I2,pl,q2⟩=>gx (hu pins s2 σ H2 _ I2 q2) λvu s3 ⟨u,H3,I3,pu,q3⟩=>?_);rw[evalPart_none];refine wpAny_pure ?_;have I4:Inv X pins σ H3 {s3 with heap:=s3.heap.push {cls:=.type "slice",data:=.fields #[vl,vu,.none]}}:=I3.kept (t':=s3.toks) λb ob q=>Heap.get?_push_of_some _ q;obtain⟨T,id,hT,ht,hg⟩:=hr pins {s3 with heap:=s3.heap.push {cls:=.type "slice",data:=.fields #[vl,vu,.none]}} σ H3 x v vl vu l u s3.heap.objs.size Q I4 r1 (Heap.IsSliceOf.new ..) pl pu q3;show wpAny (model X.prog X.w) X.A (subscriptTail e (.Slice lo hi none p2) v (.ref s3.heap.objs.size)) (EP X pins σ Q) X.xe {s3 with heap:=s3.heap.push {cls:=.type "slice",data:=.fields #[vl,vu,.none]}};exact tail_any (ops:=[.ref s3.heap.objs.size,v]) ht hT hg (by with_unfolding_all rfl)
noncomputable def yq(xs:List V)(lo hi:Option Int):List V:=(xs.drop (HT.iw xs.length 0 lo)).take (HT.iw xs.length xs.length hi - HT.iw xs.length 0 lo)
theorem x6(xs:List V)(lo hi:Option Int):(yq xs lo hi).length≤xs.length:=by
 unfold yq;rw[List.length_take,List.length_drop];omega
noncomputable def zkn(K:PySem.W.Frag):V→Option Int→Option Int→Hp→VK→Prop:=λx lo hi H Q=>∃a xs,x=.ref a∧SqT K H a xs∧
 ¬(HT.iw xs.length 0 lo=0∧HT.iw xs.length xs.length hi=xs.length)∧∀p,H p=none→Q (.ref p) (upd H p (.tup (yq xs lo hi)))
theorem zej:SlR X (zkn X.K):=by
 intro pins s σ H x v vl vu lo hi sl Q I rx hs pl pu h;obtain⟨a,xs,rfl,hx,hw,q⟩:=h;cases rx;obtain⟨its,r,ht,hz⟩:=I.tuple hx;have hlen:its.toArray.size=xs.length:=by rw[kAe];exact r.length.symm
 refine⟨"tuple",_,PyProof.Rows.slot_tuple_getitem.lookup,ht.typeIs,?_⟩;refine HT.vb ht hs pl pu (by rw[hlen];exact hw) ?_ (by rw[hlen];exact hz);rw[hlen];refine⟨.ref s.heap.objs.size,_,I.laid (t':=s.toks) (o:=.tup (yq xs lo hi)) (λb ob q=>Heap.get?_push_of_some _ q) (kA0 _) ?_,rfl,q _ (I.hok.fresh (kA0 _))⟩;exact⟨kAn (x6 xs lo hi) hz,_,(r.drop (HT.iw xs.length 0 lo)).take (HT.iw xs.length xs.length hi - HT.iw xs.length 0 lo),IsTup.new _ _⟩
noncomputable def zg4(K:PySem.W.Frag):R2:=λx y H Q=>∃a b xs ys,x=.ref a∧y=.ref b∧SqT K H a xs∧SqT K H b ys∧xs≠[]∧xs.length+ys.length≤sizeLine∧
 (ys=[]→Q (.ref a) H)∧(ys≠[]→∀p,H p=none→Q (.ref p) (upd H p (.tup (xs++ys))))
theorem Vals.nil_iff{xs:List V}{us:List Value}(r:Vals xs us):us=[]↔xs=[]:=by
 cases r with
 |nil=>simp
 |cons _ _=>simp
theorem Xy:OpR X (binaryOp .Add) (zg4 X.K):=by
 intro pins s σ H x y v u Q I rx ry h;obtain⟨a,b,xs,ys,rfl,rfl,ha,hb,hx,hz,q1,q2⟩:=h;cases rx;cases ry;obtain⟨its,r1,p1,_⟩:=I.tuple ha;obtain⟨its2,r2,p2,_⟩:=I.tuple hb;refine HT.Wn p1 p2 (λz=>hx (r1.nil_iff.mp z)) (λz=>⟨.ref a,H,I,rfl,q1 (r2.nil_iff.mp z)⟩) (λz=>?_) (by rw[←r1.length,←r2.length];exact hz);refine⟨.ref s.heap.objs.size,_,I.laid (t':=s.toks) (o:=.tup (xs++ys)) (λb ob q=>Heap.get?_push_of_some _ q) (kA0 _) ?_,rfl,q2 (λw=>z (r2.nil_iff.mpr w)) _ (I.hok.fresh (kA0 _))⟩;exact⟨by rw[kAi];exact hz,_,r1.append r2,IsTup.new _ _⟩
end
end L2
namespace L2
open PySem PySem.Spec PyProof.Rows
noncomputable def ixN(n:Nat)(i:Int):Option Nat:=if 0≤i then(if i<n then some i.toNat else none)else if -(n:Int)≤i then some (i+n).toNat else none
noncomputable def atI{α:Type}(xs:List α)(i:Int):Option α:=(ixN xs.length i).bind λj=>xs[j]?
theorem Xa{n:Nat}{i:Int}{j:Nat}(h:ixN n i=some j):seqIndex? i n=some j∧j<n∧-(n:Int)≤i∧i<n:=by
 unfold ixN at h
 by_cases h0:0≤i
 ·rw[if_pos h0]at h
  by_cases h1:i<n
  ·rw[if_pos h1]at h;have e:i.toNat=j:=kAg.inj h;exact⟨by rw[seqIndex_of h0 h1,e],by omega,by omega,h1⟩
  ·rw[if_neg h1]at h;cases h
 ·rw[if_neg h0]at h
  by_cases h1:-(n:Int)≤i
  ·rw[if_pos h1]at h;have e:(i+n).toNat=j:=kAg.inj h;exact⟨by rw[seqIndex_neg (by omega) h1,e],by omega,h1,by omega⟩
  ·rw[if_neg h1]at h;cases h
theorem Ea{α:Type}{xs:List α}{i:Int}{v:α}(h:atI xs i=some v):∃j,seqIndex? i xs.length=some j∧xs[j]?=some v∧j<xs.length∧-(xs.length:Int)≤i∧i<xs.length:=by
 unfold atI at h;cases e:ixN xs.length i with
 |none=>rw[e]at h;cases h
 |some j=>
  rw[e]at h;obtain⟨h1,h2,h3,h4⟩:=Xa e;exact⟨j,h1,h,h2,h3,h4⟩
theorem y0{α:Type}{xs:List α}{j:Nat}{v:α}(h:xs[j]?=some v):atI xs (j:Int)=some v:=by
 have hj:j<xs.length:=(kAh.mp h).1;have e:ixN xs.length (j:Int)=some j:=by
  unfold ixN;rw[if_pos (by omega),if_pos (by omega)];simp
 unfold atI;rw[e];exact h
def D5(b:Expr):Prop:=∀o i,subscripted b false o i=operate [o,i] (getItem o i)
noncomputable def IxR(X:Cx)(r:R2):Prop:=
 ∀(value slice:Expr)(pins:List (Addr×Obj))(s:Shared)(σ:St)(H:Hp)(x y:V)(v u:Value)(Q:VK),Inv X pins σ H s→RelV x v→RelV y u→r x y H Q→
  subscripted slice false v u=operate [v,u] (getItem v u)→wpAny (model X.prog X.w) X.A (subscriptTail value slice v u) (EP X pins σ Q) X.xe s
noncomputable def MtR(X:Cx)(id:String)(r:V→List V→Hp→VK→Prop):Prop:=
 ∀(pins:List (Addr×Obj))(s:Shared)(σ:St)(H:Hp)(x:V)(xs:List V)(v:Value)(us:List Value)(Q:VK),Inv X pins σ H s→RelV x v→Vals xs us→r x xs H Q→
  wpAny (model X.prog X.w) X.A (call (.builtin id) (v::us)) (EP X pins σ Q) X.xe s
section
variable{X:Cx}{a b:Expr}{ta tb:TE}{pos:Pos}
theorem IxR.or{r r':R2}(h:IxR X r)(h':IxR X r'):IxR X (λx y H Q=>r x y H Q∨r' x y H Q):=by
 intro value slice pins s σ H x y v u Q I rx ry q hs;rcases q with q|q
 ·exact h value slice pins s σ H x y v u Q I rx ry q hs
 ·exact h' value slice pins s σ H x y v u Q I rx ry q hs
theorem MtR.or{id:String}{r r':V→List V→Hp→VK→Prop}(h:MtR X id r)(h':MtR X id r'):MtR X id (λx xs H Q=>r x xs H Q∨r' x xs H Q):=by
 intro pins s σ H x xs v us Q I rx rs q;rcases q with q|q
 ·exact h pins s σ H x xs v us Q I rx rs q
 ·exact h' pins s σ H x xs v us Q I rx rs q
theorem zgn{r:R2}(hr:IxR X r)(ha:PE X a ta)(hb:PE X b tb)(hs:D5 b):PE X (.Subscript a b pos) (tOp r ta tb):=by
 intro pins s σ H Q I h;exact Subscript_ (zbl ha hb I h λv u s2 x y H2 I2 rx ry q=>hr a b pins s2 σ H2 x y v u Q I2 rx ry q (hs _ _))
noncomputable def zg7(K:PySem.W.Frag):R2:=λx y H Q=>∃p xs i v,x=.ref p∧y=.int i∧SqL K H p xs∧atI xs i=some v∧Q v H
noncomputable def zg9(K:PySem.W.Frag):R2:=λx y H Q=>∃p xs i v,x=.ref p∧y=.int i∧SqT K H p xs∧atI xs i=some v∧Q v H
noncomputable def zg8:R2:=λx y H Q=>∃z i c,x=.str z∧y=.int i∧z.length≤sizeLine∧atI z.cps.toList i=some c∧Q (.str ⟨#[c]⟩) H
theorem vd:IxR X (zg7 X.K):=by
 intro value slice pins s σ H x y v u Q I rx ry h hs;obtain⟨p,xs,i,z,rfl,rfl,hq,he,q⟩:=h;cases rx;obtain⟨t,rfl⟩:=ry;obtain⟨its,r,pl,hz⟩:=I.list hq;obtain⟨j,h1,h2,h3,h4,h5⟩:=Ea he;obtain⟨w,ew,rw'⟩:=r.get h2;have hl:=r.length;have hn:=Aw;have fin:EP X pins σ Q w s:=⟨z,H,I,rw',q⟩
 by_cases h0:0≤i
 ·have hj:i.toNat=j:=by
   rw[seqIndex_of h0 h5]at h1;exact kAg.inj h1
  exact item_listR pl.isList h0 (by omega) (by rw[hj];simpa using ew) fin hs
 ·have hj:(i+(its.toArray.size:Int)).toNat=j:=by
   rw[seqIndex_neg (by omega) h4]at h1;rw[kAe,←hl];exact kAg.inj h1
  exact subscriptTail_builtinR (x:=w) pl.isList.typeIs slot_list_getitem.lookup
   (wpAny_getItem_list_neg (Q:=λr s'=>r=w∧EP X pins σ Q r s') pl.isList (by omega) (by rw[kAe]<;>omega) (by omega) (by rw[hj];simpa using ew) ⟨rfl,fin⟩) hs
theorem zb8:IxR X (zg9 X.K):=by
 intro value slice pins s σ H x y v u Q I rx ry h hs;obtain⟨p,xs,i,z,rfl,rfl,hq,he,q⟩:=h;cases rx;obtain⟨t,rfl⟩:=ry;obtain⟨its,r,pl,hz⟩:=I.tuple hq;obtain⟨j,h1,h2,h3,h4,h5⟩:=Ea he;obtain⟨w,ew,rw'⟩:=r.get h2;have hl:=r.length;have hn:=Aw;have fin:EP X pins σ Q w s:=⟨z,H,I,rw',q⟩;exact subscriptTail_builtinR (x:=w) pl.typeIs slot_tuple_getitem.lookup
  (getItem_tuple (j:=j) (Q:=λr s'=>r=w∧EP X pins σ Q r s') pl (by omega) (by omega) (by rw[kAe,←hl];exact h1) (by simpa using ew) ⟨rfl,fin⟩) hs
theorem zb7:IxR X zg8:=by
 intro value slice pins s σ H x y v u Q I rx ry h hs;obtain⟨z,i,c,rfl,rfl,hz,he,q⟩:=h;obtain⟨t,rfl⟩:=rx;obtain⟨t',rfl⟩:=ry;obtain⟨j,h1,h2,h3,h4,h5⟩:=Ea he;have hl:z.cps.toList.length=z.length:=by simp[Str.length]
 rw[hl]at h1 h4 h5;have hn:=Aw;exact tail_any (typeIs_str s z t) slot_str_getitem.lookup (getItem_str (c:=c) (by
  have e1:decide (i< -(2 ^ 63:Int))=false:=decide_eq_false (by omega);have e2:decide (i≥2 ^ 63)=false:=decide_eq_false (by omega);rw[e1,e2,Bool.or_false]) (by rw[h1];simpa using h2) ⟨.str ⟨#[c]⟩,H,I.tok _,⟨_,rfl⟩,q⟩) hs
noncomputable def rIx(K:PySem.W.Frag):R2:=λx y H Q=>zg7 K x y H Q∨zg9 K x y H Q∨zg8 x y H Q
theorem zb6:IxR X (rIx X.K):=vd.or (zb8.or zb7)
theorem Inv.lst{pins:List (Addr×Obj)}{σ:St}{H:Hp}{s:Shared}{p:Addr}{xs:List V}(I:Inv X pins σ H s)(h:H p=some (.lst xs)):
  ∃(its:List Value) (n:Nat),Vals xs its∧s.heap.get? p=some {cls:=.type "list",data:=.seq its.toArray n}∧xs.length≤sizeLine:=by
 obtain⟨z,its,n,r,e⟩:=I.hok p _ h;exact⟨its,n,r,e,z⟩
theorem Fx(lo hi:Option Int)(n:Nat):(sliceBounds lo hi none n).1=((HT.iw n 0 lo:Nat):Int)∧(sliceBounds lo hi none n).2.1=((HT.iw n n hi:Nat):Int)∧(sliceBounds lo hi none n).2.2=1:=by
 refine⟨?_,?_,rfl⟩
 ·cases lo with
  |none=>simp[sliceBounds,HT.iw]
  |some i=>
   simp only[sliceBounds,HT.iw,Option.getD_none,show(1:Int)>0 by decide,if_true]
   by_cases h:i<0
   ·simp only[h,if_true]<;>omega
   ·simp only[h,if_false]<;>omega
 ·cases hi with
  |none=>simp[sliceBounds,HT.iw]
  |some i=>
   simp only[sliceBounds,HT.iw,Option.getD_none,show(1:Int)>0 by decide,if_true]
   by_cases h:i<0
   ·simp only[h,if_true]<;>omega
   ·simp only[h,if_false]<;>omega
theorem Ct(its:List Value)(lo hi:Option Int):slicePick its.toArray lo hi none=((its.drop (HT.iw its.length 0 lo)).take (HT.iw its.length its.length hi - HT.iw its.length 0 lo)).toArray:=by
 obtain⟨h1,h2,h3⟩:=Fx lo hi its.toArray.size;unfold slicePick;rw[h1,h2,h3];simp only[sliceRange_one,pick_run,kAe]<;>rfl
noncomputable def zkm(K:PySem.W.Frag):V→Option Int→Option Int→Hp→VK→Prop:=λx lo hi H Q=>∃a xs,x=.ref a∧SqL K H a xs∧∀p,H p=none→Q (.ref p) (upd H p (.lst (yq xs lo hi)))
theorem Zf:SlR X (zkm X.K):=by
 intro pins s σ H x v vl vu lo hi sl Q I rx hs pl pu h;obtain⟨a,xs,rfl,hx,q⟩:=h;cases rx;obtain⟨its,r,ht,hz⟩:=I.list hx;have hlen:=r.length;refine⟨"list",_,slot_list_getitem.lookup,ht.isList.typeIs,?_⟩;refine wpAny_getItem_list_slice ht.isList hs pl pu .none (by simp) ?_ (by rw[kAe]<;>omega);rw[Ct,←hlen];refine⟨.ref s.heap.objs.size,_,I.laid (t':=s.toks) (o:=.lst (yq xs lo hi)) (λb ob q=>Heap.get?_push_of_some _ q) (kA0 _) ?_,rfl,q _ (I.hok.fresh (kA0 _))⟩;exact⟨kAn (x6 xs lo hi) hz,_,0,(r.drop (HT.iw xs.length 0 lo)).take (HT.iw xs.length xs.length hi - HT.iw xs.length 0 lo),Heap.get?_push_size _ rfl⟩
theorem CallR.or{f:Value}{r r':List V→Hp→VK→Prop}(h:CallR X f r)(h':CallR X f r'):CallR X f (λxs H Q=>r xs H Q∨r' xs H Q):=by
 intro pins s σ H xs us Q I rs q;rcases q with q|q
 ·exact h pins s σ H xs us Q I rs q
 ·exact h' pins s σ H xs us Q I rs q
theorem Ee:CallR X (.type "list") (λxs H Q=>∃p ys,xs=[.ref p]∧(SqL X.K H p ys∨SqT X.K H p ys)∧∀l,H l=none→Q (.ref l) (upd H l (.lst ys))):=by
 intro pins s σ H xs us Q I r h;obtain⟨p,ys,rfl,hq,q⟩:=h;obtain⟨u,rfl,rx⟩:=we r;cases rx;have fin:∀(its:List Value),Vals ys its→ys.length≤sizeLine→∀(h':Heap)(c':Nat),(∀b o',s.heap.get? b=some o'→h'.get? b=some o')→
   h'.get? s.heap.objs.size=some {cls:=.type "list",dict:=none,data:=.seq its.toArray c',slots:=#[]}→EP X pins σ Q (.ref s.heap.objs.size) {s with heap:=h'}:=λits r' hz h' c' kp e=>
  ⟨.ref s.heap.objs.size,_,I.laid (t':=s.toks) kp (kA0 _) (show ObjOk X.prog X.w _ h' _ (.lst ys)from⟨hz,its,c',r',e⟩),rfl,q _ (I.hok.fresh (kA0 _))⟩
 rcases hq with hq|hq
 ·obtain⟨its,r',pl,hz⟩:=I.list hq;have hlen:=r'.length;obtain⟨o,ho,hc,n,hd⟩:=pl.isList;exact call_list_seq p (.inl rfl) ho hc hd (λh' c' kp e=>fin its r' hz h' c' kp e) (by simp only[kAe]<;>omega)
 ·obtain⟨its,r',pl,hz⟩:=I.tuple hq;have hlen:=r'.length;obtain⟨o,ho,hc,n,hd⟩:=pl;exact call_list_seq p (.inr rfl) ho hc hd (λh' c' kp e=>fin its r' hz h' c' kp e) (by simp only[kAe]<;>omega)
theorem Ca:CallR X (.type "tuple") (λxs H Q=>∃p ys,xs=[.ref p]∧((SqL X.K H p ys∧∀l,H l=none→Q (.ref l) (upd H l (.tup ys)))∨(SqT X.K H p ys∧Q (.ref p) H))):=by
 intro pins s σ H xs us Q I r h;obtain⟨p,ys,rfl,h⟩:=h;obtain⟨u,rfl,rx⟩:=we r;cases rx;rcases h with ⟨hq,q⟩|⟨hq,q⟩
 ·obtain⟨its,r',pl,hz⟩:=I.list hq;have hlen:=r'.length;refine call_tuple_list pl.isList (λh' kp=>?_) (by simp only[kAe]<;>omega);have I1:Inv X pins σ H {s with heap:=h'}:=I.kept (t':=s.toks) kp;have I2:Inv X pins σ (upd H h'.objs.size (.tup ys)) {s with heap:=h'.push {cls:=.type "tuple",data:=.seq its.toArray}}:=
   I1.laid (t':=s.toks) (λb o e=>Heap.get?_push_of_some _ e) (kA0 _) (show ObjOk X.prog X.w _ _ _ (.tup ys)from⟨hz,its,r',IsTup.new _ _⟩)
  exact⟨.ref h'.objs.size,_,I2,rfl,q _ (I1.hok.fresh (kA0 _))⟩
 ·obtain⟨its,r',pl,hz⟩:=I.tuple hq;exact call_tuple_same pl ⟨.ref p,H,I,rfl,q⟩
def tyV(K:PySem.W.Frag)(T:String)(x:V)(H:Hp):Prop:=match x with
 |.str _=>T="str"
 |.int _=>T="int"
 |.ref p=>(T="list"∧∃xs,SqL K H p xs)∨(T="tuple"∧∃o,K.lookup p=some o∧o.cls=.type "tuple"∧o.dict=none)∨
   (T="dict"∧((∃kvs,H p=some (.dK kvs))∨∃kvs,H p=some (.dT kvs)))∨(T="set"∧∃S n,H p=some (.set S n))
 |_=>False
theorem ze1{pins:List (Addr×Obj)}{σ:St}{H:Hp}{s:Shared}{T:String}{x:V}{v:Value}(I:Inv X pins σ H s)(r:RelV x v)(ty:tyV X.K T x H):
  s.TypeIs v T∧∀a,v=.ref a→∃ob,s.heap.get? a=some ob∧ob.dict=none:=by
 cases x with
 |str z=>
  obtain⟨t,rfl⟩:=r;cases (show T="str" from ty);exact⟨typeIs_str s z t,λ_ e=>nomatch e⟩
 |int i=>
  obtain⟨t,rfl⟩:=r;cases (show T="int" from ty);exact⟨typeIs_int s i t,λ_ e=>nomatch e⟩
 |ref p=>
  cases r;rcases ty with ⟨rfl,xs,hq⟩|⟨rfl,o,hk,hc,hd⟩|⟨rfl,hk⟩|⟨rfl,S,n,hk⟩
  ·obtain⟨its,_,pl,_⟩:=I.list hq;refine⟨pl.isList.typeIs,λa e=>?_⟩;cases e;obtain⟨o,n,e,c,hd,_⟩:=pl;exact⟨o,e,hd⟩
  ·refine⟨⟨o,I.kIn p o hk,hc⟩,λa e=>?_⟩;cases e;exact⟨o,I.kIn _ o hk,hd⟩
  ·have z:∃o,s.heap.get? p=some o∧o.ExactDict:=by
    rcases hk with ⟨kvs,hk⟩|⟨kvs,hk⟩
    ·obtain⟨_,_,_,_,o,_,_,e,ex,_⟩:=I.hok p _ hk;exact⟨o,e,ex⟩
    ·obtain⟨_,_,_,_,o,_,_,e,ex,_⟩:=I.hok p _ hk;exact⟨o,e,ex⟩
   obtain⟨o,e,ex⟩:=z;refine⟨⟨o,e,ex.1⟩,λa e2=>?_⟩;cases e2;exact⟨o,e,ex.2.1⟩
  ·obtain⟨o,_,_,_,e,ex,_⟩:=I.hok p _ hk;refine⟨⟨o,e,ex.1⟩,λa e2=>?_⟩;cases e2;exact⟨o,e,ex.2.1⟩
 |_=>exact False.elim ty
noncomputable def tBM(K:PySem.W.Frag)(T:String)(r:V→List V→Hp→VK→Prop)(to:TE)(t:TA):TE:=λσ H Q=>to σ H λx H1=>tyV K T x H1∧t σ H1 λxs H2=>r x xs H2 Q
variable{o e:Expr}{es:List Expr}{to:TE}{t:TA}{name:Str}{apos cpos:Pos}{T id:String}{r:V→List V→Hp→VK→Prop}
theorem Tu(pa:PlainAttrs T)(slot:Slot T name id)(hty:typeOf (.builtin id)=pure (.type "method_descriptor"))(hm:MtR X id r)(ho:PE X o to)(ha:PA X (e::es) t)
  (hbase:attributeBase o name X.env (eval o X.env)=eval o X.env:=by rfl)
  (hfew:((backTo cpos (starEach (e::es) X.env)).all (λx=> !x.1) && (backToKw cpos (keywordEach [] X.env)).all (λx=>x.1.isSome)
   && decide ((e::es).length+([]:List Keyword).length+(if([]:List Keyword).isEmpty then 0 else 1)<30))=true:=by rfl)
  (hline:(apos.endLine==cpos.line)=true:=by rfl) (hs:starEach (e::es) X.env=(false,eval e X.env)::starEach es X.env:=by rfl) (hplain:(backTo cpos (starEach es X.env)).any (·.1)=false:=by rfl):
  PE X (.Call (.Attribute o name apos) (e::es) [] cpos) (tBM X.K T r to t):=by
 intro pins s σ H Q I h;refine wpAny_Call_method_late hbase hfew hline rfl (gx (ho pins s σ H _ I h) λv s1 ⟨x,H1,I1,r1,ty,q1⟩=>?_);obtain⟨h1,h2⟩:=ze1 I1 r1 ty;refine⟨T,id,pa,slot,hty,h1,h2,?_⟩;have hA:=ha cpos pins s1 σ H1 _ I1 q1;rw[hs]at hA⊢;refine Calls.callWith_builtin (by show(false||(backTo cpos (starEach es X.env)).any (·.1))=false;rw[hplain]<;>rfl) (Calls.evalArgs_plain ?_);exact gx hA λus s2 ⟨vs,H2,I2,r2,q2⟩=>hm pins s2 σ H2 x vs v us Q I2 r1 r2 q2
end
end L2
namespace L2
open PySem PySem.Spec PyProof.Rows
noncomputable def MtM(X:Cx)(id:String)(r:V→List V→Hp→VK→Prop):Prop:=
 ∀(pins:List (Addr×Obj))(s:Shared)(σ:St)(H:Hp)(x:V)(xs:List V)(v:Value)(us:List Value)(Q:VK),Inv X pins σ H s→RelV x v→Vals xs us→r x xs H Q→
  wpAny (model X.prog X.w) X.A (call (.builtin id) (v::us)) (EP X pins σ Q) X.xe s
theorem Vals.one:∀{x:V}{us:List Value},Vals [x] us→∃u,us=[u]∧RelV x u
 |_,_,.cons r .nil=>⟨_,rfl,r⟩
theorem Vals.two:∀{x y:V}{us:List Value},Vals [x,y] us→∃u v,us=[u,v]∧RelV x u∧RelV y v
 |_,_,_,.cons r (.cons q .nil)=>⟨_,_,rfl,r,q⟩
theorem Vals.zero:∀{us:List Value},Vals [] us→us=[]
 |_,.nil=>rfl
theorem Vals.eraseIdx:∀{xs:List V}{us:List Value}(i:Nat),Vals xs us→Vals (xs.eraseIdx i) (us.eraseIdx i)
 |_,_,_,.nil=>.nil
 |_,_,0,.cons _ t=>t
 |_,_,i+1,.cons r t=>.cons r (Vals.eraseIdx i t)
theorem Vals.reverse{xs:List V}{us:List Value}(h:Vals xs us):Vals xs.reverse us.reverse:=by
 induction h with
 |nil=>exact .nil
 |cons r t ih=>rw[List.reverse_cons,List.reverse_cons];exact Vals.append ih (.cons r .nil)
theorem Vals.rep{xs:List V}{us:List Value}(h:Vals xs us):∀k:Nat,Vals (kA2 k xs).flatten (kA2 k us).flatten
 |0=>.nil
 |k+1=>by
  rw[List.replicate_succ,List.replicate_succ,List.flatten_cons,List.flatten_cons];exact Vals.append h (Vals.rep h k)
theorem mz(its:List Value):∀(k:Nat)(acc:List Value),
  List.foldl (λx1 x2=>x1++x2) acc.toArray (kA2 k its.toArray)=(acc++(kA2 k its).flatten).toArray
 |0,acc=>by simp
 |k+1,acc=>by
  have e:acc.toArray++its.toArray=(acc++its).toArray:=by simp
  have e2:(acc++its)++(kA2 k its).flatten=acc++(kA2 (k+1) its).flatten:=by
   rw[List.replicate_succ,List.flatten_cons,List.append_assoc]
  rw[←e2,←mz its k (acc++its),←e,List.replicate_succ,List.foldl_cons]
section
variable{X:Cx}{pins:List (Addr×Obj)}{σ:St}{H:Hp}{s:Shared}{l b:Addr}{xs ys zs:List V}
theorem Inv.lset{its its':List Value}{n:Nat}{f:Array Value→Array Value}{t':Nat}(I:Inv X pins σ H s)(hH:H l=some (.lst xs))
  (e:s.heap.get? l=some {cls:=.type "list",data:=.seq its.toArray n})(hf:f its.toArray=its'.toArray)(hv:Vals ys its')(hz:ys.length≤sizeLine):
  Inv X pins σ (upd H l (.lst ys)) {s with heap:=s.heap.update l (Obj.mapSeq f),toks:=t'}:=by
 have q:=PySem.IsL.update e f;rw[hf]at q;refine I.write (x:=l) (e:=l) (by rw[hH];exact trivial) (.inl rfl) (λb' u hb hu=>(Heap.get?_update_other s.heap (Obj.mapSeq f) (Ne.symm hb)).trans hu) ⟨_,q⟩ ?_;exact⟨hz,its',_,hv,q⟩
theorem Inv.lnew{its:List Value}{t':Nat}(I:Inv X pins σ H s)(hv:Vals ys its)(hz:ys.length≤sizeLine):
  Inv X pins σ (upd H s.heap.objs.size (.lst ys)) {s with heap:=s.heap.push {cls:=.type "list",data:=.seq its.toArray},toks:=t'}:=
 I.laid (λ_ _ q=>Heap.get?_push_of_some _ q) (kA0 _) ⟨hz,its,0,hv,Heap.get?_push_size _ rfl⟩
theorem Inv.fresh(I:Inv X pins σ H s):H s.heap.objs.size=none:=I.hok.fresh (kA0 _)
theorem Inv.lstM(I:Inv X pins σ H s)(hH:H l=some (.lst xs)):xs.length≤sizeLine∧∃(its:List Value) (n:Nat),Vals xs its∧xs.length=its.length∧s.heap.get? l=some {cls:=.type "list",data:=.seq its.toArray n}:=by
 obtain⟨z,its,n,r,e⟩:=I.hok l _ hH;exact⟨z,its,n,r,r.length,e⟩
theorem A5{n:Nat}(h:n≤sizeLine):Builtin.List.listTooLong n=false:=by
 unfold Builtin.List.listTooLong;exact decide_eq_false (by omega)
end
section
variable{X:Cx}
noncomputable def Y1:V→List V→Hp→VK→Prop:=λx vs H Q=>∃l xs y,x=.ref l∧vs=[y]∧H l=some (.lst xs)∧xs.length<sizeLine∧Q .non (upd H l (.lst (xs++[y])))
theorem Dn:MtM X "list.append" Y1:=by
 intro pins s σ H x vs v us Q I rx rv h;obtain⟨l,xs,y,rfl,rfl,hH,hz,q⟩:=h;cases rx;obtain⟨u,rfl,ru⟩:=rv.one;obtain⟨z,its,n,r,hl,e⟩:=I.lstM hH;refine call_meets F.slot_list_append ⟨_,e,rfl⟩ F.entry_list_append (F.args_list_append_2 _ _) (PySem.list_append l its.toArray n u (by rw[kAe];omega)) ⟨e,?_⟩;refine⟨.non,_,I.lset (its':=its++[u]) hH e (by simp) (r.append (.cons ru .nil)) ?_,rfl,q⟩;rw[kAi,List.length_singleton];omega
noncomputable def zkl:R2:=λx y H Q=>∃l k xs,x=.ref l∧y=.int k∧H l=some (.lst xs)∧-(2 ^ 63)≤k∧k<2 ^ 63∧xs.length * k.toNat≤sizeLine∧
 ∀p,H p=none→Q (.ref p) (upd H p (.lst (kA2 k.toNat xs).flatten))
theorem y9{α:Type}(xs:List α)(k:Nat):(kA2 k xs).flatten.length=k * xs.length:=by
 induction k with
 |zero=>simp
 |succ k ih=>rw[List.replicate_succ,List.flatten_cons,kAi,ih,Nat.succ_mul,Nat.add_comm]
theorem zcu:OpR X (binaryOp .Mult) zkl:=by
 intro pins s σ H x y v u Q I rx ry h;obtain⟨l,k,xs,rfl,rfl,hH,h1,h2,hz,q⟩:=h;cases rx;obtain⟨t,rfl⟩:=ry;obtain⟨z,its,n,r,hl,e⟩:=I.lstM hH;have hlen:its.toArray.size * k.toNat≤sizeLine:=by rw[kAe,←hl];exact hz
 have hcap:¬its.toArray.size * k.toNat>(2 ^ 63 - 1) / 8:=by
  have:(sizeLine:Nat)≤(2 ^ 63 - 1) / 8:=by decide
  omega
 have hfit:¬(!Builtin.List.listFitsIndex k)=true:=by
  rw[fitsIndex_both h1 h2];exact kB7
 have hlong:¬Builtin.List.listTooLong (its.toArray.size * k.toNat)=true:=by
  rw[A5 hlen];exact kB7
 have hnew:List.foldl (λx1 x2=>x1++x2) #[] (kA2 (if its.toArray.isEmpty=true then 0 else k.toNat) its.toArray)=(kA2 k.toNat its).flatten.toArray:=by
  have f0:∀m:Nat,List.foldl (λx1 x2=>x1++x2) #[] (kA2 m its.toArray)=(kA2 m its).flatten.toArray:=λm=>by
   have:=mz its m [];rw[List.nil_append]at this;exact this
  rw[f0];cases its with
  |nil=>simp
  |cons a r'=>rw[if_neg (by simp)]
 refine wpAny_binaryOp_repeat_ref (T:="list") (U:="int") (by decide) ⟨_,e,rfl⟩ (λs'=>typeIs_int s' k t) noFill_list_mul F.fills_int_mul F.slot_int_rmul repeat_list F.slot_int_index.lookup
  (call_meets F.slot_int_rmul (typeIs_int s k t) F.entry_int_rmul (F.args_int_rmul_2 _ _) (int___rmul___int_list k t l its.toArray n)
   ⟨e,rfl,⟨_,e,rfl⟩,call_meets F.slot_list_mul ⟨_,e,rfl⟩ F.entry_list_mul (F.args_list_mul_2 _ _) (AutoListH.list___mul___list_int_3 l its.toArray n k t hfit hcap hlong) ⟨e,?_⟩⟩)
 rw[hnew];exact⟨.ref _,_,I.lnew (t':=s.toks) (r.rep k.toNat) (by rw[y9,Nat.mul_comm];exact hz),rfl,q _ I.fresh⟩
end
end L2
namespace L2
open PySem PySem.Spec PyProof.Rows
section
variable{κ:Type}[DecidableEq κ]
noncomputable def ky(kvs:List (κ×V))(k:κ):Option V:=(kvs.find? λkv=>decide (kv.1=k)).map (·.2)
noncomputable def o7(kvs:List (κ×V))(k:κ)(v:V):List (κ×V):=
 if(kvs.any λkv=>decide (kv.1=k))=true then kvs.map (λkv=>if kv.1=k then(kv.1,v)else kv)else kvs++[(k,v)]
noncomputable def zad(kvs:List (κ×V))(k:κ):List (κ×V):=kvs.filter λkv=>decide (kv.1≠k)
theorem Jt{k:κ}:ky ([]:List (κ×V)) k=none:=rfl
theorem rf{p:κ×V}{r:List (κ×V)}{k:κ}(e:p.1=k):ky (p::r) k=some p.2:=by simp[ky,List.find?_cons,e]
theorem lb{p:κ×V}{r:List (κ×V)}{k:κ}(e:¬p.1=k):ky (p::r) k=ky r k:=by simp[ky,List.find?_cons,e]
theorem Js(k:κ):∀kvs:List (κ×V),(kvs.any λkv=>decide (kv.1=k))=(ky kvs k).isSome
 |[]=>rfl
 |p::r=>by
  rw[List.any_cons]
  by_cases e:p.1=k
  ·simp only[rf e,decide_eq_true e,Bool.true_or,Option.isSome_some]
  ·rw[lb e,decide_eq_false e,Bool.false_or];exact Js k r
theorem qa(kvs:List (κ×V))(k:κ)(v:V):(o7 kvs k v).length≤kvs.length+1:=by
 unfold o7;split
 ·rw[kA3];omega
 ·rw[kAi,kA7,List.length_nil];omega
theorem RelO.isSome_eq{o:Option V}{u:Option Value}(r:RelO o u):o.isSome=u.isSome:=by
 cases o with
 |none=>cases u with
  |none=>rfl
  |some _=>exact(show False from r).elim
 |some _=>cases u with
  |none=>exact(show False from r).elim
  |some _=>rfl
theorem RelO.getD{o:Option V}{u:Option Value}{d:V}{d':Value}(r:RelO o u)(rd:RelV d d'):RelV (o.getD d) (u.getD d'):=by
 cases o with
 |none=>cases u with
  |none=>exact rd
  |some _=>exact(show False from r).elim
 |some _=>cases u with
  |none=>exact(show False from r).elim
  |some _=>exact r
theorem KV.val{kvs:List (κ×V)}{vs:List (κ×Value)}(r:KV kvs vs)(k:κ):RelO (ky kvs k) (valueAt vs k):=by
 unfold KV at r;induction r with
 |nil=>exact True.intro
 |@cons p q ps qs h t ih=>
  obtain⟨h1,h2⟩:=h
  by_cases e:p.1=k
  ·have e':q.1=k:=h1.symm.trans e;have b:valueAt (q::qs) k=some q.2:=by simp[valueAt,List.find?_cons,e']
   rw[rf e,b];exact h2
  ·have e':¬q.1=k:=λz=>e (h1.trans z);have b:valueAt (q::qs) k=valueAt qs k:=by simp[valueAt,List.find?_cons,e']
   rw[lb e,b];exact ih
theorem KV.any{kvs:List (κ×V)}{vs:List (κ×Value)}(r:KV kvs vs)(k:κ):(kvs.any λkv=>decide (kv.1=k))=vs.any λkv=>decide (kv.1=k):=by
 unfold KV at r;induction r with
 |nil=>rfl
 |cons h t ih=>rw[List.any_cons,List.any_cons,ih,h.1]
theorem KV.repl{kvs:List (κ×V)}{vs:List (κ×Value)}(r:KV kvs vs)(k:κ){y:V}{u:Value}(ry:RelV y u):
  KV (kvs.map λkv=>if kv.1=k then(kv.1,y)else kv) (vs.map λkv=>if kv.1=k then(kv.1,u)else kv):=by
 unfold KV at r⊢;induction r with
 |nil=>exact .nil
 |@cons p q ps qs h t ih=>
  rw[kA4,kA4];refine .cons ?_ ih;obtain⟨h1,h2⟩:=h
  by_cases e:p.1=k
  ·rw[if_pos e,if_pos (h1.symm.trans e)];exact⟨h1,ry⟩
  ·rw[if_neg e,if_neg (λz=>e (h1.trans z))];exact⟨h1,h2⟩
theorem KV.put{kvs:List (κ×V)}{vs:List (κ×Value)}(r:KV kvs vs)(k:κ){y:V}{u:Value}(ry:RelV y u):KV (o7 kvs k y) (stored vs k u):=by
 unfold o7 stored;rw[r.any k]
 by_cases e:(vs.any λkv=>decide (kv.1=k))=true
 ·rw[if_pos e,if_pos e];exact r.repl k ry
 ·rw[if_neg e,if_neg e];exact Paired.snoc r ⟨rfl,ry⟩
theorem KV.drop{kvs:List (κ×V)}{vs:List (κ×Value)}(r:KV kvs vs)(k:κ):KV (zad kvs k) (without vs k):=by
 unfold KV at r⊢;unfold zad without;induction r with
 |nil=>exact .nil
 |@cons p q ps qs h t ih=>
  obtain⟨h1,h2⟩:=h;rw[List.filter_cons,List.filter_cons]
  by_cases e:p.1=k
  ·have a:¬decide (p.1≠k)=true:=by simp[e]
   have b:¬decide (q.1≠k)=true:=by simp[h1.symm.trans e]
   rw[if_neg a,if_neg b];exact ih
  ·have e':¬q.1=k:=λz=>e (h1.trans z);have a:decide (p.1≠k)=true:=by simp[e]
   have b:decide (q.1≠k)=true:=by simp[e']
   rw[if_pos a,if_pos b];exact .cons ⟨h1,h2⟩ ih
theorem KV.keys{kvs:List (κ×V)}{vs:List (κ×Value)}(r:KV kvs vs):kvs.map (·.1)=vs.map (·.1):=by
 unfold KV at r;induction r with
 |nil=>rfl
 |cons h t ih=>rw[kA4,kA4,ih,h.1]
theorem KV.length{kvs:List (κ×V)}{vs:List (κ×Value)}(r:KV kvs vs):kvs.length=vs.length:=Paired.length r
end
theorem Dh{P:Program}{w:World}{k:fo}{u:Value}(r:RelV (kV k) u):(bq P w).is k u=true:=by
 cases k with
 |inl i=>obtain⟨t,e⟩:=(show∃t,u=Value.int i t from r);subst e;exact Ic P w i t
 |inr x=>obtain⟨t,e⟩:=(show∃t,u=Value.str x t from r);subst e;exact Ie P w x t
theorem Df{P:Program}{w:World}:∀{ks:List fo}{us:List Value},Vals (ks.map kV) us→ItemsAre (bq P w) ks us
 |[],_,r=>by rw[List.map_nil]at r;cases r;exact .nil
 |k::ks,_,r=>by
  rw[kA4]at r;cases r with
  |cons h t=>exact .cons (Dh h) (Df t)
noncomputable abbrev KT(H:Hp):List (az×V)→List (az×Addr×Value)→Prop:=Paired λp q=>p.1=q.1∧TkAt H p.1 q.2.1∧RelV p.2 q.2.2
theorem KT.val{H:Hp}{kvs:List (az×V)}{xs:List (az×Addr×Value)}(r:KT H kvs xs)(k:az):RelO (ky kvs k) ((atKey xs k).map (·.2)):=by
 induction r with
 |nil=>exact True.intro
 |@cons p q ps qs h t ih=>
  obtain⟨h1,_,h2⟩:=h
  by_cases e:p.1=k
  ·have e':q.1=k:=h1.symm.trans e;have b:atKey (q::qs) k=some q.2:=by simp[atKey,List.find?_cons,e']
   rw[rf e,b];exact h2
  ·have e':¬q.1=k:=λz=>e (h1.trans z);have b:atKey (q::qs) k=atKey qs k:=by simp[atKey,List.find?_cons,e']
   rw[lb e,b];exact ih
theorem KT.repl{H:Hp}{kvs:List (az×V)}{xs:List (az×Addr×Value)}(r:KT H kvs xs)(k:az){y:V}{u:Value}(ry:RelV y u):
  KT H (kvs.map λkv=>if kv.1=k then(kv.1,y)else kv) (xs.map (putAt k u)):=by
 induction r with
 |nil=>exact .nil
 |@cons p q ps qs h t ih=>
  rw[kA4,kA4];refine .cons ?_ ih;obtain⟨h1,h2,h3⟩:=h;unfold putAt
  by_cases e:p.1=k
  ·rw[if_pos e,if_pos (h1.symm.trans e)];exact⟨h1,h2,ry⟩
  ·rw[if_neg e,if_neg (λz=>e (h1.trans z))];exact⟨h1,h2,h3⟩
theorem KT.put{H:Hp}{kvs:List (az×V)}{xs:List (az×Addr×Value)}(r:KT H kvs xs)(k:az){b:Addr}{y:V}{u:Value}(hb:TkAt H k b)(ry:RelV y u):
  KT H (o7 kvs k y) (storedH xs k b u):=by
 have e:(kvs.any λkv=>decide (kv.1=k))=(atKey xs k).isSome:=by
  rw[Js,(r.val k).isSome_eq,Option.isSome_map]
 unfold o7 storedH;rw[e]
 by_cases q:(atKey xs k).isSome=true
 ·rw[if_pos q,if_pos q];exact r.repl k ry
 ·rw[if_neg q,if_neg q];exact Paired.snoc r ⟨rfl,hb,ry⟩
theorem KT.keeps{H H':Hp}{kvs:List (az×V)}{xs:List (az×Addr×Value)}(r:KT H kvs xs)(ht:∀b ys,H b=some (.tup ys)→H' b=some (.tup ys)):KT H' kvs xs:=
 Paired.mapP r λ_ _ z=>⟨z.1,z.2.1.mono ht,z.2.2⟩
section
variable{P:Program}{w:World}{H:Hp}{h:Heap}{a:Addr}
theorem zat{u:HO}(ok:HOk P w H h)(e:Rd H a u):ObjOk P w H h a u:=e.ok ok
theorem Gx{kvs:List (fo×V)}(ok:HOk P w H h)(e:Rd H a (.dK kvs)):kvs.length≤sizeLine∧(a==sysModules)=false∧∃vs,KV kvs vs∧h.DictOf (bq P w) a vs:=
 show ObjOk P w H h a (.dK kvs)from zat ok e
theorem Rk{kvs:List (fo×V)}(ok:HOk P w H h)(e:H a=some (.dK kvs)):kvs.length≤sizeLine∧(a==sysModules)=false∧∃vs,KV kvs vs∧h.DictOf (bq P w) a vs:=Gx ok (.inl e)
theorem Xf{ks:List fo}(ok:HOk P w H h)(e:H a=some (.tup (ks.map kV))):IsTupleKey (bq P w) h ks a:=by
 obtain⟨_,its,r,o,h1,h2,n,h3⟩:=(show ObjOk P w H h a (.tup (ks.map kV))from ok a _ e);exact⟨o,its.toArray,n,h1,h2,h3,by simpa using Df r⟩
theorem uf(ok:HOk P w H h):∀{ks:az}{vs:List V}{us:List Value},NkL H ks vs→Vals vs us→NItems P w h ks us
 |[],vs,us,e,r=>by rw[show vs=[]from e]at r;cases r;exact rfl
 |.inl k::ks,vs,us,⟨v,t,e,q,e2⟩,r=>by
  subst e;cases r with
  |cons h1 t1=>exact⟨_,_,rfl,Dh (by rw[←show v=kV k from q];exact h1),uf ok e2 t1⟩
 |.inr ys::ks,vs,us,⟨v,t,e,⟨b,e3,q⟩,e2⟩,r=>by
  subst e e3;cases r with
  |cons h1 t1=>exact⟨_,_,rfl,⟨b,h1,Xf ok q⟩,uf ok e2 t1⟩
theorem Ao{ks:az}(ok:HOk P w H h)(e:TkAt H ks a):(ar P w).is h ks a:=by
 obtain⟨vs,e,nk⟩:=e;obtain⟨_,its,r,o,h1,h2,n,h3⟩:=(show ObjOk P w H h a (.tup vs)from ok a _ e);exact⟨o,its.toArray,n,h1,h2,h3,by simpa using uf ok nk r⟩
theorem Gy{kvs:List (az×V)}(ok:HOk P w H h)(e:Rd H a (.dT kvs)):kvs.length≤sizeLine∧(a==sysModules)=false∧
  ∃xs,KT H kvs xs∧h.DictOfH (ar P w) a xs:=by
 obtain⟨z,y,xs,r,o,es,ep,h1,h2,h3,h4,h5⟩:=(show ObjOk P w H h a (.dT kvs)from zat ok e);refine⟨z,y,xs,r,o,es,ep,h1,h2,h3,h4,λx hx=>?_,h5⟩;have all:∀{l:List (az×V)}{m:List (az×Addr×Value)},KT H l m→∀x∈m,(ar P w).is h x.1 x.2.1:=by
  intro l m q;induction q with
  |nil=>intro x hx;exact nomatch hx
  |@cons p q ps qs hq t ih=>
   intro x hx;rcases kA6.mp hx with e|hx
   ·subst e;exact Ao ok (by rw[←hq.1];exact hq.2.1)
   ·exact ih x hx
 exact all r x hx
theorem zfv{kvs:List (az×V)}(ok:HOk P w H h)(e:H a=some (.dT kvs)):kvs.length≤sizeLine∧(a==sysModules)=false∧
  ∃xs,KT H kvs xs∧h.DictOfH (ar P w) a xs:=Gy ok (.inl e)
end
noncomputable def DGet(H:Hp)(a:Addr)(y:V)(r:Option V):Prop:=
 (∃kvs k,Rd H a (.dK kvs)∧y=kV k∧r=ky kvs k)∨∃kvs k b,Rd H a (.dT kvs)∧y=.ref b∧TkAt H k b∧r=ky kvs k
noncomputable def DPut(H:Hp)(a:Addr)(y v:V)(H':Hp):Prop:=
 (∃kvs k,H a=some (.dK kvs)∧y=kV k∧kvs.length<sizeLine∧H'=upd H a (.dK (o7 kvs k v)))∨
 ∃kvs k b,H a=some (.dT kvs)∧y=.ref b∧TkAt H k b∧kvs.length<sizeLine∧H'=upd H a (.dT (o7 kvs k v))
theorem DGet.k{H:Hp}{a:Addr}{kvs:List (fo×V)}{k:fo}(e:H a=some (.dK kvs)):DGet H a (kV k) (ky kvs k):=.inl ⟨kvs,k,.inl e,rfl,rfl⟩
theorem DGet.t{H:Hp}{a b:Addr}{kvs:List (az×V)}{k:az}(e:H a=some (.dT kvs))(eb:TkAt H k b):DGet H a (.ref b) (ky kvs k):=.inr ⟨kvs,k,b,.inl e,rfl,eb,rfl⟩
theorem DPut.k{H:Hp}{a:Addr}{kvs:List (fo×V)}{k:fo}{v:V}(e:H a=some (.dK kvs))(hl:kvs.length<sizeLine):DPut H a (kV k) v (upd H a (.dK (o7 kvs k v))):=.inl ⟨kvs,k,e,rfl,hl,rfl⟩
theorem DPut.t{H:Hp}{a b:Addr}{kvs:List (az×V)}{k:az}{v:V}(e:H a=some (.dT kvs))(eb:TkAt H k b)(hl:kvs.length<sizeLine):
  DPut H a (.ref b) v (upd H a (.dT (o7 kvs k v))):=.inr ⟨kvs,k,b,e,rfl,eb,hl,rfl⟩
section
variable{X:Cx}{pins:List (Addr×Obj)}{σ:St}{H:Hp}{s:Shared}{a:Addr}{y v:V}{u r:Value}{o:Option V}{A:Around}{E:Value→Shared→Prop}
theorem Inv.big(I:Inv X pins σ H s):sysModules<s.heap.objs.size:=by
 have h:mainGlobals<s.heap.objs.size:=(I.mod.glob.keeps I.bk).lt;exact Nat.lt_trans (by decide) h
theorem Of{Q:Value→Shared→Prop}(hu:A.units+5<cLine)(I:Inv X pins σ H s)(g:DGet H a y (some v))(ry:RelV y u)(h:∀w' s',Inv X pins σ H s'→RelV v w'→Q w' s'):
  wpAny (model X.prog X.w) A (getItem (.ref a) u) Q E s:=by
 rcases g with ⟨kvs,k,e,ey,l⟩|⟨kvs,k,b,e,ey,eb,l⟩
 ·subst ey;obtain⟨z,hd,vs,rel,dd⟩:=Gx I.hok e;obtain⟨w',hw,rw'⟩:=RelO.some_of (v:=v) (o:=valueAt vs k) (by rw[l];exact rel.val k);exact wpAny_getItem_of (Dh ry) dd.mapOf hw (h w' _ (I.tok _) rw')
 ·subst ey;cases (show u=Value.ref b from ry);obtain⟨z,hd,xs,rel,dd⟩:=Gy I.hok e;obtain⟨w',hw,rw'⟩:=RelO.some_of (v:=v) (o:=(atKey xs k).map (·.2)) (by rw[l];exact rel.val k);obtain⟨p,hp,hp2⟩:=Option.map_eq_some_iff.mp hw;refine wpAny_getItem_heap (i7 hu) (Ao I.hok eb) dd hp ?_;rw[hp2];exact h w' _ (I.tok _) rw'
theorem Ej{h':Heap}{t':Nat}{ob:HO}(I:Inv X pins σ H s)(mu:Mut (H a))(hs:Heap.SameBut a s.heap h')(he:∃q,h'.get? a=some q)(new:ObjOk X.prog X.w (upd H a ob) h' a ob):
  Inv X pins σ (upd H a ob) {s with heap:=h',toks:=t'}:=
 I.write (x:=a) (e:=a) mu (.inl rfl) (λb q hb z=>(hs.2 b hb).trans z) he new
theorem Rj{P:Program}{w:World}{H':Hp}{h':Heap}{kvs:List (fo×V)}{vs:List (fo×Value)}(z:kvs.length≤sizeLine)(hd:(a==sysModules)=false)(rel:KV kvs vs)(dd:h'.DictOf (bq P w) a vs):
  ObjOk P w H' h' a (.dK kvs):=⟨z,hd,vs,rel,dd⟩
theorem Og{H':Hp}{Q:Unit→Shared→Prop}(hu:A.units+5<cLine)(I:Inv X pins σ H s)(g:DPut H a y v H')(ry:RelV y u)(rv:RelV v r)(h:∀s',Inv X pins σ H' s'→Q () s'):
  wpAny (model X.prog X.w) A (setItem (.ref a) u r) Q E s:=by
 rcases g with ⟨kvs,k,e,ey,l,eH⟩|⟨kvs,k,b,e,ey,eb,l,eH⟩
 ·subst ey eH;obtain⟨z,hd,vs,rel,dd⟩:=Rk I.hok e;have hz:vs.length≤sizeLine:=by rw[←rel.length];exact z
  have hl:(o7 kvs k v).length≤sizeLine:=by have:=qa kvs k v;omega
  refine wpAny_setItem_pairs (hsz:=hz) (Dh ry) dd λh' dd' hs=>h _ ?_;have he:∃q,h'.get? a=some q:=let ⟨q,_,_,hq,_⟩:=dd';⟨q,hq⟩;exact Ej I (by rw[e];exact True.intro) hs he (Rj hl hd (rel.put k rv) dd')
 ·subst ey eH;cases (show u=Value.ref b from ry);obtain⟨z,hd,xs,rel,dd⟩:=zfv I.hok e;have hz:xs.length≤sizeLine:=by rw[←Paired.length rel];exact z
  have hl:(o7 kvs k v).length≤sizeLine:=by have:=qa kvs k v;omega
  refine wpAny_setItem_heap (hsz:=hz) (i7 hu) (Ao I.hok eb) dd λh' dd' hs=>h _ ?_;obtain⟨q,es,ep,hq,h2,h3,h4,_,h5⟩:=dd';refine Ej I (by rw[e];exact True.intro) hs ⟨q,hq⟩ ⟨hl,hd,_,(rel.put k eb rv).keeps λc ys ec=>?_,q,es,ep,hq,h2,h3,h4,h5⟩;rw[bp (zgd ec e (λz=>nomatch z))];exact ec
end
theorem Gw{X:Cx}{pins:List (Addr×Obj)}{σ:St}{H:Hp}{s:Shared}{a:Addr}{y:V}{o:Option V}(I:Inv X pins σ H s)(g:DGet H a y o):s.TypeIs (.ref a) "dict":=by
 rcases g with ⟨kvs,k,e,_,_⟩|⟨kvs,k,b,e,_,_,_⟩
 ·obtain⟨_,_,vs,_,dd⟩:=Gx I.hok e;exact dd.typeIs
 ·obtain⟨_,_,xs,_,dd⟩:=Gy I.hok e;exact dd.typeIs
noncomputable def zhf(td ty tv:TE):TS:=λD σ H=>tv σ H λv H1=>td σ H1 λx H2=>ty σ H2 λy H3=>∃a H4,x=.ref a∧DPut H3 a y v H4∧D.nx σ H4
section
variable{X:Cx}{o i e value:Expr}{pos pos' tpos:Pos}{td ty tv:TE}
theorem Nn(hu:X.A.units+5<cLine)(ho:PE X o td)(hi:PE X i ty)(hv:PE X value tv)(hs:swapsWith value (some (.Subscript o i pos')) pos.line X.env=pure false):
  PS X (.Assign [.Subscript o i pos'] value pos) (zhf td ty tv):=by
 intro pins s σ H D I h;refine wpAny_Assign_Subscript (gx (hv pins s σ H _ I h) λr s1 ⟨v,H1,I1,rv,q1⟩=>gx (ho pins s1 σ H1 _ I1 q1) λu s2 ⟨x,H2,I2,rx,q2⟩=>gx (hi pins s2 σ H2 _ I2 q2) λiv s3 ⟨y,H3,I3,ry,a,H4,ex,g,q3⟩=>?_) hs;subst ex;obtain rfl:u=Value.ref a:=rx;exact Og hu I3 g ry rv λs4 I4=>⟨σ,H4,I4,q3⟩
end
theorem Ri{P:Program}{w:World}{H:Hp}(h:Heap)(hb:sysModules<h.objs.size):ObjOk P w H (h.push {cls:=.type "dict",data:=.dict #[]}) h.objs.size (.dK []):=
 ⟨kAt _,beq_eq_false_iff_ne.mpr (Ne.symm (kAf hb)),[],.nil,Heap.DictOf.new h⟩
theorem Rl{P:Program}{w:World}{H:Hp}(h:Heap)(hb:sysModules<h.objs.size):ObjOk P w H (h.push {cls:=.type "dict",data:=.dict #[]}) h.objs.size (.dT []):=
 ⟨kAt _,beq_eq_false_iff_ne.mpr (Ne.symm (kAf hb)),[],.nil,_,#[],0,Heap.get?_push_size _ rfl,⟨rfl,rfl,rfl⟩,rfl,rfl,List.nodup_nil⟩
noncomputable def Vl:TE:=λ_ H Q=>∀p,H p=none→Q (.ref p) (upd H p (.dK []))
noncomputable def Vm:TE:=λ_ H Q=>∀p,H p=none→Q (.ref p) (upd H p (.dT []))
section
variable{X:Cx}{pos:Pos}
theorem Ir:PE X (.Dict [] [] pos) Vl:=λpins s σ H Q I h=>
 wpAny_Dict_empty ⟨.ref s.heap.objs.size,_,I.laid (a:=s.heap.objs.size) (o:=.dK []) (t':=s.toks) (λ_ _ q=>Heap.get?_push_of_some _ q) (kA0 _) (Ri s.heap I.big),rfl,h _ (I.hok.fresh (kA0 _))⟩
theorem Tz:PE X (.Dict [] [] pos) Vm:=λpins s σ H Q I h=>
 wpAny_Dict_empty ⟨.ref s.heap.objs.size,_,I.laid (a:=s.heap.objs.size) (o:=.dT []) (t':=s.toks) (λ_ _ q=>Heap.get?_push_of_some _ q) (kA0 _) (Rl s.heap I.big),rfl,h _ (I.hok.fresh (kA0 _))⟩
end
structure M1(X:Cx)(o:Expr)(m:Str)(apos:Pos)(e:Expr)(cpos:Pos):Prop where
 base:attributeBase o m X.env (eval o X.env)=eval o X.env
 few:((backTo cpos (starEach [e] X.env)).all (λx=> !x.1) && (backToKw cpos (keywordEach [] X.env)).all (λx=>x.1.isSome)
  && decide (([e]:List Expr).length+([]:List Keyword).length+(if([]:List Keyword).isEmpty then 0 else 1)<30))=true
 line:(apos.endLine==cpos.line)=true
 trees:backTo cpos (starEach [e] X.env)=[(false,eval e X.env)]
structure M2(X:Cx)(o:Expr)(m:Str)(apos:Pos)(e f:Expr)(cpos:Pos):Prop where
 base:attributeBase o m X.env (eval o X.env)=eval o X.env
 few:((backTo cpos (starEach [e,f] X.env)).all (λx=> !x.1) && (backToKw cpos (keywordEach [] X.env)).all (λx=>x.1.isSome)
  && decide (([e,f]:List Expr).length+([]:List Keyword).length+(if([]:List Keyword).isEmpty then 0 else 1)<30))=true
 line:(apos.endLine==cpos.line)=true
 trees:backTo cpos (starEach [e,f] X.env)=[(false,eval e X.env),(false,eval f X.env)]
def IsD(H:Hp)(a:Addr):Prop:=(∃kvs,Rd H a (.dK kvs))∨∃kvs,Rd H a (.dT kvs)
theorem Sm{X:Cx}{pins:List (Addr×Obj)}{σ:St}{H:Hp}{s:Shared}{a:Addr}(I:Inv X pins σ H s)(d:IsD H a):
  s.TypeIs (.ref a) "dict"∧(∀b,Value.ref a=.ref b→∃ob,s.heap.get? b=some ob∧ob.dict=none)∧(a==sysModules)=false:=by
 rcases d with ⟨kvs,e⟩|⟨kvs,e⟩
 ·obtain⟨_,hd,vs,_,dd⟩:=Gx I.hok e;refine⟨dd.typeIs,λb q=>?_,hd⟩;cases q;obtain⟨ob,_,_,h1,h2,_⟩:=dd;exact⟨ob,h1,h2.2.1⟩
 ·obtain⟨_,hd,xs,_,dd⟩:=Gy I.hok e;refine⟨dd.typeIs,λb q=>?_,hd⟩;cases q;obtain⟨ob,_,_,h1,h2,_⟩:=dd;exact⟨ob,h1,h2.2.1⟩
section
variable{X:Cx}{pins:List (Addr×Obj)}{σ:St}{H:Hp}{s:Shared}{a:Addr}{y d:V}{u r:Value}{o:Option V}{A:Around}{E:Value→Shared→Prop}
theorem zbq{Q:Value→Shared→Prop}(hu:A.units+5<cLine)(I:Inv X pins σ H s)(g:DGet H a y o)(ry:RelV y u)(rd:RelV d r)(h:∀w' s',Inv X pins σ H s'→RelV (o.getD d) w'→Q w' s'):
  wpAny (model X.prog X.w) A (call (.builtin "dict.get") [.ref a,u,r]) Q E s:=by
 rcases g with ⟨kvs,k,e,ey,l⟩|⟨kvs,k,b,e,ey,eb,l⟩
 ·subst ey;obtain⟨z,hd,vs,rel,dd⟩:=Gx I.hok e;refine call_meetsIn PySem.F.slot_dict_get dd.typeIs PySem.F.entry_dict_get (PySem.F.args_dict_get_3 _ _ _) (meets_dict_get_default (bq X.prog X.w) a (Dh ry) hd r) ⟨_,dd.mapOf,h _ _ (I.tok _) ?_⟩;rw[l];exact(rel.val k).getD rd
 ·subst ey;cases (show u=Value.ref b from ry);obtain⟨z,hd,xs,rel,dd⟩:=Gy I.hok e;refine call_meetsIn PySem.F.slot_dict_get dd.typeIs PySem.F.entry_dict_get (PySem.F.args_dict_get_3 _ _ _) (meetsH_dict_get_default (ar X.prog X.w) a b hd r) ⟨i7 hu,k,xs,Ao I.hok eb,dd,h _ _ (I.tok _) ?_⟩;rw[l];exact(rel.val k).getD rd
end
noncomputable def zep(td ty tx:TE):TE:=λσ H Q=>td σ H λx H1=>∃a,x=.ref a∧IsD H1 a∧ty σ H1 λy H2=>tx σ H2 λz H3=>∃o,DGet H3 a y o∧Q (o.getD z) H3
section
variable{X:Cx}{o e f:Expr}{apos cpos:Pos}{td ty tx:TE}
theorem Tx(hu:X.A.units+5<cLine)(ho:PE X o td)(he:PE X e ty)(hf:PE X f tx)(m:M2 X o "get" apos e f cpos):PE X (.Call (.Attribute o "get" apos) [e,f] [] cpos) (zep td ty tx):=by
 intro pins s σ H Q I h;refine wpAny_Call_method m.base m.few m.line PySem.F.plainAttrs_dict PySem.F.slot_dict_get PySem.F.type_dict_get (gx (ho pins s σ H _ I h) λu s1 ⟨x,H1,I1,rx,a,ex,d,q1⟩=>?_);subst ex;obtain rfl:u=Value.ref a:=rx;obtain⟨t1,t2,_⟩:=Sm I1 d;refine⟨t1,t2,?_⟩;rw[m.trees];refine Calls.callWith_builtin rfl (Calls.evalArgs_plain (Calls.spliced_cons (gx (he pins s1 σ H1 _ I1 q1) λiv s2 ⟨y,H2,I2,ry,q2⟩=>
  Calls.spliced_cons (gx (hf pins s2 σ H2 _ I2 q2) λfv s3 ⟨z,H3,I3,rz,ov,g,q3⟩=>Calls.spliced_nil ?_))))
 exact zbq hu I3 g ry rz λw' s4 I4 rw'=>⟨_,H3,I4,rw',q3⟩
end
end L2
namespace Att
open PySem PySem.W PySem.Calls PyProof.Rows
theorem yr{P:Params}{h:Heap}:∀(ns:List Int)(vs:List Value),WellAll P h vs (ns.map WData.int)→IntsAre vs ns:=by
 intro ns;induction ns with
 |nil=>
  intro vs w;rw[List.map_nil]at w;cases w;exact .nil
 |cons n ns ih=>
  intro vs w;rw[kA4]at w;cases w with
  |cons a b=>
   cases a;exact .cons _ _ (ih _ b)
theorem P8{l:OpenLaw}{n:Nat}(hn:l.most=some n){P:Params}{h:Heap}{args:List WData}{vals:List Value}
  (hpre:l.row.toRowW.claim.pre args=true)(hwl:WellAll P h vals args):
  ∃a vs ns,vals=[Value.ref a]∧args=[WData.list (ns.map WData.int)]∧h.get? a=some {cls:=.type "list",data:=.seq vs.toArray}∧IntsAre vs ns∧ns.length≤n:=by
 have hsh:WShape.hasAll [] args [.list .int]=true:=(pre_splitW hpre).1;have hc:l.pre.holds [] {args:=args}=true:=(pre_splitW hpre).2;obtain⟨d,r,rfl,h1,h2⟩:=hasAllW_cons hsh;obtain rfl:=hasAllW_nil h2;obtain⟨xs,rfl,h3⟩:=hasW_list h1;obtain⟨ns,rfl⟩:=items_int h3;have hlen:ns.length≤n:=by
  unfold OpenLaw.pre at hc;have h4:(WTm.not (.lt (.lit (.int (n:Int))) (.len (.arg 0)))).holds [] {args:=[.list (ns.map .int)]}=true:=by
   have h4:=(holds_andW hc).1;rw[hn]at h4;exact h4
  have h5:=condW_of h4 (w_not (w_lt w_lit (w_len_list (w_arg rfl))));rw[kA3]at h5;refine Nat.le_of_not_lt λq=>?_;have q':(n:Int)<((ns.length:Nat):Int):=by omega
  first
   |(rw[decide_eq_true q']at h5;exact absurd h5 (by decide))
   |(simp at h5;omega)
 cases hwl with
 |cons w1 w2=>
  cases w2;cases w1 with
  |list ho hall=>exact⟨_,_,ns,rfl,rfl,ho,yr ns _ hall,hlen⟩
theorem Px(l:OpenLaw)(args:List WData):l.row.toRowW.claim.post args (.bool true) args=true:=
 postW_of (r:=l.row.toRowW) (X:=(true==true))
  (show WShape.has [] (.bool true) .bool=true by first|rfl|decide|simp[WShape.has,WShape.arms,WShape.armsAll])
  (show(WTm.eq .res (.lit (.bool true))).value [] {args:=args,res:=some (.bool true),after:=args}=some (.bool (true==true))from w_eq_bool (w_res rfl) w_lit) rfl
theorem Gg{l:OpenLaw}{n:Nat}{q:Program}{loose:List Str}{XP:(Str→Option Value)→Heap→Prop}{YP:World→Heap→Prop}{d:DefRec}
  (hn:l.most=some n)(hdf:d.params.defaults=[])
  (call:∀(w:World)(s₀ s₁:Shared)(mg mb:Str→Option Value)(fa:Addr)(o:Obj)(pm cd doc:Value)(a:Addr)(vs:List Value)(ns:List Int),
   Ground q loose [] XP w s₀ mg mb s₁.heap→YP w s₁.heap→
   s₁.heap.get? fa=some o→o.data=.func (docDef d.name d.params d.body d.scope pm cd doc)→s₁.heap.CodeRec cd d.name→mg d.name=some (.ref fa)→
   s₁.heap.get? a=some {cls:=.type "list",data:=.seq vs.toArray}→IntsAre vs ns→ns.length≤n→s₁.gens=#[]→
   codeAny (model l.prog w) callerA (.call (.ref fa) ⟨[.ref a],[]⟩) (λr s'=>r=.ok (.ret (.bool true))∧OldK s₁.heap s'.heap∧s'.os=s₁.os∧AllBare s'.gens) s₁):
  WalkO q loose XP YP l.row.toRowW d [] (λf vs=>PySem.call f vs):=by
 intro w s₀ s₁ mg mb G Y fa o pm cd doc dV kV ho hd hcd hD hmg hg args vals as hpre hlay hrd hwl hlo;obtain rfl:dV=.none:=Dflts.none hD hdf;obtain rfl:kV=.none:=Dflts.noKw hD;obtain⟨a,vs,ns,rfl,rfl,hobj,hints,hlen⟩:=P8 hn hpre hwl;refine enter_call (codeAny_mono (call w s₀ s₁ mg mb fa o pm cd doc a vs ns G Y ho (fd_plain hd) hcd hmg hobj hints hlen hg) λr s' hq=>?_);obtain⟨rfl,h2,h3,h4⟩:=hq;exact⟨.inl ⟨.bool true,.bool true,[],rfl,λ_=>rfl,.bool true,Px l _,λ_=>⟨List.Pairwise.nil,λ_ hm=>(nomatch hm)⟩⟩,h2,h3,h4⟩
end Att
namespace L2
open PySem PySem.Spec PyProof.Rows
theorem D2:∀{vs:List Value}{ns:List Int},IntsAre vs ns→Vals (ns.map V.int) vs
 |_,_,.nil=>.nil
 |_,_,.cons n t h=>.cons ⟨t,rfl⟩ (D2 h)
end L2
namespace L2
open PySem PySem.Spec PyProof.Rows
def ck(s:Stmt):Arguments:=match s with
 |.FunctionDef _ a _ _ _ _ _ _ _ _=>a
 |_=>{posonlyargs:=[],args:=[],vararg:=none,kwonlyargs:=[],kw_defaults:=[],kwarg:=none,defaults:=[]}
def ak(s:Stmt):List Stmt:=match s with
 |.FunctionDef _ _ b _ _ _ _ _ _ _=>b
 |_=>[]
def ah(s:Stmt):Scope:=match s with
 |.FunctionDef _ _ _ _ _ _ sc _ _ _=>sc
 |_=>{kind:=.function,names:=[],isGenerator:=false,isCoroutine:=false}
noncomputable abbrev CX0:L7:=λ_ _ _ _ _ _=>False
noncomputable abbrev E0:XK:=λ_ _ _=>False
structure Fun(K:PySem.W.Frag)(x qual:Str)(st:Stmt)(f:Addr)(fd:FuncData):Prop where
 ex:∃(oc:Value) (od:Option Addr) (kV doc pm:Value) (an:Option Addr) (cdv ct:Value) (osl:Array (Option Value)),
  fd=kAj x qual (ck st) (ak st) (ah st) .none kV doc pm an cdv ct∧K.lookup f=some ⟨oc,od,.func fd,osl⟩∧kAq K cdv qual=true
 kp:kAc K (.ref f)=true
section
variable{P:Program}{w:World}{K:PySem.W.Frag}{mg:Str→Option Value}{base:Heap}
theorem Fun.ok{x qual:Str}{st:Stmt}{f:Addr}{fd:FuncData}{N ps:List Str}{k:Nat}{sp:Sp}(F:Fun K x qual st f fd)(S:FnScope N ps (ah st))(len:∀vs H Q E,sp vs H Q E→vs.length=ps.length)
   (hbody:∀(cdv:Value)(A:Around)(outer:List Env)(s:Shared)(H:Hp)(vs:List V)(Q:VK)(E:XK),Room k (A.deeper (envOfC qual (ah st) s.heap.objs.size f cdv))→sp vs H Q E→
   ∃t,PSs (t6 CX0 P w K mg base N qual (ah st) f cdv A outer s H E).nox (ak st) t∧t {nx:=λ_ H'=>Q .non H',rt:=Q} (mh N vs) H):FnOk P w K mg base CX0 (k+1) f fd ps sp:=by
 obtain⟨oc,od,kV,doc,pm,an,cdv,ct,osl,rfl,lk,hcd⟩:=F.ex;refine zaf lk hcd S len λA outer s H vs Q E hr hsp=>?_;obtain⟨t,h,q⟩:=hbody cdv A outer s H vs Q E hr hsp;exact⟨t,h.nox,q⟩
theorem Fun.binds{x qual:Str}{st:Stmt}{f:Addr}{fd:FuncData}{ps:List Str}(F:Fun K x qual st f fd)
  (h:∀(kV doc pm:Value)(an:Option Addr)(cdv ct:Value)(us:List Value),us.length=ps.length→bindArgs (kAj x qual (ck st) (ak st) (ah st) .none kV doc pm an cdv ct) ⟨us,[]⟩=pure (ps.zip us)):Binds K fd ps []:=by
 obtain⟨oc,od,kV,doc,pm,an,cdv,ct,osl,rfl,lk,hcd⟩:=F.ex;exact .all (h kV doc pm an cdv ct)
theorem R6{x qual:Str}{st:Stmt}{f:Addr}{oc:Value}{od an:Option Addr}{osl:Array (Option Value)}{kV doc pm cdv ct:Value}(l:K.lookup f=some ⟨oc,od,.func (kAj x qual (ck st) (ak st) (ah st) .none kV doc pm an cdv ct),osl⟩)
  (c:kAq K cdv qual=true)(k:kAc K (.ref f)=true):Fun K x qual st f (kAj x qual (ck st) (ak st) (ah st) .none kV doc pm an cdv ct):=⟨⟨oc,od,kV,doc,pm,an,cdv,ct,osl,rfl,l,c⟩,k⟩
end
def Same(H H':Hp):Prop:=∀b o,H b=some o→H' b=some o
theorem Same.refl(H:Hp):Same H H:=λ_ _ h=>h
theorem Same.trans{H H1 H2:Hp}(a:Same H H1)(b:Same H1 H2):Same H H2:=λc o h=>b c o (a c o h)
theorem Same.free{H H':Hp}(e:Same H H'){l:Addr}(h:H' l=Option.none):H l=Option.none:=by
 cases q:H l with
 |none=>rfl
 |some o=>
  rw[e l o q]at h;cases h
theorem Same.seq{K:PySem.W.Frag}{H H':Hp}{a:Addr}{xs:List V}(e:Same H H')(h:SqL K H a xs):SqL K H' a xs:=by
 rcases h with (h|⟨o,h⟩)|h
 ·exact .inl (.inl (e _ _ h))
 ·exact .inl (.inr ⟨o,e _ _ h⟩)
 ·exact .inr h
end L2
end
section
namespace Pu
open PySem
noncomputable def Lu:List (Addr×Addr×Str):=[]
noncomputable def ows:List Str:=["checked_book"]
end Pu
end
section
namespace Pu
open PySem PySem.Spec PyProof.Rows L2
noncomputable abbrev St:=L2.St
structure KA where
 K:PySem.W.Frag
 A:Str→Addr
instance:CoeOut KA PySem.W.Frag:=⟨KA.K⟩
noncomputable def yz(mg:Str→Option Value)(x:Str):Addr:=match mg x with
 |some (.ref a)=>a
 |_=>0
noncomputable abbrev kx(X:Cx):KA:=⟨X.K,yz X.mg⟩
noncomputable abbrev EK:=Str→Hp→Prop
noncomputable abbrev ek(K:KA)(E:XK):EK:=λc H=>E (.ref (K.A c)) none H
inductive D where
 |non
 |bl (b:Bool)
 |int (i:Int)
 |str (x:Str)
 |tup (ds:List D)
 |lst (ds:List D)
 |dct (t:Bool) (kvs:List (D×D))
 |obj (e:Expr) (fs:List (Str×D))
 |fn (f:Str)
noncomputable def kD:fo→D
 |.inl i=>.int i
 |.inr x=>.str x
noncomputable def fq:List (Str×NameKind)→List Str
 |[]=>[]
 |(n,k)::r=>if k=.free then n::fq r else fq r
def LamAt(H:Hp)(e:Expr)(a:Addr)(vs:List (Str×V)):Prop:=match e with
 |.Lambda params body scope _=>∃(qual:Str) (pm:Value) (c':Addr) (ctv:Value) (cl:List (Str×Addr)) (oc:Obj) (cvs:Array Value) (t:Tok),
   H a=some (.frz (PySem.W.kla_obj "<lambda>" qual params body scope cl pm c' ctv) (.own 0))∧H c'=some (.frz oc (.own 0))∧oc.data=.fields cvs∧cvs[1]?=some (.str qual t)∧
   (∀x y c,cl.lookup x=some c→cl.lookup y=some c→x=y)∧(∀y,(y,NameKind.free)∈scope.names→∃c,cl.lookup y=some c)∧(∀y c,cl.lookup y=some c→(y,NameKind.free)∈scope.names)∧
   (∀y c,cl.lookup y=some c→∃o v u,H c=some (.frz o (.own 0))∧o.data=.cell (some u)∧(y,v)∈vs∧RelV v u)∧vs.map (·.1)=fq scope.names
 |_=>False
theorem LamAt.mono{H H':Hp}(q:Same H H'){e:Expr}{a:Addr}{vs:List (Str×V)}(h:LamAt H e a vs):LamAt H' e a vs:=by
 unfold LamAt at h⊢;split at h
 ·obtain⟨qual,pm,c',ctv,cl,oc,cvs,t,h1,h2,h3,h4,h5,h6,h7,h8,h9⟩:=h;refine⟨qual,pm,c',ctv,cl,oc,cvs,t,q _ _ h1,q _ _ h2,h3,h4,h5,h6,h7,λy c z=>?_,h9⟩;obtain⟨o,v,u,z1,z2⟩:=h8 y c z;exact⟨o,v,u,q _ _ z1,z2⟩
 ·exact h.elim
noncomputable def nkD:NK→D
 |.inl k=>kD k
 |.inr ks=>.tup (ks.map kD)
noncomputable def kT(k:az):D:=.tup (k.map nkD)
mutual
noncomputable def Den(K:KA)(H:Hp):D→V→Prop
 |.non,v=>v=.non
 |.bl b,v=>v=.bl b
 |.int i,v=>v=.int i
 |.str x,v=>v=.str x
 |.tup ds,v=>∃a vs,v=.ref a∧H a=some (.tup vs)∧DenL K H ds vs
 |.lst ds,v=>∃a vs,v=.ref a∧SqL K H a vs∧DenL K H ds vs
 |.dct t kvs,v=>∃a,v=.ref a∧((t=false∧∃es,H a=some (.dK es)∧DenK K H kvs es)∨(t=true∧∃es,H a=some (.dT es)∧DenT K H kvs es))
 |.obj e fs,v=>∃a vs,v=.ref a∧LamAt H e a vs∧DenF K H fs vs
 |.fn f,v=>v=.ref (K.A f)
noncomputable def DenL(K:KA)(H:Hp):List D→List V→Prop
 |[],vs=>vs=[]
 |d::ds,vs=>∃v r,vs=v::r∧Den K H d v∧DenL K H ds r
noncomputable def DenF(K:KA)(H:Hp):List (Str×D)→List (Str×V)→Prop
 |[],vs=>vs=[]
 |(n,d)::ds,vs=>∃v r,vs=(n,v)::r∧Den K H d v∧DenF K H ds r
noncomputable def DenK(K:KA)(H:Hp):List (D×D)→List (fo×V)→Prop
 |[],vs=>vs=[]
 |(k,d)::ds,vs=>∃k' v r,vs=(k',v)::r∧k=kD k'∧Den K H d v∧DenK K H ds r
noncomputable def DenT(K:KA)(H:Hp):List (D×D)→List (az×V)→Prop
 |[],vs=>vs=[]
 |(k,d)::ds,vs=>∃k' v r,vs=(k',v)::r∧k=kT k'∧Den K H d v∧DenT K H ds r
end
theorem SqL.mono{K:KA}{H H':Hp}{a:Addr}{xs:List V}(e:Same H H')(h:SqL K H a xs):SqL K H' a xs:=e.seq h
theorem SqT.mono{K:KA}{H H':Hp}{a:Addr}{xs:List V}(e:Same H H')(h:SqT K H a xs):SqT K H' a xs:=by
 rcases h with (h|⟨o,h⟩)|h
 ·exact .inl (.inl (e _ _ h))
 ·exact .inl (.inr ⟨o,e _ _ h⟩)
 ·exact .inr h
mutual
theorem Den.mono{K:KA}{H H':Hp}(e:Same H H'):∀{d:D}{v:V},Den K H d v→Den K H' d v
 |.non,_,h=>h
 |.bl _,_,h=>h
 |.int _,_,h=>h
 |.str _,_,h=>h
 |.tup _,_,⟨a,vs,h1,h2,h3⟩=>⟨a,vs,h1,e _ _ h2,DenL.mono e h3⟩
 |.lst _,_,⟨a,vs,h1,h2,h3⟩=>⟨a,vs,h1,SqL.mono e h2,DenL.mono e h3⟩
 |.dct _ _,_,⟨a,h1,h2⟩=>⟨a,h1,h2.elim (λ⟨z,es,q1,q2⟩=>.inl ⟨z,es,e _ _ q1,DenK.mono e q2⟩) λ⟨z,es,q1,q2⟩=>.inr ⟨z,es,e _ _ q1,DenT.mono e q2⟩⟩
 |.obj _ _,_,⟨a,vs,h1,h2,h3⟩=>⟨a,vs,h1,h2.mono e,DenF.mono e h3⟩
 |.fn _,_,h=>h
theorem DenL.mono{K:KA}{H H':Hp}(e:Same H H'):∀{ds:List D}{vs:List V},DenL K H ds vs→DenL K H' ds vs
 |[],_,h=>h
 |_::_,_,⟨v,r,h1,h2,h3⟩=>⟨v,r,h1,Den.mono e h2,DenL.mono e h3⟩
theorem DenF.mono{K:KA}{H H':Hp}(e:Same H H'):∀{ds:List (Str×D)}{vs:List (Str×V)},DenF K H ds vs→DenF K H' ds vs
 |[],_,h=>h
 |(_,_)::_,_,⟨v,r,h1,h2,h3⟩=>⟨v,r,h1,Den.mono e h2,DenF.mono e h3⟩
theorem DenK.mono{K:KA}{H H':Hp}(e:Same H H'):∀{ds:List (D×D)}{vs:List (fo×V)},DenK K H ds vs→DenK K H' ds vs
 |[],_,h=>h
 |(_,_)::_,_,⟨k,v,r,h1,h0,h2,h3⟩=>⟨k,v,r,h1,h0,Den.mono e h2,DenK.mono e h3⟩
theorem DenT.mono{K:KA}{H H':Hp}(e:Same H H'):∀{ds:List (D×D)}{vs:List (az×V)},DenT K H ds vs→DenT K H' ds vs
 |[],_,h=>h
 |(_,_)::_,_,⟨k,v,r,h1,h0,h2,h3⟩=>⟨k,v,r,h1,h0,Den.mono e h2,DenT.mono e h3⟩
end
section
variable{K:KA}{G H:Hp}
theorem DenL.length:∀{ds:List D}{vs:List V},DenL K H ds vs→ds.length=vs.length
 |[],_,h=>by rw[show _=[]from h];rfl
 |_::_,_,⟨v,r,h1,_,h3⟩=>by rw[h1,kA7,kA7,DenL.length h3]
theorem DenL.get:∀{ds:List D}{vs:List V}{i:Nat}{d:D},DenL K H ds vs→ds[i]?=some d→∃v,vs[i]?=some v∧Den K H d v
 |[],_,_,_,_,e=>by simp at e
 |_::_,_,0,_,⟨v,r,h1,h2,_⟩,e=>by
  simp at e;subst e;subst h1;exact⟨v,rfl,h2⟩
 |_::_,_,i+1,_,⟨v,r,h1,_,h3⟩,e=>by
  obtain⟨w,q1,q2⟩:=DenL.get (i:=i) h3 (by simpa using e);subst h1;exact⟨w,by simpa using q1,q2⟩
theorem DenL.append:∀{ds es:List D}{vs ws:List V},DenL K H ds vs→DenL K H es ws→DenL K H (ds++es) (vs++ws)
 |[],_,_,_,h,q=>by rw[show _=[]from h];exact q
 |_::_,_,_,_,⟨v,r,h1,h2,h3⟩,q=>⟨v,r++_,by rw[h1];rfl,h2,DenL.append h3 q⟩
theorem DenL.one{d:D}{v:V}(h:Den K H d v):DenL K H [d] [v]:=⟨v,[],rfl,h,rfl⟩
theorem DenL.drop:∀(n:Nat){ds:List D}{vs:List V},DenL K H ds vs→DenL K H (ds.drop n) (vs.drop n)
 |0,_,_,h=>h
 |_+1,[],_,h=>by rw[show _=[]from h];exact rfl
 |n+1,_::_,_,⟨v,r,h1,_,h3⟩=>by subst h1;exact DenL.drop n h3
theorem DenL.take:∀(n:Nat){ds:List D}{vs:List V},DenL K H ds vs→DenL K H (ds.take n) (vs.take n)
 |0,_,_,_=>rfl
 |_+1,[],_,h=>by rw[show _=[]from h];exact rfl
 |n+1,_::_,_,⟨v,r,h1,h2,h3⟩=>by subst h1;exact⟨v,r.take n,rfl,h2,DenL.take n h3⟩
theorem DenL.eraseIdx:∀(n:Nat){ds:List D}{vs:List V},DenL K H ds vs→DenL K H (ds.eraseIdx n) (vs.eraseIdx n)
 |_,[],_,h=>by rw[show _=[]from h];exact rfl
 |0,_::_,_,⟨v,r,h1,_,h3⟩=>by subst h1;exact h3
 |n+1,_::_,_,⟨v,r,h1,h2,h3⟩=>by subst h1;exact⟨v,r.eraseIdx n,rfl,h2,DenL.eraseIdx n h3⟩
theorem DenL.set{d:D}{v:V}(q:Den K H d v):∀(n:Nat){ds:List D}{vs:List V},DenL K H ds vs→DenL K H (ds.set n d) (vs.set n v)
 |_,[],_,h=>by rw[show _=[]from h];exact rfl
 |0,_::_,_,⟨_,r,h1,_,h3⟩=>by subst h1;exact⟨v,r,rfl,q,h3⟩
 |n+1,_::_,_,⟨w,r,h1,h2,h3⟩=>by subst h1;exact⟨w,r.set n v,rfl,h2,DenL.set q n h3⟩
theorem DenL.reverse:∀{ds:List D}{vs:List V},DenL K H ds vs→DenL K H ds.reverse vs.reverse
 |[],_,h=>by rw[show _=[]from h];exact rfl
 |_::_,_,⟨v,r,h1,h2,h3⟩=>by
  subst h1;rw[List.reverse_cons,List.reverse_cons];exact DenL.append (DenL.reverse h3) (DenL.one h2)
end
noncomputable def nfz:HO→Bool
 |.frz _ _=>false
 |.tup _=>false
 |_=>true
structure Ext(G H G' H':Hp):Prop where
 gg:Same G G'
 hh:Same H H'
 gh:Same G' H'
 fr:∀a o,H a=some o→G a=none→nfz o=true→G' a=none
theorem Ext.refl{G H:Hp}(h:Same G H):Ext G H G H:=⟨Same.refl G,Same.refl H,h,λ_ _ _ q _=>q⟩
theorem Ext.trans{G H G1 H1 G2 H2:Hp}(a:Ext G H G1 H1)(b:Ext G1 H1 G2 H2):Ext G H G2 H2:=
 ⟨a.gg.trans b.gg,a.hh.trans b.hh,b.gh,λx o h g z=>b.fr x o (a.hh x o h) (a.fr x o h g z) z⟩
theorem fb{H:Hp}{p:Addr}(h:H p=none)(o:HO):Same H (upd H p o):=λb u q=>by rw[bp (cn q h)];exact q
theorem Ext.new{G H:Hp}{p:Addr}(h:Same G H)(o:HO)(n:H p=none):Ext G H (upd G p o) (upd H p o):=by
 have ng:G p=none:=by
  cases e:G p with
  |none=>rfl
  |some u=>rw[h p u e]at n;cases n
 refine⟨fb ng o,fb n o,λb u q=>?_,λa u q g _=>?_⟩
 ·by_cases e:b=p
  ·subst e;rw[cb]at q⊢;exact q
  ·rw[bp e]at q⊢;exact h b u q
 ·rw[bp (cn q n)];exact g
theorem Ext.own{G H:Hp}{p:Addr}(h:Same G H)(o:HO)(n:H p=none):Ext G H G (upd H p o):=by
 refine⟨Same.refl G,fb n o,λb u q=>?_,λa u q g _=>g⟩;exact fb n o b u (h b u q)
noncomputable def Arg(K:KA)(G H:Hp)(d:D)(v:V):Prop:=
 Den K G d v∨(∃ds a vs,d=.lst ds∧v=.ref a∧SqL K H a vs∧DenL K G ds vs)∨
  ∃t kvs a,d=.dct t kvs∧v=.ref a∧((t=false∧∃es,H a=some (.dK es)∧DenK K G kvs es)∨(t=true∧∃es,H a=some (.dT es)∧DenT K G kvs es))
theorem Arg.ext{K:KA}{G H G' H':Hp}{d:D}{v:V}(e:Ext G H G' H')(h:Arg K G H d v):Arg K G' H' d v:=by
 rcases h with h|⟨ds,a,vs,h1,h2,h3,h4⟩|⟨t,kvs,a,h1,h2,h3⟩
 ·exact .inl (h.mono e.gg)
 ·exact .inr (.inl ⟨ds,a,vs,h1,h2,SqL.mono e.hh h3,h4.mono e.gg⟩)
 ·exact .inr (.inr ⟨t,kvs,a,h1,h2,h3.elim (λ⟨z,es,q1,q2⟩=>.inl ⟨z,es,e.hh _ _ q1,q2.mono e.gg⟩) λ⟨z,es,q1,q2⟩=>.inr ⟨z,es,e.hh _ _ q1,q2.mono e.gg⟩⟩)
theorem Arg.lst{K:KA}{G H:Hp}{ds:List D}{v:V}(s:Same G H)(h:Arg K G H (.lst ds) v):∃a vs,v=.ref a∧SqL K H a vs∧DenL K G ds vs:=by
 rcases h with ⟨a,vs,h1,h2,h3⟩|⟨ds',a,vs,h1,h2,h3,h4⟩|⟨t,kvs,a,h1,_⟩
 ·exact⟨a,vs,h1,SqL.mono s h2,h3⟩
 ·cases h1;exact⟨a,vs,h2,h3,h4⟩
 ·cases h1
theorem Arg.tup0{K:KA}{G H:Hp}{ds:List D}{v:V}(s:Same G H)(h:Arg K G H (.tup ds) v):∃a vs,v=.ref a∧H a=some (.tup vs)∧DenL K G ds vs:=by
 rcases h with ⟨a,vs,h1,h2,h3⟩|⟨ds',a,vs,h1,_⟩|⟨t,kvs,a,h1,_⟩
 ·exact⟨a,vs,h1,s _ _ h2,h3⟩
 ·cases h1
 ·cases h1
theorem Arg.tup{K:KA}{G H:Hp}{ds:List D}{v:V}(s:Same G H)(h:Arg K G H (.tup ds) v):∃a vs,v=.ref a∧SqT K H a vs∧DenL K G ds vs:=by
 obtain⟨a,vs,h1,h2,h3⟩:=h.tup0 s;exact⟨a,vs,h1,.inl (.inl h2),h3⟩
theorem Arg.int{K:KA}{G H:Hp}{i:Int}{v:V}(h:Arg K G H (.int i) v):v=.int i:=by
 rcases h with h|⟨ds',a,vs,h1,_⟩|⟨t,kvs,a,h1,_⟩
 ·exact h
 ·cases h1
 ·cases h1
theorem Arg.bl{K:KA}{G H:Hp}{i:Bool}{v:V}(h:Arg K G H (.bl i) v):v=.bl i:=by
 rcases h with h|⟨ds',a,vs,h1,_⟩|⟨t,kvs,a,h1,_⟩
 ·exact h
 ·cases h1
 ·cases h1
theorem Arg.str{K:KA}{G H:Hp}{i:Str}{v:V}(h:Arg K G H (.str i) v):v=.str i:=by
 rcases h with h|⟨ds',a,vs,h1,_⟩|⟨t,kvs,a,h1,_⟩
 ·exact h
 ·cases h1
 ·cases h1
theorem Arg.non{K:KA}{G H:Hp}{v:V}(h:Arg K G H .non v):v=.non:=by
 rcases h with h|⟨ds',a,vs,h1,_⟩|⟨t,kvs,a,h1,_⟩
 ·exact h
 ·cases h1
 ·cases h1
theorem Arg.fn{K:KA}{G H:Hp}{f:Str}{v:V}(h:Arg K G H (.fn f) v):v=.ref (K.A f):=by
 rcases h with h|⟨ds',a,vs,h1,_⟩|⟨t,kvs,a,h1,_⟩
 ·exact h
 ·cases h1
 ·cases h1
inductive Res where
 |ok (d:D)
 |er (c:Str)
 |st
noncomputable def Res.bind(r:Res)(f:D→Res):Res:=match r with
 |.ok d=>f d
 |.er c=>.er c
 |.st=>.st
noncomputable def Res.of(o:Option D):Res:=match o with
 |some d=>.ok d
 |none=>.st
inductive ResL where
 |ok (ds:List D)
 |er (c:Str)
 |st
inductive Sl where
 |no
 |pu (d:D)
 |bo (d:D)
 |ow (ds:List D)
 |od (t:Bool) (kvs:List (D×D))
noncomputable abbrev En:=List Sl
noncomputable def SlOk(K:KA)(B G H:Hp):Sl→Option V→Prop
 |.no,_=>True
 |.pu d,o=>∃v,o=some v∧Den K G d v
 |.bo d,o=>∃v,o=some v∧Arg K G B d v
 |.ow ds,o=>∃a vs,o=some (.ref a)∧H a=some (.lst vs)∧DenL K G ds vs
 |.od false kvs,o=>∃a es,o=some (.ref a)∧H a=some (.dK es)∧DenK K G kvs es
 |.od true kvs,o=>∃a es,o=some (.ref a)∧H a=some (.dT es)∧DenT K G kvs es
noncomputable def Sl.own:Sl→Bool
 |.ow _=>true
 |.od _ _=>true
 |_=>false
def GOk(H:Hp):Prop:=∀p∈Lu,H p.2.1=some (.tbl (p.2.2))
theorem GOk.same{H H':Hp}(e:Same H H')(h:GOk H):GOk H':=λp hp=>e _ _ (h p hp)
structure EnvR(K:KA)(B G H:Hp)(σ:St)(δ:En):Prop where
 bh:Same B H
 gh:Same G H
 len:σ.length=δ.length
 sl:∀(i:Nat) s,δ[i]?=some s→∃o,σ[i]?=some o∧SlOk K B G H s o
 own:∀(i:Nat) s a,δ[i]?=some s→s.own=true→σ[i]?=some (some (V.ref a))→G a=none∧B a=none
 dis:∀(i j:Nat) s t a,δ[i]?=some s→δ[j]?=some t→s.own=true→t.own=true→σ[i]?=some (some (V.ref a))→σ[j]?=some (some (V.ref a))→i=j
 gb:GOk B
theorem zfn{K:KA}{G G' H:Hp}{d:D}{v:V}(e:Same G G')(h:Arg K G H d v):Arg K G' H d v:=by
 rcases h with h|⟨ds,a,vs,h1,h2,h3,h4⟩|⟨t,kvs,a,h1,h2,h3⟩
 ·exact .inl (h.mono e)
 ·exact .inr (.inl ⟨ds,a,vs,h1,h2,h3,h4.mono e⟩)
 ·exact .inr (.inr ⟨t,kvs,a,h1,h2,h3.elim (λ⟨z,es,q1,q2⟩=>.inl ⟨z,es,q1,q2.mono e⟩) λ⟨z,es,q1,q2⟩=>.inr ⟨z,es,q1,q2.mono e⟩⟩)
theorem zj8{K:KA}{G H H':Hp}{d:D}{v:V}(e:Same H H')(h:Arg K G H d v):Arg K G H' d v:=by
 rcases h with h|⟨ds,a,vs,h1,h2,h3,h4⟩|⟨t,kvs,a,h1,h2,h3⟩
 ·exact .inl h
 ·exact .inr (.inl ⟨ds,a,vs,h1,h2,SqL.mono e h3,h4⟩)
 ·exact .inr (.inr ⟨t,kvs,a,h1,h2,h3.elim (λ⟨z,es,q1,q2⟩=>.inl ⟨z,es,e _ _ q1,q2⟩) λ⟨z,es,q1,q2⟩=>.inr ⟨z,es,e _ _ q1,q2⟩⟩)
theorem SlOk.ext{K:KA}{B G H G' H':Hp}(e:Ext G H G' H'){s:Sl}{o:Option V}(h:SlOk K B G H s o):SlOk K B G' H' s o:=by
 cases s with
 |no=>trivial
 |pu d=>obtain⟨v,h1,h2⟩:=h;exact⟨v,h1,h2.mono e.gg⟩
 |bo d=>obtain⟨v,h1,h2⟩:=h;exact⟨v,h1,zfn e.gg h2⟩
 |ow ds=>obtain⟨a,vs,h1,h2,h3⟩:=h;exact⟨a,vs,h1,e.hh _ _ h2,h3.mono e.gg⟩
 |od t kvs=>
  cases t with
  |false=>obtain⟨a,vs,h1,h2,h3⟩:=h;exact⟨a,vs,h1,e.hh _ _ h2,h3.mono e.gg⟩
  |true=>obtain⟨a,vs,h1,h2,h3⟩:=h;exact⟨a,vs,h1,e.hh _ _ h2,h3.mono e.gg⟩
theorem SlOk.ref{K:KA}{B G H:Hp}{s:Sl}{o:Option V}(h:SlOk K B G H s o)(q:s.own=true):∃a,o=some (V.ref a)∧∃u,H a=some u∧nfz u=true:=by
 cases s with
 |no=>cases q
 |pu d=>cases q
 |bo d=>cases q
 |ow ds=>obtain⟨a,vs,h1,h2,_⟩:=h;exact⟨a,h1,_,h2,rfl⟩
 |od t kvs=>
  cases t with
  |false=>obtain⟨a,vs,h1,h2,_⟩:=h;exact⟨a,h1,_,h2,rfl⟩
  |true=>obtain⟨a,vs,h1,h2,_⟩:=h;exact⟨a,h1,_,h2,rfl⟩
theorem EnvR.ext{K:KA}{B G H G' H':Hp}{σ:St}{δ:En}(e:Ext G H G' H')(r:EnvR K B G H σ δ):EnvR K B G' H' σ δ where
 bh:=r.bh.trans e.hh
 gb:=r.gb
 gh:=e.gh
 len:=r.len
 sl:=λi s h=>by
  obtain⟨o,q1,q2⟩:=r.sl i s h;exact⟨o,q1,q2.ext e⟩
 own:=λi s a h1 h2 h3=>by
  obtain⟨g,b⟩:=r.own i s a h1 h2 h3;obtain⟨o,q1,q2⟩:=r.sl i s h1;rw[h3]at q1;cases q1;obtain⟨a',z,u,q3,q4⟩:=q2.ref h2;cases z;exact⟨e.fr a u q3 g q4,b⟩
 dis:=r.dis
def ResP(E:EK)(G H:Hp)(r:Res)(P:D→Prop):Prop:=match r with
 |.ok d=>P d
 |.er c=>∀G' H',Ext G H G' H'→E c H'
 |.st=>False
def ResLP(E:EK)(G H:Hp)(r:ResL)(P:List D→Prop):Prop:=match r with
 |.ok ds=>P ds
 |.er c=>∀G' H',Ext G H G' H'→E c H'
 |.st=>False
section
variable{E:EK}{G H G' H':Hp}
theorem ResP.mono{r:Res}{P P':D→Prop}(h:ResP E G H r P)(f:∀d,r=.ok d→P d→P' d):ResP E G H r P':=by
 cases r with
 |ok d=>exact f d rfl h
 |er c=>exact h
 |st=>exact h
theorem ResP.ext{r:Res}{P:D→Prop}(e:Ext G H G' H')(h:ResP E G H r P):ResP E G' H' r P:=by
 cases r with
 |ok d=>exact h
 |er c=>exact λG2 H2 e2=>h G2 H2 (e.trans e2)
 |st=>exact h
theorem ResP.bind{r:Res}{f:D→Res}{P:D→Prop}(h:ResP E G H (r.bind f) P):ResP E G H r λd=>ResP E G H (f d) P:=by
 cases r with
 |ok d=>exact h
 |er c=>exact h
 |st=>exact h
theorem ResP.of{o:Option D}{P:D→Prop}(h:ResP E G H (Res.of o) P):∃d,o=some d∧P d:=by
 cases o with
 |some d=>exact⟨d,rfl,h⟩
 |none=>exact h.elim
theorem ResLP.mono{r:ResL}{P P':List D→Prop}(h:ResLP E G H r P)(f:∀d,r=.ok d→P d→P' d):ResLP E G H r P':=by
 cases r with
 |ok d=>exact f d rfl h
 |er c=>exact h
 |st=>exact h
theorem ResLP.ext{r:ResL}{P:List D→Prop}(e:Ext G H G' H')(h:ResLP E G H r P):ResLP E G' H' r P:=by
 cases r with
 |ok d=>exact h
 |er c=>exact λG2 H2 e2=>h G2 H2 (e.trans e2)
 |st=>exact h
end
def ArgM(K:KA)(G H:Hp)(m:Bool)(d:D)(v:V):Prop:=match m with
 |true=>Arg K G H d v
 |false=>Den K G d v
noncomputable def ArgsM(K:KA)(G H:Hp):List Bool→List D→List V→Prop
 |[],ds,vs=>ds=[]∧vs=[]
 |m::ms,ds,vs=>∃d dr v vr,ds=d::dr∧vs=v::vr∧ArgM K G H m d v∧ArgsM K G H ms dr vr
theorem ArgM.ext{K:KA}{G H G' H':Hp}(e:Ext G H G' H'):∀{m:Bool}{d:D}{v:V},ArgM K G H m d v→ArgM K G' H' m d v
 |true,_,_,h=>Arg.ext e h
 |false,_,_,h=>Den.mono e.gg h
theorem ArgsM.ext{K:KA}{G H G' H':Hp}(e:Ext G H G' H'):∀{ms:List Bool}{ds:List D}{vs:List V},ArgsM K G H ms ds vs→ArgsM K G' H' ms ds vs
 |[],_,_,h=>h
 |_::_,_,_,⟨d,dr,v,vr,h1,h2,h3,h4⟩=>⟨d,dr,v,vr,h1,h2,h3.ext e,h4.ext e⟩
theorem ArgsM.length{K:KA}{G H:Hp}:∀{ms:List Bool}{ds:List D}{vs:List V},ArgsM K G H ms ds vs→ds.length=ms.length∧vs.length=ms.length
 |[],_,_,⟨h1,h2⟩=>by rw[h1,h2];exact⟨rfl,rfl⟩
 |_::_,_,_,⟨d,dr,v,vr,h1,h2,h3,h4⟩=>by
  obtain⟨q1,q2⟩:=h4.length;rw[h1,h2,kA7,kA7,kA7,q1,q2];exact⟨rfl,rfl⟩
section
variable(K:KA)(B:Hp)(E:EK)
noncomputable def tPu(g:En→Res):TE:=λσ H Q=>∃G δ,EnvR K B G H σ δ∧ResP E G H (g δ) λd=>∀v G' H',Ext G H G' H'→Den K G' d v→Q v H'
noncomputable def tAr(g:En→Res):TE:=λσ H Q=>∃G δ,EnvR K B G H σ δ∧ResP E G H (g δ) λd=>∀v G' H',Ext G H G' H'→Arg K G' H' d v→Q v H'
noncomputable def tOw(g:En→Res):TE:=λσ H Q=>∃G δ,EnvR K B G H σ δ∧ResP E G H (g δ) λd=>∃ds,d=.lst ds∧
 ∀a vs G' H',Ext G H G' H'→H a=none→G' a=none→H' a=some (.lst vs)→DenL K G' ds vs→Q (.ref a) H'
noncomputable def tTe(g:En→Res):TT:=λσ H Q=>∃G δ,EnvR K B G H σ δ∧ResP E G H (g δ) λd=>∃b,d=.bl b∧∀G' H',Ext G H G' H'→Q b H'
noncomputable def tAl(ms:List Bool)(g:En→ResL):TA:=λσ H Q=>∃G δ,EnvR K B G H σ δ∧ResLP E G H (g δ) λds=>∀vs G' H',Ext G H G' H'→ArgsM K G' H' ms ds vs→Q vs H'
end
abbrev ff(X:Cx)(B:Hp)(E:EK)(e:Expr)(g:En→Res):Prop:=PE X e (tPu (kx X) B E g)
abbrev iz(X:Cx)(B:Hp)(E:EK)(e:Expr)(g:En→Res):Prop:=PE X e (tAr (kx X) B E g)
abbrev L8(X:Cx)(B:Hp)(E:EK)(e:Expr)(g:En→Res):Prop:=PE X e (tOw (kx X) B E g)
abbrev B5(X:Cx)(B:Hp)(E:EK)(e:Expr)(g:En→Res):Prop:=PT X e (tTe (kx X) B E g)
abbrev V7(X:Cx)(B:Hp)(E:EK)(e:Expr)(g:En→Res):Prop:=PW X e (tTe (kx X) B E g)
abbrev L6(X:Cx)(B:Hp)(E:EK)(ms:List Bool)(es:List Expr)(g:En→ResL):Prop:=PA X es (tAl (kx X) B E ms g)
theorem PE.imp{X:Cx}{e:Expr}{t t':TE}(h:PE X e t)(i:∀σ H Q,t' σ H Q→t σ H Q):PE X e t':=λpins s σ H Q I q=>h pins s σ H Q I (i σ H Q q)
theorem PT.imp{X:Cx}{e:Expr}{t t':TT}(h:PT X e t)(i:∀σ H Q,t' σ H Q→t σ H Q):PT X e t':=λpins s σ H Q I q=>h pins s σ H Q I (i σ H Q q)
theorem PW.imp{X:Cx}{e:Expr}{t t':TT}(h:PW X e t)(i:∀σ H Q,t' σ H Q→t σ H Q):PW X e t':=λwh pins s σ H Q I q=>h wh pins s σ H Q I (i σ H Q q)
theorem PA.imp{X:Cx}{e:List Expr}{t t':TA}(h:PA X e t)(i:∀σ H Q,t' σ H Q→t σ H Q):PA X e t':=λpos pins s σ H Q I q=>h pos pins s σ H Q I (i σ H Q q)
section
variable{X:Cx}{B:Hp}{E:EK}{e a b c:Expr}{es:List Expr}{g h k:En→Res}{pos:Pos}
noncomputable def iu(i:Nat):En→Res:=λδ=>match δ[i]? with
 |some (.pu d)=>.ok d
 |_=>.st
noncomputable def af(i:Nat):En→Res:=λδ=>match δ[i]? with
 |some (.pu d)=>.ok d
 |some (.bo d)=>.ok d
 |some (.ow ds)=>.ok (.lst ds)
 |some (.od t kvs)=>.ok (.dct t kvs)
 |_=>.st
noncomputable def gC(d:D):En→Res:=λ_=>.ok d
theorem EnvR.var{K:KA}{G H:Hp}{σ:St}{δ:En}{i:Nat}{d:D}(R:EnvR K B G H σ δ)(h:δ[i]?=some (.pu d)):∃v,σ[i]?=some (some v)∧Den K G d v:=by
 obtain⟨o,q1,v,q2,q3⟩:=R.sl i _ h;exact⟨v,by rw[q1,q2],q3⟩
theorem EnvR.arg{K:KA}{G H:Hp}{σ:St}{δ:En}{i:Nat}{d:D}(R:EnvR K B G H σ δ)(h:af i δ=.ok d):∃v,σ[i]?=some (some v)∧Arg K G H d v:=by
 unfold af at h;cases e:δ[i]? with
 |none=>rw[e]at h;cases h
 |some s=>
  rw[e]at h;obtain⟨o,q1,q2⟩:=R.sl i _ e;cases s with
  |no=>cases h
  |pu d'=>
   cases h;obtain⟨v,q2,q3⟩:=q2;exact⟨v,by rw[q1,q2],.inl q3⟩
  |bo d'=>
   cases h;obtain⟨v,q2,q3⟩:=q2;exact⟨v,by rw[q1,q2],zj8 R.bh q3⟩
  |ow ds=>
   cases h;obtain⟨a,vs,q2,q3,q4⟩:=q2;exact⟨.ref a,by rw[q1,q2],.inr (.inl ⟨ds,a,vs,rfl,rfl,SqL.of q3,q4⟩)⟩
  |od t kvs=>
   cases h;cases t with
   |false=>
    obtain⟨a,vs,q2,q3,q4⟩:=q2;exact⟨.ref a,by rw[q1,q2],.inr (.inr ⟨false,kvs,a,rfl,rfl,.inl ⟨rfl,vs,q3,q4⟩⟩)⟩
   |true=>
    obtain⟨a,vs,q2,q3,q4⟩:=q2;exact⟨.ref a,by rw[q1,q2],.inr (.inr ⟨true,kvs,a,rfl,rfl,.inr ⟨rfl,vs,q3,q4⟩⟩)⟩
theorem zdw(i:Nat){x:Str}(h:PE X (.Name x pos) (Cw i)):ff X B E (.Name x pos) (iu i):=PE.imp h λσ H Q ⟨G,δ,R,q⟩=>by
 unfold iu at q;cases e:δ[i]? with
 |none=>rw[e]at q;exact q.elim
 |some s=>
  rw[e]at q;cases s with
  |pu d=>
   obtain⟨v,q1,q2⟩:=R.var e;exact⟨v,q1,q v G H (Ext.refl R.gh) q2⟩
  |no=>exact q.elim
  |bo d=>exact q.elim
  |ow d=>exact q.elim
  |od t d=>exact q.elim
theorem zbg(i:Nat){x:Str}(h:PE X (.Name x pos) (Cw i)):iz X B E (.Name x pos) (af i):=PE.imp h λσ H Q ⟨G,δ,R,q⟩=>by
 cases e:af i δ with
 |ok d=>
  rw[e]at q;obtain⟨v,q1,q2⟩:=R.arg e;exact⟨v,q1,q v G H (Ext.refl R.gh) q2⟩
 |er c=>
  unfold af at e;split at e<;>cases e
 |st=>rw[e]at q;exact q.elim
theorem zgr(h:ff X B E e g):iz X B E e g:=PE.imp h λσ H Q ⟨G,δ,R,q⟩=>⟨G,δ,R,q.mono λd _ q v G' H' x y=>q v G' H' x (.inl y)⟩
theorem m8{v:V}{d:D}(h:PE X e (tC v))(r:∀H,Den (kx X) H d v):ff X B E e (gC d):=PE.imp h λσ H Q ⟨G,δ,R,q⟩=>q v G H (Ext.refl R.gh) (r G)
theorem zdk{i j}:ff X B E (.Constant (.int i) j pos) (gC (.int i)):=m8 T1 λ_=>rfl
theorem zgs{b j}:ff X B E (.Constant (.bool b) j pos) (gC (.bl b)):=m8 zgm λ_=>rfl
theorem zdq{j}:ff X B E (.Constant .none j pos) (gC .non):=m8 zc0 λ_=>rfl
theorem zdt{x j}:ff X B E (.Constant (.str x) j pos) (gC (.str x)):=m8 zc4 λ_=>rfl
theorem Yu{x y:Str}{t:Tok}(hg:Gl X x)(hm:X.mg x=some (.str y t))(hd:(x==("__debug__":Str))=false:=by decide):ff X B E (.Name x pos) (gC (.str y)):=m8 (v:=.str y) (Nf hg hm ⟨t,rfl⟩ hd) λ_=>rfl
theorem o8{mg:Str→Option Value}{x:Str}{f:Addr}(h:mg x=some (.ref f)):yz mg x=f:=by unfold yz;rw[h]
theorem zdj{x:Str}{f:Addr}(hg:Gl X x)(hm:X.mg x=some (.ref f))(hd:(x==("__debug__":Str))=false:=by decide):ff X B E (.Name x pos) (gC (.fn x)):=m8 (Nf (v:=.ref f) hg hm rfl hd) λ_=>by show V.ref f=V.ref (yz X.mg x);rw[o8 hm]
noncomputable def g1(f:D→Option D)(g:En→Res):En→Res:=λδ=>(g δ).bind λx=>Res.of (f x)
noncomputable def g2(f:D→D→Option D)(g h:En→Res):En→Res:=λδ=>(g δ).bind λx=>(h δ).bind λy=>Res.of (f x y)
def gc(K:KA)(f:D→D→Option D)(r:R2):Prop:=∀G H x y dx dy d,Same G H→Arg K G H dx x→Arg K G H dy y→f dx dy=some d→
 ∀Q:VK,(∀v G' H',Ext G H G' H'→Den K G' d v→Q v H')→r x y H Q
def Z4(K:KA)(f:D→Option D)(r:V→Hp→VK→Prop):Prop:=∀G H x dx d,Same G H→Arg K G H dx x→f dx=some d→
 ∀Q:VK,(∀v G' H',Ext G H G' H'→Den K G' d v→Q v H')→r x H Q
theorem op2{K:KA}{f:D→D→Option D}{r:R2}(hp:gc K f r){σ:St}{H:Hp}{Q:VK}(q:tPu K B E (g2 f g h) σ H Q):tOp r (tAr K B E g) (tAr K B E h) σ H Q:=by
 obtain⟨G,δ,R,q⟩:=q;refine⟨G,δ,R,(ResP.bind q).mono λdx _ qx x G1 H1 e1 ax=>⟨G1,δ,R.ext e1,((ResP.bind qx).ext e1).mono λdy _ qy y G2 H2 e2 ay=>?_⟩⟩;obtain⟨d,ed,qd⟩:=ResP.of qy;exact hp G2 H2 x y dx dy d e2.gh (ax.ext e2) ay ed Q λv G' H' e3 dn=>qd v G' H' ((e1.trans e2).trans e3) dn
theorem op1{K:KA}{f:D→Option D}{r:V→Hp→VK→Prop}(hp:Z4 K f r){σ:St}{H:Hp}{Q:VK}(q:tPu K B E (g1 f g) σ H Q):tUn r (tAr K B E g) σ H Q:=by
 obtain⟨G,δ,R,q⟩:=q;refine⟨G,δ,R,(ResP.bind q).mono λdx _ qx x G1 H1 e1 ax=>?_⟩;obtain⟨d,ed,qd⟩:=ResP.of qx;exact hp G1 H1 x dx d e1.gh ax ed Q λv G' H' e3 dn=>qd v G' H' (e1.trans e3) dn
theorem Dr{op:Operator}{f:D→D→Option D}{r:R2}(ho:OpR X (binaryOp op) r)(hp:gc (kx X) f r)(ha:iz X B E a g)(hb:iz X B E b h):ff X B E (.BinOp a op b pos) (g2 f g h):=
 PE.imp (Ng ho ha hb) λσ H Q q=>op2 hp q
theorem zgy{op:UnaryOp}{f:D→Option D}{r:V→Hp→VK→Prop}(ho:UnR X (unaryOp op) r)(hp:Z4 (kx X) f r)(ha:iz X B E a g):ff X B E (.UnaryOp op a pos) (g1 f g):=
 PE.imp (zgp ho ha) λσ H Q q=>op1 hp q
theorem zdi{op:CmpOp}{f:D→D→Option D}{r:R2}(ho:OpR X (compareOp op) r)(hp:gc (kx X) f r)(ha:iz X B E a g)(hb:iz X B E b h)(hm:behindInMarks op b=false):ff X B E (.Compare a [op] [b] pos) (g2 f g h):=
 PE.imp (Yb ho ha hb hm) λσ H Q q=>op2 hp q
theorem Yp{op:CmpOp}{f:D→D→Option D}{r:R2}(ho:OpR X (compareOp op) r)(hp:gc (kx X) f r)(hb':∀x y d,f x y=some d→∃b,d=.bl b)(ha:iz X B E a g)(hb:iz X B E b h)(hm:behindInMarks op b=false):B5 X B E (.Compare a [op] [b] pos) (g2 f g h):=
 PT.imp (Np ho ha hb hm) λσ H Q ⟨G,δ,R,q⟩=>op2 hp ⟨G,δ,R,q.mono λd ed ⟨b,eb,qb⟩ v G' H' e3 dn=>by
  subst eb;exact⟨b,dn,qb G' H' e3⟩⟩
noncomputable def F5:D→Option Bool
 |.non=>some false
 |.bl b=>some b
 |.int i=>some (i !=0)
 |.str x=>if x.length≤sizeLine then some ((x.length:Int) !=0)else none
 |.tup ds=>some !ds.isEmpty
 |.lst ds=>some !ds.isEmpty
 |_=>none
noncomputable def bD(o:Option Bool):Option D:=o.map .bl
theorem yb{K:KA}{G:Hp}{ds:List D}{vs:List V}(h:DenL K G ds vs):(!ds.isEmpty)= !vs.isEmpty:=by
 have q:=h.length;cases ds<;>cases vs<;>first|rfl|(simp at q)
theorem Zq{K:KA}{G H:Hp}{d:D}{v:V}{b:Bool}(s:Same G H)(h:Arg K G H d v)(e:F5 d=some b):zbd K v H b:=by
 cases d with
 |non=>rw[h.non];cases e;rfl
 |bl i=>rw[h.bl];cases e;rfl
 |int i=>rw[h.int];cases e;rfl
 |str x=>
  rw[h.str];have e':(if x.length≤sizeLine then some ((x.length:Int) !=0)else none)=some b:=e
  by_cases hx:x.length≤sizeLine
  ·rw[if_pos hx]at e';cases e';exact⟨hx,rfl⟩
  ·rw[if_neg hx]at e';cases e'
 |tup ds=>
  obtain⟨a,vs,rfl,q1,q2⟩:=h.tup s;cases e;exact .inr (.inl ⟨vs,q1,yb q2⟩)
 |lst ds=>
  obtain⟨a,vs,rfl,q1,q2⟩:=h.lst s;cases e;exact .inl ⟨vs,q1,yb q2⟩
 |dct _ _=>cases e
 |obj _ _=>cases e
 |fn _=>cases e
theorem Ug(ha:iz X B E a g)(he:∀whole,isTrue a X.env whole=(do let v ←whole;standAt a.pos;holding [v] (truthy v)):=by intro _;rfl):B5 X B E a (g1 (λd=>bD (F5 d)) g):=
 PT.imp (Uh ha he) λσ H Q ⟨G,δ,R,q⟩=>⟨G,δ,R,(ResP.bind q).mono λdx _ qx x G1 H1 e1 ax=>by
  obtain⟨d,ed,b,eb,qb⟩:=ResP.of qx;dsimp only at ed;cases et:F5 dx with
  |none=>rw[et]at ed;cases ed
  |some b'=>
   rw[et]at ed;cases ed;cases eb;exact⟨b,Zq e1.gh ax et,qb G1 H1 e1⟩⟩
noncomputable def gIf(c a b:En→Res):En→Res:=λδ=>(c δ).bind λd=>match d with
 |.bl true=>a δ
 |.bl false=>b δ
 |_=>.st
noncomputable def jr(c:En→Res):En→Res:=λδ=>(c δ).bind λd=>match d with
 |.bl b=>.ok (.bl !b)
 |_=>.st
noncomputable def u7(a b:En→Res):En→Res:=gIf a b (gC (.bl false))
noncomputable def B3(a b:En→Res):En→Res:=gIf a (gC (.bl true)) b
theorem ifP{K:KA}{P:D→Prop}{c:En→Res}{δ:En}{a b:En→Res}{G H:Hp}(q:ResP E G H (gIf c a b δ) P):
  ResP E G H (c δ) λd=>∃t,d=.bl t∧(t=true→ResP E G H (a δ) P)∧(t=false→ResP E G H (b δ) P):=
 (ResP.bind q).mono λd _ q=>by
  cases d with
  |bl t=>cases t with
   |true=>exact⟨true,rfl,λ_=>q,λz=>by cases z⟩
   |false=>exact⟨false,rfl,λz=>(by cases z),λ_=>q⟩
  |non=>exact q.elim
  |int _=>exact q.elim
  |str _=>exact q.elim
  |tup _=>exact q.elim
  |lst _=>exact q.elim
  |dct _ _=>exact q.elim
  |obj _ _=>exact q.elim
  |fn _=>exact q.elim
theorem Yq(ha:B5 X B E a g):B5 X B E (.UnaryOp .Not a pos) (jr g):=PT.imp (zdd ha) λσ H Q ⟨G,δ,R,q⟩=>⟨G,δ,R,(ResP.bind q).mono λd _ q=>by
 cases d with
 |bl t=>
  obtain⟨b,eb,qb⟩:=q;cases eb;exact⟨t,rfl,qb⟩
 |non=>exact q.elim
 |int _=>exact q.elim
 |str _=>exact q.elim
 |tup _=>exact q.elim
 |lst _=>exact q.elim
 |dct _ _=>exact q.elim
 |obj _ _=>exact q.elim
 |fn _=>exact q.elim⟩
theorem Up(ha:B5 X B E a g):V7 X B E (.BoolOp .And [a] pos) g:=Yy ha
theorem Yz(ha:B5 X B E a g):V7 X B E (.BoolOp .Or [a] pos) g:=zd0 ha
theorem Yx{bg:List Expr}(ha:B5 X B E a g)(hb:V7 X B E (.BoolOp .And (b::bg) pos) h):V7 X B E (.BoolOp .And (a::b::bg) pos) (u7 g h):=
 PW.imp (zdy ha hb) λσ H Q ⟨G,δ,R,q⟩=>⟨G,δ,R,(ifP (K:=(kx X)) q).mono λd _ ⟨t,ed,qt⟩=>⟨t,ed,λG1 H1 e1=>by
  cases t with
  |true=>exact⟨G1,δ,R.ext e1,((qt.1 rfl).ext e1).mono λd _ ⟨b,eb,qb⟩=>⟨b,eb,λG2 H2 e2=>qb G2 H2 (e1.trans e2)⟩⟩
  |false=>
   obtain⟨b,eb,qb⟩:=(qt.2 rfl);cases eb;exact qb G1 H1 e1⟩⟩
theorem zdz{bg:List Expr}(ha:B5 X B E a g)(hb:V7 X B E (.BoolOp .Or (b::bg) pos) h):V7 X B E (.BoolOp .Or (a::b::bg) pos) (B3 g h):=
 PW.imp (zgz ha hb) λσ H Q ⟨G,δ,R,q⟩=>⟨G,δ,R,(ifP (K:=(kx X)) q).mono λd _ ⟨t,ed,qt⟩=>⟨t,ed,λG1 H1 e1=>by
  cases t with
  |false=>exact⟨G1,δ,R.ext e1,((qt.2 rfl).ext e1).mono λd _ ⟨b,eb,qb⟩=>⟨b,eb,λG2 H2 e2=>qb G2 H2 (e1.trans e2)⟩⟩
  |true=>
   obtain⟨b,eb,qb⟩:=(qt.1 rfl);cases eb;exact qb G1 H1 e1⟩⟩
theorem zgq(h:V7 X B E e g):B5 X B E e g:=PW.pt h
theorem Ul{op}(h:ff X B E a g):ff X B E (.BoolOp op [a] pos) g:=zc2 h
theorem zdg{bg:List Expr}(ha:ff X B E a g)(hb:ff X B E (.BoolOp .And (b::bg) pos) h):ff X B E (.BoolOp .And (a::b::bg) pos) (u7 g h):=
 PE.imp (zcy ha hb) λσ H Q ⟨G,δ,R,q⟩=>⟨G,δ,R,(ifP (K:=(kx X)) q).mono λd _ ⟨t,ed,qt⟩ v G1 H1 e1 dn=>by
  subst ed;refine⟨t,dn,?_⟩;cases t with
  |true=>exact⟨G1,δ,R.ext e1,((qt.1 rfl).ext e1).mono λd _ qb v G2 H2 e2 dn=>qb v G2 H2 (e1.trans e2) dn⟩
  |false=>exact(qt.2 rfl) _ G1 H1 e1 rfl⟩
theorem zgx{bg:List Expr}(ha:ff X B E a g)(hb:ff X B E (.BoolOp .Or (b::bg) pos) h):ff X B E (.BoolOp .Or (a::b::bg) pos) (B3 g h):=
 PE.imp (zgo ha hb) λσ H Q ⟨G,δ,R,q⟩=>⟨G,δ,R,(ifP (K:=(kx X)) q).mono λd _ ⟨t,ed,qt⟩ v G1 H1 e1 dn=>by
  subst ed;refine⟨t,dn,?_⟩;cases t with
  |false=>exact⟨G1,δ,R.ext e1,((qt.2 rfl).ext e1).mono λd _ qb v G2 H2 e2 dn=>qb v G2 H2 (e1.trans e2) dn⟩
  |true=>exact(qt.1 rfl) _ G1 H1 e1 rfl⟩
theorem zdr(ha:ff X B E a g):ff X B E (.UnaryOp .Not a pos) (jr g):=PE.imp (zc1 ha) λσ H Q ⟨G,δ,R,q⟩=>⟨G,δ,R,(ResP.bind q).mono λd _ q v G1 H1 e1 dn=>by
 cases d with
 |bl t=>exact⟨t,dn,q _ G1 H1 e1 rfl⟩
 |non=>exact q.elim
 |int _=>exact q.elim
 |str _=>exact q.elim
 |tup _=>exact q.elim
 |lst _=>exact q.elim
 |dct _ _=>exact q.elim
 |obj _ _=>exact q.elim
 |fn _=>exact q.elim⟩
theorem zgu{c:Expr}(hc:B5 X B E c k)(ha:ff X B E a g)(hb:ff X B E b h):ff X B E (.IfExp c a b pos) (gIf k g h):=
 PE.imp (Iu hc ha hb) λσ H Q ⟨G,δ,R,q⟩=>⟨G,δ,R,(ifP (K:=(kx X)) q).mono λd _ ⟨t,ed,qt⟩=>⟨t,ed,λG1 H1 e1=>by
  cases t with
  |true=>exact⟨G1,δ,R.ext e1,((qt.1 rfl).ext e1).mono λd _ qb v G2 H2 e2 dn=>qb v G2 H2 (e1.trans e2) dn⟩
  |false=>exact⟨G1,δ,R.ext e1,((qt.2 rfl).ext e1).mono λd _ qb v G2 H2 e2 dn=>qb v G2 H2 (e1.trans e2) dn⟩⟩⟩
noncomputable def bx:En→ResL:=λ_=>.ok []
noncomputable def ae(g:En→Res)(r:En→ResL):En→ResL:=λδ=>match g δ with
 | .ok d => (match r δ with
  |.ok ds=>.ok (d::ds)
  |.er c=>.er c
  |.st=>.st)
 |.er c=>.er c
 |.st=>.st
theorem zac{G H:Hp}{δ:En}{r:En→ResL}{P:List D→Prop}(q:ResLP E G H (ae g r δ) P):ResP E G H (g δ) λd=>ResLP E G H (r δ) λds=>P (d::ds):=by
 unfold ae at q;cases e:g δ with
 |ok d=>
  rw[e]at q;cases e2:r δ with
  |ok ds=>rw[e2]at q;exact q
  |er c=>rw[e2]at q;exact q
  |st=>rw[e2]at q;exact q
 |er c=>rw[e]at q;exact q
 |st=>rw[e]at q;exact q
theorem kc:L6 X B E [] [] bx:=PA.imp Bc λσ H Q ⟨G,δ,R,q⟩=>q [] G H (Ext.refl R.gh) ⟨rfl,rfl⟩
theorem jx{ms:List Bool}{r:En→ResL}(ha:iz X B E e g)(hr:L6 X B E ms es r)(hs:starEach (e::es) X.env=(false,eval e X.env)::starEach es X.env:=by rfl):L6 X B E (true::ms) (e::es) (ae g r):=
 PA.imp (mf ha hr hs) λσ H Q ⟨G,δ,R,q⟩=>⟨G,δ,R,(zac q).mono λd _ q x G1 H1 e1 ax=>⟨G1,δ,R.ext e1,(q.ext e1).mono λds _ q vs G2 H2 e2 al=>
  q (x::vs) G2 H2 (e1.trans e2) ⟨d,ds,x,vs,rfl,rfl,ax.ext e2,al⟩⟩⟩
theorem zq{ms:List Bool}{r:En→ResL}(ha:ff X B E e g)(hr:L6 X B E ms es r)(hs:starEach (e::es) X.env=(false,eval e X.env)::starEach es X.env:=by rfl):L6 X B E (false::ms) (e::es) (ae g r):=
 PA.imp (mf ha hr hs) λσ H Q ⟨G,δ,R,q⟩=>⟨G,δ,R,(zac q).mono λd _ q x G1 H1 e1 ax=>⟨G1,δ,R.ext e1,(q.ext e1).mono λds _ q vs G2 H2 e2 al=>
  q (x::vs) G2 H2 (e1.trans e2) ⟨d,ds,x,vs,rfl,rfl,ax.mono e2.gg,al⟩⟩⟩
noncomputable def D8:List Bool→Bool
 |[]=>true
 |b::r=> !b && D8 r
theorem ArgsM.den{K:KA}{G H:Hp}:∀{ms:List Bool}{ds:List D}{vs:List V},D8 ms=true→ArgsM K G H ms ds vs→DenL K G ds vs
 |[],_,_,_,⟨h1,h2⟩=>by subst h1;subst h2;exact rfl
 |true::_,_,_,h,_=>by simp[D8]at h
 |false::ms,_,_,h,⟨d,dr,v,vr,h1,h2,h3,h4⟩=>by
  subst h1;subst h2;exact⟨v,vr,rfl,h3,ArgsM.den (by simpa[D8]using h) h4⟩
noncomputable def ir(r:En→ResL):En→Res:=λδ=>match r δ with
 |.ok ds=>if ds.length≤sizeLine then .ok (.tup ds)else .st
 |.er c=>.er c
 |.st=>.st
noncomputable def iy(r:En→ResL):En→Res:=λδ=>match r δ with
 |.ok ds=>if ds.length≤sizeLine then .ok (.lst ds)else .st
 |.er c=>.er c
 |.st=>.st
theorem zk3{G H:Hp}{δ:En}{r:En→ResL}{P:D→Prop}(q:ResP E G H (ir r δ) P):ResLP E G H (r δ) λds=>ds.length≤sizeLine∧P (.tup ds):=by
 unfold ir at q;cases e:r δ with
 |ok ds=>
  rw[e]at q
  by_cases hl:ds.length≤sizeLine
  ·simp only[if_pos hl]at q;exact⟨hl,q⟩
  ·simp only[if_neg hl]at q;exact q.elim
 |er c=>rw[e]at q;exact q
 |st=>rw[e]at q;exact q
theorem zke{G H:Hp}{δ:En}{r:En→ResL}{P:D→Prop}(q:ResP E G H (iy r δ) P):ResLP E G H (r δ) λds=>ds.length≤sizeLine∧P (.lst ds):=by
 unfold iy at q;cases e:r δ with
 |ok ds=>
  rw[e]at q
  by_cases hl:ds.length≤sizeLine
  ·simp only[if_pos hl]at q;exact⟨hl,q⟩
  ·simp only[if_neg hl]at q;exact q.elim
 |er c=>rw[e]at q;exact q
 |st=>rw[e]at q;exact q
theorem DenL.upd{K:KA}{G:Hp}{p:Addr}{ds:List D}{vs:List V}(h:DenL K G ds vs)(n:G p=none)(o:HO):DenL K (upd G p o) ds vs:=h.mono (fb n o)
theorem eu{G H:Hp}{p:Addr}(s:Same G H)(n:H p=none):G p=none:=by
 cases e:G p with
 |none=>rfl
 |some u=>rw[s p u e]at n;cases n
theorem pv{K:KA}{G H:Hp}{p:Addr}{ds:List D}{vs:List V}(s:Same G H)(n:H p=none)(h:DenL K G ds vs):Den K (upd G p (.tup vs)) (.tup ds) (.ref p):=
 ⟨p,vs,rfl,cb,h.upd (eu s n) _⟩
theorem pq{K:KA}{G H:Hp}{p:Addr}{ds:List D}{vs:List V}(s:Same G H)(n:H p=none)(h:DenL K G ds vs):Den K (upd G p (.lst vs)) (.lst ds) (.ref p):=
 ⟨p,vs,rfl,SqL.of cb,h.upd (eu s n) _⟩
theorem zdv{x1}{ms:List Bool}{r:En→ResL}(hm:D8 ms=true)(h:L6 X B E ms es r):ff X B E (.Tuple es x1 pos) (ir r):=
 PE.imp (zc5 h) λσ H Q ⟨G,δ,R,q⟩=>⟨G,δ,R,(zk3 q).mono λds _ ⟨hl,q⟩ vs G1 H1 e1 al=>by
  have dl:=al.den hm;refine⟨by rw[←dl.length];exact hl,λp hp=>q _ (upd G1 p (.tup vs)) _ (e1.trans (Ext.new e1.gh _ hp)) (pv e1.gh hp dl)⟩⟩
theorem Fj{ms:List Bool}{r:En→ResL}(hm:D8 ms=true)(h:L6 X B E ms es r):L8 X B E (.List es pos) (iy r):=
 PE.imp (zcz h) λσ H Q ⟨G,δ,R,q⟩=>⟨G,δ,R,(zke q).mono λds _ ⟨hl,ds',ed,q⟩ vs G1 H1 e1 al=>by
  cases ed;have dl:=al.den hm;refine⟨by rw[←dl.length];exact hl,λp hp=>q p vs G1 _ (e1.trans (Ext.own e1.gh _ hp)) (eu e1.hh hp) (eu e1.gh hp) cb dl⟩⟩
theorem Ext.freeze{G H G' H':Hp}{a:Addr}{vs:List V}(e:Ext G H G' H')(hn:H a=none)(gn:G' a=none)(h:H' a=some (.lst vs)):Ext G H (upd G' a (.lst vs)) H':=by
 refine⟨e.gg.trans (fb gn _),e.hh,λb u q=>?_,λb u q g z=>?_⟩
 ·by_cases z:b=a
  ·subst z;rw[cb]at q;rw[h];exact q
  ·rw[bp z]at q;exact e.gh b u q
 ·rw[bp (cn q hn)];exact e.fr b u q g z
def IsL(g:En→Res):Prop:=∀δ d,g δ=.ok d→∃ds,d=.lst ds
theorem Es{r:En→ResL}:IsL (iy r):=λδ d h=>by
 unfold iy at h;cases e:r δ with
 |ok ds=>
  rw[e]at h
  by_cases hl:ds.length≤sizeLine
  ·simp only[if_pos hl]at h;cases h;exact⟨ds,rfl⟩
  ·simp only[if_neg hl]at h;cases h
 |er c=>rw[e]at h;cases h
 |st=>rw[e]at h;cases h
theorem M9(h:L8 X B E e g)(hl:IsL g):ff X B E e g:=PE.imp h λσ H Q ⟨G,δ,R,q⟩=>⟨G,δ,R,q.mono λd ed q=>by
 obtain⟨ds,rfl⟩:=hl δ d ed;exact⟨ds,rfl,λa vs G' H' e1 hn gn hh dl=>q _ (upd G' a (.lst vs)) H' (e1.freeze hn gn hh) ⟨a,vs,rfl,SqL.of cb,dl.mono (fb gn _)⟩⟩⟩
theorem zdm{ms:List Bool}{r:En→ResL}(hm:D8 ms=true)(h:L6 X B E ms es r):ff X B E (.List es pos) (iy r):=M9 (Fj hm h) Es
end
inductive Out where
 |nx (δ:En)
 |bk (δ:En)
 |ct (δ:En)
 |rt (d:D)
 |er (c:Str)
 |st
def OutP(K:KA)(G0 B:Hp)(E:EK)(G:Hp)(o:Out)(D:Ends):Prop:=match o with
 |.nx δ=>∀σ' G' H',Same G G'→EnvR K B G' H' σ' δ→Ext G0 B G' H'→D.nx σ' H'
 |.bk δ=>∀σ' G' H',Same G G'→EnvR K B G' H' σ' δ→Ext G0 B G' H'→D.bk σ' H'
 |.ct δ=>∀σ' G' H',Same G G'→EnvR K B G' H' σ' δ→Ext G0 B G' H'→D.ct σ' H'
 |.rt d=>∀v G' H',Ext G0 B G' H'→Den K G' d v→D.rt v H'
 |.er c=>∀G' H',Ext G0 B G' H'→E c H'
 |.st=>False
noncomputable def tSt(K:KA)(G0 B:Hp)(E:EK)(F:En→Out):TS:=λD σ H=>∃G δ,EnvR K B G H σ δ∧Ext G0 B G H∧OutP K G0 B E G (F δ) D
abbrev lu(X:Cx)(G0 B:Hp)(E:EK)(st:Stmt)(F:En→Out):Prop:=PS X st (tSt (kx X) G0 B E F)
abbrev ur(X:Cx)(G0 B:Hp)(E:EK)(st:List Stmt)(F:En→Out):Prop:=PSs X st (tSt (kx X) G0 B E F)
theorem PS.imp{X:Cx}{st:Stmt}{t t':TS}(h:PS X st t)(i:∀D σ H,t' D σ H→t D σ H):PS X st t':=λpins s σ H D I q=>h pins s σ H D I (i D σ H q)
theorem PSs.imp{X:Cx}{st:List Stmt}{t t':TS}(h:PSs X st t)(i:∀D σ H,t' D σ H→t D σ H):PSs X st t':=λpins s σ H D I q=>h pins s σ H D I (i D σ H q)
theorem OutP.same{K:KA}{G0 B:Hp}{E:EK}{G G1:Hp}{o:Out}{D:Ends}(s:Same G G1)(h:OutP K G0 B E G o D):OutP K G0 B E G1 o D:=by
 cases o with
 |nx δ=>exact λσ' G' H' q=>h σ' G' H' (s.trans q)
 |bk δ=>exact λσ' G' H' q=>h σ' G' H' (s.trans q)
 |ct δ=>exact λσ' G' H' q=>h σ' G' H' (s.trans q)
 |rt d=>exact h
 |er c=>exact h
 |st=>exact h
noncomputable def Res.then(r:Res)(f:D→Out):Out:=match r with
 |.ok d=>f d
 |.er c=>.er c
 |.st=>.st
theorem mi{K:KA}{G0 B:Hp}{E:EK}{G H:Hp}{r:Res}{f:D→Out}{D:Ends}(e:Ext G0 B G H)(h:OutP K G0 B E G (r.then f) D):ResP E G H r λd=>OutP K G0 B E G (f d) D:=by
 cases r with
 |ok d=>exact h
 |er c=>exact λG' H' q=>h G' H' (e.trans q)
 |st=>exact h
section
variable{X:Cx}{G0 B:Hp}{E:EK}{e c:Expr}{st:Stmt}{bg ss tt:List Stmt}{F F1 F2:En→Out}{g:En→Res}{pos:Pos}
noncomputable def jm:En→Out:=λδ=>.nx δ
noncomputable def d5(F1 F2:En→Out):En→Out:=λδ=>match F1 δ with
 |.nx δ'=>F2 δ'
 |o=>o
theorem zen:ur X G0 B E [] jm:=PSs.imp Yo λD σ H ⟨G,δ,R,e,q⟩=>q σ G H (Same.refl G) R e
theorem zkq{K:KA}{D:Ends}{σ:St}{H:Hp}(q:tSt K G0 B E (d5 F1 F2) D σ H):zhx (tSt K G0 B E F1) (tSt K G0 B E F2) D σ H:=by
 obtain⟨G,δ,R,e,q⟩:=q;refine⟨G,δ,R,e,?_⟩;unfold d5 at q;cases ef:F1 δ with
 |nx δ'=>
  rw[ef]at q;exact λσ' G' H' s R' e'=>⟨G',δ',R',e',OutP.same s q⟩
 |bk δ'=>rw[ef]at q;exact q
 |ct δ'=>rw[ef]at q;exact q
 |rt d=>rw[ef]at q;exact q
 |er c=>rw[ef]at q;exact q
 |st=>rw[ef]at q;exact q
theorem Zk(h1:lu X G0 B E st F1)(h2:ur X G0 B E bg F2):ur X G0 B E (st::bg) (d5 F1 F2):=PSs.imp (Iy h1 h2) λD σ H q=>zkq q
theorem zeo(h1:lu X G0 B E st F1):ur X G0 B E [st] F1:=zd h1
noncomputable def Nr:En→Out:=λδ=>.nx δ
theorem zhh{x j pos pos'}:lu X G0 B E (.Expr (.Constant (.str x) j pos) pos') Nr:=PS.imp zdb λD σ H ⟨G,δ,R,e,q⟩=>q σ G H (Same.refl G) R e
noncomputable def fm(g:En→Res):En→Out:=λδ=>(g δ).then .rt
theorem zhl(h:ff X B E e g):lu X G0 B E (.Return (some e) pos) (fm g):=PS.imp (Ub h) λD σ H ⟨G,δ,R,e,q⟩=>⟨G,δ,R,(mi e q).mono λd _ q v G' H' e1 dn=>q v G' H' (e.trans e1) dn⟩
noncomputable def xn(c:En→Res)(a b:En→Out):En→Out:=λδ=>(c δ).then λd=>match d with
 |.bl true=>a δ
 |.bl false=>b δ
 |_=>.st
theorem zkp(hc:B5 X B E c g)(ha:ur X G0 B E ss F1)(hb:ur X G0 B E tt F2):lu X G0 B E (.If c ss tt pos) (xn g F1 F2):=
 PS.imp (zap hc ha hb) λD σ H ⟨G,δ,R,e,q⟩=>⟨G,δ,R,(mi e q).mono λd _ q=>by
  cases d with
  |bl t=>cases t with
   |true=>exact⟨true,rfl,λG1 H1 e1=>⟨G1,δ,R.ext e1,e.trans e1,OutP.same e1.gg q⟩⟩
   |false=>exact⟨false,rfl,λG1 H1 e1=>⟨G1,δ,R.ext e1,e.trans e1,OutP.same e1.gg q⟩⟩
  |non=>exact q.elim
  |int _=>exact q.elim
  |str _=>exact q.elim
  |tup _=>exact q.elim
  |lst _=>exact q.elim
  |dct _ _=>exact q.elim
  |obj _ _=>exact q.elim
  |fn _=>exact q.elim⟩
theorem EnvR.set{K:KA}{G H:Hp}{σ:St}{δ:En}{i:Nat}{d:D}{v:V}(R:EnvR K B G H σ δ)(h:Den K G d v):EnvR K B G H (σ.set i (some v)) (δ.set i (.pu d)) where
 bh:=R.bh
 gb:=R.gb
 gh:=R.gh
 len:=by rw[kAp,kAp];exact R.len
 sl:=λj s q=>by
  by_cases z:i=j
  ·subst z;have hl:i<δ.length:=by
    have:=(kAh.mp q).1;rwa [kAp]at this
   rw[kAd hl]at q;cases q;exact⟨some v,kAd (by rw[R.len];exact hl),v,rfl,h⟩
  ·rw[kAa z]at q⊢;exact R.sl j s q
 own:=λj s a q1 q2 q3=>by
  by_cases z:i=j
  ·subst z;have hl:i<δ.length:=by
    have:=(kAh.mp q1).1;rwa [kAp]at this
   rw[kAd hl]at q1;cases q1;cases q2
  ·rw[kAa z]at q1 q3;exact R.own j s a q1 q2 q3
 dis:=λj k s t a q1 q2 q3 q4 q5 q6=>by
  have hj:i≠j:=by
   rintro rfl
   have hl:i<δ.length:=by
    have:=(kAh.mp q1).1;rwa [kAp]at this
   rw[kAd hl]at q1;cases q1;cases q3
  have hk:i≠k:=by
   rintro rfl
   have hl:i<δ.length:=by
    have:=(kAh.mp q2).1;rwa [kAp]at this
   rw[kAd hl]at q2;cases q2;cases q4
  rw[kAa hj]at q1 q5;rw[kAa hk]at q2 q6;exact R.dis j k s t a q1 q2 q3 q4 q5 q6
noncomputable def ni(i:Nat)(g:En→Res):En→Out:=λδ=>(g δ).then λd=>.nx (δ.set i (.pu d))
theorem zhm{i:Nat}{x:Str}{pos':Pos}(h:ff X B E e g)(hs:PS X (.Assign [.Name x pos'] e pos) (Lr (tPu (kx X) B E g) (p5 i))):lu X G0 B E (.Assign [.Name x pos'] e pos) (ni i g):=
 PS.imp hs λD σ H ⟨G,δ,R,e,q⟩=>⟨G,δ,R,(mi e q).mono λd _ q v G' H' e1 dn=>q _ G' H' e1.gg ((R.ext e1).set dn) (e.trans e1)⟩
theorem EnvR.setO{K:KA}{G H G' H':Hp}{σ:St}{δ:En}{i:Nat}{ds:List D}{a:Addr}{vs:List V}(R:EnvR K B G H σ δ)(e:Ext G H G' H')(hn:H a=none)(gn:G' a=none)(hh:H' a=some (.lst vs))(dl:DenL K G' ds vs):
  EnvR K B G' H' (σ.set i (some (.ref a))) (δ.set i (.ow ds)):=by
 have R':=R.ext e;have bn:B a=none:=eu R.bh hn;have oth:∀(j:Nat) s,δ[j]?=some s→s.own=true→σ[j]?=some (some (.ref a))→False:=λj s q1 q2 q3=>by
  obtain⟨o,z1,z2⟩:=R.sl j s q1;rw[q3]at z1;cases z1;obtain⟨a',z,u,z3,_⟩:=z2.ref q2;cases z;rw[hn]at z3;cases z3
 have at_i:∀{s:Sl},(δ.set i (.ow ds))[i]?=some s→s=.ow ds∧i<δ.length:=λq=>by
  have hl:i<δ.length:=by
   have:=(kAh.mp q).1;rwa [kAp]at this
  rw[kAd hl]at q;cases q;exact⟨rfl,hl⟩
 refine⟨R'.bh,R'.gh,by rw[kAp,kAp];exact R.len,λj s q=>?_,λj s b q1 q2 q3=>?_,λj k s t b q1 q2 q3 q4 q5 q6=>?_,R.gb⟩
 ·by_cases z:i=j
  ·subst z;obtain⟨rfl,hl⟩:=at_i q;exact⟨some (.ref a),kAd (by rw[R.len];exact hl),a,vs,rfl,hh,dl⟩
  ·rw[kAa z]at q⊢;exact R'.sl j s q
 ·by_cases z:i=j
  ·subst z;obtain⟨rfl,hl⟩:=at_i q1;rw[kAd (by rw[R.len];exact hl)]at q3;cases q3;exact⟨gn,bn⟩
  ·rw[kAa z]at q1 q3;exact R'.own j s b q1 q2 q3
 ·by_cases zj:i=j
  ·subst zj;obtain⟨rfl,hl⟩:=at_i q1;rw[kAd (by rw[R.len];exact hl)]at q5;cases q5
   by_cases zk:i=k
   ·exact zk
   ·rw[kAa zk]at q2 q6;exact(oth k t q2 q4 q6).elim
  ·rw[kAa zj]at q1 q5
   by_cases zk:i=k
   ·subst zk;obtain⟨rfl,hl⟩:=at_i q2;rw[kAd (by rw[R.len];exact hl)]at q6;cases q6;exact(oth j s q1 q3 q5).elim
   ·rw[kAa zk]at q2 q6;exact R'.dis j k s t b q1 q2 q3 q4 q5 q6
noncomputable def q0(i:Nat)(g:En→Res):En→Out:=λδ=>(g δ).then λd=>match d with
 |.lst ds=>.nx (δ.set i (.ow ds))
 |_=>.st
theorem U5{i:Nat}{x:Str}{pos':Pos}(h:L8 X B E e g)(hs:PS X (.Assign [.Name x pos'] e pos) (Lr (tOw (kx X) B E g) (p5 i))):lu X G0 B E (.Assign [.Name x pos'] e pos) (q0 i g):=
 PS.imp hs λD σ H ⟨G,δ,R,e,q⟩=>⟨G,δ,R,(mi e q).mono λd _ q=>by
  cases d with
  |lst ds=>exact⟨ds,rfl,λa vs G' H' e1 hn gn hh dl=>q _ G' H' e1.gg (R.setO e1 hn gn hh dl) (e.trans e1)⟩
  |non=>exact q.elim
  |bl _=>exact q.elim
  |int _=>exact q.elim
  |str _=>exact q.elim
  |tup _=>exact q.elim
  |dct _ _=>exact q.elim
  |obj _ _=>exact q.elim
  |fn _=>exact q.elim⟩
theorem EnvR.wr{K:KA}{G H:Hp}{σ:St}{δ:En}{i:Nat}{ds es:List D}{a:Addr}{vs ws:List V}(R:EnvR K B G H σ δ)(hi:δ[i]?=some (.ow ds))(hs:σ[i]?=some (some (.ref a)))(ha:H a=some (.lst vs))(dl:DenL K G es ws):
  EnvR K B G (upd H a (.lst ws)) σ (δ.set i (.ow es)):=by
 obtain⟨gn,bn⟩:=R.own i _ a hi rfl hs;have hl:i<δ.length:=(kAh.mp hi).1;have sb:∀{F:Hp},F a=none→Same F H→Same F (upd H a (.lst ws)):=λfn s b u q=>by
  rw[bp (cn q fn)];exact s b u q
 have ownEq:∀{j:Nat}{s:Sl},(δ.set i (.ow es))[j]?=some s→s.own=true→∃s',δ[j]?=some s'∧s'.own=true:=λ{j s} q o=>by
  by_cases z:i=j
  ·subst z;exact⟨_,hi,rfl⟩
  ·rw[kAa z]at q;exact⟨s,q,o⟩
 refine⟨sb bn R.bh,sb gn R.gh,by rw[kAp];exact R.len,λj s q=>?_,λj s b q1 q2 q3=>?_,λj k s t b q1 q2 q3 q4 q5 q6=>?_,R.gb⟩
 ·by_cases z:i=j
  ·subst z;rw[kAd hl]at q;cases q;exact⟨_,hs,a,ws,rfl,cb,dl⟩
  ·rw[kAa z]at q;obtain⟨o,z1,z2⟩:=R.sl j s q;refine⟨o,z1,?_⟩;cases s with
   |no=>trivial
   |pu d=>exact z2
   |bo d=>exact z2
   |ow fs=>
    obtain⟨b,us,y1,y2,y3⟩:=z2;have nb:b≠a:=by
     rintro rfl
     subst y1;exact z (R.dis i j _ _ b hi q rfl rfl hs z1)
    exact⟨b,us,y1,by rw[bp nb];exact y2,y3⟩
   |od t fs=>
    cases t with
    |false=>
     obtain⟨b,us,y1,y2,y3⟩:=z2;have nb:b≠a:=by
      rintro rfl
      rw[ha]at y2;cases y2
     exact⟨b,us,y1,by rw[bp nb];exact y2,y3⟩
    |true=>
     obtain⟨b,us,y1,y2,y3⟩:=z2;have nb:b≠a:=by
      rintro rfl
      rw[ha]at y2;cases y2
     exact⟨b,us,y1,by rw[bp nb];exact y2,y3⟩
 ·obtain⟨s',z1,z2⟩:=ownEq q1 q2;exact R.own j s' b z1 z2 q3
 ·obtain⟨s',z1,z2⟩:=ownEq q1 q3;obtain⟨t',y1,y2⟩:=ownEq q2 q4;exact R.dis j k s' t' b z1 y1 z2 y2 q5 q6
theorem Ext.wr{G H:Hp}{a:Addr}{o:HO}(e:Ext G0 B G H)(gn:G a=none)(bn:B a=none):Ext G0 B G (upd H a o):=
 ⟨e.gg,λb u q=>by rw[bp (cn q bn)];exact e.hh b u q,λb u q=>by rw[bp (cn q gn)];exact e.gh b u q,e.fr⟩
noncomputable def ua:D→Option (List D)
 |.lst ds=>some ds
 |.tup ds=>some ds
 |_=>none
noncomputable def turns(tg:D→En→Option En)(F:En→Out):List D→En→Out
 |[],δ=>.nx δ
 |d::r,δ=>match tg d δ with
  |none=>.st
  |some δ1=>match F δ1 with
   |.nx δ'=>turns tg F r δ'
   |.ct δ'=>turns tg F r δ'
   |.bk δ'=>.nx δ'
   |.rt d=>.rt d
   |.er c=>.er c
   |.st=>.st
end
section
variable{X:Cx}{G0 B:Hp}{E:EK}{e c tg iter:Expr}{st:Stmt}{bg ss tt:List Stmt}{F F1 F2:En→Out}{g:En→Res}{pos:Pos}
noncomputable def gBo(i:Nat):En→Res:=λδ=>match δ[i]? with
 |some (.pu d)=>.ok d
 |some (.bo d)=>.ok d
 |_=>.st
noncomputable def tBo(K:KA)(B:Hp)(E:EK)(g:En→Res):TE:=λσ H Q=>∃G δ,EnvR K B G H σ δ∧ResP E G H (g δ) λd=>∀v G' H',Ext G H G' H'→Arg K G' B d v→Q v H'
abbrev BoE(X:Cx)(B:Hp)(E:EK)(e:Expr)(g:En→Res):Prop:=PE X e (tBo (kx X) B E g)
theorem zbp(i:Nat){x:Str}(h:PE X (.Name x pos) (Cw i)):BoE X B E (.Name x pos) (gBo i):=PE.imp h λσ H Q ⟨G,δ,R,q⟩=>by
 unfold gBo at q;cases e:δ[i]? with
 |none=>rw[e]at q;exact q.elim
 |some s=>
  rw[e]at q;obtain⟨o,q1,q2⟩:=R.sl i _ e;cases s with
  |pu d=>
   obtain⟨v,q3,q4⟩:=q2;exact⟨v,by rw[q1,q3],q v G H (Ext.refl R.gh) (.inl q4)⟩
  |bo d=>
   obtain⟨v,q3,q4⟩:=q2;exact⟨v,by rw[q1,q3],q v G H (Ext.refl R.gh) q4⟩
  |no=>exact q.elim
  |ow d=>exact q.elim
  |od t d=>exact q.elim
theorem zfs(h:ff X B E e g):BoE X B E e g:=PE.imp h λσ H Q ⟨G,δ,R,q⟩=>⟨G,δ,R,q.mono λd _ q v G' H' x y=>q v G' H' x (.inl y)⟩
def D4(K:KA)(J:It)(ds:List D)(S:Hp→Hp→Prop):Prop:=∀(i:Nat) G H,S G H→Same G H→
 (∀d,ds[i]?=some d→J.go i H∧∀x H',J.yld i H x H'→∃G',Ext G H G' H'∧Den K G' d x)∧(ds.length≤i→J.stop i H)
noncomputable def tIt(K:KA)(B:Hp)(E:EK)(g:En→ResL):TI:=λσ H R=>∃G δ,EnvR K B G H σ δ∧ResLP E G H (g δ) λds=>∀J G' H',Ext G H G' H'→D4 K J ds (λG2 H2=>Same G' G2∧Same B H2)→R J H'
noncomputable def tIc(K:KA)(B:Hp)(E:EK)(g:En→ResL):TI:=λσ H R=>∃G δ,EnvR K B G H σ δ∧ResLP E G H (g δ) λds=>∀J G' H',Ext G H G' H'→D4 K J ds (λG2 H2=>Ext G' H' G2 H2)→R J H'
abbrev PuI(X:Cx)(B:Hp)(E:EK)(tg iter:Expr)(g:En→ResL):Prop:=PI X tg iter (tIt (kx X) B E g)
abbrev N8(X:Cx)(B:Hp)(E:EK)(tg iter:Expr)(g:En→ResL):Prop:=PI X tg iter (tIc (kx X) B E g)
theorem PI.imp{wi wi':TI}(h:PI X tg iter wi)(i:∀σ H R,wi' σ H R→wi σ H R):PI X tg iter wi':=λpins s σ H R I q=>h pins s σ H R I (i σ H R q)
theorem Kn{K:KA}{a:Addr}{G1:Hp}{ds:List D}{vs:List V}{S:Hp→Hp→Prop}(h:∀G H,S G H→Same G H→SqL K H a vs∧Same G1 G)(dl:DenL K G1 ds vs):D4 K (Itl K a) ds S:=λi G H hS sg=>by
 obtain⟨q,g⟩:=h G H hS sg;refine⟨λd ed=>?_,λhl=>⟨vs,q,by rw[←dl.length];exact hl⟩⟩;obtain⟨v,ev,dv⟩:=dl.get ed;refine⟨⟨vs,v,q,ev⟩,λx H' ⟨e,y⟩=>?_⟩;subst e;have z:=y vs q;rw[ev]at z;cases z;exact⟨G,Ext.refl sg,dv.mono g⟩
theorem Su{K:KA}{a:Addr}{G1:Hp}{ds:List D}{vs:List V}{S:Hp→Hp→Prop}(h:∀G H,S G H→Same G H→SqT K H a vs∧Same G1 G)(dl:DenL K G1 ds vs):D4 K (Itt K a) ds S:=λi G H hS sg=>by
 obtain⟨q,g⟩:=h G H hS sg;refine⟨λd ed=>?_,λhl=>⟨vs,q,by rw[←dl.length];exact hl⟩⟩;obtain⟨v,ev,dv⟩:=dl.get ed;refine⟨⟨vs,v,q,ev⟩,λx H' ⟨e,y⟩=>?_⟩;subst e;have z:=y vs q;rw[ev]at z;cases z;exact⟨G,Ext.refl sg,dv.mono g⟩
noncomputable def gr(lo:Int)(n:Nat):List D:=(kA5 n).map λ(i:Nat)=>.int (lo+i)
noncomputable def iq(r:En→ResL):En→ResL:=λδ=>match r δ with
 |.ok [.int j]=>if -(2 ^ 62)≤j∧j<2 ^ 62 then .ok (gr 0 j.toNat)else .st
 |.ok [.int i,.int j]=>if(-(2 ^ 62)≤i∧i<2 ^ 62)∧(-(2 ^ 62)≤j∧j<2 ^ 62)then .ok (gr i (j - i).toNat)else .st
 |.ok _=>.st
 |.er c=>.er c
 |.st=>.st
theorem zb4{K:KA}{lo:Int}{n:Nat}{S:Hp→Hp→Prop}:D4 K (Itr lo n) (gr lo n) S:=λi G H hS sg=>by
 refine⟨λd ed=>?_,λhl=>?_⟩
 ·unfold gr at ed;rw[kAs]at ed;cases e:(kA5 n)[i]? with
  |none=>rw[e]at ed;cases ed
  |some j=>
   rw[e]at ed;have hi:i<n:=by
    have:=(kAh.mp e).1;rwa [kB9]at this
   rw[List.getElem?_range hi]at e;cases e;cases ed;exact⟨hi,λx H' ⟨z,y⟩=>by subst z;exact⟨G,Ext.refl sg,y⟩⟩
 ·unfold gr at hl;rw[kA3,kB9]at hl;exact hl
theorem ArgsM.one{K:KA}{G H:Hp}{m:Bool}{d:D}{vs:List V}(h:ArgsM K G H [m] [d] vs):∃v,vs=[v]∧Arg K G H d v:=by
 obtain⟨d',dr,v,vr,h1,h2,h3,h4,h5⟩:=h;cases h1;subst h5;refine⟨v,h2,?_⟩;cases m
 ·exact .inl h3
 ·exact h3
theorem ArgsM.two{K:KA}{G H:Hp}{m m':Bool}{d d':D}{vs:List V}(h:ArgsM K G H [m,m'] [d,d'] vs):∃v u,vs=[v,u]∧Arg K G H d v∧Arg K G H d' u:=by
 obtain⟨d1,dr,v,vr,h1,h2,h3,h4⟩:=h;cases h1;obtain⟨u,z,au⟩:=ArgsM.one h4;subst z;refine⟨v,u,h2,?_,au⟩;cases m
 ·exact .inl h3
 ·exact h3
theorem zd3{G H:Hp}{δ:En}{r:En→ResL}{P:List D→Prop}(q:ResLP E G H (iq r δ) P):ResLP E G H (r δ) λds=>
  (∃j,ds=[.int j]∧-(2 ^ 62)≤j∧j<2 ^ 62∧P (gr 0 j.toNat))∨∃i j,ds=[.int i,.int j]∧(-(2 ^ 62)≤i∧i<2 ^ 62∧-(2 ^ 62)≤j∧j<2 ^ 62)∧P (gr i (j - i).toNat):=by
 unfold iq at q;cases e:r δ with
 |ok ds=>
  rw[e]at q;show _∨_;split at q
  ·rename_i z;cases z;split at q
   ·rename_i hc;exact .inl ⟨_,rfl,hc.1,hc.2,q⟩
   ·exact q.elim
  ·rename_i z;cases z;split at q
   ·rename_i hc;exact .inr ⟨_,_,rfl,⟨hc.1.1,hc.1.2,hc.2.1,hc.2.2⟩,q⟩
   ·exact q.elim
  ·exact q.elim
  ·rename_i z;cases z
  ·rename_i z;cases z
 |er c=>rw[e]at q;exact q
 |st=>rw[e]at q;exact q
theorem Ni{a:Expr}{m:Bool}{r:En→ResL}{p:Pos}(hg:Gl X "range")(hm:X.mg "range"=none)(ha:L6 X B E [m] [a] r)(hs:starEach [a] X.env=[(false,eval a X.env)]:=by rfl):PuI X B E tg (.Call (.Name "range" p) [a] [] pos) (iq r):=
 PI.imp (Pq hg hm ha hs) λσ H R ⟨G,δ,Rr,q⟩=>⟨G,δ,Rr,(zd3 q).mono λds _ q vs G1 H1 e1 al=>by
  rcases q with ⟨j,rfl,h1,h2,q⟩|⟨i,j,rfl,_⟩
  ·obtain⟨v,rfl,av⟩:=ArgsM.one al;exact⟨j,by rw[av.int],h1,h2,q _ G1 H1 e1 zb4⟩
  ·have:=al.length.1;simp at this⟩
theorem zc7{r:En→ResL}(h:PuI X B E tg iter r):N8 X B E tg iter r:=PI.imp h λσ H R ⟨G,δ,Rr,q⟩=>⟨G,δ,Rr,q.mono λds _ q J G' H' e ok=>q J G' H' e λi G2 H2 x sg=>ok i G2 H2 ⟨x.gg,(Rr.bh.trans e.hh).trans x.hh⟩ sg⟩
structure TgOk(X:Cx)(B:Hp)(tge:Expr)(gl:TG)(tgD:D→En→Option En):Prop where
 pg:PG X tge gl
 ok:∀{G H:Hp}{σ:St}{δ δ':En}{d:D}{v:V}{Q:St→Hp→Prop},EnvR (kx X) B G H σ δ→Den (kx X) G d v→tgD d δ=some δ'→(∀σ',EnvR (kx X) B G H σ' δ'→Q σ' H)→gl v σ H Q
noncomputable def g8(i:Nat):D→En→Option En:=λd δ=>some (δ.set i (.pu d))
theorem Zp{i:Nat}{x:Str}{p:Pos}(h:PG X (.Name x p) (p5 i)):TgOk X B (.Name x p) (p5 i) (g8 i):=⟨h,λR dn e q=>by
 cases e;exact q _ (R.set dn)⟩
noncomputable def xm(tgD:D→En→Option En)(r:En→ResL)(F:En→Out):En→Out:=λδ=>match r δ with
 |.ok ds=>turns tgD F ds δ
 |.er c=>.er c
 |.st=>.st
theorem zka{K:KA}{tgD:D→En→Option En}{r:En→ResL}{G H:Hp}{δ:En}{D:Ends}(e:Ext G0 B G H)(q:OutP K G0 B E G (xm tgD r F δ) D):ResLP E G H (r δ) λds=>OutP K G0 B E G (turns tgD F ds δ) D:=by
 unfold xm at q;cases er:r δ with
 |ok ds=>rw[er]at q;exact q
 |er c=>rw[er]at q;exact λG' H' x=>q G' H' (e.trans x)
 |st=>rw[er]at q;exact q
theorem zhi{gl:TG}{tgD:D→En→Option En}{r:En→ResL}(hp:PassesOwn (model X.prog X.w) X.A X.env X.xe)(hc:X.calm=true)(hi:PuI X B E tg iter r)(hg:TgOk X B tg gl tgD)(hb:ur X G0 B E ss F)
  (hs:∀x,foldedSetIterable iter X.env x=pure x:=by intro _;rfl):lu X G0 B E (.For tg iter ss [] pos) (xm tgD r F):=
 PS.imp (zdc hp hc hi hg.pg hb hs) λD σ H ⟨G,δ,R,e,q⟩=>⟨G,δ,R,(zka e q).mono λds _ q J G1 H1 e1 ok=>by
  refine⟨λi m σ H=>m=ds.length - i∧i≤ds.length∧∃G2 δ2,Same G1 G2∧EnvR (kx X) B G2 H σ δ2∧Ext G0 B G2 H∧OutP (kx X) G0 B E G2 (turns tgD F (ds.drop i) δ2) D,
   ⟨ds.length,by simp,kAt _,G1,δ,Same.refl G1,R.ext e1,e.trans e1,OutP.same e1.gg q⟩,?_⟩
  rintro i m σ2 H2 ⟨rfl,hi2,G2,δ2,s2,R2,x2,q2⟩
  obtain⟨okg,oks⟩:=ok i G2 H2 ⟨s2,R2.bh⟩ R2.gh
  by_cases hl:i<ds.length
  ·obtain⟨go,yl⟩:=okg ds[i] (by simp[hl]);rw[kBg hl]at q2;refine .inr ⟨go,λσ' H'=>i+1≤ds.length∧∃G3 δ3,Same G1 G3∧EnvR (kx X) B G3 H' σ' δ3∧Ext G0 B G3 H'∧OutP (kx X) G0 B E G3 (turns tgD F (ds.drop (i+1)) δ3) D,
    λσ' H' ⟨n1,n2⟩=>⟨ds.length - (i+1),by omega,rfl,n1,n2⟩,λx H3 y=>?_⟩
   obtain⟨G3,e3,dn⟩:=yl x H3 y;unfold turns at q2;cases et:tgD ds[i] δ2 with
   |none=>rw[et]at q2;exact q2.elim
   |some δ3=>
    rw[et]at q2;dsimp only at q2;refine hg.ok (R2.ext e3) dn et λσ3 R3=>⟨G3,δ3,R3,x2.trans e3,?_⟩;have s3:Same G1 G3:=s2.trans e3.gg;cases ef:F δ3 with
    |nx δ4=>
     rw[ef]at q2;exact λσ' G' H' s R' x'=>⟨hl,G',δ4,s3.trans s,R',x',OutP.same (e3.gg.trans s) q2⟩
    |ct δ4=>
     rw[ef]at q2;exact λσ' G' H' s R' x'=>⟨hl,G',δ4,s3.trans s,R',x',OutP.same (e3.gg.trans s) q2⟩
    |bk δ4=>
     rw[ef]at q2;exact λσ' G' H' s R' x'=>q2 σ' G' H' (e3.gg.trans s) R' x'
    |rt d=>rw[ef]at q2;exact q2
    |er c=>rw[ef]at q2;exact q2
    |st=>rw[ef]at q2;exact q2
  ·have z:i=ds.length:=by omega
   subst z;rw[List.drop_length]at q2;exact .inl ⟨oks (kA0 _),q2 σ2 G2 H2 (Same.refl G2) R2 x2⟩⟩
noncomputable def cz:List Bool→List D→En
 |_,[]=>[]
 |true::ms,d::ds=>.bo d::cz ms ds
 |false::ms,d::ds=>.pu d::cz ms ds
 |[],_::_=>[]
noncomputable def jl:Out→Res
 |.rt d=>.ok d
 |.nx _=>.ok .non
 |.er c=>.er c
 |_=>.st
noncomputable def fnD(ms:List Bool)(n:Nat)(F:En→Out)(ds:List D):Res:=jl (F (cz ms ds++kA2 (n - ds.length) .no))
noncomputable def Lo(K:KA)(ms:List Bool)(f:List D→Res):Sp:=λvs H Q E=>vs.length=ms.length∧GOk H∧∃G ds,Same G H∧ArgsM K G H ms ds vs∧ResP (ek K E) G H (f ds) λd=>∀v G' H',Ext G H G' H'→Den K G' d v→Q v H'
theorem Dc{K:KA}{G H:Hp}:∀{ms:List Bool}{ds:List D}{vs:List V},ArgsM K G H ms ds vs→(cz ms ds).length=vs.length
 |[],_,_,⟨h1,h2⟩=>by subst h1;subst h2;rfl
 |m::ms,_,_,⟨d,dr,v,vr,h1,h2,h3,h4⟩=>by
  subst h1;subst h2;have ih:=Dc h4;cases m<;>simp only[cz,kA7,ih]
theorem my{K:KA}{G H:Hp}:∀{ms:List Bool}{ds:List D}{vs:List V},ArgsM K G H ms ds vs→∀(i:Nat) s,(cz ms ds)[i]?=some s→s.own=false∧∃v,vs[i]?=some v∧SlOk K H G H s (some v)
 |[],_,_,⟨h1,h2⟩,i,s,q=>by subst h1;simp[cz]at q
 |m::ms,_,_,⟨d,dr,v,vr,h1,h2,h3,h4⟩,i,s,q=>by
  subst h1;subst h2;cases i with
  |zero=>
   cases m with
   |true=>
    simp only[cz,List.getElem?_cons_zero,kAg.injEq]at q;subst q;exact⟨rfl,v,rfl,v,rfl,h3⟩
   |false=>
    simp only[cz,List.getElem?_cons_zero,kAg.injEq]at q;subst q;exact⟨rfl,v,rfl,v,rfl,h3⟩
  |succ i=>
   cases m with
   |true=>
    simp only[cz,List.getElem?_cons_succ]at q;obtain⟨q1,u,q2,q3⟩:=my h4 i s q;exact⟨q1,u,by simpa using q2,q3⟩
   |false=>
    simp only[cz,List.getElem?_cons_succ]at q;obtain⟨q1,u,q2,q3⟩:=my h4 i s q;exact⟨q1,u,by simpa using q2,q3⟩
theorem Ah{K:KA}{G H:Hp}{ms:List Bool}{ds:List D}{vs:List V}{N:List Str}(gb:GOk H)(s:Same G H)(al:ArgsM K G H ms ds vs):EnvR K H G H (L2.mh N vs) (cz ms ds++kA2 (N.length - ds.length) .no):=by
 have l1:=Dc al;obtain⟨l2,l3⟩:=al.length;have key:∀(i:Nat) t,(cz ms ds++kA2 (N.length - ds.length) Sl.no)[i]?=some t→t=.no∨(i<vs.length∧(cz ms ds)[i]?=some t):=λi t q=>by
  by_cases z:i<(cz ms ds).length
  ·rw[kBc z]at q;exact .inr ⟨by rw[←l1];exact z,q⟩
  ·rw[kBf (by omega)]at q;have:=kAy q;exact .inl (List.eq_of_mem_replicate this)
 refine⟨Same.refl H,s,?_,λi t q=>?_,λi t a q1 q2 q3=>?_,λi j t u a q1 q2 q3 q4 q5 q6=>?_,gb⟩
 ·unfold L2.mh;rw[kAi,kAi,kA3,kBd,kBd,l1,l2,l3]
 ·rcases key i t q with rfl|⟨hi,qe⟩
  ·have hl:i<(L2.mh N vs).length:=by
    have:=(kAh.mp q).1;rw[kAi,kBd,l1]at this;unfold L2.mh;rw[kAi,kA3,kBd];omega
   exact⟨_,kB2 hl,trivial⟩
  ·obtain⟨_,v,ev,ok⟩:=my al i t qe;refine⟨some v,?_,ok⟩;unfold L2.mh;rw[kBc (by rw[kA3];exact hi),kAs,ev];rfl
 ·rcases key i t q1 with rfl|⟨hi,qe⟩
  ·cases q2
  ·obtain⟨z,_⟩:=my al i t qe;rw[z]at q2;cases q2
 ·rcases key i t q1 with rfl|⟨hi,qe⟩
  ·cases q3
  ·obtain⟨z,_⟩:=my al i t qe;rw[z]at q3;cases q3
theorem X7{K:KA}{G H:Hp}{E:EK}{Q:VK}{o:Out}(s:Same G H)(h:ResP E G H (jl o) λd=>∀v G' H',Ext G H G' H'→Den K G' d v→Q v H'):
  OutP K G H E G o {nx:=λ_ H'=>Q .non H',rt:=Q}:=by
 cases o with
 |nx δ=>exact λσ' G' H' _ _ e=>h .non G' H' e rfl
 |bk δ=>exact h.elim
 |ct δ=>exact h.elim
 |rt d=>exact λv G' H' e dn=>h v G' H' e dn
 |er c=>exact h
 |st=>exact h
end
section
variable{X:Cx}{B:Hp}{E:EK}{e:Expr}{es:List Expr}{pos p:Pos}{x:Str}
noncomputable def dq(f:List D→Res)(r:En→ResL):En→Res:=λδ=>match r δ with
 |.ok ds=>f ds
 |.er c=>.er c
 |.st=>.st
theorem Q1{G H:Hp}{δ:En}{r:En→ResL}{f:List D→Res}{P:D→Prop}(q:ResP E G H (dq f r δ) P):ResLP E G H (r δ) λds=>ResP E G H (f ds) P:=by
 unfold dq at q;cases e:r δ with
 |ok ds=>rw[e]at q;exact q
 |er c=>rw[e]at q;exact q
 |st=>rw[e]at q;exact q
theorem Yr{CX:L7}{k:Nat}{f:Addr}{fd:FuncData}{ps:List Str}{ms:List Bool}{fD:List D→Res}{r:En→ResL}{E:XK}(F:FnOk X.prog X.w X.K X.mg X.base CX k f fd ps (Lo (kx X) ms fD))(hr:Room k X.A)(hg:Gl X x)(hm:X.mg x=some (.ref f))(hk:kAc X.K (.ref f)=true)
  (hb:Binds X.K fd ps [])(hx:j9 CX X E)(ha:L6 X B (ek (kx X) E) ms (e::es) r)(hdb:(x==("__debug__":Str))=false:=by decide)(he:starEach (e::es) X.env=(false,eval e X.env)::starEach es X.env:=by rfl)(hpl:(backTo pos (starEach es X.env)).any (·.1)=false:=by rfl):
  ff X B (ek (kx X) E) (.Call (.Name x p) (e::es) [] pos) (dq fD r):=
 PE.imp (Nd F hr hg hm hk hb .nil hx ha hdb he hpl) λσ H Q ⟨G,δ,R,q⟩=>⟨G,δ,R,(Q1 q).mono λds _ q vs G1 H1 e1 al=>
  ⟨by rw[kB0];exact al.length.2,R.gb.same (R.bh.trans e1.hh),G1,ds,e1.gh,by rw[kB0];exact al,(q.ext e1).mono λd _ q v G' H' e2 dn=>q v G' H' (e1.trans e2) dn⟩⟩
theorem Ui{CX:L7}{k:Nat}{f:Addr}{fd:FuncData}{ps:List Str}{fD:List D→Res}{E:XK}(F:FnOk X.prog X.w X.K X.mg X.base CX k f fd ps (Lo (kx X) [] fD))(hr:Room k X.A)(hg:Gl X x)(hm:X.mg x=some (.ref f))(hk:kAc X.K (.ref f)=true)
  (hb:Binds X.K fd ps [])(hx:j9 CX X E)(hdb:(x==("__debug__":Str))=false:=by decide):ff X B (ek (kx X) E) (.Call (.Name x p) [] [] pos) (λ_=>fD []):=
 PE.imp (Tv F hr hg hm hk hb .nil hx hdb) λσ H Q ⟨G,δ,R,q⟩=>⟨rfl,R.gb.same R.bh,G,[],R.gh,⟨rfl,rfl⟩,q⟩
end
mutual
noncomputable def dj:D→Option PyData
 |.non=>some .none
 |.bl b=>some (.bool b)
 |.int i=>some (.int i)
 |.str x=>some (.str x)
 |.tup ds=>match e8 ds with
  |some ps=>some (.tuple ps)
  |none=>none
 |.lst ds=>match e8 ds with
  |some ps=>some (.list ps)
  |none=>none
 |.dct _ _=>none
 |.obj _ _=>none
 |.fn _=>none
noncomputable def e8:List D→Option (List PyData)
 |[]=>some []
 |d::ds=>match dj d with
  | some p => (match e8 ds with
   |some ps=>some (p::ps)
   |none=>none)
  |none=>none
end
section
variable{X:Cx}{pins:List (Addr×Obj)}{σ:St}{G H:Hp}{s:Shared}
mutual
theorem vq(I:Inv X pins σ H s)(sg:Same G H):∀{d:D}{v:V}{u:Value}{p:PyData},Den (kx X) G d v→RelV v u→dj d=some p→∃as,Reads s.heap u p as
 |.non,v,u,p,h,r,e=>by
  cases (show v=.non from h);cases (show u=Value.none from r);cases e;exact⟨_,Reads.none⟩
 |.bl b,v,u,p,h,r,e=>by
  cases (show v=.bl b from h);cases (show u=Value.bool b from r);cases e;exact⟨_,Reads.bool b⟩
 |.int i,v,u,p,h,r,e=>by
  cases (show v=.int i from h);obtain⟨t,q⟩:=(show∃t,u=Value.int i t from r);cases q;cases e;exact⟨_,Reads.int i t⟩
 |.str x,v,u,p,h,r,e=>by
  cases (show v=.str x from h);obtain⟨t,q⟩:=(show∃t,u=Value.str x t from r);cases q;cases e;exact⟨_,Reads.str x t⟩
 |.tup ds,v,u,p,h,r,e=>by
  obtain⟨a,vs,rfl,sq,dl⟩:=h;cases (show u=Value.ref a from r);unfold dj at e;cases e2:e8 ds with
  |none=>rw[e2]at e;cases e
  |some ps=>
   rw[e2]at e;cases e;obtain⟨its,rv,⟨o,ho,hc,n,hd⟩,_⟩:=I.tuple (SqT.of (sg _ _ sq));obtain⟨as,ra⟩:=rn I sg dl rv e2;exact⟨as,Reads.tuple ho hc hd (by simpa using ra)⟩
 |.lst ds,v,u,p,h,r,e=>by
  obtain⟨a,vs,rfl,sq,dl⟩:=h;cases (show u=Value.ref a from r);unfold dj at e;cases e2:e8 ds with
  |none=>rw[e2]at e;cases e
  |some ps=>
   rw[e2]at e;cases e;obtain⟨its,rv,pl,_⟩:=I.list (SqL.mono sg sq);obtain⟨o,ho,hc,n,hd⟩:=pl.isList;obtain⟨as,ra⟩:=rn I sg dl rv e2;exact⟨_,Reads.list ho hc hd (by simpa using ra)⟩
 |.dct _ _,_,_,_,_,_,e=>by cases e
 |.obj _ _,_,_,_,_,_,e=>by cases e
 |.fn _,_,_,_,_,_,e=>by cases e
theorem rn(I:Inv X pins σ H s)(sg:Same G H):∀{ds:List D}{vs:List V}{us:List Value}{ps:List PyData},DenL (kx X) G ds vs→Vals vs us→e8 ds=some ps→∃as,ReadsAll s.heap us ps as
 |[],vs,us,ps,h,r,e=>by
  cases (show vs=[]from h);cases r;cases e;exact⟨_,ReadsAll.nil⟩
 |d::ds,vs,us,ps,h,r,e=>by
  obtain⟨v,vr,rfl,dv,dl⟩:=h;cases r with
  |cons rv rr=>
   unfold e8 at e;cases e1:dj d with
   |none=>rw[e1]at e;cases e
   |some p=>
    rw[e1]at e;dsimp only at e;cases e2:e8 ds with
    |none=>rw[e2]at e;cases e
    |some ps'=>
     rw[e2]at e;cases e;obtain⟨as,ra⟩:=vq I sg dv rv e1;obtain⟨bs,rb⟩:=rn I sg dl rr e2;exact⟨_,ReadsAll.cons ra rb⟩
end
theorem cv(I:Inv X pins σ H s)(sg:Same G H){d:D}{v:V}{u:Value}{p:PyData}(h:Arg (kx X) G H d v)(r:RelV v u)(e:dj d=some p):∃as,Reads s.heap u p as:=by
 rcases h with h|⟨ds,a,vs,rfl,rfl,sq,dl⟩|⟨t,kvs,a,rfl,_⟩
 ·exact vq I sg h r e
 ·cases (show u=Value.ref a from r);unfold dj at e;cases e2:e8 ds with
  |none=>rw[e2]at e;cases e
  |some ps=>
   rw[e2]at e;cases e;obtain⟨its,rv,pl,_⟩:=I.list sq;obtain⟨o,ho,hc,n,hd⟩:=pl.isList;obtain⟨as,ra⟩:=rn I sg dl rv e2;exact⟨_,Reads.list ho hc hd (by simpa using ra)⟩
 ·cases e
end
noncomputable def Qn(d e:D):Option Bool:=match dj d,dj e with
 |some p,some q=>if SeqAt.shaped p && SeqAt.shaped q then some (PyData.eqv p q)else none
 |_,_=>none
noncomputable def js(d e:D):Option D:=(Qn d e).map .bl
noncomputable def mr(d e:D):Option D:=(Qn d e).map λb=>.bl !b
theorem Hd{d e:D}{b:Bool}(h:Qn d e=some b):∃p q,dj d=some p∧dj e=some q∧SeqAt.shaped p=true∧SeqAt.shaped q=true∧b=PyData.eqv p q:=by
 unfold Qn at h;cases e1:dj d with
 |none=>rw[e1]at h;cases h
 |some p=>
  cases e2:dj e with
  |none=>rw[e1,e2]at h;cases h
  |some q=>
   rw[e1,e2]at h;dsimp only at h
   by_cases hs:(SeqAt.shaped p && SeqAt.shaped q)=true
   ·rw[if_pos hs]at h;cases h;rw[kA1]at hs;exact⟨p,q,rfl,rfl,hs.1,hs.2,rfl⟩
   ·rw[if_neg hs]at h;cases h
section
variable{X:Cx}{B:Hp}{E:EK}{e a b:Expr}{es:List Expr}{g h:En→Res}{pos:Pos}
noncomputable def Y2(K:KA)(neg:Bool):R2:=λx y H Q=>∃G dx dy b,Same G H∧Arg K G H dx x∧Arg K G H dy y∧Qn dx dy=some b∧Q (.bl (if neg then !b else b)) H
theorem zck(hu:X.A.units+64<cLine):OpR X (compareOp .Eq) (Y2 (kx X) false):=by
 intro pins s σ H x y v u Q I rx ry q;obtain⟨G,dx,dy,b,sg,ax,ay,eb,q⟩:=q;obtain⟨p,p',e1,e2,s1,s2,rfl⟩:=Hd eb;obtain⟨as,ra⟩:=cv I sg ax rx e1;obtain⟨bs,rb⟩:=cv I sg ay ry e2;exact eq_dataH ra rb s1 s2 hu ⟨.bl (PyData.eqv p p'),H,I,rfl,q⟩
theorem zcs(hu:X.A.units+64<cLine):OpR X (compareOp .NotEq) (Y2 (kx X) true):=by
 intro pins s σ H x y v u Q I rx ry q;obtain⟨G,dx,dy,b,sg,ax,ay,eb,q⟩:=q;obtain⟨p,p',e1,e2,s1,s2,rfl⟩:=Hd eb;obtain⟨as,ra⟩:=cv I sg ax rx e1;obtain⟨bs,rb⟩:=cv I sg ay ry e2;exact ne_dataH ra rb s1 s2 hu ⟨.bl (!PyData.eqv p p'),H,I,rfl,q⟩
theorem Yh{K:KA}:gc K js (Y2 K false):=λG H x y dx dy d sg ax ay ed Q q=>by
 unfold js at ed;cases e:Qn dx dy with
 |none=>rw[e]at ed;cases ed
 |some b=>rw[e]at ed;cases ed;exact⟨G,dx,dy,b,sg,ax,ay,e,q _ G H (Ext.refl sg) rfl⟩
theorem Yk{K:KA}:gc K mr (Y2 K true):=λG H x y dx dy d sg ax ay ed Q q=>by
 unfold mr at ed;cases e:Qn dx dy with
 |none=>rw[e]at ed;cases ed
 |some b=>rw[e]at ed;cases ed;exact⟨G,dx,dy,b,sg,ax,ay,e,q _ G H (Ext.refl sg) rfl⟩
theorem A1{o:Option Bool}{d:D}{f:Bool→Bool}(h:(o.map λb=>D.bl (f b))=some d):∃b,d=.bl b:=by
 cases o with
 |none=>cases h
 |some b=>cases h;exact⟨_,rfl⟩
noncomputable def pyI(f:Int→Int→Option D):D→D→Option D
 |.int i,.int j=>f i j
 |_,_=>none
noncomputable def s9:D→D→Option D:=pyI λi j=>some (.int (i - j))
noncomputable def nh:D→D→Option D:=pyI λi j=>if 0<j then some (.int (i % j))else none
noncomputable def um:D→D→Option D:=pyI λi j=>if 0<j∧j<1073741824 then some (.int (i / j))else none
noncomputable def Nq:D→D→Option D:=pyI λi j=>if 0≤j∧j≤1000000∧i.natAbs<2 ^ 64 then some (.int (i ^ j.toNat))else none
theorem La{K:KA}{f:Int→Int→Option D}{C:Int→Int→Prop}{r:Int→Int→V}(hf:∀i j d,f i j=some d→C i j∧∀G,Den K G d (r i j)):gc K (pyI f) (rI C r):=λG H x y dx dy d sg ax ay ed Q q=>by
 cases dx with
 |int i=>
  cases dy with
  |int j=>
   obtain⟨c,dn⟩:=hf i j d ed;exact⟨i,j,ax.int,ay.int,c,q _ G H (Ext.refl sg) (dn G)⟩
  |_=>cases ed
 |_=>cases ed
theorem Nm{K:KA}{f:Int→Int→Option D}{r:Int→Int→V}(hf:∀i j d,f i j=some d→∀G,Den K G d (r i j)):gc K (pyI f) (Ur r):=λG H x y dx dy d sg ax ay ed Q q=>by
 cases dx with
 |int i=>
  cases dy with
  |int j=>exact⟨i,j,ax.int,ay.int,q _ G H (Ext.refl sg) (hf i j d ed G)⟩
  |_=>cases ed
 |_=>cases ed
theorem zdu(ha:iz X B E a g)(hb:iz X B E b h):ff X B E (.BinOp a .Sub b pos) (g2 s9 g h):=Dr zcv (Nm λi j d e G=>by cases e;rfl) ha hb
theorem zdn(ha:iz X B E a g)(hb:iz X B E b h):ff X B E (.BinOp a .Mod b pos) (g2 nh g h):=Dr zcq (La λi j d e=>by
 by_cases hj:0<j
 ·rw[if_pos hj]at e;cases e;exact⟨hj,λ_=>rfl⟩
 ·rw[if_neg hj]at e;cases e) ha hb
theorem Ys(ha:iz X B E a g)(hb:iz X B E b h):ff X B E (.BinOp a .FloorDiv b pos) (g2 um g h):=Dr Xz (La λi j d e=>by
 by_cases hj:0<j∧j<1073741824
 ·rw[if_pos hj]at e;cases e;exact⟨hj,λ_=>rfl⟩
 ·rw[if_neg hj]at e;cases e) ha hb
theorem zds(ha:iz X B E a g)(hb:iz X B E b h):ff X B E (.BinOp a .Pow b pos) (g2 Nq g h):=Dr zct (La λi j d e=>by
 by_cases hj:0≤j∧j≤1000000∧i.natAbs<2 ^ 64
 ·rw[if_pos hj]at e;cases e;exact⟨hj,λ_=>rfl⟩
 ·rw[if_neg hj]at e;cases e) ha hb
noncomputable def s8(f:Int→Int→Bool):D→D→Option D:=pyI λi j=>some (.bl (f i j))
noncomputable def zg1:D→D→Option D:=s8 λi j=>decide (i≤j)
noncomputable def Fo:D→D→Option D:=s8 λi j=>decide (j<i)
noncomputable def zg0:D→D→Option D:=s8 λi j=>decide (j≤i)
noncomputable def zar:D→D→Option D:=s8 λi j=>decide (i<j)
theorem Bf{K:KA}{f:Int→Int→Bool}:gc K (s8 f) (Ur λi j=>.bl (f i j)):=Nm λi j d e G=>by cases e;rfl
theorem J7{f:Int→Int→Bool}:∀x y d,s8 f x y=some d→∃b,d=.bl b:=λx y d h=>by
 cases x<;>cases y<;>first|(cases h;exact⟨_,rfl⟩)|cases h
noncomputable def t8(f f':D→D→Option D)(g h k:En→Res):En→Res:=λδ=>(g δ).bind λx=>(h δ).bind λy=>(Res.of (f x y)).bind λz=>match z with
 |.bl true=>(k δ).bind λw=>Res.of (f' y w)
 |.bl false=>.ok (.bl false)
 |_=>.st
theorem Q9{K:KA}{k:En→Res}{f f':D→D→Option D}{r r':R2}(hp:gc K f r)(hp':gc K f' r'){σ:St}{H:Hp}{Q:VK}(q:tPu K B E (t8 f f' g h k) σ H Q):Ls r r' (tAr K B E g) (tAr K B E h) (tAr K B E k) σ H Q:=by
 obtain⟨G,δ,R,q⟩:=q;refine⟨G,δ,R,(ResP.bind q).mono λdx _ qx x G1 H1 e1 ax=>⟨G1,δ,R.ext e1,((ResP.bind qx).ext e1).mono λdy _ qy y G2 H2 e2 ay=>?_⟩⟩;have e12:=e1.trans e2;obtain⟨d,ed,qd⟩:=ResP.of (ResP.bind qy);refine hp G2 H2 x y dx dy d e2.gh (ax.ext e2) ay ed _ λv G3 H3 e3 dn=>?_;cases d with
 |bl t=>
  refine⟨t,dn,?_⟩;cases t with
  |true=>
   show tAr K B E k σ H3 _;refine⟨G3,δ,R.ext (e12.trans e3),((ResP.bind qd).ext (e12.trans e3)).mono λdw _ qw w G4 H4 e4 aw=>?_⟩;obtain⟨d',ed',qd'⟩:=ResP.of qw;exact hp' G4 H4 y w dy dw d' e4.gh ((ay.ext e3).ext e4) aw ed' Q λv G5 H5 e5 dn=>qd' v G5 H5 (((e12.trans e3).trans e4).trans e5) dn
  |false=>exact qd _ G3 H3 (e12.trans e3) rfl
 |non=>exact qd.elim
 |int _=>exact qd.elim
 |str _=>exact qd.elim
 |tup _=>exact qd.elim
 |lst _=>exact qd.elim
 |dct _ _=>exact qd.elim
 |obj _ _=>exact qd.elim
 |fn _=>exact qd.elim
theorem Uj{c:Expr}{k:En→Res}{op op':CmpOp}{f f':D→D→Option D}{r r':R2}(ho:OpR X (compareOp op) r)(hp:gc (kx X) f r)(ho':OpR X (compareOp op') r')(hp':gc (kx X) f' r')(ha:iz X B E a g)(hb:iz X B E b h)(hc:iz X B E c k)
  (hm:lastMarks [op,op'] [b,c]=false:=by with_unfolding_all rfl):ff X B E (.Compare a [op,op'] [b,c] pos) (t8 f f' g h k):=PE.imp (Tw ho ho' ha hb hc hm) λσ H Q q=>Q9 hp hp' q
theorem Py{c:Expr}{k:En→Res}{op op':CmpOp}{f f':D→D→Option D}{r r':R2}(ho:OpR X (compareOp op) r)(hp:gc (kx X) f r)(ho':OpR X (compareOp op') r')(hp':gc (kx X) f' r')(hb1:∀x y d,f' x y=some d→∃b,d=.bl b)(ha:iz X B E a g)(hb:iz X B E b h)(hc:iz X B E c k)
  (hm:lastMarks [op,op'] [b,c]=false:=by with_unfolding_all rfl):B5 X B E (.Compare a [op,op'] [b,c] pos) (t8 f f' g h k):=
 PT.imp (Ue ho ho' ha hb hc hm) λσ H Q ⟨G,δ,R,q⟩=>Q9 hp hp' ⟨G,δ,R,q.mono λd ed ⟨b,eb,qb⟩ v G' H' e3 dn=>by
  subst eb;exact⟨b,dn,qb G' H' e3⟩⟩
noncomputable def cu:D→D→Option D
 |.int i,.int j=>some (.int (i+j))
 |.str x,.str y=>if x.length+y.length≤sizeLine then some (.str (x++y))else none
 |.lst xs,.lst ys=>if xs.length+ys.length≤sizeLine then some (.lst (xs++ys))else none
 |.tup xs,.tup ys=>if xs.length+ys.length≤sizeLine then some (.tup (xs++ys))else none
 |_,_=>none
noncomputable def zas(K:KA):R2:=λx y H Q=>∃G dx dy d,Same G H∧Arg K G H dx x∧Arg K G H dy y∧cu dx dy=some d∧∀v G' H',Ext G H G' H'→Den K G' d v→Q v H'
theorem Qu{prog:Program}{w:World}{A:Around}{E:Value→Shared→Prop}{s:Shared}{l b:Addr}{its its2:List Value}{Q:Value→Shared→Prop}(hl:PlainL s.heap l its.toArray)(hb:PlainL s.heap b its2.toArray)(hz:its.length+its2.length≤sizeLine)
  (h:Q (.ref s.heap.objs.size) {s with heap:=s.heap.push {cls:=.type "list",data:=.seq (its++its2).toArray}}):wpAny (model prog w) A (binaryOp .Add (.ref l) (.ref b)) Q E s:=by
 obtain⟨⟨cls,dd,data,sl⟩,n,ho,c,d,q⟩:=hl;obtain⟨⟨cls2,dd2,data2,sl2⟩,n2,ho2,c2,d2,q2⟩:=hb;simp only at c d q c2 d2 q2;subst c d q c2 d2 q2;have ea:its.toArray++its2.toArray=(its++its2).toArray:=by simp
 refine concat_meets ⟨_,ho,rfl⟩ ⟨_,ho2,rfl⟩ noFill_list_add seq_list_add PySem.F.slot_list_add PySem.F.entry_list_add (PySem.F.args_list_add_2 _ _) (list_addW l b its.toArray its2.toArray n n2 _ _ sl sl2 (by simpa using hz)) ⟨ho,ho2,?_⟩;rw[ea];exact h
theorem Q6{prog:Program}{w:World}{A:Around}{E:Value→Shared→Prop}{s:Shared}{t b:Addr}{vs ws:List Value}{Q:Value→Shared→Prop}(ht:IsTup s.heap t vs.toArray)(hb:IsTup s.heap b ws.toArray)(hv:vs=[])(h1:Q (.ref b) s):
  wpAny (model prog w) A (binaryOp .Add (.ref t) (.ref b)) Q E s:=by
 obtain⟨⟨cls,dd,data,sl⟩,ho,hc,n,hd⟩:=id ht;obtain⟨⟨cls2,dd2,data2,sl2⟩,ho2,hc2,n2,hd2⟩:=id hb;simp only at hc hd hc2 hd2;subst hc hd hc2 hd2;exact concat_meets ⟨_,ho,rfl⟩ ⟨_,ho2,rfl⟩ noFill_tuple_add seq_tuple_add PySem.F.slot_tuple_add PySem.F.entry_tuple_add (PySem.F.args_tuple_add_2 _ _)
  (tuple_addW0 t b vs.toArray ws.toArray n n2 dd dd2 sl sl2 (by simp[hv])) ⟨ho,ho2,h1⟩
theorem Xx:OpR X (binaryOp .Add) (zas (kx X)):=by
 intro pins s σ H x y v u Q I rx ry q;obtain⟨G,dx,dy,d,sg,ax,ay,ed,q⟩:=q;unfold cu at ed;split at ed
 ·cases ed;rw[ax.int]at rx;rw[ay.int]at ry;exact K5 pins s σ H _ _ _ _ Q I rx ry ⟨_,_,rfl,rfl,q _ G H (Ext.refl sg) rfl⟩
 ·split at ed
  ·rename_i hz;cases ed;rw[ax.str]at rx;rw[ay.str]at ry;exact K6 pins s σ H _ _ _ _ Q I rx ry ⟨_,_,rfl,rfl,hz,q _ G H (Ext.refl sg) rfl⟩
  ·cases ed
 ·split at ed
  ·rename_i xs ys hz;cases ed;obtain⟨l,vs,rfl,sq,dl⟩:=ax.lst sg;obtain⟨b,ws,rfl,sq2,dl2⟩:=ay.lst sg;cases rx;cases ry;obtain⟨its,rv,pl,_⟩:=I.list sq;obtain⟨its2,rv2,pl2,_⟩:=I.list sq2;have l1:=dl.length;have l2:=dl2.length;have l3:=rv.length;have l4:=rv2.length;refine Qu pl pl2 (by omega) ⟨.ref _,_,I.lnew (t':=s.toks) (rv.append rv2) (by rw[kAi];omega),rfl,?_⟩;exact q _ (upd G s.heap.objs.size (.lst (vs++ws))) _ (Ext.new sg _ I.fresh) (pq sg I.fresh (dl.append dl2))
  ·cases ed
 ·split at ed
  ·rename_i xs ys hz;cases ed;obtain⟨l,vs,rfl,sq,dl⟩:=ax.tup sg;obtain⟨b,ws,rfl,sq2,dl2⟩:=ay.tup sg;have l1:=dl.length;have l2:=dl2.length
   by_cases hx:vs=[]
   ·cases rx;cases ry;obtain⟨its,rv,p1,_⟩:=I.tuple sq;obtain⟨its2,rv2,p2,_⟩:=I.tuple sq2;refine Q6 p1 p2 (rv.nil_iff.mpr hx) ⟨.ref b,H,I,rfl,?_⟩;subst hx;have:xs=[]:=by cases xs with
     |nil=>rfl
     |cons _ _=>simp at l1
    subst this;rcases ay with ad|⟨_,_,_,z,_⟩|⟨_,_,_,z,_⟩
    ·exact q _ G H (Ext.refl sg) ad
    ·cases z
    ·cases z
   ·refine Xy pins s σ H _ _ _ _ Q I rx ry ⟨l,b,vs,ws,rfl,rfl,sq,sq2,hx,by omega,λz=>?_,λz p hp=>?_⟩
    ·subst z;have:ys=[]:=by cases ys with
      |nil=>rfl
      |cons _ _=>simp at l2
     subst this;rw[kB0]at q;rcases ax with ad|⟨_,_,_,z,_⟩|⟨_,_,_,z,_⟩
     ·exact q _ G H (Ext.refl sg) ad
     ·cases z
     ·cases z
    ·exact q _ (upd G p (.tup (vs++ws))) _ (Ext.new sg _ hp) (pv sg hp (dl.append dl2))
  ·cases ed
 ·cases ed
theorem T7{K:KA}:gc K cu (zas K):=λG H x y dx dy d sg ax ay ed Q q=>⟨G,dx,dy,d,sg,ax,ay,ed,q⟩
theorem zde(ha:iz X B E a g)(hb:iz X B E b h):ff X B E (.BinOp a .Add b pos) (g2 cu g h):=Dr Xx T7 ha hb
theorem DenL.atI{K:KA}{G:Hp}{ds:List D}{vs:List V}{i:Int}{d:D}(dl:DenL K G ds vs)(h:atI ds i=some d):∃v,atI vs i=some v∧Den K G d v:=by
 unfold L2.atI at h⊢;rw[dl.length]at h;cases e:ixN vs.length i with
 |none=>rw[e]at h;cases h
 |some j=>
  rw[e]at h;exact dl.get h
theorem cb1{K:KA}{f:D→Option D}{rr:List V→Hp→VK→Prop}(hp:∀G H x dx d,Same G H→Arg K G H dx x→f dx=some d→∀Q:VK,(∀v G' H',Ext G H G' H'→Den K G' d v→Q v H')→rr [x] H Q){σ:St}{H:Hp}{Q:VK}(q:tPu K B E (g1 f g) σ H Q):
  tCB rr (tAl K B E [true] (ae g bx)) σ H Q:=by
 obtain⟨G,δ,R,q⟩:=q;refine⟨G,δ,R,?_⟩;unfold ae;unfold g1 at q;cases e:g δ with
 |ok dx=>
  rw[e]at q;obtain⟨d,ed,qd⟩:=ResP.of (show ResP E G H (Res.of (f dx)) _ from q);intro vs G1 H1 e1 al;obtain⟨v,rfl,av⟩:=ArgsM.one al;exact hp G1 H1 v dx d e1.gh av ed Q λv G' H' e2 dn=>qd v G' H' (e1.trans e2) dn
 |er c=>rw[e]at q;exact q
 |st=>rw[e]at q;exact q
noncomputable def cy:D→Option D
 |.str x=>if x.length≤sizeLine then some (.int x.length)else none
 |.tup ds=>some (.int ds.length)
 |.lst ds=>some (.int ds.length)
 |_=>none
theorem zdl{p:Pos}(hg:Gl X "len")(hm:X.mg "len"=none)(ha:iz X B E e g)(he:starEach [e] X.env=(false,eval e X.env)::starEach [] X.env:=by rfl)(hpl:(backTo pos (starEach [] X.env)).any (·.1)=false:=by rfl):ff X B E (.Call (.Name "len" p) [e] [] pos) (g1 cy g):=
 PE.imp (qr Q5 hg hm PySem.boot_len (jx ha kc he) (by decide) (by decide) he hpl) λσ H Q q=>cb1 (λG H x dx d sg ax ed Q q=>by
  unfold cy at ed;split at ed
  ·split at ed
   ·rename_i hz;cases ed;rw[ax.str];exact⟨_,_,rfl,⟨hz,rfl⟩,q _ G H (Ext.refl sg) rfl⟩
   ·cases ed
  ·cases ed;obtain⟨l,vs,rfl,sq,dl⟩:=ax.tup sg;exact⟨_,_,rfl,.inr ⟨vs,sq,dl.length⟩,q _ G H (Ext.refl sg) rfl⟩
  ·cases ed;obtain⟨l,vs,rfl,sq,dl⟩:=ax.lst sg;exact⟨_,_,rfl,.inl ⟨vs,sq,dl.length⟩,q _ G H (Ext.refl sg) rfl⟩
  ·cases ed) q
noncomputable def Zv:D→Option String
 |.non=>some "NoneType"
 |.bl _=>some "bool"
 |.int _=>some "int"
 |.str _=>some "str"
 |.tup _=>some "tuple"
 |.lst _=>some "list"
 |.dct _ _=>some "dict"
 |_=>none
noncomputable def V9(t c:String):Bool:=t==c||(t=="bool" && c=="int")
noncomputable def cc(c:String)(d:D):Option D:=match Zv d with
 |some t=>some (.bl (V9 t c))
 |none=>none
end
theorem rm{a b:Nat}(h:a<b):a≠b+1:=by omega
theorem S9{b:Nat}:b+1≠b:=by omega
instance:Inhabited D:=⟨.non⟩
theorem Eh{prog:Program}{w:World}{A:Around}{R:Result→Shared→Prop}{s:Shared}{elt target iter:Expr}{ifs:List Expr}{scope:Scope}{pos:Pos}{it acc:Value}{env:Env}(I:Nat→Shared→Prop)
   (turn:∀n s,I n s→wpAny (model prog w) A (pyNext it) (λr s₁=>match r with
   |none=>R (.ok .next) s₁
   |some v=>wpAny (model prog w) A (letOwnedTupleGo target it v) (λ_ s₁=>wpAny (model prog w) A (assign target env v) (λ_ s₂=>
     wpAny (model prog w) A (forIn ifs true λc r=>if r=true then do let ok ←isTrue c env (eval c env);pure (ForInStep.yield ok)else pure (ForInStep.yield r)) (λok s₃=>
      if ok=true then wpAny (model prog w) A (eval elt env) (λx s₄=>
       wpAny (model prog w) A (call (.builtin "list.append") [acc,x]) (λ_ s₅=>∃m,m<n∧I m s₅) (notedBy (model prog w) A env λe s'=>R (.error e) s') s₄) (notedBy (model prog w) A env λe s'=>R (.error e) s') s₃
      else∃m,m<n∧I m s₃) (notedBy (model prog w) A env λe s'=>R (.error e) s') s₂) (notedBy (model prog w) A env λe s'=>R (.error e) s') s₁) (notedBy (model prog w) A env λe s'=>R (.error e) s') s₁) (notedBy (model prog w) A env λe s'=>R (.error e) s') s)
  (n:Nat) (h:I n s):
  codeAny (model prog w) A (.compLoop (.ListComp elt [⟨target,iter,ifs,0⟩] scope pos) 0 it acc env) R s:=by
 refine codeAny_loop rfl I (λn s hI=>?_) n h;show wpAny _ A ((compTurn (.ListComp elt [⟨target,iter,ifs,0⟩] scope pos) 0 it acc env).onRaise (λx=>do noteFrame x env;theTreesLotGoes x)) _ _ s;refine wpAny_noted ?_;rw[compTurn_list];refine wpAny_bind (wpAny_standAt (wpAny_bind (wpAny_mono (turn n s hI) (λr s₁ h₁=>?_) λ_ _ h'=>h')));cases r with
 |none=>exact wpAny_pure h₁
 |some v=>
  refine wpAny_bind (wpAny_mono h₁ (λ_ s₁' h₁=>?_) λ_ _ h'=>h');refine wpAny_bind (wpAny_mono h₁ (λ_ s₂ h₂=>wpAny_bind (wpAny_mono h₂ (λok s₃ h₃=>?_) λ_ _ h'=>h')) λ_ _ h'=>h');cases ok with
  |false=>exact wpAny_pure ⟨rfl,h₃⟩
  |true=>
   exact wpAny_bind (wpAny_bind (wpAny_mono h₃ (λx s₄ h₄=>wpAny_bind (wpAny_mono h₄ (λ_ s₅ h₅=>wpAny_pure (wpAny_pure ⟨rfl,h₅⟩)) λ_ _ h'=>h')) λ_ _ h'=>h'))
noncomputable def i5(env:Env):List (Str×NameKind)→List (Str×Addr)→Option (List (Str×Addr))
 |[],cs=>some cs
 | (n, k) :: r, cs => if k = .free then (match env.cells.lookup n with
  |some c=>i5 env r ((n,c)::cs)
  |none=>none)else i5 env r cs
theorem wo(env:Env):∀(names:List (Str×NameKind))(cs cl:List (Str×Addr)),i5 env names cs=some cl→
  (forIn names cs λx (c:List (Str×Addr))=>(if(x.2==NameKind.free)=true then do let a ←cellOf env x.1;pure (ForInStep.yield ((x.1,a)::c))else pure (ForInStep.yield c):Sem _))=pure cl
 |[],cs,cl,h=>by cases h;rfl
 |(n,k)::r,cs,cl,h=>by
  unfold i5 at h;rw[List.forIn_cons]
  by_cases hk:k=.free
  ·subst hk;simp only[if_true]at h;cases hc:env.cells.lookup n with
   |none=>rw[hc]at h;cases h
   |some c=>
    rw[hc]at h;have:cellOf env n=pure c:=by unfold cellOf;rw[hc]
    simp only[beq_self_eq_true,if_true,this,pure_bind];exact wo env r _ cl h
  ·rw[if_neg hk]at h;have hb:(k==NameKind.free)=false:=by simpa using hk
   simp only[hb,kA9,if_false,pure_bind];exact wo env r _ cl h
theorem si{scope:Scope}{env:Env}{cl:List (Str×Addr)}(h:i5 env scope.names []=some cl):closureFor scope env=pure cl:=by
 have q:=wo env scope.names [] cl h;unfold closureFor;exact(congrArg (λt=>t>>=λcs=>pure cs) q).trans (pure_bind _ _)
theorem t4(env:Env):∀(names:List (Str×NameKind))(cs cl:List (Str×Addr)),i5 env names cs=some cl→(∀p∈cs,env.cells.lookup p.1=some p.2)→∀p∈cl,env.cells.lookup p.1=some p.2
 |[],cs,cl,h,q=>by cases h;exact q
 |(n,k)::r,cs,cl,h,q=>by
  unfold i5 at h
  by_cases hk:k=.free
  ·subst hk;simp only[if_true]at h;cases hc:env.cells.lookup n with
   |none=>rw[hc]at h;cases h
   |some c=>
    rw[hc]at h;refine t4 env r _ cl h λp hp=>?_;rcases kA6.mp hp with rfl|hp
    ·exact hc
    ·exact q p hp
  ·rw[if_neg hk]at h;exact t4 env r _ cl h q
theorem n8{β:Type}:∀{l:List (Str×β)}{x:Str}{c:β},l.lookup x=some c→(x,c)∈l
 |[],_,_,h=>by simp at h
 |(n,b)::r,x,c,h=>by
  rw[List.lookup_cons]at h
  by_cases e:x=n
  ·subst e;simp only[beq_self_eq_true]at h;cases h;exact kAk
  ·have hb:(x==n)=false:=by simpa using e
   rw[hb]at h;exact kAl _ (n8 h)
noncomputable def fj(X:Cx)(scope:Scope)(cl:List (Str×Addr))(N:List Str)(xs:List Str)(C:Addr)(s₀:Shared)(H₀:Hp)(ex:List Addr)(pn:List (Addr×Obj)):Cx where
 prog:=X.prog
 w:=X.w
 K:=(kx X)
 mg:=X.mg
 base:=X.base
 A:=X.A
 N:=N
 s₀:=s₀
 H₀:=H₀
 env:=compEnvC scope cl C X.env
 outer:=X.stack
 stack:=X.stack
 ex:=ex
 fn:=λy=>decide (y∈xs)
 calm:=X.calm
 pn:=pn
 xe:=λ_ _=>False
structure CapOk(X:Cx)(scope:Scope)(cl:List (Str×Addr))(y:Str)(i:Nat):Prop where
 at_:X.N[i]?=some y
 vis:Vis X.env.scope y
 nloc:X.env.kindOf y≠some .local
 cell:∃c,cl.lookup y=some c
 kind:(relabel scope X.env).names.lookup y=some .cell∨(relabel scope X.env).names.lookup y=some .free
noncomputable def Caps(X:Cx)(scope:Scope)(cl:List (Str×Addr)):List Str→List Nat→Prop
 |[],ix=>ix=[]
 |y::M,ix=>∃i r,ix=i::r∧CapOk X scope cl y i∧Caps X scope cl M r
theorem Caps.get{X:Cx}{scope:Scope}{cl:List (Str×Addr)}:∀{M:List Str}{ix:List Nat},Caps X scope cl M ix→∀(j:Nat) y,M[j]?=some y→∃i,ix[j]?=some i∧CapOk X scope cl y i
 |[],_,_,j,y,h=>by simp at h
 |_::_,_,⟨i,r,h1,h2,h3⟩,0,y,h=>by
  simp at h;subst h;subst h1;exact⟨i,rfl,h2⟩
 |_::_,_,⟨i,r,h1,h2,h3⟩,j+1,y,h=>by
  subst h1;obtain⟨k,q1,q2⟩:=Caps.get h3 j y (by simpa using h);exact⟨k,by simpa using q1,q2⟩
theorem Caps.length{X:Cx}{scope:Scope}{cl:List (Str×Addr)}:∀{M:List Str}{ix:List Nat},Caps X scope cl M ix→M.length=ix.length
 |[],_,h=>by rw[show _=[]from h];rfl
 |_::_,_,⟨i,r,h1,h2,h3⟩=>by rw[h1,kA7,kA7,Caps.length h3]
structure CompOk(X:Cx)(scope:Scope)(cl:List (Str×Addr))(xs:List Str)(M:List Str)(ix:List Nat):Prop where
 clos:i5 X.env scope.names []=some cl
 kind:scope.kind=.function
 ncell:∀y∈scope.names,y.2≠.cell
 names:∀y∈scope.names,y.2=.local→scope.names.lookup y.1=some .local
 loc:∀x∈xs,scope.names.lookup x=some .local
 xcl:∀x∈xs,cl.lookup x=none
 nd:(xs++M).Nodup
 ixd:ix.Nodup
 cap:Caps X scope cl M ix
section
variable{X:Cx}{scope:Scope}{cl:List (Str×Addr)}{xs:List Str}{M:List Str}{ix:List Nat}{pins:List (Addr×Obj)}{σ:St}{H:Hp}{s:Shared}{fp:List Addr}
theorem ly(env:Env):∀(names:List (Str×NameKind))(cs cl:List (Str×Addr)),i5 env names cs=some cl→∀y,((∃c,cs.lookup y=some c)∨(y,NameKind.free)∈names)→∃c,cl.lookup y=some c
 |[],cs,cl,h,y,q=>by
  cases h;rcases q with q|q
  ·exact q
  ·simp at q
 |(n,k)::r,cs,cl,h,y,q=>by
  unfold i5 at h
  by_cases hk:k=.free
  ·subst hk;simp only[if_true]at h;cases hc:env.cells.lookup n with
   |none=>rw[hc]at h;cases h
   |some c=>
    rw[hc]at h;refine ly env r _ cl h y ?_
    by_cases e:y=n
    ·subst e;exact .inl ⟨c,by simp⟩
    ·rcases q with ⟨c',q⟩|q
     ·refine .inl ⟨c',?_⟩;have hb:(y==n)=false:=by simpa using e
      rw[List.lookup_cons,hb];exact q
     ·rcases kA6.mp q with z|z
      ·cases z;exact absurd rfl e
      ·exact .inr z
  ·rw[if_neg hk]at h;refine ly env r _ cl h y ?_;rcases q with q|q
   ·exact .inl q
   ·rcases kA6.mp q with z|z
    ·cases z;exact absurd rfl hk
    ·exact .inr z
theorem CompOk.free(O:CompOk X scope cl xs M ix):∀y,(y,NameKind.free)∈scope.names→∃c,cl.lookup y=some c:=λy h=>ly X.env _ _ cl O.clos y (.inr h)
theorem CompOk.cells(O:CompOk X scope cl xs M ix){y:Str}{c:Addr}(h:cl.lookup y=some c):X.env.cells.lookup y=some c:=
 t4 X.env _ _ cl O.clos (λp hp=>by simp at hp) (y,c) (n8 h)
theorem Ex{env:Env}{scope:Scope}{y:Str}(h:(relabel scope env).names.lookup y=some .cell∨(relabel scope env).names.lookup y=some .free)(hn:∀z∈scope.names,z.2≠.cell):(y,NameKind.free)∈scope.names:=by
 have key:∃k,(y,k)∈(relabel scope env).names∧(k=.cell∨k=.free):=by
  rcases h with h|h
  ·exact⟨_,n8 h,.inl rfl⟩
  ·exact⟨_,n8 h,.inr rfl⟩
 obtain⟨k,hm,hk⟩:=key;obtain⟨⟨n,k'⟩,hm',e⟩:=kAr.mp hm
 by_cases hc:(k'==NameKind.free && env.scope.kind==.function && env.kindOf n==some .cell)=true
 ·simp only[hc,if_true]at e;cases e;have:k'=.free:=by
   simp only[kA1]at hc;simpa using hc.1.1
  subst this;exact hm'
 ·simp only[hc,if_false]at e;cases e;rcases hk with hk|hk
  ·exact absurd hk (hn _ hm')
  ·subst hk;exact hm'
theorem Wq(O:CompOk X scope cl xs M ix)(I:Inv X pins σ H s)(hf:∀b∈fp,B4 X pins H b)(hfs:∀b∈fp,b<s.heap.objs.size){h1:Heap}(hk:∀b o,s.heap.get? b=some o→h1.get? b=some o)(hz:h1.objs.size=s.heap.objs.size+1){tk:Nat}:
  (fj X scope cl (xs++M) xs (s.heap.objs.size+1) {s with heap:=h1,toks:=tk} (upd H s.heap.objs.size (.lst [])) fp (X.pn++pins)).Ok:=by
 have fresh:H s.heap.objs.size=none:=I.hok.fresh (kA0 _);have old:∀{b:Addr}{o:Obj},s.heap.get? b=some o→b≠s.heap.objs.size:=λe z=>by
  have:=Heap.lt_size e;rw[z]at this;exact kAx _ this
 have cne:∀y c,cl.lookup y=some c→c<s.heap.objs.size:=λy c e=>by
  obtain⟨v,q⟩:=I.cell y c (O.cells e);exact q.lt
 have kO:=I.ok;refine⟨kO.mod,O.kind,kO.glob,kO.blt,?_,?_,?_,?_,kO.hd,kO.frames,.inl rfl,?_,?_,?_,?_,?_,?_,?_⟩
 ·show h1.objs.size≤s.heap.objs.size+1;omega
 ·intro a b c h1 h2;exact kO.inj a b c (O.cells h1) (O.cells h2)
 ·intro y hy;have:=Ex (env:=X.env) (scope:=scope) (y:=y) hy O.ncell;exact O.free _ this
 ·intro y c hy hc;have hm:y∈xs:=of_decide_eq_true hy;rw[show(fj X scope cl (xs++M) xs (s.heap.objs.size+1) {s with heap:=h1,toks:=tk} (upd H s.heap.objs.size (.lst [])) fp (X.pn++pins)).env.cells=cl from rfl,O.xcl y hm]at hc;cases hc
 ·intro b hb;have:=hfs b hb;refine⟨?_,λy c e=>?_⟩
  ·exact rm this
  ·exact(hf b hb).2.2.2.2.1 y c (O.cells e)
 ·intro b o e;obtain⟨q1,q2⟩:=I.bs b o e;refine⟨hk b o q1,?_⟩;show upd H s.heap.objs.size (.lst []) b=none;rw[bp (old q1)];exact q2
 ·show X.base.objs.size≤h1.objs.size;have:=kO.bsz;have:=I.sz;omega
 ·intro b o e hb;rcases(hf b hb).2.2.2.1 with q|q
  ·exact kO.noex b o e q
  ·exact absurd (kAo (Heap.lt_size e) (kAn kO.bsz q)) (kAx _)
 ·intro b hb hfb;rcases kA6.mp (I.stkSub b hfb)with e|e
  ·exact(hf b hb).2.1 e
  ·exact(hf b hb).2.2.1 e
 ·exact I.stack.of_keeps λb o e _=>⟨o,hk b o e,rfl⟩
 ·intro b hb;show upd H s.heap.objs.size (.lst []) b=none;have q:=I.stkFree b hb;obtain⟨_,o,ho,_⟩:=I.stack.mem hb;rw[bp (old ho)];exact q
noncomputable def gm(σ:St)(ix:List Nat)(os:List (Option V)):St:=os++ix.map λi=>(σ[i]?).join
theorem J9{σ:St}{os:List (Option V)}(hn:os.length=xs.length)(O:CompOk X scope cl xs M ix):(gm σ ix os).length=(xs++M).length:=by
 unfold gm;rw[kAi,kAi,kA3,hn,O.cap.length]
theorem Rb(O:CompOk X scope cl xs M ix)(I:Inv X pins σ H s)(hf:∀b∈fp,B4 X pins H b)(hfs:∀b∈fp,b<s.heap.objs.size){h1 h2:Heap}(hk:∀b o,s.heap.get? b=some o→h1.get? b=some o)(hz:h1.objs.size=s.heap.objs.size+1){tk tk2:Nat}
  (ha:h1.get? s.heap.objs.size=some {cls:=.type "list",data:=.seq #[] 0})(hk2:∀b o,h1.get? b=some o→h2.get? b=some o){m:Str→Option Value}(hn:h2.Ns (s.heap.objs.size+1) m):
  Inv (fj X scope cl (xs++M) xs (s.heap.objs.size+1) {s with heap:=h1,toks:=tk} (upd H s.heap.objs.size (.lst [])) fp (X.pn++pins)) [] (gm σ ix (kA2 xs.length none)) (upd H s.heap.objs.size (.lst [])) {s with heap:=h2,toks:=tk2}:=by
 have fresh:H s.heap.objs.size=none:=I.hok.fresh (kA0 _);have old:∀{b:Addr}{o:Obj},s.heap.get? b=some o→b≠s.heap.objs.size:=λe z=>by
  have:=Heap.lt_size e;rw[z]at this;exact kAx _ this
 have hn1:h1.get? (s.heap.objs.size+1)=none:=Heap.get?_none_of_le (by omega);have frC:H (s.heap.objs.size+1)=none:=I.hok.fresh (Nat.le_succ _);refine⟨Wq O I hf hfs hk hz,rfl,I.bare,Un.kept hk2,⟨m,hn,?_⟩,?_,?_,?_,?_,?_,J9 kBd O⟩
 ·intro i y v hi hv _
  by_cases hx:i<xs.length
  ·unfold gm at hv;rw[kBc (by rw[kBd];exact hx),List.getElem?_replicate_of_lt hx]at hv;cases hv
  ·obtain⟨j,rfl⟩:∃j,i=xs.length+j:=⟨i - xs.length,by omega⟩;have hy:M[j]?=some y:=by
    have q:(xs++M)[xs.length+j]?=some y:=hi;rw[kBf (Nat.le_add_right _ _)]at q;simpa using q
   obtain⟨k,hk',C⟩:=O.cap.get j y hy;have hv':((ix.map λi=>(σ[i]?).join)[j]?)=some (some v):=by
    unfold gm at hv;rw[kBf (by rw[kBd];exact Nat.le_add_right _ _)]at hv;simpa using hv
   rw[kAs,hk']at hv';have hs:(σ[k]?).join=some v:=by simpa using hv'
   have hs':σ[k]?=some (some v):=by
    cases e:σ[k]? with
    |none=>rw[e]at hs;simp at hs
    |some o=>rw[e]at hs;simp at hs;rw[hs]
   obtain⟨mX,_,hl⟩:=I.loc;obtain⟨u,r,lk⟩:=hl k y v C.at_ hs' C.vis;refine⟨u,r,.inr ⟨C.kind,?_⟩⟩;rcases lk with ⟨q,_⟩|⟨_,c,hc,hcell⟩
   ·exact absurd q C.nloc
   ·obtain⟨c',hc'⟩:=C.cell;have:=O.cells hc';rw[hc]at this;cases this;exact⟨c,hc',hcell.keeps λb o e=>hk2 b o (hk b o e)⟩
 ·intro y c hc;obtain⟨v,q⟩:=I.cell y c (O.cells hc);exact⟨v,q.keeps λb o e=>hk2 b o (hk b o e)⟩
 ·show upd H s.heap.objs.size (.lst []) (s.heap.objs.size+1)=none;rw[bp S9];exact frC
 ·intro y c hc;obtain⟨v,q⟩:=I.cell y c (O.cells hc);have hne:(fj X scope cl (xs++M) xs (s.heap.objs.size+1) {s with heap:=h1,toks:=tk} (upd H s.heap.objs.size (.lst [])) fp (X.pn++pins)).fn y=false:=decide_eq_false λz=>by
   have hc':cl.lookup y=some c:=hc;rw[O.xcl y z]at hc';cases hc'
  rcases I.freeC y c (O.cells hc)with fr|⟨_,o,fr⟩
  ·refine .inl ?_;show upd H s.heap.objs.size (.lst []) c=none;rw[bp (kAf q.lt)];exact fr
  ·refine .inr ⟨hne,o,?_⟩;show upd H s.heap.objs.size (.lst []) c=_;rw[bp (kAf q.lt)];exact fr
 ·intro p hp;have hp':p∈X.pn++pins:=by simpa[fj]using hp
  obtain⟨q1,q2,q3,q4,q5⟩:=I.pin p hp';refine⟨hk2 _ _ (hk _ _ q1),?_,?_,?_,q5⟩
  ·show upd H s.heap.objs.size (.lst []) p.1=none;rw[bp (old q1)];exact q2
  ·exact rm (Heap.lt_size q1)
  ·intro hfb;rcases kA6.mp (I.stkSub p.1 hfb)with e|e
   ·exact q3 e
   ·exact q4 e
 ·refine I.hok.laid (λb o e=>hk2 b o (hk b o e)) (kA0 _) ⟨kAt _,[],0,.nil,hk2 _ _ ha⟩
end
noncomputable def jk(f:D→Option (Option D)):List D→Option (List D)
 |[]=>some []
 |d::r=>match f d with
  |none=>none
  |some o=>match jk f r with
   |none=>none
   |some ys=>some (o.toList++ys)
noncomputable def ik(ix:List Nat)(δ:En)(s:Sl):En:=s::ix.map λi=>(δ[i]?).getD .no
noncomputable def yn(ix:List Nat)(t:En→Res)(g:En→Res)(δ:En)(d:D):Option (Option D):=match t (ik ix δ (.pu d))with
 |.ok (.bl true)=>(match g (ik ix δ (.pu d))with
  |.ok y=>some (some y)
  |_=>none)
 |.ok (.bl false)=>some none
 |_=>none
noncomputable def gp(r:En→ResL)(ix:List Nat)(t:En→Res)(g:En→Res):En→Res:=λδ=>match r δ with
 | .ok ds => if ds.length ≤ sizeLine then (match jk (yn ix t g δ) ds with
  |some ys=>.ok (.lst ys)
  |none=>.st)else .st
 |.er c=>.er c
 |.st=>.st
noncomputable def t9(r:En→ResL)(f:En→D→Option (Option D)):En→Res:=λδ=>match r δ with
 | .ok ds => if ds.length ≤ sizeLine then (match jk (f δ) ds with
  |some ys=>.ok (.lst ys)
  |none=>.st)else .st
 |.er c=>.er c
 |.st=>.st
theorem Ov{r:En→ResL}{f:En→D→Option (Option D)}:IsL (t9 r f):=λδ d h=>by
 unfold t9 at h;split at h
 ·split at h
  ·split at h
   ·cases h;exact⟨_,rfl⟩
   ·cases h
  ·cases h
 ·cases h
 ·cases h
theorem zaa{E:EK}{G H:Hp}{r:En→ResL}{f:En→D→Option (Option D)}{δ:En}{P:D→Prop}(q:ResP E G H (t9 r f δ) P):
  ResLP E G H (r δ) λds=>ds.length≤sizeLine∧∃ys,jk (f δ) ds=some ys∧P (.lst ys):=by
 unfold t9 at q;cases e:r δ with
 |ok ds=>
  rw[e]at q;dsimp only at q
  by_cases hl:ds.length≤sizeLine
  ·rw[if_pos hl]at q;cases e2:jk (f δ) ds with
   |none=>rw[e2]at q;exact q.elim
   |some ys=>rw[e2]at q;exact⟨hl,ys,e2,q⟩
  ·rw[if_neg hl]at q;exact q.elim
 |er c=>rw[e]at q;exact q
 |st=>rw[e]at q;exact q
noncomputable def lx(ix:List Nat)(δ:En):En:=ix.map λi=>(δ[i]?).getD .no
theorem Wu{K:KA}{G:Hp}:∀{ds:List D}{vs:List V},DenL K G ds vs→∀{j:Nat}{t:Sl},(ds.map Sl.pu)[j]?=some t→∃d v,t=.pu d∧(vs.map some)[j]?=some (some v)∧Den K G d v:=λ{ds vs} dl j t h=>by
 rw[kAs]at h;cases e:ds[j]? with
 |none=>rw[e]at h;cases h
 |some d=>
  rw[e]at h;cases h;obtain⟨v,ev,dv⟩:=dl.get e;exact⟨d,v,rfl,by rw[kAs,ev];rfl,dv⟩
theorem J8{K:KA}{B G H:Hp}{σ:St}{δ:En}{ix:List Nat}{ds:List D}{vs:List V}(R:EnvR K B G H σ δ)(nd:ix.Nodup)(dl:DenL K G ds vs):EnvR K B G H (gm σ ix (vs.map some)) (ds.map Sl.pu++lx ix δ):=by
 have key:∀(j:Nat) t,(lx ix δ)[j]?=some t→∃i,ix[j]?=some i∧((t=.no)∨δ[i]?=some t)∧(ix.map λi=>(σ[i]?).join)[j]?=some ((σ[i]?).join):=λj t h=>by
  unfold lx at h;rw[kAs]at h;cases e:ix[j]? with
  |none=>rw[e]at h;cases h
  |some i=>
   rw[e]at h;refine⟨i,rfl,?_,by rw[kAs,e];rfl⟩;cases e2:δ[i]? with
   |none=>rw[Option.map_some,e2]at h;cases h;exact .inl rfl
   |some u=>rw[Option.map_some,e2]at h;cases h;exact .inr rfl
 have jo:∀(i:Nat) a,(σ[i]?).join=some (V.ref a)→σ[i]?=some (some (.ref a)):=λi a h=>by
  cases e:σ[i]? with
  |none=>rw[e]at h;simp at h
  |some o=>rw[e]at h;simp at h;rw[h]
 have hl:(vs.map some).length=(ds.map Sl.pu).length:=by rw[kA3,kA3,dl.length]
 have at_:∀{j:Nat}{t:Sl},(ds.map Sl.pu++lx ix δ)[j]?=some t→(∃d v,t=.pu d∧(gm σ ix (vs.map some))[j]?=some (some v)∧Den K G d v)∨∃k,j=ds.length+k∧(lx ix δ)[k]?=some t∧(gm σ ix (vs.map some))[j]?=(ix.map λi=>(σ[i]?).join)[k]?:=λ{j t} h=>by
  unfold gm
  by_cases hj:j<(ds.map Sl.pu).length
  ·rw[kBc hj]at h;rw[kBc (by rw[hl];exact hj)];exact .inl (Wu dl h)
  ·obtain⟨k,rfl⟩:∃k,j=ds.length+k:=⟨j - ds.length,by rw[kA3]at hj;omega⟩;rw[kBf (by rw[kA3];exact Nat.le_add_right _ _),kA3,Nat.add_sub_cancel_left]at h;exact .inr ⟨k,rfl,h,by rw[kBf (by rw[hl,kA3];exact Nat.le_add_right _ _),hl,kA3,Nat.add_sub_cancel_left]⟩
 refine⟨R.bh,R.gh,?_,λj t h=>?_,λj t a h1 h2 h3=>?_,λj k t u a h1 h2 h3 h4 h5 h6=>?_,R.gb⟩
 ·unfold gm lx;rw[kAi,kAi,hl,kA3 (as:=ix),kA3 (as:=ix)]
 ·rcases at_ h with ⟨d,v,rfl,e,dv⟩|⟨k,rfl,h,e⟩
  ·exact⟨some v,e,v,rfl,dv⟩
  ·obtain⟨i,q1,q2,q3⟩:=key k t h;refine⟨_,e.trans q3,?_⟩;rcases q2 with rfl|q2
   ·trivial
   ·obtain⟨o',z1,z2⟩:=R.sl i t q2;rw[z1];exact z2
 ·rcases at_ h1 with ⟨d,v,rfl,e,dv⟩|⟨k,rfl,h,e⟩
  ·cases h2
  ·obtain⟨i,q1,q2,q3⟩:=key k t h;rw[e,q3]at h3;rcases q2 with rfl|q2
   ·cases h2
   ·exact R.own i t a q2 h2 (jo i a (kAg.inj h3))
 ·rcases at_ h1 with ⟨d,v,rfl,e,dv⟩|⟨j',rfl,h,e⟩
  ·cases h3
  ·rcases at_ h2 with ⟨d,v,rfl,e',dv⟩|⟨k',rfl,h',e'⟩
   ·cases h4
   ·obtain⟨i,q1,q2,q3⟩:=key j' t h;obtain⟨i',y1,y2,y3⟩:=key k' u h';rw[e,q3]at h5;rw[e',y3]at h6;rcases q2 with rfl|q2
    ·cases h3
    ·rcases y2 with rfl|y2
     ·cases h4
     ·have z:=R.dis i i' t u a q2 y2 h3 h4 (jo i a (kAg.inj h5)) (jo i' a (kAg.inj h6));subst z;have lj:j'<ix.length:=(kAh.mp q1).1;rw[(List.getElem?_inj lj nd).mp (q1.trans y1.symm)]
structure TgB(X:Cx)(n:Nat)(tg:Expr)(td:D→Option (List D)):Prop where
 ex:∃gl,PG X tg gl∧∀{G H:Hp}{os:List (Option V)}{cs:St}{d:D}{v:V}{ds:List D}{Q:St→Hp→Prop},os.length=n→Same G H→Den (kx X) G d v→td d=some ds→(∀vs,DenL (kx X) G ds vs→vs.length=n→Q (vs.map some++cs) H)→gl v (os++cs) H Q
section
variable{X:Cx}{B:Hp}{E:EK}{scope:Scope}{cl:List (Str×Addr)}{xs:List Str}{M:List Str}{ix:List Nat}{elt iter:Expr}{ifs:List Expr}{pos:Pos}{r:En→ResL}{t g:En→Res}{tg:Expr}{td:D→Option (List D)}
noncomputable abbrev EF:EK:=λ_ _=>False
structure BlockOk(X:Cx)(B:Hp)(E:EK)(scope:Scope)(cl:List (Str×Addr))(xs:List Str)(M:List Str)(tg:Expr)(td:D→Option (List D))(elt:Expr)(ifs:List Expr)(t g:En→Res):Prop where
 tgt:∀C s₀ H₀ ex pn,TgB (fj X scope cl (xs++M) xs C s₀ H₀ ex pn) xs.length tg td
 test:(ifs=[]∧t=gC (.bl true))∨∃c,ifs=[c]∧∀C s₀ H₀ ex pn,B5 (fj X scope cl (xs++M) xs C s₀ H₀ ex pn) B EF c t
 elt:∀C s₀ H₀ ex pn,ff (fj X scope cl (xs++M) xs C s₀ H₀ ex pn) B EF elt g
noncomputable def td1(d:D):Option (List D):=some [d]
theorem Nz{x:Str}{px:Pos}(O:CompOk X scope cl [x] M ix)(C s₀ H₀ ex pn):TgB (fj X scope cl ([x]++M) [x] C s₀ H₀ ex pn) 1 (.Name x px) td1:=
 ⟨_,Nh (i:=0) O.nd rfl (.inl (lookup_relabel_local (O.loc x kAk))) (.inl (decide_eq_true kAk)),λ{G H os cs d v ds Q} h0 sg dn e q=>by
  cases e
  match os,h0 with
  |[o],_=>exact q [v] (DenL.one dn) rfl⟩
def F9(td:D→Option (List D))(cap:En)(t g:En→Res)(f:D→Option (Option D)):Prop:=∀d o,f d=some o→∃ds,td d=some ds∧
 ((t (ds.map Sl.pu++cap)=.ok (.bl true)∧∃y,g (ds.map Sl.pu++cap)=.ok y∧o=some y)∨(t (ds.map Sl.pu++cap)=.ok (.bl false)∧o=none))
theorem Vy{ix:List Nat}{δ:En}{t g:En→Res}:F9 td1 (lx ix δ) t g (yn ix t g δ):=λd o h=>by
 refine⟨[d],rfl,?_⟩
 ·unfold yn at h;have e:[d].map Sl.pu++lx ix δ=ik ix δ (.pu d):=rfl;rw[e];split at h
  ·rename_i ht;split at h
   ·rename_i y hg;cases h;exact .inl ⟨ht,y,hg,rfl⟩
   ·cases h
  ·rename_i ht;cases h;exact .inr ⟨ht,rfl⟩
  ·cases h
theorem ResP.ok0{G H:Hp}{r:Res}{P:D→Prop}(d:D)(e:r=.ok d)(h:P d):ResP EF G H r P:=by rw[e];exact h
theorem Gs(O:CompOk X scope cl xs M ix)(hc:X.calm=true)(Bk:BlockOk X B E scope cl xs M tg td elt ifs t g){pins:List (Addr×Obj)}{σ:St}{δ:En}{G H:Hp}{s:Shared}{it:Addr}{fp:List Addr}{tn:Nat→Heap→Prop}{J:It}{ds ys:List D}{f:D→Option (Option D)}
  (I:Inv X pins σ H s)(T:Turn X.prog X.w (kx X) tg J fp it tn)(st:tn 0 s.heap)(hf:∀b∈fp,B4 X pins H b)(R:EnvR (kx X) B G H σ δ)(ok:D4 (kx X) J ds (λG2 H2=>Ext G H G2 H2))(hl:ds.length≤sizeLine)(hF:F9 td (lx ix δ) t g f)(ey:jk f ds=some ys)
  {RR:Value→Addr→Result→Shared→Prop}
  (fin:∀s1 H1 G1 vs m,Inv X pins σ H1 s1→s1.heap.Ns (s.heap.objs.size+1) m→H1 (s.heap.objs.size+1)=none→Ext G H G1 H1→G1 s.heap.objs.size=none→H1 s.heap.objs.size=some (.lst vs)→DenL (kx X) G1 ys vs→RR (.ref s.heap.objs.size) (s.heap.objs.size+1) (.ok .next) s1):
  wpAny (model X.prog X.w) X.A (newList []) (λacc s₃=>wpAny (model X.prog X.w) X.A (newFunctionEnv scope X.env.globals cl [] X.env.qual none .none (some X.env)) (λcenv s₄=>
   codeAny (model X.prog X.w) X.A (.compStart (.ListComp elt [⟨tg,iter,ifs,0⟩] scope pos) 0 (.ref it) acc {cenv with scope:=relabel scope X.env}) (RR acc cenv.locals) s₄) X.xe s₃) X.xe s:=by
 have hfs:∀b∈fp,b<s.heap.objs.size:=λb hb=>by
  obtain⟨o,e,_⟩:=T.obj 0 _ st b hb;exact Heap.lt_size e
 refine wpAny_newObj_type (wpAny_newFunctionEnv O.ncell (by intro y hy;simp at hy) (λh₂ hns₂ hsb₂=>?_) O.kind);dsimp only at hns₂ hsb₂⊢;generalize hH2:s.heap.push {cls:=.type "list",dict:=none,data:=.seq ([]:List Value).toArray}=h₁ at hns₂ hsb₂⊢;have hz:h₁.objs.size=s.heap.objs.size+1:=by rw[←hH2,Heap.size_push]
 rw[hz]at hns₂ hsb₂⊢;have hk:∀b o,s.heap.get? b=some o→h₁.get? b=some o:=λb o e=>by rw[←hH2];exact Heap.get?_push_of_some _ e
 have hk2:∀b o,h₁.get? b=some o→h₂.get? b=some o:=λb o e=>by
  have:b<s.heap.objs.size+1:=by rw[←hz];exact Heap.lt_size e
  exact hsb₂.extBut b o (kAf this) (Heap.get?_push_of_some _ e)
 have ha:h₁.get? s.heap.objs.size=some {cls:=.type "list",data:=.seq #[] 0}:=by rw[←hH2];exact Heap.get?_push_size _ rfl
 have I0:=Rb (tk:=s.toks) (tk2:=s.toks+([]:List (Str×Value)).length) O I hf hfs hk hz ha hk2 hns₂;have fresh:H s.heap.objs.size=none:=I.hok.fresh (kA0 _);have e0:Ext G H G (upd H s.heap.objs.size (.lst [])):=Ext.own R.gh _ fresh;have g0:G s.heap.objs.size=none:=eu R.gh fresh;have hfC:∀{H1:Hp},(∀b∈fp,H1 b=none)→∀b∈fp,B4 (fj X scope cl (xs++M) xs (s.heap.objs.size+1) {s with heap:=h₁,toks:=s.toks} (upd H s.heap.objs.size (.lst [])) fp (X.pn++pins)) [] H1 b:=λ{H1} hn b hb=>by
  obtain⟨f0,f1,f2,f3,f4,f5⟩:=hf b hb;refine⟨hn b hb,?_,?_,.inl hb,λy c e=>f4 y c (O.cells e),λp hp=>f5 p (by simpa[fj]using hp)⟩
  ·exact rm (hfs b hb)
  ·intro hfb;rcases kA6.mp (I.stkSub b hfb)with e|e
   ·exact f1 e
   ·exact f2 e
 have loop:codeAny (model X.prog X.w) X.A (.compLoop (.ListComp elt [⟨tg,iter,ifs,0⟩] scope pos) 0 (.ref it) (.ref s.heap.objs.size) (compEnvC scope cl (s.heap.objs.size+1) X.env)) (RR (.ref s.heap.objs.size) (s.heap.objs.size+1))
   {s with heap:=h₂,toks:=s.toks+([]:List (Str×Value)).length}:=by
  refine Eh (λn s1=>∃i os H1 G1 vs zs bg,os.length=xs.length∧n=ds.length - i∧i≤ds.length∧Inv (fj X scope cl (xs++M) xs (s.heap.objs.size+1) {s with heap:=h₁,toks:=s.toks} (upd H s.heap.objs.size (.lst [])) fp (X.pn++pins)) [] (gm σ ix os) H1 s1∧tn i s1.heap∧(∀b∈fp,H1 b=none)∧
   H1 s.heap.objs.size=some (.lst vs)∧G1 s.heap.objs.size=none∧Ext G H G1 H1∧DenL (kx X) G1 zs vs∧zs.length≤i∧jk f (ds.drop i)=some bg∧ys=zs++bg) ?_ ds.length
   ⟨0,kA2 xs.length none,_,G,[],[],ys,kBd,rfl,kAt _,I0,T.keep 0 _ _ st (λb _ o e=>hk2 b o (hk b o e)),λb hb=>by rw[bp (kAf (hfs b hb))];exact(hf b hb).1,cb,g0,e0,rfl,kA0 _,ey,rfl⟩
  rintro n s1 ⟨i,os,H1,G1,vs,zs,bg,hos,rfl,hi,I1,st1,fr1,ha1,ga1,x1,dl1,zl,er,eys⟩
  obtain⟨okg,oks⟩:=ok i G1 H1 x1 x1.gh
  by_cases hlt:i<ds.length
  ·obtain⟨go,yl⟩:=okg ds[i] (by simp[hlt]);rw[kBg hlt]at er;unfold jk at er;cases ef:f ds[i]with
   |none=>rw[ef]at er;cases er
   |some oy=>
   rw[ef]at er;dsimp only at er;cases er2:jk f (ds.drop (i+1))with
   |none=>rw[er2]at er;cases er
   |some rest2=>
   rw[er2]at er;have er':bg=oy.toList++rest2:=by cases er;rfl
   subst er';refine wpAny_mono (T.item (fj X scope cl (xs++M) xs (s.heap.objs.size+1) {s with heap:=h₁,toks:=s.toks} (upd H s.heap.objs.size (.lst [])) fp (X.pn++pins)) rfl rfl rfl hc i [] s1 _ H1 _ I1 (hfC fr1) st1 go) (λrr s2 ⟨u,hr,h2⟩=>?_) λ_ _ q=>q;subst hr;refine wpAny_mono h2 (λ_ s3 ⟨xv,H3,I3,r3,y3,st3,fr3⟩=>?_) λ_ _ q=>q;obtain⟨G3,e3,dn⟩:=yl xv H3 y3;have I3':=I3.pinned (hfC fr3) (T.obj _ _ st3);have x3:Ext G H G3 H3:=x1.trans e3;have ha3:H3 s.heap.objs.size=some (.lst vs):=e3.hh _ _ ha1;have ga3:G3 s.heap.objs.size=none:=e3.fr _ _ ha1 ga1 rfl;obtain⟨dx,htd,hor⟩:=hF _ _ ef;obtain⟨gl,TO1,TO2⟩:=(Bk.tgt (s.heap.objs.size+1) {s with heap:=h₁,toks:=s.toks} (upd H s.heap.objs.size (.lst [])) fp (X.pn++pins)).ex;refine wpAny_mono (TO1 _ s3 _ H3 xv u (λσ' H'=>H'=H3∧∃vx,DenL (kx X) G3 dx vx∧vx.length=xs.length∧σ'=gm σ ix (vx.map some)) I3' r3 (TO2 hos e3.gh dn htd λvx dl hv=>⟨rfl,vx,dl,hv,rfl⟩)) (λ_ s4 ⟨σ4,H4,I4,e4,vx,dlx,hvx,e5⟩=>?_) λ_ _ q=>q.elim;subst e4 e5;have R4:EnvR (kx X) B G3 H4 (gm σ ix (vx.map some)) (dx.map Sl.pu++lx ix δ):=J8 (R.ext x3) O.ixd dlx;have next:∀{s5:Shared}{H5:Hp}{G5:Hp}{us:List V}{ws:List D},Inv (fj X scope cl (xs++M) xs (s.heap.objs.size+1) {s with heap:=h₁,toks:=s.toks} (upd H s.heap.objs.size (.lst [])) fp (X.pn++pins)) ([]++xi fp s3.heap) (gm σ ix (vx.map some)) H5 s5→
     H5 s.heap.objs.size=some (.lst us)→G5 s.heap.objs.size=none→Ext G H G5 H5→DenL (kx X) G5 ws us→ws=zs++oy.toList→
     ∃m,m<ds.length - i∧∃i os H1 G1 vs zs bg,os.length=xs.length∧m=ds.length - i∧i≤ds.length∧Inv (fj X scope cl (xs++M) xs (s.heap.objs.size+1) {s with heap:=h₁,toks:=s.toks} (upd H s.heap.objs.size (.lst [])) fp (X.pn++pins)) [] (gm σ ix os) H1 s5∧tn i s5.heap∧(∀b∈fp,H1 b=none)∧
      H1 s.heap.objs.size=some (.lst vs)∧G1 s.heap.objs.size=none∧Ext G H G1 H1∧DenL (kx X) G1 zs vs∧zs.length≤i∧jk f (ds.drop i)=some bg∧ys=zs++bg:=λ{s5 H5 G5 us ws} I5 ha5 ga5 x5 dl5 ew=>by
    refine⟨ds.length - (i+1),by omega,i+1,vx.map some,H5,G5,us,ws,rest2,by rw[kA3];exact hvx,rfl,hlt,I5.unpinned,T.keep _ _ _ st3 λb hb ob e=>(I5.pin (b,ob) (kB8 _ (kB8 _ (n9 hb e)))).1,λb hb=>?_,ha5,ga5,x5,dl5,?_,er2,?_⟩
    ·obtain⟨ob,e,d⟩:=T.obj _ _ st3 b hb;exact(I5.pin (b,ob) (kB8 _ (kB8 _ (n9 hb e)))).2.1
    ·rw[ew,kAi];have:oy.toList.length≤1:=by cases oy<;>simp
     omega
    ·rw[ew,List.append_assoc];exact eys
   have val:∀{s5:Shared}{H5 G5:Hp},Inv (fj X scope cl (xs++M) xs (s.heap.objs.size+1) {s with heap:=h₁,toks:=s.toks} (upd H s.heap.objs.size (.lst [])) fp (X.pn++pins)) ([]++xi fp s3.heap) (gm σ ix (vx.map some)) H5 s5→Ext G3 H4 G5 H5→∀y,g (dx.map Sl.pu++lx ix δ)=.ok y→oy=some y→
     wpAny (model X.prog X.w) X.A (eval elt (compEnvC scope cl (s.heap.objs.size+1) X.env)) (λxx s₄=>
       wpAny (model X.prog X.w) X.A (call (.builtin "list.append") [.ref s.heap.objs.size,xx]) (λ_ s₅=>∃m,m<ds.length - i∧∃i os H1 G1 vs zs bg,os.length=xs.length∧m=ds.length - i∧i≤ds.length∧Inv (fj X scope cl (xs++M) xs (s.heap.objs.size+1) {s with heap:=h₁,toks:=s.toks} (upd H s.heap.objs.size (.lst [])) fp (X.pn++pins)) [] (gm σ ix os) H1 s₅∧tn i s₅.heap∧(∀b∈fp,H1 b=none)∧
      H1 s.heap.objs.size=some (.lst vs)∧G1 s.heap.objs.size=none∧Ext G H G1 H1∧DenL (kx X) G1 zs vs∧zs.length≤i∧jk f (ds.drop i)=some bg∧ys=zs++bg) (λ_ _=>False) s₄) (λ_ _=>False) s5:=λ{s5 H5 G5} I5 e5 y eg eo=>by
     refine wpAny_mono (Bk.elt _ _ _ _ _ _ s5 _ H5 (λv H6=>∃G6,Ext G5 H5 G6 H6∧Den (kx X) G6 y v) I5 ⟨G5,_,R4.ext e5,ResP.ok0 y eg λv G6 H6 e6 d6=>⟨G6,e6,d6⟩⟩) (λxx s6 ⟨v6,H6,I6,r6,G6,e6,d6⟩=>?_) λ_ _ q=>q;have e56:=e5.trans e6;have ha6:H6 s.heap.objs.size=some (.lst vs):=e56.hh _ _ ha3;have ga6:G6 s.heap.objs.size=none:=e56.fr _ _ ha3 ga3 rfl;refine wpAny_mono (Dn (X:=fj X scope cl (xs++M) xs (s.heap.objs.size+1) {s with heap:=h₁,toks:=s.toks} (upd H s.heap.objs.size (.lst [])) fp (X.pn++pins)) _ s6 _ H6 (.ref s.heap.objs.size) [v6] (.ref s.heap.objs.size) [xx] (λ_ H7=>H7=upd H6 s.heap.objs.size (.lst (vs++[v6]))) I6 rfl (.cons r6 .nil) ⟨_,vs,v6,rfl,rfl,ha6,?_,rfl⟩) (λ_ s7 ⟨_,H7,I7,_,e7⟩=>?_) λ_ _ q=>q
     ·have:=dl1.length;omega
     ·subst e7;exact next I7 cb ga6 ((x3.trans e56).wr ga6 fresh) ((dl1.mono (e3.gg.trans e56.gg)).append (DenL.one d6)) (by rw[eo];rfl)
   have noE:∀{F:Value→Shared→Prop}(v:Value)(s':Shared),False→F v s':=λ_ _ f=>f.elim;rcases Bk.test with ⟨rfl,rfl⟩|⟨c,rfl,ht⟩
   ·refine wpAny_tests_nil ?_;rcases hor with ⟨_,y,eg,eo⟩|⟨hb,_⟩
    ·exact wpAny_mono (val I4 (Ext.refl R4.gh) y eg eo) (λxx s6 q6=>wpAny_mono q6 (λ_ _ q=>q) noE) noE
    ·cases hb
   ·refine wpAny_tests_one ?_;rcases hor with ⟨et,y,eg,eo⟩|⟨et,eo⟩
    ·refine wpAny_mono (ht _ _ _ _ _ _ s4 _ H4 (λb H6=>b=true∧∃G6,Ext G3 H4 G6 H6) I4 ⟨G3,_,R4,ResP.ok0 (.bl true) et ⟨true,rfl,λG6 H6 e6=>⟨rfl,G6,e6⟩⟩⟩) (λb s6 ⟨H6,I6,eb,G6,e6⟩=>?_) noE;subst eb;exact wpAny_mono (val I6 e6 y eg eo) (λxx s7 q7=>wpAny_mono q7 (λ_ _ q=>q) noE) noE
    ·refine wpAny_mono (ht _ _ _ _ _ _ s4 _ H4 (λb H6=>b=false∧∃G6,Ext G3 H4 G6 H6) I4 ⟨G3,_,R4,ResP.ok0 (.bl false) et ⟨false,rfl,λG6 H6 e6=>⟨rfl,G6,e6⟩⟩⟩) (λb s6 ⟨H6,I6,eb,G6,e6⟩=>?_) noE;subst eb;show∃m,m<_∧_;exact next I6 (e6.hh _ _ ha3) (e6.fr _ _ ha3 ga3 rfl) (x3.trans e6) (dl1.mono (e3.gg.trans e6.gg)) (by rw[eo];simp)
  ·have hz2:i=ds.length:=by omega
   subst hz2;rw[List.drop_length]at er;have er':bg=[]:=by cases er;rfl
   subst er';rw[kB0]at eys;subst eys;refine wpAny_mono (T.done (fj X scope cl (xs++M) xs (s.heap.objs.size+1) {s with heap:=h₁,toks:=s.toks} (upd H s.heap.objs.size (.lst [])) fp (X.pn++pins)) rfl rfl rfl hc _ [] s1 _ H1 _ I1 (hfC fr1) st1 (oks (kA0 _))) (λrr s2 ⟨hr,I2⟩=>?_) λ_ _ q=>q;subst hr;obtain⟨m2,hm2,_⟩:=I2.loc;have u1:Un (wy X.stack) fp H (upd H s.heap.objs.size (.lst [])) s.heap h₁:=Un.laid hk (kA0 _) fresh;have u2:Un (wy X.stack) fp (upd H s.heap.objs.size (.lst [])) H1 h₁ s2.heap:=I2.base;have IX:Inv X pins σ H1 s2:=I.call' I2.os (u1.trans u2) I2.hok I2.bare λb hb=>by
    obtain⟨f0,f1,f2,f3,f4,f5⟩:=hf b hb;exact⟨f3,f1,f4,f5⟩
   exact fin s2 H1 G1 vs m2 IX hm2 I2.free x1 ga1 ha1 dl1
 exact codeAny_compStart_list loop (T.self _ 0 _ _ _ (T.keep 0 _ _ st (λb _ o e=>hk2 b o (hk b o e))) loop)
theorem X9{f:En→D→Option (Option D)}(O:CompOk X scope cl xs M ix)(hc:X.calm=true)(Bk:BlockOk X B E scope cl xs M tg td elt ifs t g)(hF:∀δ,F9 td (lx ix δ) t g (f δ))(hi:N8 X B E tg iter r)
  (hs:∀x,foldedSetIterable iter X.env x=pure x:=by intro _;rfl):L8 X B E (.ListComp elt [⟨tg,iter,ifs,0⟩] scope pos) (t9 r f):=by
 intro pins s σ H Q I q;rw[eval_ListComp];obtain⟨G,δ,R,q⟩:=q;refine wpAny_comprehension_free (use:=none) rfl hs (si O.clos) O.kind O.names ?_;refine wpAny_mono (hi pins s σ H (λJ H1=>∃G1 ds ys,Ext G H G1 H1∧D4 (kx X) J ds (λG2 H2=>Ext G1 H1 G2 H2)∧ds.length≤sizeLine∧jk (f δ) ds=some ys∧
  ∀a vs G' H',Ext G H G' H'→H a=none→G' a=none→H' a=some (.lst vs)→DenL (kx X) G' ys vs→Q (.ref a) H') I
  ⟨G,δ,R,(zaa q).mono λds _ ⟨hl,ys,ey,ds',ed,q⟩ J G1 H1 e1 ok=>⟨G1,ds,ys,e1,ok,hl,ey,by cases ed;exact q⟩⟩) (λv s1 h1=>wpAny_mono h1 (λitv s2 h2=>?_) λ_ _ e=>e) λ_ _ e=>e
 obtain⟨it,fp,tn,J,H1,rfl,I1,T,st,hf,G1,ds,ys,e1,ok,hl,ey,q⟩:=h2;refine Gs (RR:=λacc C=>compPost (model X.prog X.w) X.A X.xe none (EP X pins σ Q) acc C) O hc Bk I1 T st hf (R.ext e1) ok hl (hF δ) ey ?_;intro s3 H3 G3 vs m I3 hm hC e3 g3 h3 dl;refine⟨m,hm,λh' hs'=>⟨.ref s2.heap.objs.size,H3,?_,rfl,q _ vs G3 H3 (e1.trans e3) (eu e1.hh (I1.hok.fresh (kA0 _))) g3 h3 dl⟩⟩;have hsz:s2.heap.objs.size≤s2.heap.objs.size+1:=Nat.le_succ _;refine I3.turned (t':=s3.toks) (it:=s2.heap.objs.size+1) (λb o hb e=>hs'.extBut b o hb e) hC ?_ (.inr (kAn I1.sz hsz)) ?_ ?_
 ·exact λz=>absurd (kAo I1.lt (kAn hsz (Nat.le_of_eq z))) (kAx _)
 ·intro y c hc' z;obtain⟨v',q'⟩:=I1.cell y c hc';exact absurd (kAo q'.lt (kAn hsz (Nat.le_of_eq z.symm))) (kAx _)
 ·intro p hp z;exact absurd (kAo (Heap.lt_size (I1.pin p hp).1) (kAn hsz (Nat.le_of_eq z.symm))) (kAx _)
end
section
variable{K:KA}
theorem Xh{d:D}{t:String}(h:Zv d=some t):PySem.W.kitOne K (.type t) (.type "int")=some (V9 t "int"):=by cases d<;>cases h<;>rfl
theorem S0{d:D}{t:String}(h:Zv d=some t):PySem.W.kitOne K (.type t) (.type "bool")=some (V9 t "bool"):=by cases d<;>cases h<;>rfl
theorem Xi{d:D}{t:String}(h:Zv d=some t):PySem.W.kitOne K (.type t) (.type "str")=some (V9 t "str"):=by cases d<;>cases h<;>rfl
theorem S3{d:D}{t:String}(h:Zv d=some t):PySem.W.kitOne K (.type t) (.type "list")=some (V9 t "list"):=by cases d<;>cases h<;>rfl
theorem O5{d:D}{t:String}(h:Zv d=some t):PySem.W.kitOne K (.type t) (.type "tuple")=some (V9 t "tuple"):=by cases d<;>cases h<;>rfl
end
section
variable{X:Cx}{B:Hp}{E:EK}{e a b:Expr}{es:List Expr}{g h:En→Res}{pos:Pos}
def zfj(K:KA)(c:String):Prop:=∀{d:D}{t:String},Zv d=some t→PySem.W.kitOne K (.type t) (.type c)=some (V9 t c)
noncomputable def zkk(K:KA)(c:String):List V→Hp→VK→Prop:=λxs H Q=>∃G d x t,xs=[x,.ty c]∧Same G H∧Arg K G H d x∧Zv d=some t∧Q (.bl (V9 t c)) H
theorem Q4{c:String}(hk:zfj (kx X) c):CallR X (.builtin "isinstance") (zkk (kx X) c):=by
 intro pins s σ H xs us Q I r q;obtain⟨G,d,x,t,rfl,sg,ax,et,q⟩:=q;obtain⟨u,u2,rfl,ru,ru2⟩:=za2 r;cases ru2;have e:=hk et;have fin:∀tk,EP X pins σ Q (.bool (V9 t c)) {s with toks:=tk}:=λtk=>⟨.bl (V9 t c),H,I.tok tk,rfl,q⟩;cases d with
 |non=>
  cases et;rw[ax.non]at ru;cases ru;exact PySem.W.kia_one PySem.W.kitx_none I.kIn True.intro e (λz=>nomatch z) fin
 |bl y=>
  cases et;rw[ax.bl]at ru;cases ru;exact PySem.W.kia_one PySem.W.kitx_bool I.kIn True.intro e (λz=>nomatch z) fin
 |int i=>
  cases et;rw[ax.int]at ru;obtain⟨t,rfl⟩:=ru;exact PySem.W.kia_one PySem.W.kitx_int I.kIn True.intro e (λz=>nomatch z) fin
 |str y=>
  cases et;rw[ax.str]at ru;obtain⟨t,rfl⟩:=ru;exact PySem.W.kia_one PySem.W.kitx_str I.kIn True.intro e (λz=>nomatch z) fin
 |tup ds=>
  cases et;obtain⟨l,vs,rfl,sq,dl⟩:=ax.tup sg;cases ru;obtain⟨its,rv,⟨o,ho,hc,n,hd⟩,_⟩:=I.tuple sq;exact PySem.W.kia_one PySem.W.kitx_tuple I.kIn ⟨o,ho,hc⟩ e (λz=>nomatch z) fin
 |lst ds=>
  cases et;obtain⟨l,vs,rfl,sq,dl⟩:=ax.lst sg;cases ru;obtain⟨its,rv,pl,_⟩:=I.list sq;obtain⟨o,ho,hc,_⟩:=pl.isList;exact PySem.W.kia_one PySem.W.kitx_list I.kIn ⟨o,ho,hc⟩ e (λz=>nomatch z) fin
 |dct tt kvs=>
  cases et;have key:∃a,x=.ref a∧((∃es,H a=some (.dK es))∨∃es,H a=some (.dT es)):=by
   rcases ax with ⟨a,h1,h2⟩|⟨_,_,_,z,_⟩|⟨t',kvs',a,z,h1,h2⟩
   ·exact⟨a,h1,h2.elim (λ⟨_,es,q,_⟩=>.inl ⟨es,sg _ _ q⟩) λ⟨_,es,q,_⟩=>.inr ⟨es,sg _ _ q⟩⟩
   ·cases z
   ·exact⟨a,h1,h2.elim (λ⟨_,es,q,_⟩=>.inl ⟨es,q⟩) λ⟨_,es,q,_⟩=>.inr ⟨es,q⟩⟩
  obtain⟨a,rfl,h2⟩:=key;cases ru;rcases h2 with ⟨es,ea⟩|⟨es,ea⟩
  ·obtain⟨_,_,vs,_,p⟩:=(show ObjOk X.prog X.w H s.heap a (.dK es)from I.hok a _ ea);obtain⟨o,es',ep,h1,h2,_⟩:=p;exact PySem.W.kia_one PySem.W.kitx_dict I.kIn ⟨o,h1,h2.1⟩ e (λz=>nomatch z) fin
  ·obtain⟨_,_,xs,_,o,es',ep,h1,h2,_⟩:=(show ObjOk X.prog X.w H s.heap a (.dT es)from I.hok a _ ea);exact PySem.W.kia_one PySem.W.kitx_dict I.kIn ⟨o,h1,h2.1⟩ e (λz=>nomatch z) fin
 |obj _ _=>cases et
 |fn _=>cases et
theorem Bg{c:String}{x:Str}{p p2:Pos}(hk:zfj (kx X) c)(hg:Gl X "isinstance")(hm:X.mg "isinstance"=none)(hg2:Gl X x)(hm2:X.mg x=none)(hv2:bootBuiltins x=some (.type c))(ha:iz X B E e g)
  (hn2:x≠"__name__":=by decide)(hd2:(x==("__debug__":Str))=false:=by decide)
  (he:starEach [e,.Name x p2] X.env=(false,eval e X.env)::starEach [.Name x p2] X.env:=by rfl) (he2:starEach [.Name x p2] X.env=(false,eval (.Name x p2) X.env)::starEach [] X.env:=by rfl) (hpl:(backTo pos (starEach [.Name x p2] X.env)).any (·.1)=false:=by rfl):
  ff X B E (.Call (.Name "isinstance" p) [e,.Name x p2] [] pos) (g1 (cc c) g):=
 PE.imp (qr (Q4 hk) hg hm boot_isinstance (mf ha (mf (Nc (v:=.ty c) hg2 hm2 hv2 rfl hn2 hd2) Bc he2) he) (by decide) (by decide) he hpl) λσ H Q ⟨G,δ,R,q⟩=>⟨G,δ,R,(ResP.bind q).mono λdx _ qx x G1 H1 e1 ax=>by
  obtain⟨d,ed,qd⟩:=ResP.of qx;unfold cc at ed;cases et:Zv dx with
  |none=>rw[et]at ed;cases ed
  |some t=>
   rw[et]at ed;cases ed;exact⟨G1,dx,x,t,rfl,e1.gh,ax,et,qd _ G1 H1 e1 rfl⟩⟩
noncomputable def Iz(d:D):D→Option Bool
 |.lst xs=>match e8 xs,dj d with
  |some ps,some q=>if PyData.canLayAll0 ps && SeqAt.shaped q then some (ps.any λy=>PyData.eqv y q)else none
  |_,_=>none
 |.tup xs=>match e8 xs,dj d with
  |some ps,some q=>if PyData.canLayAll0 ps && SeqAt.shaped q then some (ps.any λy=>PyData.eqv y q)else none
  |_,_=>none
 |.str z=>match d with
  |.str x=>some (!(Builtin.Str.occurrences z x 0 z.length 1).isEmpty)
  |_=>none
 |_=>none
noncomputable def Y0(d e:D):Option D:=(Iz d e).map .bl
noncomputable def ze(d e:D):Option D:=(Iz d e).map λb=>.bl !b
theorem y8{d:D}{xs:List D}{b:Bool}(h:(match e8 xs,dj d with
  |some ps,some q=>if PyData.canLayAll0 ps && SeqAt.shaped q then some (ps.any λy=>PyData.eqv y q)else none
  |_,_=>none)=some b):∃ps q,e8 xs=some ps∧dj d=some q∧PyData.canLayAll0 ps=true∧SeqAt.shaped q=true∧b=ps.any λy=>PyData.eqv y q:=by
 cases e1:e8 xs with
 |none=>rw[e1]at h;cases h
 |some ps=>
  cases e2:dj d with
  |none=>rw[e1,e2]at h;cases h
  |some q=>
   rw[e1,e2]at h;dsimp only at h
   by_cases hs:(PyData.canLayAll0 ps && SeqAt.shaped q)=true
   ·rw[if_pos hs]at h;cases h;rw[kA1]at hs;exact⟨ps,q,rfl,rfl,hs.1,hs.2,rfl⟩
   ·rw[if_neg hs]at h;cases h
noncomputable def Y3(K:KA)(neg:Bool):R2:=λx y H Q=>∃G dx dy b,Same G H∧Arg K G H dx x∧Arg K G H dy y∧Iz dx dy=some b∧Q (.bl (if neg then !b else b)) H
theorem zcl(hu:X.A.units+65<cLine):OpR X (compareOp .In) (Y3 (kx X) false):=by
 intro pins s σ H x y v u Q I rx ry q;obtain⟨G,dx,dy,b,sg,ax,ay,eb,q⟩:=q;cases dy with
 |lst xs=>
  obtain⟨ps,p,e1,e2,s1,s2,rfl⟩:=y8 eb;obtain⟨as,ra⟩:=cv I sg ax rx e2;obtain⟨bs,rb⟩:=cv (p:=.list ps) I sg ay ry (by unfold dj;rw[e1]);exact SeqAt.in_list_reads rb ra s1 (SeqAt.canLay_of_shaped s2) (room_in_shaped s2 hu) ⟨.bl _,H,I,rfl,q⟩
 |tup xs=>
  obtain⟨ps,p,e1,e2,s1,s2,rfl⟩:=y8 eb;obtain⟨as,ra⟩:=cv I sg ax rx e2;obtain⟨bs,rb⟩:=cv (p:=.tuple ps) I sg ay ry (by unfold dj;rw[e1]);exact SeqAt.in_tuple_reads rb ra s1 (SeqAt.canLay_of_shaped s2) (room_in_shaped s2 hu) ⟨.bl _,H,I,rfl,q⟩
 |str z=>
  cases dx with
  |str w=>
   cases eb;rw[ax.str]at rx;rw[ay.str]at ry;exact Pn pins s σ H _ _ _ _ Q I rx ry ⟨_,_,rfl,rfl,q⟩
  |_=>cases eb
 |_=>cases eb
theorem Po(hu:X.A.units+65<cLine):OpR X (compareOp .NotIn) (Y3 (kx X) true):=by
 intro pins s σ H x y v u Q I rx ry q;obtain⟨G,dx,dy,b,sg,ax,ay,eb,q⟩:=q;cases dy with
 |lst xs=>
  obtain⟨ps,p,e1,e2,s1,s2,rfl⟩:=y8 eb;obtain⟨as,ra⟩:=cv I sg ax rx e2;obtain⟨bs,rb⟩:=cv (p:=.list ps) I sg ay ry (by unfold dj;rw[e1]);exact SeqAt.notIn_list_reads rb ra s1 (SeqAt.canLay_of_shaped s2) (room_in_shaped s2 hu) ⟨.bl _,H,I,rfl,q⟩
 |tup xs=>
  obtain⟨ps,p,e1,e2,s1,s2,rfl⟩:=y8 eb;obtain⟨as,ra⟩:=cv I sg ax rx e2;obtain⟨bs,rb⟩:=cv (p:=.tuple ps) I sg ay ry (by unfold dj;rw[e1]);exact SeqAt.notIn_tuple_reads rb ra s1 (SeqAt.canLay_of_shaped s2) (room_in_shaped s2 hu) ⟨.bl _,H,I,rfl,q⟩
 |str z=>
  cases dx with
  |str w=>
   cases eb;rw[ax.str]at rx;rw[ay.str]at ry;exact Fh pins s σ H _ _ _ _ Q I rx ry ⟨_,_,rfl,rfl,q⟩
  |_=>cases eb
 |_=>cases eb
theorem Yi:gc (kx X) Y0 (Y3 (kx X) false):=λG H x y dx dy d sg ax ay ed Q q=>by
 unfold Y0 at ed;cases e:Iz dx dy with
 |none=>rw[e]at ed;cases ed
 |some b=>rw[e]at ed;cases ed;exact⟨G,dx,dy,b,sg,ax,ay,e,q _ G H (Ext.refl sg) rfl⟩
theorem Lb:gc (kx X) ze (Y3 (kx X) true):=λG H x y dx dy d sg ax ay ed Q q=>by
 unfold ze at ed;cases e:Iz dx dy with
 |none=>rw[e]at ed;cases ed
 |some b=>rw[e]at ed;cases ed;exact⟨G,dx,dy,b,sg,ax,ay,e,q _ G H (Ext.refl sg) rfl⟩
noncomputable def j4:D→Option D
 |.lst ds=>some (.tup ds)
 |.tup ds=>some (.tup ds)
 |_=>none
noncomputable def Uq:D→Option D
 |.int i=>some (.int i)
 |.bl b=>some (.int (if b then 1 else 0))
 |_=>none
theorem Um{p:Pos}(hg:Gl X "tuple")(hm:X.mg "tuple"=none)(ha:iz X B E e g)(he:starEach [e] X.env=(false,eval e X.env)::starEach [] X.env:=by rfl)(hpl:(backTo pos (starEach [] X.env)).any (·.1)=false:=by rfl):ff X B E (.Call (.Name "tuple" p) [e] [] pos) (g1 j4 g):=
 PE.imp (m7 Ca hg hm PyProof.Rows.boot_tuple (jx ha kc he) (by decide) (by decide) he hpl) λσ H Q q=>cb1 (λG H x dx d sg ax ed Q q=>by
  unfold j4 at ed;split at ed
  ·cases ed;obtain⟨l,vs,rfl,sq,dl⟩:=ax.lst sg;exact⟨l,vs,rfl,.inl ⟨sq,λp hp=>q _ (upd G p (.tup vs)) _ (Ext.new sg _ hp) (pv sg hp dl)⟩⟩
  ·cases ed;have ax':=ax;obtain⟨l,vs,rfl,sq,dl⟩:=ax.tup sg;rcases ax' with ad|⟨_,_,_,z,_⟩|⟨_,_,_,z,_⟩
   ·exact⟨l,vs,rfl,.inr ⟨sq,q _ G H (Ext.refl sg) ad⟩⟩
   ·cases z
   ·cases z
  ·cases ed) q
theorem Yv{p:Pos}(hg:Gl X "int")(hm:X.mg "int"=none)(ha:iz X B E e g)(he:starEach [e] X.env=(false,eval e X.env)::starEach [] X.env:=by rfl)(hpl:(backTo pos (starEach [] X.env)).any (·.1)=false:=by rfl):ff X B E (.Call (.Name "int" p) [e] [] pos) (g1 Uq g):=
 PE.imp (m7 C7 hg hm PyProof.Rows.boot_int (jx ha kc he) (by decide) (by decide) he hpl) λσ H Q q=>cb1 (λG H x dx d sg ax ed Q q=>by
  unfold Uq at ed;split at ed
  ·cases ed;rw[ax.int];exact .inl ⟨_,rfl,q _ G H (Ext.refl sg) rfl⟩
  ·cases ed;rw[ax.bl];exact .inr ⟨_,rfl,q _ G H (Ext.refl sg) rfl⟩
  ·cases ed) q
end
section
variable{X:Cx}{G0 B:Hp}{E:EK}{e a b:Expr}{es:List Expr}{g h:En→Res}{pos:Pos}
noncomputable def Lh(i:Nat)(g:En→Res):En→Out:=λδ=>match δ[i]? with
 |some (.ow ds)=>(g δ).then λd=>if ds.length<sizeLine then .nx (δ.set i (.ow (ds++[d])))else .st
 |_=>.st
theorem EnvR.owAt{K:KA}{G H:Hp}{σ:St}{δ:En}{i:Nat}{ds:List D}(R:EnvR K B G H σ δ)(h:δ[i]?=some (.ow ds)):∃a vs,σ[i]?=some (some (V.ref a))∧H a=some (.lst vs)∧DenL K G ds vs∧G a=none∧B a=none:=by
 obtain⟨o,q1,a,vs,q2,q3,q4⟩:=R.sl i _ h;subst q2;obtain⟨g,b⟩:=R.own i _ a h rfl q1;exact⟨a,vs,q1,q3,q4,g,b⟩
theorem U3{i:Nat}{x:Str}{p apos cpos:Pos}(hv:PE X (.Name x p) (Cw i))(ha:ff X B E e g)
  (hbase:attributeBase (.Name x p) "append" X.env (eval (.Name x p) X.env)=eval (.Name x p) X.env:=by rfl)
  (hfew:((backTo cpos (starEach [e] X.env)).all (λx=> !x.1) && (backToKw cpos (keywordEach [] X.env)).all (λx=>x.1.isSome)
   && decide (([e]:List Expr).length+([]:List Keyword).length+(if([]:List Keyword).isEmpty then 0 else 1)<30))=true:=by rfl)
  (hline:(apos.endLine==cpos.line)=true:=by rfl) (hs:starEach [e] X.env=(false,eval e X.env)::starEach [] X.env:=by rfl) (hplain:(backTo cpos (starEach [] X.env)).any (·.1)=false:=by rfl)
  (hsw:swapsWith (.Call (.Attribute (.Name x p) "append" apos) [e] [] cpos) none pos.line X.env=pure false:=by rfl):
  lu X G0 B E (.Expr (.Call (.Attribute (.Name x p) "append" apos) [e] [] cpos) pos) (Lh i g):=
 PS.imp (zc (Tu PySem.F.plainAttrs_list PySem.F.slot_list_append PySem.F.type_list_append Dn hv (zq ha kc hs) hbase hfew hline hs hplain) hsw) λD σ H ⟨G,δ,R,ex,q⟩=>by
  unfold Lh at q;cases ed:δ[i]? with
  |none=>rw[ed]at q;exact q.elim
  |some sl=>
   rw[ed]at q;cases sl with
   |ow ds=>
    dsimp only at q;obtain⟨l,vs,q1,q2,q3,q4,q5⟩:=R.owAt ed;refine⟨.ref l,q1,.inl ⟨rfl,vs,SqL.of q2⟩,G,δ,R,?_⟩;have q':=mi ex q;unfold ae;cases eg:g δ with
    |er c=>rw[eg]at q';exact q'
    |st=>rw[eg]at q';exact q'
    |ok d=>
     rw[eg]at q';have q':OutP (kx X) G0 B E G (if ds.length<sizeLine then .nx (δ.set i (.ow (ds++[d])))else .st) D:=q'
     by_cases hl:ds.length<sizeLine
     ·rw[if_pos hl]at q';intro ws G1 H1 e1 al;obtain⟨d',dr,v,vr,z1,z2,dv,z3,z4⟩:=al;cases z1;subst z2 z4;have h1:=e1.hh _ _ q2;have g1:=e1.fr _ _ q2 q4 rfl;refine⟨l,vs,v,rfl,rfl,h1,by rw[←q3.length];exact hl,?_⟩;exact q' σ G1 _ e1.gg (EnvR.wr (R.ext e1) ed q1 h1 ((q3.mono e1.gg).append (DenL.one dv))) (Ext.wr (ex.trans e1) g1 q5)
     ·rw[if_neg hl]at q';exact q'.elim
   |no=>exact q.elim
   |pu _=>exact q.elim
   |bo _=>exact q.elim
   |od _ _=>exact q.elim
theorem He(T:String)(hT:T="list"∨T="tuple")(l:Addr)(items:Array Value)(n:Nat)(b:Addr)(items2:Array Value)(n2:Nat)(dd2:Option Addr)(sl2:Array (Option Value))(hs0:¬(!items.isEmpty && Builtin.List.listTooLong (items.size+items2.size))=true)(hs1:items.size≤sizeLine)(hs2:items.size+items2.size≤sizeLine+1):
  Meets (Builtin.«list.extend» ⟨[.ref l,.ref b],[]⟩) (λ_ R s=>s.heap.get? l=some {cls:=.type "list",dict:=none,data:=.seq items n,slots:=#[]}∧s.heap.get? b=some {cls:=.type T,dict:=dd2,data:=.seq items2 n2,slots:=sl2}∧R (.ok (.ret Value.none)) {s with heap:=s.heap.update l (Obj.mapSeq λx=>x++items2),toks:=s.toks}):=
 .of_wp λprog w A R s h=>by
  obtain⟨hp,g,d,tk,os⟩:=s;obtain⟨hl,hb,h⟩:=h;have f1:=AutoSeq1.idx_int;have f2:=AutoSeq1.sub_tuple_tuple;have f3:=AutoSeq1.sub_list_list;have f4:=AutoSeq1.sub_tuple_list;have f5:=AutoSeq1.sub_list_tuple;have hz':(items++items2).size≤sizeLine+1:=by rw[Array.size_append];exact hs2
  rcases hT with rfl|rfl
  ·wp_walk using(wpAny_updateSeq hl rfl (hz:=hs1) (_hz':=hz')),AutoSeq1.wpAny_loadPart' hl,AutoSeq1.wpAny_loadPart' hb;exact⟨_,rfl,h⟩
  ·wp_walk using(wpAny_updateSeq hl rfl (hz:=hs1) (_hz':=hz')),AutoSeq1.wpAny_loadPart' hl,AutoSeq1.wpAny_loadPart' hb;exact⟨_,rfl,h⟩
noncomputable def zg5(K:KA):V→List V→Hp→VK→Prop:=λx vs H Q=>∃l b xs zs,x=.ref l∧vs=[.ref b]∧H l=some (.lst xs)∧(SqL K H b zs∨SqT K H b zs)∧xs.length+zs.length≤sizeLine∧Q .non (upd H l (.lst (xs++zs)))
theorem Xm:MtM X "list.extend" (zg5 (kx X)):=by
 intro pins s σ H x vs v us Q I rx rv h;obtain⟨l,b,xs,zs,rfl,rfl,hH,hB,hz,q⟩:=h;cases rx;obtain⟨u,rfl,ru⟩:=rv.one;cases ru;obtain⟨z,its,n,r,hl,e⟩:=I.lstM hH;have key:∃T its2 n2 dd2 sl2,(T="list"∨T="tuple")∧Vals zs its2∧s.heap.get? b=some {cls:=.type T,dict:=dd2,data:=.seq its2.toArray n2,slots:=sl2}:=by
  rcases hB with hB|hB
  ·obtain⟨its2,r2,pl,_⟩:=I.list hB;obtain⟨⟨cls,dd,data,sl⟩,n2,ho,c,d,q⟩:=pl;simp only at c d q;subst c d q;exact⟨_,its2,n2,_,sl,.inl rfl,r2,ho⟩
  ·obtain⟨its2,r2,pl,_⟩:=I.tuple hB;obtain⟨⟨cls,dd,data,sl⟩,ho,c,n2,q⟩:=pl;simp only at c q;subst c q;exact⟨_,its2,n2,_,sl,.inr rfl,r2,ho⟩
 obtain⟨T,its2,n2,dd2,sl2,hT,r2,e2⟩:=key;have hl2:=r2.length;have hsz:its.toArray.size+its2.toArray.size≤sizeLine:=by rw[kAe,kAe];omega
 have hlong:¬(!its.toArray.isEmpty && Builtin.List.listTooLong (its.toArray.size+its2.toArray.size))=true:=by
  rw[A5 hsz,Bool.and_false];exact kB7
 refine call_meets F.slot_list_extend ⟨_,e,rfl⟩ F.entry_list_extend (F.args_list_extend_2 _ _)
  (He T hT l its.toArray n b its2.toArray n2 dd2 sl2 hlong (by rw[kAe];omega) (by omega)) ⟨e,e2,?_⟩
 refine⟨.non,_,I.lset (its':=its++its2) hH e (by simp) (r.append r2) ?_,rfl,q⟩;rw[kAi];omega
noncomputable def P7(i:Nat)(g:En→Res):En→Out:=λδ=>match δ[i]? with
 |some (.ow ds)=>(g δ).then λd=>match ua d with
  |some es=>if ds.length+es.length≤sizeLine then .nx (δ.set i (.ow (ds++es)))else .st
  |none=>.st
 |_=>.st
theorem U4{i:Nat}{x:Str}{p apos cpos:Pos}(hv:PE X (.Name x p) (Cw i))(ha:iz X B E e g)
  (hbase:attributeBase (.Name x p) "extend" X.env (eval (.Name x p) X.env)=eval (.Name x p) X.env:=by rfl)
  (hfew:((backTo cpos (starEach [e] X.env)).all (λx=> !x.1) && (backToKw cpos (keywordEach [] X.env)).all (λx=>x.1.isSome)
   && decide (([e]:List Expr).length+([]:List Keyword).length+(if([]:List Keyword).isEmpty then 0 else 1)<30))=true:=by rfl)
  (hline:(apos.endLine==cpos.line)=true:=by rfl) (hs:starEach [e] X.env=(false,eval e X.env)::starEach [] X.env:=by rfl) (hplain:(backTo cpos (starEach [] X.env)).any (·.1)=false:=by rfl)
  (hsw:swapsWith (.Call (.Attribute (.Name x p) "extend" apos) [e] [] cpos) none pos.line X.env=pure false:=by rfl):
  lu X G0 B E (.Expr (.Call (.Attribute (.Name x p) "extend" apos) [e] [] cpos) pos) (P7 i g):=
 PS.imp (zc (Tu PySem.F.plainAttrs_list PySem.F.slot_list_extend PySem.F.type_list_extend Xm hv (jx ha kc hs) hbase hfew hline hs hplain) hsw) λD σ H ⟨G,δ,R,ex,q⟩=>by
  unfold P7 at q;cases ed:δ[i]? with
  |none=>rw[ed]at q;exact q.elim
  |some sl=>
   rw[ed]at q;cases sl with
   |ow ds=>
    dsimp only at q;obtain⟨l,vs,q1,q2,q3,q4,q5⟩:=R.owAt ed;refine⟨.ref l,q1,.inl ⟨rfl,vs,SqL.of q2⟩,G,δ,R,?_⟩;have q':=mi ex q;unfold ae;cases eg:g δ with
    |er c=>rw[eg]at q';exact q'
    |st=>rw[eg]at q';exact q'
    |ok d=>
     rw[eg]at q';cases ei:ua d with
     |none=>
      have q':OutP (kx X) G0 B E G (match ua d with
       |some es=>if ds.length+es.length≤sizeLine then .nx (δ.set i (.ow (ds++es)))else .st
       |none=>.st) D:=q'
      rw[ei]at q';exact q'.elim
     |some es=>
      have q':OutP (kx X) G0 B E G (match ua d with
       |some es=>if ds.length+es.length≤sizeLine then .nx (δ.set i (.ow (ds++es)))else .st
       |none=>.st) D:=q'
      rw[ei]at q';dsimp only at q'
      by_cases hl:ds.length+es.length≤sizeLine
      ·rw[if_pos hl]at q';intro ws G1 H1 e1 al;obtain⟨v,rfl,av⟩:=ArgsM.one al;have h1:=e1.hh _ _ q2;have g1:=e1.fr _ _ q2 q4 rfl;have key:∃b zs,v=.ref b∧(SqL (kx X) H1 b zs∨SqT (kx X) H1 b zs)∧DenL (kx X) G1 es zs:=by
        cases d with
        |lst ds'=>cases ei;obtain⟨b,zs,z1,z2,z3⟩:=av.lst e1.gh;exact⟨b,zs,z1,.inl z2,z3⟩
        |tup ds'=>cases ei;obtain⟨b,zs,z1,z2,z3⟩:=av.tup e1.gh;exact⟨b,zs,z1,.inr z2,z3⟩
        |_=>cases ei
       obtain⟨b,zs,rfl,sq,dl⟩:=key;have l1:=q3.length;have l2:=dl.length;refine⟨l,b,vs,zs,rfl,rfl,h1,sq,by omega,?_⟩;exact q' σ G1 _ e1.gg (EnvR.wr (R.ext e1) ed q1 h1 ((q3.mono e1.gg).append dl)) (Ext.wr (ex.trans e1) g1 q5)
      ·rw[if_neg hl]at q';exact q'.elim
   |no=>exact q.elim
   |pu _=>exact q.elim
   |bo _=>exact q.elim
   |od _ _=>exact q.elim
end
noncomputable def d7:D→Option fo
 |.int i=>some (.inl i)
 |.str x=>some (.inr x)
 |_=>none
theorem p9(k:fo):d7 (kD k)=some k:=by cases k<;>rfl
noncomputable def de:List (D×D)→fo→Option D
 |[],_=>none
 |(k,d)::r,j=>if d7 k=some j then some d else de r j
noncomputable def Oq(kvs:List (D×D))(j:fo):Bool:=kvs.any λp=>decide (d7 p.1=some j)
noncomputable def xk(kvs:List (D×D))(j:fo)(v:D):List (D×D):=if Oq kvs j=true then kvs.map (λp=>if d7 p.1=some j then(p.1,v)else p)else kvs++[(kD j,v)]
section
variable{K:KA}{G:Hp}
theorem DenK.length:∀{kvs:List (D×D)}{es:List (fo×V)},DenK K G kvs es→kvs.length=es.length
 |[],_,h=>by rw[show _=[]from h];rfl
 |(_,_)::_,_,⟨k,v,r,h1,_,_,h3⟩=>by rw[h1,kA7,kA7,DenK.length h3]
theorem DenK.look:∀{kvs:List (D×D)}{es:List (fo×V)},DenK K G kvs es→∀j,(∀d,de kvs j=some d→∃v,ky es j=some v∧Den K G d v)∧(de kvs j=none→ky es j=none)
 |[],es,h,j=>by
  rw[show es=[]from h];exact⟨λd e=>(by cases e),λ_=>Jt⟩
 |(k,d)::r,es,h,j=>by
  obtain⟨k',v,t,rfl,rfl,dv,dt⟩:=h;obtain⟨i1,i2⟩:=DenK.look dt j;unfold de;rw[p9]
  by_cases e:k'=j
  ·subst e;rw[if_pos rfl];exact⟨λd' z=>⟨v,rf rfl,by cases z;exact dv⟩,λz=>by cases z⟩
  ·rw[if_neg (λz=>e (kAg.inj z))];refine⟨λd' z=>?_,λz=>?_⟩
   ·obtain⟨u,q1,q2⟩:=i1 d' z;exact⟨u,(lb e).trans q1,q2⟩
   ·exact(lb e).trans (i2 z)
theorem DenK.has:∀{kvs:List (D×D)}{es:List (fo×V)},DenK K G kvs es→∀j,Oq kvs j=es.any λkv=>decide (kv.1=j)
 |[],es,h,j=>by rw[show es=[]from h];rfl
 |(k,d')::r,es,h,j=>by
  obtain⟨k',u,t,rfl,rfl,du,dt⟩:=h;have ih:=DenK.has dt j;unfold Oq at ih⊢;rw[List.any_cons,List.any_cons,ih]
  congr 1
  rw[p9]
  by_cases e:k'=j
  ·simp[e]
  ·rw[decide_eq_false e,decide_eq_false λz=>e (kAg.inj z)]
theorem DenK.repl{d:D}{v:V}(dv:Den K G d v):∀{kvs:List (D×D)}{es:List (fo×V)},DenK K G kvs es→∀j,DenK K G (kvs.map λp=>if d7 p.1=some j then(p.1,d)else p) (es.map λkv=>if kv.1=j then(kv.1,v)else kv)
 |[],es,h,j=>by rw[show es=[]from h];rfl
 |(k,d')::r,es,h,j=>by
  obtain⟨k',u,t,rfl,rfl,du,dt⟩:=h;have ih:=DenK.repl dv dt j;rw[kA4,kA4];dsimp only;rw[p9]
  by_cases e:k'=j
  ·rw[if_pos e,if_pos (by rw[e])];exact⟨k',v,_,rfl,rfl,dv,ih⟩
  ·rw[if_neg e,if_neg λz=>e (kAg.inj z)];exact⟨k',u,_,rfl,rfl,du,ih⟩
theorem DenK.snoc{d:D}{v:V}(dv:Den K G d v):∀{kvs:List (D×D)}{es:List (fo×V)},DenK K G kvs es→∀j,DenK K G (kvs++[(kD j,d)]) (es++[(j,v)])
 |[],es,h,j=>by rw[show es=[]from h];exact⟨j,v,[],rfl,rfl,dv,rfl⟩
 |(k,d')::r,es,h,j=>by
  obtain⟨k',u,t,rfl,rfl,du,dt⟩:=h;exact⟨k',u,_,rfl,rfl,du,DenK.snoc dv dt j⟩
theorem DenK.put{d:D}{v:V}(dv:Den K G d v){kvs:List (D×D)}{es:List (fo×V)}(h:DenK K G kvs es)(j:fo):DenK K G (xk kvs j d) (o7 es j v):=by
 unfold xk o7;rw[h.has j]
 by_cases e:(es.any λkv=>decide (kv.1=j))=true
 ·rw[if_pos e,if_pos e];exact h.repl dv j
 ·rw[if_neg e,if_neg e];exact h.snoc dv j
end
section
variable{X:Cx}{G0 B:Hp}{E:EK}{e a b:Expr}{es:List Expr}{g h k:En→Res}{pos:Pos}
theorem Arg.dctK{K:KA}{G H:Hp}{kvs:List (D×D)}{v:V}(s:Same G H)(h:Arg K G H (.dct false kvs) v):∃a es,v=.ref a∧H a=some (.dK es)∧DenK K G kvs es:=by
 rcases h with ⟨a,h1,h2⟩|⟨_,_,_,z,_⟩|⟨t',kvs',a,z,h1,h2⟩
 ·rcases h2 with ⟨_,es,q,r⟩|⟨z,_⟩
  ·exact⟨a,es,h1,s _ _ q,r⟩
  ·cases z
 ·cases z
 ·cases z;rcases h2 with ⟨_,es,q,r⟩|⟨z,_⟩
  ·exact⟨a,es,h1,q,r⟩
  ·cases z
noncomputable def Ja(i:Nat):En→Out:=λδ=>.nx (δ.set i (.od false []))
theorem EnvR.setD{K:KA}{G H:Hp}{σ:St}{δ:En}{i:Nat}{a:Addr}(R:EnvR K B G H σ δ)(hn:H a=none):EnvR K B G (upd H a (.dK [])) (σ.set i (some (.ref a))) (δ.set i (.od false [])):=by
 have e:Ext G H G (upd H a (.dK [])):=Ext.own R.gh _ hn;have R':=R.ext e;have gn:G a=none:=eu R.gh hn;have bn:B a=none:=eu R.bh hn;have oth:∀(j:Nat) s,δ[j]?=some s→s.own=true→σ[j]?=some (some (V.ref a))→False:=λj s q1 q2 q3=>by
  obtain⟨o,z1,z2⟩:=R.sl j s q1;rw[q3]at z1;cases z1;obtain⟨a',z,u,z3,_⟩:=z2.ref q2;cases z;rw[hn]at z3;cases z3
 have at_i:∀{s:Sl},(δ.set i (.od false []))[i]?=some s→s=.od false []∧i<δ.length:=λq=>by
  have hl:i<δ.length:=by
   have:=(kAh.mp q).1;rwa [kAp]at this
  rw[kAd hl]at q;cases q;exact⟨rfl,hl⟩
 refine⟨R'.bh,R'.gh,by rw[kAp,kAp];exact R.len,λj s q=>?_,λj s b q1 q2 q3=>?_,λj k s t b q1 q2 q3 q4 q5 q6=>?_,R.gb⟩
 ·by_cases z:i=j
  ·subst z;obtain⟨rfl,hl⟩:=at_i q;exact⟨some (.ref a),kAd (by rw[R.len];exact hl),a,[],rfl,cb,rfl⟩
  ·rw[kAa z]at q⊢;exact R'.sl j s q
 ·by_cases z:i=j
  ·subst z;obtain⟨rfl,hl⟩:=at_i q1;rw[kAd (by rw[R.len];exact hl)]at q3;cases q3;exact⟨gn,bn⟩
  ·rw[kAa z]at q1 q3;exact R'.own j s b q1 q2 q3
 ·by_cases zj:i=j
  ·subst zj;obtain⟨rfl,hl⟩:=at_i q1;rw[kAd (by rw[R.len];exact hl)]at q5;cases q5
   by_cases zk:i=k
   ·exact zk
   ·rw[kAa zk]at q2 q6;exact(oth k t q2 q4 q6).elim
  ·rw[kAa zj]at q1 q5
   by_cases zk:i=k
   ·subst zk;obtain⟨rfl,hl⟩:=at_i q2;rw[kAd (by rw[R.len];exact hl)]at q6;cases q6;exact(oth j s q1 q3 q5).elim
   ·rw[kAa zk]at q2 q6;exact R'.dis j k s t b q1 q2 q3 q4 q5 q6
theorem zee{i:Nat}{x:Str}{pos' p:Pos}(hs:PS X (.Assign [.Name x pos'] (.Dict [] [] p) pos) (Lr Vl (p5 i))):lu X G0 B E (.Assign [.Name x pos'] (.Dict [] [] p) pos) (Ja i):=
 PS.imp hs λD σ H ⟨G,δ,R,e,q⟩=>λa ha=>q _ G _ (Same.refl G) (R.setD ha) (e.trans (Ext.own R.gh _ ha))
theorem EnvR.odAt{K:KA}{G H:Hp}{σ:St}{δ:En}{i:Nat}{kvs:List (D×D)}(R:EnvR K B G H σ δ)(h:δ[i]?=some (.od false kvs)):∃a es,σ[i]?=some (some (V.ref a))∧H a=some (.dK es)∧DenK K G kvs es∧G a=none∧B a=none:=by
 obtain⟨o,q1,a,vs,q2,q3,q4⟩:=R.sl i _ h;subst q2;obtain⟨g,b⟩:=R.own i _ a h rfl q1;exact⟨a,vs,q1,q3,q4,g,b⟩
theorem EnvR.wrD{K:KA}{G H:Hp}{σ:St}{δ:En}{i:Nat}{kvs kvs':List (D×D)}{a:Addr}{es es':List (fo×V)}(R:EnvR K B G H σ δ)(hi:δ[i]?=some (.od false kvs))(hs:σ[i]?=some (some (V.ref a)))(ha:H a=some (.dK es))(dl:DenK K G kvs' es'):
  EnvR K B G (upd H a (.dK es')) σ (δ.set i (.od false kvs')):=by
 obtain⟨gn,bn⟩:=R.own i _ a hi rfl hs;have hl:i<δ.length:=(kAh.mp hi).1;have sb:∀{F:Hp},F a=none→Same F H→Same F (upd H a (.dK es')):=λfn s b u q=>by
  rw[bp (cn q fn)];exact s b u q
 have ownEq:∀{j:Nat}{s:Sl},(δ.set i (.od false kvs'))[j]?=some s→s.own=true→∃s',δ[j]?=some s'∧s'.own=true:=λ{j s} q o=>by
  by_cases z:i=j
  ·subst z;exact⟨_,hi,rfl⟩
  ·rw[kAa z]at q;exact⟨s,q,o⟩
 refine⟨sb bn R.bh,sb gn R.gh,by rw[kAp];exact R.len,λj s q=>?_,λj s b q1 q2 q3=>?_,λj k s t b q1 q2 q3 q4 q5 q6=>?_,R.gb⟩
 ·by_cases z:i=j
  ·subst z;rw[kAd hl]at q;cases q;exact⟨_,hs,a,es',rfl,cb,dl⟩
  ·rw[kAa z]at q;obtain⟨o,z1,z2⟩:=R.sl j s q;refine⟨o,z1,?_⟩;cases s with
   |no=>trivial
   |pu d=>exact z2
   |bo d=>exact z2
   |ow fs=>
    obtain⟨b,us,y1,y2,y3⟩:=z2;have nb:b≠a:=by
     rintro rfl
     rw[ha]at y2;cases y2
    exact⟨b,us,y1,by rw[bp nb];exact y2,y3⟩
   |od t fs=>
    cases t with
    |false=>
     obtain⟨b,us,y1,y2,y3⟩:=z2;have nb:b≠a:=by
      rintro rfl
      subst y1;exact z (R.dis i j _ _ b hi q rfl rfl hs z1)
     exact⟨b,us,y1,by rw[bp nb];exact y2,y3⟩
    |true=>
     obtain⟨b,us,y1,y2,y3⟩:=z2;have nb:b≠a:=by
      rintro rfl
      rw[ha]at y2;cases y2
     exact⟨b,us,y1,by rw[bp nb];exact y2,y3⟩
 ·obtain⟨s',z1,z2⟩:=ownEq q1 q2;exact R.own j s' b z1 z2 q3
 ·obtain⟨s',z1,z2⟩:=ownEq q1 q3;obtain⟨t',y1,y2⟩:=ownEq q2 q4;exact R.dis j k s' t' b z1 y1 z2 y2 q5 q6
theorem rg{K:KA}{G H:Hp}{d:D}{v:V}{k:fo}(h:Arg K G H d v)(e:d7 d=some k):v=kV k:=by
 cases d with
 |int i=>cases e;exact h.int
 |str x=>cases e;exact h.str
 |_=>cases e
noncomputable def Du(i:Nat)(gk gv:En→Res):En→Out:=λδ=>match δ[i]? with
 |some (.od false kvs)=>(gv δ).then λv=>(gk δ).then λk=>match d7 k with
  |some j=>if kvs.length<sizeLine then .nx (δ.set i (.od false (xk kvs j v)))else .st
  |none=>.st
 |_=>.st
theorem zea{i:Nat}{x:Str}{p pos':Pos}{kxx vx:Expr}(hu:X.A.units+5<cLine)(hv:PE X (.Name x p) (Cw i))(hk:iz X B E kxx g)(hval:ff X B E vx h)
  (hs:swapsWith vx (some (.Subscript (.Name x p) kxx pos')) pos.line X.env=pure false:=by rfl):lu X G0 B E (.Assign [.Subscript (.Name x p) kxx pos'] vx pos) (Du i g h):=
 PS.imp (Nn hu hv hk hval hs) λD σ H ⟨G,δ,R,ex,q⟩=>by
  unfold Du at q;cases ed:δ[i]? with
  |none=>rw[ed]at q;exact q.elim
  |some sl=>
   rw[ed]at q;cases sl with
   |od t kvs=>
    cases t with
    |true=>exact q.elim
    |false=>
     dsimp only at q;obtain⟨l,es,q1,q2,q3,q4,q5⟩:=R.odAt ed;refine⟨G,δ,R,(mi ex q).mono λdv _ q v G1 H1 e1 dn=>⟨.ref l,q1,G1,δ,R.ext e1,(mi (K:=(kx X)) (ex.trans e1) (OutP.same e1.gg q)).mono λdk _ q y G2 H2 e2 ay=>?_⟩⟩;have e12:=e1.trans e2;cases ej:d7 dk with
     |none=>rw[ej]at q;exact q.elim
     |some j=>
      rw[ej]at q;dsimp only at q
      by_cases hl:kvs.length<sizeLine
      ·rw[if_pos hl]at q;have h2:=e12.hh _ _ q2;have g2:=e12.fr _ _ q2 q4 rfl;rw[rg ay ej];refine⟨l,_,rfl,DPut.k h2 (by rw[←q3.length];exact hl),?_⟩;exact q σ G2 _ e2.gg (EnvR.wrD (R.ext e12) ed q1 h2 ((q3.mono e12.gg).put (dn.mono e2.gg) j)) (Ext.wr (ex.trans e12) g2 q5)
      ·rw[if_neg hl]at q;exact q.elim
   |no=>exact q.elim
   |pu _=>exact q.elim
   |bo _=>exact q.elim
   |ow _=>exact q.elim
noncomputable def u9(d k x:En→Res):En→Res:=λδ=>(d δ).bind λdd=>match dd with
 |.dct false kvs=>(k δ).bind λdk=>(x δ).bind λdx=>match d7 dk with
  |some j=>.ok ((de kvs j).getD dx)
  |none=>.st
 |_=>.st
theorem Yt{o ke xe:Expr}{apos cpos:Pos}(hu:X.A.units+5<cLine)(ho:iz X B E o g)(hk:iz X B E ke h)(hx:ff X B E xe k)(m:M2 X o "get" apos ke xe cpos):
  ff X B E (.Call (.Attribute o "get" apos) [ke,xe] [] cpos) (u9 g h k):=
 PE.imp (Tx hu ho hk hx m) λσ H Q ⟨G,δ,R,q⟩=>⟨G,δ,R,(ResP.bind q).mono λdd _ q v G1 H1 e1 av=>by
  cases dd with
  |dct t kvs=>
   cases t with
   |true=>exact q.elim
   |false=>
    obtain⟨l,es,rfl,h1,dl⟩:=Arg.dctK e1.gh av;refine⟨l,rfl,.inl ⟨es,.inl h1⟩,G1,δ,R.ext e1,((ResP.bind q).ext e1).mono λdk _ q y G2 H2 e2 ay=>⟨G2,δ,R.ext (e1.trans e2),((ResP.bind q).ext (e1.trans e2)).mono λdx _ q z G3 H3 e3 dz=>?_⟩⟩;have e13:=(e1.trans e2).trans e3;cases ej:d7 dk with
    |none=>rw[ej]at q;exact q.elim
    |some j=>
     rw[ej]at q;have q:∀v G' H',Ext G H G' H'→Den (kx X) G' ((de kvs j).getD dx) v→Q v H':=q;rw[rg ay ej];have h3:=(e2.trans e3).hh _ _ h1;refine⟨_,DGet.k h3,?_⟩;obtain⟨k1,k2⟩:=(dl.mono (e2.trans e3).gg).look j;cases el:de kvs j with
     |none=>
      rw[k2 el];rw[el]at q;exact q _ G3 H3 e13 dz
     |some d'=>
      obtain⟨v',z1,z2⟩:=k1 d' el;rw[z1];rw[el]at q;exact q _ G3 H3 e13 z2
  |non=>exact q.elim
  |bl _=>exact q.elim
  |int _=>exact q.elim
  |str _=>exact q.elim
  |tup _=>exact q.elim
  |lst _=>exact q.elim
  |obj _ _=>exact q.elim
  |fn _=>exact q.elim⟩
end
noncomputable def gi:Expr→Bool
 |.Starred _ _=>false
 |_=>true
theorem bj{e:Expr}{es:List Expr}{env:Env}(h:gi e=true):starEach (e::es) env=(false,eval e env)::starEach es env:=by
 cases e<;>first|rfl|cases h
theorem kq:∀{es:List Expr}{env:Env}{pos:Pos},es.all gi=true→(backTo pos (starEach es env)).any (·.1)=false
 |[],_,_,_=>rfl
 |e::es,env,pos,h=>by
  rw[kAm,kA1]at h;rw[bj h.1];show((false||(backTo pos (starEach es env)).any (·.1)))=false;rw[kq h.2];rfl
theorem q8:∀{es:List Expr}{env:Env}{pos:Pos},es.all gi=true→(backTo pos (starEach es env)).all (λx=> !x.1)=true
 |[],_,_,_=>rfl
 |e::es,env,pos,h=>by
  rw[kAm,kA1]at h;rw[bj h.1];show((true && (backTo pos (starEach es env)).all (λx=> !x.1)))=true;rw[q8 h.2];rfl
theorem Jl{e f:Expr}{env:Env}{pos:Pos}(h:gi e=true)(h2:gi f=true):backTo pos (starEach [e,f] env)=[(false,eval e env),(false,eval f env)]:=by
 rw[bj h,bj h2];rfl
noncomputable def Fm:Expr→Bool
 |.UnaryOp .Not _ _=>false
 |.BoolOp _ _ _=>false
 |.IfExp _ _ _ _=>false
 |.Compare _ _ _ _=>false
 |_=>true
theorem Dq{a:Expr}{env:Env}(h:Fm a=true):∀whole,isTrue a env whole=(do let v ←whole;standAt a.pos;holding [v] (truthy v)):=by
 intro whole;cases a<;>first|rfl|(cases h;done)|skip
 rename_i op x p;cases op<;>first|rfl|cases h
noncomputable def uj:Expr→Bool
 |.Slice _ _ _ _=>false
 |_=>true
theorem Pw{b:Expr}(h:uj b=true):D5 b:=by
 intro o i;cases b<;>first|rfl|cases h
noncomputable def md:Expr→Bool
 |.Set _ _ _=>false
 |_=>true
theorem me{op:CmpOp}{b:Expr}(h:md b=true):behindInMarks op b=false:=by
 cases b<;>first|rfl|cases h
theorem ug{e:Expr}{env:Env}(h:md e=true):∀x,foldedSetIterable e env x=pure x:=by
 intro x;cases e<;>first|rfl|cases h
theorem A3{op op':CmpOp}{b c:Expr}(h:md c=true):lastMarks [op,op'] [b,c]=false:=me h
noncomputable def i8:Expr→Bool
 |.ListComp _ _ _ _=>false
 |.SetComp _ _ _ _=>false
 |.DictComp _ _ _ _ _=>false
 |_=>true
theorem fe{e:Expr}{t:Option Expr}{n:Nat}{env:Env}(h:i8 e=true):swapsWith e t n env=pure false:=by
 cases e<;>first|rfl|cases h
noncomputable def xc:Expr→Bool
 |.Call _ _ _ _=>false
 |_=>true
theorem yh{o:Expr}{a:Str}{env:Env}{w:Sem Value}(h:xc o=true):attributeBase o a env w=w:=by
 cases o<;>first|rfl|cases h
end Pu
end
section
namespace L2
open PySem PySem.Spec PyProof.Rows
structure Noted(fr:List Addr)(e:Addr)(h h':Heap):Prop where
 keep:∀b o,b≠e→b∉fr→h.get? b=some o→h'.get? b=some o
 slot:∀b o,b≠e→h.get? b=some o→∃sl,h'.get? b=some {o with slots:=sl}
structure Rec(h:Heap)(e T:Addr)(cls:Value):Prop where
 exc:∃oe vs,h.get? e=some oe∧oe.cls=cls∧oe.data=.fields vs∧vs[1]?=some (.ref T)
 tb:∃oT ts,h.get? T=some oT∧oT.data=.fields ts∧ts[3]?=some .none
 ne:T≠e
section
variable{M:Model}{A:Around}{E:Value→Shared→Prop}{s:Shared}
theorem Im{base:Heap}{env:Env}{outer:List Env}{L e:Addr}{oe:Obj}{vs:Array Value}{head:Value}{nx:Bool}{Q:Unit→Shared→Prop}
  (hfr:A.frames=some (env::outer))(hl:s.heap.FunFrames base (env::outer))(hf:env.frame=some L)(he:s.heap.get? e=some oe)(hd:oe.data=.fields vs)(hsz:1<vs.size)
  (h:∀h' T,s.heap.objs.size≤T→Noted (wy (env::outer)) e s.heap h'→Rec h' e T oe.cls→Q () {s with heap:=h'}):
  wpAny M A (do let a ←frameOf env;let pl ←entryPlaceOf L nx;let b ←EntryCells.newEntry head a .none (rawInt L) .none pl;setField (.ref e) 1 b) (λ_ s'=>wpAny M A (setFlight (.ref e) none) Q E s') E s:=by
 have nfr:e∉wy (env::outer):=λz=>by
  obtain⟨_,u,hu,nf⟩:=hl.mem z;rw[he]at hu;cases hu;exact nf vs hd
 refine wpAny_bind (wpAny_frameOf_fun hfr hl hf λh1 k1=>wpAny_bind (wpAny_entryPlaceOf λpl ipl=>?_));unfold EntryCells.newEntry newFields;refine wpAny_bind (wpAny_newObj_type ?_ (ipl.sizeOk5 _ _ _ _ _));have g1:h1.get? e=some oe:=(k1.2.1 e nfr).trans he;generalize hto:({cls:=Value.type "traceback",dict:=none,data:=.fields ([head,Value.ref L,Value.none,rawInt L,Value.none]++(if pl.isEmpty then kA2 6 Value.none else pl)).toArray}:Obj)=tO;have g2:=Heap.get?_push_of_some (h:=h1) tO g1;refine wpAny_setField g2 hd hsz ?_;have ne:h1.objs.size≠e:=Nat.ne_of_gt (Heap.lt_size g1);have d3:=Obj.data_mapFields hd (·.setIfInBounds 1 (Value.ref h1.objs.size));have g3:=Heap.get?_update_self (Obj.mapFields (·.setIfInBounds 1 (Value.ref h1.objs.size))) g2 (Obj.isFreed_of_fields d3);have hfreed:tO.isFreed=false:=by rw[←hto];rfl
 have t3:=(Heap.get?_update_other (h1.push tO) (Obj.mapFields (·.setIfInBounds 1 (Value.ref h1.objs.size))) (Ne.symm ne)).trans (Heap.get?_push_size h1 hfreed);have dT:∃ts,tO.data=.fields ts∧3<ts.size:=by
  rw[←hto];exact⟨_,rfl,by simp only[kAe,kAi,kA7,List.length_nil]<;>omega⟩
 obtain⟨ts,dT,s3⟩:=dT;unfold setFlight;refine wpAny_bind (wpAny_field g3 d3 (x:=.ref h1.objs.size) (by simp[hsz]) ?_);rw[if_pos (show(Value.ref h1.objs.size !=Value.none)=true by simp)];have all:∀b o,b≠e→h1.get? b=some o→(((h1.push tO).update e (Obj.mapFields (·.setIfInBounds 1 (Value.ref h1.objs.size)))).update h1.objs.size (Obj.mapFields (·.setIfInBounds 3 ((none:Option Addr).elim Value.none λf=>rawInt f)))).get? b=some o:=λb o hb q=>by
  rw[Heap.get?_update_other _ _ (Nat.ne_of_gt (Heap.lt_size q)),Heap.get?_update_other _ _ (Ne.symm hb)];exact Heap.get?_push_of_some _ q
 refine wpAny_setField t3 dT s3 (h _ h1.objs.size (by rw[k1.1];exact kA0 _) ⟨λb o hb hn q=>all b o hb ((k1.2.1 b hn).trans q),λb o hb q=>?_⟩ ⟨⟨_,_,?_,?_,d3,by simp[hsz]⟩,⟨_,_,Heap.get?_update_self _ t3 (Obj.isFreed_of_fields (Obj.data_mapFields dT _)),Obj.data_mapFields dT _,by simp[s3]⟩,ne⟩)
 ·obtain⟨sl,q'⟩:=k1.2.2 b o q;exact⟨sl,all b _ hb q'⟩
 ·rw[Heap.get?_update_other _ _ ne];exact g3
 ·exact Obj.cls_mapFields _ _
theorem zge{base:Heap}{env:Env}{outer:List Env}{L e:Addr}{oe:Obj}{vs:Array Value}{Q:Unit→Shared→Prop}
  (hfr:A.frames=some (env::outer))(hl:s.heap.FunFrames base (env::outer))(hf:env.frame=some L)(he:s.heap.get? e=some oe)(hd:oe.data=.fields vs)(hsz:1<vs.size)
  (htb:vs[1]?=some .none∨∃T oT ts,vs[1]?=some (.ref T)∧T≠e∧s.heap.get? T=some oT∧oT.data=.fields ts∧ts[3]?=some .none)
  (h:∀h' T,s.heap.objs.size≤T→(∀b o,b≠e→vs[1]?≠some (.ref b)→b∉wy (env::outer)→s.heap.get? b=some o→h'.get? b=some o)→(∀b o,b≠e→vs[1]?≠some (.ref b)→s.heap.get? b=some o→∃sl,h'.get? b=some {o with slots:=sl})→Rec h' e T oe.cls→Q () {s with heap:=h'}):
  wpAny M A (noteFrame (.ref e) env) (λ_ s'=>wpAny M A (setFlight (.ref e) none) Q E s') E s:=by
 unfold noteFrame;simp only[hf];rcases htb with h1|⟨T,oT,ts,h1,hne,hT,hdT,h3⟩
 ·refine wpAny_bind (wpAny_field he hd h1 ?_);rw[if_neg (by decide)];exact Im hfr hl hf he hd hsz λh' T a b c=>h h' T a (λb' o q _ r z=>b.keep b' o q r z) (λb' o q _ z=>b.slot b' o q z) c
 ·refine wpAny_bind (wpAny_field he hd h1 ?_);rw[if_pos (show(Value.ref T !=Value.none)=true by simp)];refine wpAny_bind (wpAny_field hT hdT h3 ?_);rw[if_neg (show¬((Value.none==rawInt L)=true) by simp[rawInt])];refine wpAny_bind (wpAny_setField hT hdT (kBe.mp h3).1 ?_);have oth:∀b,b≠T→(s.heap.update T (Obj.mapFields (·.setIfInBounds 3 Value.none))).get? b=s.heap.get? b:=λb hb=>Heap.get?_update_other _ _ (Ne.symm hb);have hrec:∀b o,s.heap.get? b=some o→(∀vs,o.data≠.fields vs)→b≠T:=λb o q nf z=>by rw[z,hT]at q;cases q;exact nf ts hdT
  refine Im hfr (hl.of_keeps λb o q nf=>⟨o,(oth b (hrec b o q nf)).trans q,rfl⟩) hf ((oth e (Ne.symm hne)).trans he) hd hsz λh' T' a b c=>h h' T' ?_ (λb' o q r z w=>b.keep b' o q z ((oth b' λy=>r (y▸h1)).trans w)) (λb' o q r w=>b.slot b' o q ((oth b' λy=>r (y▸h1)).trans w)) c;exact kAn (Nat.le_of_eq (Heap.size_update ..).symm) a
theorem zf8{base:Heap}{env:Env}{outer:List Env}{L e:Addr}{oe:Obj}{vs:Array Value}{Q:Unit→Shared→Prop}
  (hfr:A.frames=some (env::outer))(hl:s.heap.FunFrames base (env::outer))(hf:env.frame=some L)(he:s.heap.get? e=some oe)(hd:oe.data=.fields vs)(hsz:1<vs.size)
  (htb:vs[1]?=some .none∨∃T oT ts,vs[1]?=some (.ref T)∧T≠e∧s.heap.get? T=some oT∧oT.data=.fields ts∧ts[3]?=some .none)
  (h:∀h' T,s.heap.objs.size≤T→(∀b o,b≠e→vs[1]?≠some (.ref b)→b∉wy (env::outer)→s.heap.get? b=some o→h'.get? b=some o)→(∀b o,b≠e→vs[1]?≠some (.ref b)→s.heap.get? b=some o→∃sl,h'.get? b=some {o with slots:=sl})→Rec h' e T oe.cls→Q () {s with heap:=h'}):
  wpAny M A (leaving env (.ref e)) Q E s:=by
 unfold leaving;exact wpAny_bind (zge hfr hl hf he hd hsz htb h)
end
theorem Io{P:Program}{w:World}{H:Hp}{h:Heap}{a:Addr}{o:HO}(x:ObjOk P w H h a o):∃u,h.get? a=some u:=by
 cases o with
 |lst xs=>obtain⟨_,_,_,_,e⟩:=x;exact⟨_,e⟩
 |tup xs=>obtain⟨_,_,_,u,e,_⟩:=x;exact⟨_,e⟩
 |dK kvs=>obtain⟨_,_,_,_,o,_,_,e,_⟩:=x;exact⟨_,e⟩
 |dT kvs=>obtain⟨_,_,_,_,o,_,_,e,_⟩:=x;exact⟨_,e⟩
 |set S n=>obtain⟨o,_,_,_,e,_⟩:=x;exact⟨_,e⟩
 |ins C dx fs=>obtain⟨_,_,_,e,_⟩:=x;exact⟨_,e⟩
 |own y=>exact x
 |xd fs=>obtain⟨_,⟨_,_,_,e,_⟩,_⟩:=x;exact⟨_,e⟩
 |rng lo hi=>obtain⟨_,_,_,e⟩:=x;exact⟨_,e⟩
 |frz ob u=>obtain⟨e,_⟩:=x;exact⟨_,e⟩
 |tbl q=>obtain⟨ps,e,_⟩:=x;exact⟨_,e⟩
 |met f y=>exact⟨_,x⟩
 |ext φ=>obtain⟨_,e,_⟩:=x;exact e
theorem Sj{P:Program}{w:World}{H:Hp}{h:Heap}{a:Addr}(x:HOk P w H h)(e:h.get? a=none):H a=none:=by
 cases q:H a with
 |none=>rfl
 |some o=>
  obtain⟨u,z⟩:=Io (x a o q);rw[e]at z;cases z
structure ExAt(h0 h:Heap)(H:Hp)(a:Addr)(cls:Value):Prop where
 new:h0.get? a=none
 free:H a=none
 obj:∃oe vs,h.get? a=some oe∧oe.cls=cls∧oe.data=.fields vs∧1<vs.size∧(vs[1]?=some .none∨∃T oT ts,vs[1]?=some (.ref T)∧h0.get? T=none∧T≠a∧H T=none∧h.get? T=some oT∧oT.data=.fields ts∧ts[3]?=some .none)
noncomputable def wg(P:Program)(w:World):L7:=λouter H s E e s'=>∃a cls H',e=.ref a∧s'.os=s.os∧AllBare s'.gens∧Un (wy outer) [] H H' s.heap s'.heap∧HOk P w H' s'.heap∧ExAt s.heap s'.heap H' a cls∧E cls none H'
theorem xh{P:Program}{w:World}{X:Cx}:j9 (wg P w) X E0:=λ_ _ _ _ _ _ _ h=>by
 obtain⟨_,_,_,_,_,_,_,_,_,q⟩:=h;exact q.elim
theorem xg{P:Program}{w:World}{K:PySem.W.Frag}{mg:Str→Option Value}{base:Heap}{N:List Str}{qual:Str}{scope:Scope}{f:Addr}{cd:Value}{A:Around}{outer:List Env}{s₀:Shared}{H₀:Hp}{E:XK}:
  j9 (wg P w) (t6 (wg P w) P w K mg base N qual scope f cd A outer s₀ H₀ E) E:=λpins σ H s e s' I c=>by
 obtain⟨a,cls,H',rfl,os,bare,un,hok,ex,q⟩:=c;have J:=I.call' os un hok bare (λb z=>absurd z (by simp));obtain⟨oe,vs,he,rfl,hd,hsz,htb⟩:=ex.obj;show wpAny _ _ (leaving _ (.ref a)) _ _ _;have tb:vs[1]?=some .none∨∃T oT ts,vs[1]?=some (.ref T)∧T≠a∧s'.heap.get? T=some oT∧oT.data=.fields ts∧ts[3]?=some .none:=by
  rcases htb with z|⟨T,oT,ts,z1,_,z2,_,z3,z4,z5⟩
  ·exact .inl z
  ·exact .inr ⟨T,oT,ts,z1,z2,z3,z4,z5⟩
 have tbn:∀b,vs[1]?=some (.ref b)→s.heap.get? b=none∧H' b=none:=λb z=>by
  rcases htb with z'|⟨T,oT,ts,z1,z0,z2,zf,z3,z4,z5⟩
  ·rw[z']at z;cases z
  ·rw[z1]at z;cases z;exact⟨z0,zf⟩
 have nox:∀b:Addr,b∉(t6 (wg P w) P w K mg base N qual scope f cd A outer s₀ H₀ E).ex:=λb z=>absurd (show b∈([]:List Addr)from z) (by simp);have nw:∀b,s.heap.get? b=none→s₀.heap.get? b=none:=λb z=>by
  cases r:s₀.heap.get? b with
  |none=>rfl
  |some o=>
   obtain⟨o',r'⟩:=I.base.there b o r (nox b);rw[z]at r';cases r'
 refine zf8 J.ok.frames J.stack rfl he hd hsz tb λh' T hT k1 k2 hR=>?_;have old:∀b o,s₀.heap.get? b=some o→b≠a∧vs[1]?≠some (.ref b):=λb o q=>by
  refine⟨λz=>?_,λz=>?_⟩
  ·rw[z,nw a ex.new]at q;cases q
  ·rw[nw b (tbn b z).1]at q;cases q
 have nofr:∀b o,s₀.heap.get? b=some o→b∉wy outer→b∉wy (envOfC qual scope s₀.heap.objs.size f cd::outer):=λb o q n z=>by
  rcases kA6.mp (J.stkSub b z)with z|z
  ·have z':b=s₀.heap.objs.size:=z;exact absurd (z'▸Heap.lt_size q) (kAx _)
  ·exact n z
 have jb:Un (wy outer) [] H₀ H' s₀.heap s'.heap:=J.base;refine⟨a,oe.cls,H',rfl,J.os,bare,⟨λb o q n hb hx=>?_,λb o q n hb hx=>?_,jb.free,λb o q hx=>?_,jb.tups,jb.frzs,jb.tbls⟩,λb o q=>?_,⟨nw a ex.new,ex.free,?_⟩,q⟩
 ·exact k1 b o (old b o q).1 (old b o q).2 (nofr b o q hb) (jb.keep b o q n hb hx)
 ·obtain⟨sl,e1⟩:=jb.slot b o q n hb hx;obtain⟨sl',e2⟩:=k2 b _ (old b o q).1 (old b o q).2 e1;exact⟨sl',e2⟩
 ·obtain⟨o',e1⟩:=jb.there b o q hx;obtain⟨sl,e2⟩:=k2 b o' (old b o q).1 (old b o q).2 e1;exact⟨_,e2⟩
 ·refine(hok b o q).stay (λc u hc r=>?_) (λ_ z=>z) λ_ _ z=>z;have tr:∃v,H' c=some v:=by
   rcases hc with rfl|hc
   ·exact⟨o,q⟩
   ·exact⟨_,hc⟩
  obtain⟨v,tr⟩:=tr;refine k1 c u (λz=>?_) (λz=>?_) (λz=>?_) r
  ·rw[z,ex.free]at tr;cases tr
  ·rw[(tbn c z).2]at tr;cases tr
  ·rw[J.stkFree c z]at tr;cases tr
 ·obtain⟨⟨oe',vs',x1,x2,x3,x4⟩,⟨oT,ts,y1,y2,y3⟩,hne⟩:=hR;exact⟨oe',vs',x1,x2,x3,(kBe.mp x4).1,.inr ⟨T,oT,ts,x4,Heap.get?_none_of_le (kAn J.sz hT),hne,hok.fresh hT,y1,y2,y3⟩⟩
theorem zcx{K:PySem.W.Frag}{h:Heap}{mg:Str→Option Value}{x:Str}{C:Addr}{bmB:List Value}{newId:String}(X:K.In h)(hm:mg x=some (.ref C))(q:PySem.W.excIn K C bmB newId=true):OwnCls x C bmB newId mg h:=by
 refine⟨hm,?_⟩;unfold PySem.W.excIn at q;split at q
 ·rename_i dd cd sl ho;split at q
  ·rename_i C' bm k0 k1 k2 k3 n k5 hro hs;simp only[kA1,beq_iff_eq,Bool.not_eq_true']at q;obtain⟨⟨⟨⟨⟨rfl,rfl⟩,hdel⟩,ht⟩,hk⟩,hni⟩:=q;obtain⟨nm,bs,mro,ns,qn,hd,sn,sub,ab,col,del⟩:=cd;dsimp only at hro hdel hk hni;subst hro hdel;obtain⟨l⟩:=sl;obtain rfl:l=[k0,k1,k2,k3,some (.builtin n),k5]:=hs;exact⟨bm,ns,nm,qn,bs,hd,sn,sub,ab,col,dd,k0,k1,k2,k3,k5,_,X _ _ ho,.of_isNs (PySem.W.isNs_of_in X hk),PySem.W.nsMap_none_of_in X hk hni,PySem.W.tail_of_in X ht⟩
  ·cases q
 ·cases q
structure ExBase(bmB:List Value)(newId:String):Prop where
 facts:∃Bn inN bmN B nid initId,ExcBaseFacts Bn newId inN bmN∧bmB.contains (.type Bn)=true∧ExcBaseFacts B nid initId bmB
noncomputable def zer(C:Addr)(E:XK)(t:TA):TS:=λ_ σ H=>t σ H λvs H1=>vs.length≤sizeLine∧E (.ref C) none H1
theorem Ua{X:Cx}{x:Str}{C:Addr}{bmB:List Value}{newId:String}{E:XK}{e₀:Expr}{bg:List Expr}{t:TA}{np cpos pos:Pos}(hc:X.calm=true)(hg:Gl X x)(hm:X.mg x=some (.ref C))(hx:PySem.W.excIn X.K C bmB newId=true)(B:ExBase bmB newId)
  (hp:j9 (wg X.prog X.w) X E)(ha:PA X (e₀::bg) t)(hdb:(x==("__debug__":Str))=false:=by decide)(he:starEach (e₀::bg) X.env=(false,eval e₀ X.env)::starEach bg X.env:=by rfl)(hpl:(backTo cpos (starEach bg X.env)).any (·.1)=false:=by rfl):
  PS X (.Raise (some (.Call (.Name x np) (e₀::bg) [] cpos)) none pos) (zer C E t):=by
 intro pins s σ H D I h;obtain⟨Bn,inN,bmN,B',nid,initId,Fn,hBn,FB⟩:=B.facts;obtain⟨tl,N,nm,q,bs,hdct,sn,sub,ab,col,dd,k0,k1,k2,k3,k5,mN,hC,hN,hni,T⟩:=(zcx I.ok.mod.kin hm hx).obj;refine wpAny_Raise_call_subU (C:=C) (nm:=nm) (q:=q) (N:=N) (bs:=bs) (bm:=tl) (hdct:=hdct) (sn:=sn) (sub:=sub) (ab:=ab) (col:=col) (dd:=dd) (k0:=k0) (k1:=k1) (k2:=k2) (k3:=k3) (k5:=k5) Fn hBn FB (mN:=mN) (T.hasType FB.hasBase) (I.ok.hd hc)
  (by rw[he];show(false||(backTo cpos (starEach bg X.env)).any (·.1))=false;rw[hpl];rfl) hni (n6 I hg hm ⟨rfl,?_⟩ hdb)
 have h2:=ha cpos pins s σ H _ I h;rw[he]at h2⊢;refine Calls.evalArgs_plain (wpAny_mono h2 (λus s2 ⟨vs,H1,I1,r,hl,qE⟩=>⟨rfl,?_,I1.bk _ _ hC,hN.keeps I1.bk,T.keeps I1.bk,λh' e made=>?_⟩) λ_ _ y=>y)
 ·show us.length≤sizeLine;rw[←r.length];exact hl
 ·obtain⟨tt,ge,_,_⟩:=made.there;refine hp pins σ H1 s2 (.ref e) _ I1 ⟨e,.ref C,H1,rfl,rfl,I1.bare,Un.kept made.keeps,I1.hok.kept made.keeps,⟨made.new,Sj I1.hok made.new,⟨_,_,ge,rfl,rfl,by simp,.inl (by simp)⟩⟩,qE⟩
section
variable{X:Cx}{pins:List (Addr×Obj)}{σ:St}{H:Hp}{s:Shared}
theorem Inv.noted(J:Inv X pins σ H s){h':Heap}(ch:Addr→Prop)(hch:∀b,ch b→X.s₀.heap.get? b=none∧H b=none∧b≠X.env.locals∧(∀x c,X.env.cells.lookup x=some c→c≠b)∧∀p∈X.pn++pins,p.1≠b)
  (k1:∀b o,¬ch b→b∉wy X.stack→s.heap.get? b=some o→h'.get? b=some o)(k2:∀b o,¬ch b→s.heap.get? b=some o→∃sl,h'.get? b=some {o with slots:=sl}):Inv X pins σ H {s with heap:=h'}:=by
 have nch:∀b o,X.s₀.heap.get? b=some o→¬ch b:=λb o e z=>by rw[(hch b z).1]at e;cases e
 have gi:∀b,b≠X.env.locals→b∉X.fs→b∉wy X.stack:=λb h1 h2 z=>(kA6.mp (J.stkSub b z)).elim h1 h2;have neL:∀b o,X.s₀.heap.get? b=some o→b≠X.env.locals:=λb o e=>kAf (kAo (Heap.lt_size e) J.ok.above);have cellK:∀x c,X.env.cells.lookup x=some c→∀v,s.heap.IsCell c v→h'.IsCell c v:=λx c e v ⟨o,ho,hd⟩=>by
  obtain⟨sl,q⟩:=k2 c o (λz=>(hch c z).2.2.2.1 x c e rfl) ho;exact⟨_,q,hd⟩
 refine⟨J.ok,J.os,J.bare,⟨λb o e n hb hx=>?_,λb o e n hb hx=>?_,J.base.free,λb o e hx=>?_,J.base.tups,J.base.frzs,J.base.tbls⟩,?_,λx c e=>?_,J.free,J.freeC,λp hp=>?_,λb o q=>?_,J.len⟩
 ·exact k1 b o (nch b o e) (gi b (neL b o e) hb) (J.base.keep b o e n hb hx)
 ·obtain⟨sl,e1⟩:=J.base.slot b o e n hb hx;obtain⟨sl',e2⟩:=k2 b _ (nch b o e) e1;exact⟨sl',e2⟩
 ·obtain⟨o',e1⟩:=J.base.there b o e hx;obtain⟨sl,e2⟩:=k2 b o' (nch b o e) e1;exact⟨_,e2⟩
 ·obtain⟨m,⟨o,es,ep,ho,r⟩,hl⟩:=J.loc;obtain⟨sl,q⟩:=k2 X.env.locals o (λz=>(hch _ z).2.2.1 rfl) ho;refine⟨m,⟨_,es,ep,q,r⟩,λi x v e1 e2 e3=>?_⟩;obtain⟨u,rv,l⟩:=hl i x v e1 e2 e3;refine⟨u,rv,?_⟩;rcases l with l|⟨k,c,e,z⟩
  ·exact .inl l
  ·exact .inr ⟨k,c,e,cellK x c e _ z⟩
 ·obtain⟨v,z⟩:=J.cell x c e;exact⟨v,cellK x c e v z⟩
 ·obtain⟨a1,a2,a3,a4,a5⟩:=J.pin p hp;exact⟨k1 p.1 p.2 (λz=>(hch _ z).2.2.2.2 p hp rfl) (gi _ a3 a4) a1,a2,a3,a4,a5⟩
 ·refine(J.hok b o q).stay (λc u hc r=>?_) (λ_ z=>z) λ_ _ z=>z;have tr:∃v,H c=some v:=by
   rcases hc with rfl|hc
   ·exact⟨o,q⟩
   ·exact⟨_,hc⟩
  obtain⟨v,tr⟩:=tr;refine k1 c u (λz=>?_) (λz=>?_) r
  ·rw[(hch c z).2.1]at tr;cases tr
  ·rw[J.stkFree c z]at tr;cases tr
noncomputable abbrev Cx.marked(X:Cx)(a:Addr):Cx:={X with A:=X.A.mark (some (.ref a)),calm:=false}
theorem Cx.Ok.marked(ok:X.Ok)(a:Addr):(X.marked a).Ok:=
 ⟨ok.mod,ok.kind,ok.glob,ok.blt,ok.above,ok.inj,ok.has,ok.cab,λz=>absurd (show false=true from z) (by decide),ok.frames,ok.stk,ok.exf,ok.bs,ok.bsz,ok.noex,ok.exfs,ok.funs,ok.frf⟩
theorem Inv.marked(I:Inv X pins σ H s)(a:Addr):Inv (X.marked a) pins σ H s:=⟨I.ok.marked a,I.os,I.bare,I.base,I.loc,I.cell,I.free,I.freeC,I.pin,I.hok,I.len⟩
theorem Inv.unmarked{a:Addr}(ok:X.Ok)(I:Inv (X.marked a) pins σ H s):Inv X pins σ H s:=⟨ok,I.os,I.bare,I.base,I.loc,I.cell,I.free,I.freeC,I.pin,I.hok,I.len⟩
theorem ExAt.tb{h0 h:Heap}{H:Hp}{a:Addr}{cls:Value}(x:ExAt h0 h H a cls):∃oe vs,h.get? a=some oe∧oe.cls=cls∧oe.data=.fields vs∧1<vs.size∧(vs[1]?=some .none∨∃T oT ts,vs[1]?=some (.ref T)∧T≠a∧h.get? T=some oT∧oT.data=.fields ts∧ts[3]?=some .none)∧∀b,vs[1]?=some (.ref b)→h0.get? b=none∧H b=none:=by
 obtain⟨oe,vs,he,hc,hd,hsz,htb⟩:=x.obj;refine⟨oe,vs,he,hc,hd,hsz,?_,λb z=>?_⟩
 ·rcases htb with z|⟨T,oT,ts,z1,_,z2,_,z3,z4,z5⟩
  ·exact .inl z
  ·exact .inr ⟨T,oT,ts,z1,z2,z3,z4,z5⟩
 ·rcases htb with z'|⟨T,oT,ts,z1,z0,z2,zf,z3,z4,z5⟩
  ·rw[z']at z;cases z
  ·rw[z1]at z;cases z;exact⟨z0,zf⟩
theorem Inv.young{H1:Hp}{s1:Shared}(I:Inv X pins σ H1 s1)(hx:X.ex=[]){b:Addr}(z:s1.heap.get? b=none):X.s₀.heap.get? b=none∧b≠X.env.locals∧(∀x c,X.env.cells.lookup x=some c→c≠b)∧∀p∈X.pn++pins,p.1≠b:=by
 refine⟨?_,?_,λx c e y=>?_,λp hp y=>?_⟩
 ·cases r:X.s₀.heap.get? b with
  |none=>rfl
  |some o=>
   obtain⟨o',r'⟩:=I.base.there b o r (by rw[hx];simp);rw[z]at r';cases r'
 ·rintro rfl
  obtain⟨m,⟨o,es,ep,ho,r⟩,hl⟩:=I.loc;rw[z]at ho;cases ho
 ·subst y;obtain⟨v,o,ho,_⟩:=I.cell x c e;rw[z]at ho;cases ho
 ·subst y;rw[(I.pin p hp).1]at z;cases z
theorem Q7{H1 H':Hp}{s1 s':Shared}{a:Addr}{cls:Value}{Q:Unit→Shared→Prop}{E:Value→Shared→Prop}(hstk:X.stack=X.env::X.outer)(hfr:X.env.frame=some X.env.locals)(hx:X.ex=[])(I:Inv X pins σ H1 s1)(J:Inv X pins σ H' s')(un:Un (wy X.stack) [] H1 H' s1.heap s'.heap)(ex:ExAt s1.heap s'.heap H' a cls)
  (h:∀h',Inv X pins σ H' {s' with heap:=h'}→ExAt s1.heap h' H' a cls→Q () {s' with heap:=h'}):
  wpAny (model X.prog X.w) X.A (noteFrame (.ref a) X.env) (λ_ s2=>wpAny (model X.prog X.w) X.A (setFlight (.ref a) none) Q E s2) E s':=by
 obtain⟨oe,vs,he,rfl,hd,hsz,tb,tbn⟩:=ex.tb;have fr:=J.ok.frames;have st:=J.stack;rw[hstk]at fr st;refine zge fr st hfr he hd hsz tb λh' T hT k1 k2 hR=>h h' ?_ ?_
 ·refine J.noted (λb=>b=a∨vs[1]?=some (.ref b)) (λb hb=>?_) (λb o hb hn q=>k1 b o (λz=>hb (.inl z)) (λz=>hb (.inr z)) (by rw[←hstk];exact hn) q) λb o hb q=>k2 b o (λz=>hb (.inl z)) (λz=>hb (.inr z)) q;rcases hb with rfl|hb
  ·have y:=I.young hx ex.new;exact⟨y.1,ex.free,y.2⟩
  ·have y:=I.young hx (tbn b hb).1;exact⟨y.1,(tbn b hb).2,y.2⟩
 ·obtain⟨⟨oe',vs',x1,x2,x3,x4⟩,⟨oT,ts,y1,y2,y3⟩,hne⟩:=hR;have hz:s1.heap.get? T=none:=by
   cases r:s1.heap.get? T with
   |none=>rfl
   |some o=>
    obtain⟨o',r'⟩:=un.there T o r (by simp);exact absurd (kAo (Heap.lt_size r') hT) (kAx _)
  exact⟨ex.new,ex.free,oe',vs',x1,x2,x3,(kBe.mp x4).1,.inr ⟨T,oT,ts,x4,hz,hne,J.hok.fresh hT,y1,y2,y3⟩⟩
theorem Ry{M:Model}{A':Around}{H1 H':Hp}{s1 s':Shared}{a:Addr}{cls:Value}{Q:Unit→Shared→Prop}{E:Value→Shared→Prop}(hx:X.ex=[])(I:Inv X pins σ H1 s1)(J:Inv X pins σ H' s')(ex:ExAt s1.heap s'.heap H' a cls)
  (h:∀h',Inv X pins σ H' {s' with heap:=h'}→ExAt s1.heap h' H' a cls→Q () {s' with heap:=h'}):wpAny M A' (setFlight (.ref a) none) Q E s':=by
 obtain⟨oe,vs,he,hc,hd,hsz,tb,tbn⟩:=ex.tb;unfold setFlight;rcases tb with h1|⟨T,oT,ts,h1,hne,hT,hdT,h3⟩
 ·refine wpAny_bind (wpAny_field he hd h1 ?_);rw[if_neg (by decide)];exact wpAny_pure (h s'.heap J ex)
 ·refine wpAny_bind (wpAny_field he hd h1 ?_);rw[if_pos (show(Value.ref T !=Value.none)=true by simp)];have s3:3<ts.size:=(kBe.mp h3).1;refine wpAny_setField hT hdT s3 (h _ ?_ ?_)
  ·have y:=I.young hx (tbn T h1).1;refine J.noted (λb=>b=T) (λb hb=>?_) (λb o hb _ q=>?_) λb o hb q=>⟨o.slots,?_⟩
   ·subst hb;exact⟨y.1,(tbn b h1).2,y.2⟩
   ·rw[Heap.get?_update_other _ _ (Ne.symm hb)];exact q
   ·rw[Heap.get?_update_other _ _ (Ne.symm hb)];exact q
  ·refine⟨ex.new,ex.free,oe,vs,?_,hc,hd,hsz,.inr ⟨T,_,_,h1,(tbn T h1).1,hne,(tbn T h1).2,Heap.get?_update_self _ hT (Obj.isFreed_of_fields (Obj.data_mapFields hdT _)),Obj.data_mapFields hdT _,by simp[s3]⟩⟩;rw[Heap.get?_update_other _ _ hne];exact he
end
theorem SP.unmarked{X:Cx}{pins:List (Addr×Obj)}{a:Addr}{D:Ends}{f:Flow}{s':Shared}(ok:X.Ok)(h:SP (X.marked a) pins D f s'):SP X pins D f s':=by
 cases f with
 |next=>obtain⟨σ',H',I,q⟩:=h;exact⟨σ',H',I.unmarked ok,q⟩
 |brk=>obtain⟨σ',H',I,q⟩:=h;exact⟨σ',H',I.unmarked ok,q⟩
 |cont=>obtain⟨σ',H',I,q⟩:=h;exact⟨σ',H',I.unmarked ok,q⟩
 |ret u=>obtain⟨v,σ',H',I,r,q⟩:=h;exact⟨v,σ',H',I.unmarked ok,r,q⟩
noncomputable def zk0(sp:Sp)(K:PySem.W.Frag)(Cy:Addr)(t:TA)(u:TS):TS:=λD σ H=>t σ H λvs H1=>sp vs H1 (λ_ H2=>D.nx σ H2) λcls _ H2=>PySem.W.exmOne K cls (.ref Cy)=some true∧u D σ H2
section
variable{X:Cx}{k:Nat}{f Cy:Addr}{fd:FuncData}{ps:List Str}{sp:Sp}{x y:Str}{p yp cpos epos hpos pos:Pos}{e:Expr}{es:List Expr}{t:TA}{u:TS}{b₀:Stmt}{suite:List Stmt}
theorem Bz{pins:List (Addr×Obj)}{σ:St}{H:Hp}{s:Shared}{Q:VK}{E1:XK}{Qf:Value→Shared→Prop}{Ef:Value→Shared→Prop}(F:FnOk X.prog X.w X.K X.mg X.base (wg X.prog X.w) k f fd ps sp)(hr:Room k X.A)(hg:Gl X x)(hm:X.mg x=some (.ref f))(hk:kAc X.K (.ref f)=true)(hb:Binds X.K fd ps [])
  (ha:PA X.nox (e::es) t)(I:Inv X pins σ H s)(h:t σ H λvs H1=>sp vs H1 Q E1)(hdb:(x==("__debug__":Str))=false)(he:starEach (e::es) X.env=(false,eval e X.env)::starEach es X.env)(hpl:(backTo cpos (starEach es X.env)).any (·.1)=false)
  (hq:∀v H2 u s2,Inv X pins σ H2 s2→RelV v u→Q v H2→Qf u s2) (hx:∀H1 s1 H2 s2 a cls,Inv X pins σ H1 s1→Inv X pins σ H2 s2→Un (wy X.stack) [] H1 H2 s1.heap s2.heap→ExAt s1.heap s2.heap H2 a cls→E1 cls none H2→Ef (.ref a) s2):
  wpAny (model X.prog X.w) X.A (eval (.Call (.Name x p) (e::es) [] cpos) X.env) Qf Ef s:=by
 refine wpAny_Call_Name_kw (n6 I hg hm ?_ hdb);refine PySem.W.callWith_K (h₀:=X.base) I.ok.mod.kin hk (wpAny_mono (ha cpos pins s σ H _ (I.wish _) h) (λus s1 ⟨vs,H1,I1,r,q⟩=>⟨I1.kIn,?_⟩) λ_ _ z=>False.elim z) he hpl;have I1:=I1.unwish;have hl:us.length=ps.length:=by rw[←r.length];exact F.len _ _ _ _ q
 have hbd:=hb s1 us I1.kIn (by rw[kB0];exact hl);rw[kB0]at hbd;refine wpAny_call (codeAny_mono (F.run X.A X.stack s1 H1 ⟨us,[]⟩ us vs Q E1 hr I1.env0 hbd r q) λrs s2 z=>?_);cases rs with
 |ok fl=>
  cases fl with
  |ret u=>
   obtain⟨v,H2,I2,rv,qv⟩:=I1.after z;exact hq v H2 u s2 I2 rv qv
  |next=>exact False.elim z
  |brk=>exact False.elim z
  |cont=>exact False.elim z
 |error ev=>
  obtain⟨a,cls,H2,rfl,os,bare,un,hok,ex,qE⟩:=z;exact hx H1 s1 H2 s2 a cls I1 (I1.call' os un hok bare λb z=>absurd z (by simp)) un ex qE
theorem Ym(F:FnOk X.prog X.w X.K X.mg X.base (wg X.prog X.w) k f fd ps sp)(hr:Room k X.A)(hg:Gl X x)(hm:X.mg x=some (.ref f))(hk:kAc X.K (.ref f)=true)(hb:Binds X.K fd ps [])(ha:PA X.nox (e::es) t)
  (hstk:X.stack=X.env::X.outer)(hfr:X.env.frame=some X.env.locals)(hex:X.ex=[])(hgy:Gl X y)(hmy:X.mg y=some (.ref Cy))(hs:∀a,PSs (X.marked a).nox (b₀::suite) u)(hsw:swapsWith (.Call (.Name x p) (e::es) [] cpos) none epos.line X.env=pure false:=by rfl)
  (hdb:(x==("__debug__":Str))=false:=by decide) (hdy:(y==("__debug__":Str))=false:=by decide) (he:starEach (e::es) X.env=(false,eval e X.env)::starEach es X.env:=by rfl) (hpl:(backTo cpos (starEach es X.env)).any (·.1)=false:=by rfl):
  PS X (.Try [.Expr (.Call (.Name x p) (e::es) [] cpos) epos] [.ExceptHandler (some (.Name y yp)) none (b₀::suite) hpos] [] [] pos) (zk0 sp X.K Cy t u):=by
 intro pins s σ H D I h;refine wpAny_Try_except (wpAny_execs_cons (wpAny_Expr_any (Bz F hr hg hm hk hb ha I h hdb he hpl (λv H2 w s2 I2 _ q=>?_) λH1 s1 H2 s2 a cls I1 J un ex ⟨hc,hu⟩=>?_) I.quiet hsw))
 ·exact wpAny_execs_nil (wpAny_execs_nil ⟨σ,H2,I2,q⟩)
 ·refine Q7 hstk hfr hex I1 J un ex λh' J' ex'=>?_;refine wpAny_handleBy_cons (codeAny_handlers_test (n6 (X:=X.marked a) (J'.marked a) hgy hmy ?_ hdy)) (by intro q;cases q);have LT:PySem.W.Looks (model X.prog X.w) h' (typeOf (.ref a)) cls:=by
   obtain⟨oe,vs,g,rfl,_⟩:=ex'.obj;exact(PySem.W.Looks.ld g).andThen .now
  refine PySem.W.exm_one J'.kIn LT hc _ _ _ _ (λ_ _ q=>q) (codeAny_handlers_suite (Ry hex I1 J' ex' λh2 J2 ex2=>?_));exact wpAny_mono (hs a pins _ σ H2 D ((J2.marked a).wish _) hu) (λfl s4 q=>(SP.unwish q).unmarked I.ok) λ_ _ z=>False.elim z
end
section
open PySem.W PySem.Calls
variable{K:PySem.W.Frag}{x t c:Value}{H:Heap→Prop}
theorem W8(ty:∀(M:Model)(h:Heap),K.In h→H h→PySem.W.Looks M h (typeOf x) t)(e:kitCls K t c=some true)(q:(t==c)=false):Answers (λs=>K.In s.heap∧H s.heap) x c true:=by
 intro dep tk prog w A R s hs;obtain⟨h0,g,d,tt,os⟩:=s;obtain⟨⟨X,p⟩,hq⟩:=hs;have LT:=ty (model prog w) h0 X p;unfold Builtin.«isinstance.nested»;refine wpAny_bind (LT.at ?_);rw[if_neg (by rw[q];decide)];obtain⟨hty,his,hsub⟩:=kit_cls (M:=model prog w) X e;have LI:PySem.W.Looks (model prog w) h0 (isInstance x c) true:=LT.andThen hsub;refine wpAny_bind (hty.at ?_);rw[if_pos (by decide)]
 k_delta "plainIsInstance";refine wpAny_bind (wpAny_bind (his.at ?_))
 simp only[kAv,kA9,if_false];refine wpAny_bind (LI.at ?_)
 first|exact wpAny_pure (wpAny_pure (hq tt))|(simp only[if_true];first|exact wpAny_pure (wpAny_pure (hq tt))|exact wpAny_pure (hq tt))
theorem W9{prog:Program}{w:World}{A:Around}{E:Value→Shared→Prop}{s:Shared}{Q:Value→Shared→Prop}(ty:∀(M:Model)(h:Heap),K.In h→H h→PySem.W.Looks M h (typeOf x) t)(e:kitCls K t c=some true)(q:(t==c)=false)
  (X:K.In s.heap)(p:H s.heap)(hx:x≠.builtin "__main__.__loader__#opaque")(h:∀tk,Q (.bool true) {s with toks:=tk}):wpAny (model prog w) A (call (.builtin "isinstance") [x,c]) Q E s:=
 call_isinstance (S:=λ_ R s=>(K.In s.heap∧H s.heap)∧∀tk,R (.ok (.ret (.bool true))) {s with toks:=tk}) (λprog w A R s hs=>isinstance_outer (W8 ty e q 0 _ prog w A R s hs) hx) ⟨⟨X,p⟩,h⟩
end
section
variable{X:Cx}{pins:List (Addr×Obj)}{σ:St}{H:Hp}{s:Shared}{a:Addr}{oe:Obj}
noncomputable abbrev Cx.held(X:Cx)(a:Addr)(oe:Obj):Cx:={X with A:=X.A.mark (some (.ref a)),calm:=false,pn:=(a,oe)::X.pn}
theorem Cx.Ok.held(ok:X.Ok)(a:Addr)(oe:Obj):(X.held a oe).Ok:=
 ⟨ok.mod,ok.kind,ok.glob,ok.blt,ok.above,ok.inj,ok.has,ok.cab,λz=>absurd (show false=true from z) (by decide),ok.frames,ok.stk,ok.exf,ok.bs,ok.bsz,ok.noex,ok.exfs,ok.funs,ok.frf⟩
theorem Inv.held(I:Inv X pins σ H s)(g:s.heap.get? a=some oe)(f:H a=none)(n:a≠X.env.locals)(nf:a∉X.fs)(nc:∀v,oe.data≠.cell v):Inv (X.held a oe) pins σ H s:=
 ⟨I.ok.held a oe,I.os,I.bare,I.base,I.loc,I.cell,I.free,I.freeC,λp hp=>by
  rcases kA6.mp (show p∈(a,oe)::(X.pn++pins)from hp)with rfl|hp
  ·exact⟨g,f,n,nf,nc⟩
  ·exact I.pin p hp,I.hok,I.len⟩
theorem Inv.unheld(ok:X.Ok)(I:Inv (X.held a oe) pins σ H s):Inv X pins σ H s:=⟨ok,I.os,I.bare,I.base,I.loc,I.cell,I.free,I.freeC,λp hp=>I.pin p (kAl _ hp),I.hok,I.len⟩
theorem Q3{T:String}{E:Value→Shared→Prop}(e:PySem.W.kitCls X.K oe.cls (.type T)=some true)(q:(oe.cls==.type T)=false):CallR ((X.held a oe).wish E) (.builtin "isinstance") (λxs H Q=>xs=[.ref a,.ty T]∧Q (.bl true) H):=by
 intro pins s σ H xs us Q I r h;obtain⟨rfl,h⟩:=h;obtain⟨u,u2,rfl,ru,ru2⟩:=za2 r;cases ru;cases ru2;have g:=(I.pin (a,oe) kAk).1;exact W9 (K:=X.K) (H:=λh=>h.get? a=some oe) (λM h _ g=>(PySem.W.Looks.ld g).andThen .now) e q I.kIn g (λz=>nomatch z) λtk=>⟨.bl true,H,I.tok tk,rfl,h⟩
theorem Qk{M:Model}{A:Around}{E:Value→Shared→Prop}{i:Nat}{n:Str}{pos:Pos}{Q:Unit→Shared→Prop}(I:Inv X pins σ H s)(hN:X.N.Nodup)(hi:X.N[i]?=some n)(hk:X.env.scope.names.lookup n=some .local)
  (h:∀s',Inv X pins (σ.set i none) H s'→Q () s'):wpAny M A (do bindName X.env n .none;unbindBehindTheSuite X.env n pos) Q E s:=by
 obtain⟨m,hn,hl⟩:=id I.loc;have hiσ:i<σ.length:=by rw[I.len];exact(kAh.mp hi).1
 have old:∀b o,X.s₀.heap.get? b=some o→b≠X.env.locals:=λb o e=>kAf (kAo (Heap.lt_size e) I.ok.above);have cne:=I.cne;refine wpAny_nameGoes_keeps hk hn (by rw[I.ok.kind];rfl) λh' v hn' hs=>h _ ⟨I.ok,I.os,I.bare,⟨λb o e n hb hx=>(hs.2 b (old b o e)).trans (I.base.keep b o e n hb hx),λb o e n hb hx=>?_,I.base.free,λb o e hx=>?_,I.base.tups,I.base.frzs,I.base.tbls⟩,⟨_,hn',λj y v' e1 e2 e3=>?_⟩,λy c e=>?_,I.free,I.freeC,λp hp=>?_,λb ob e=>?_,by simpa using I.len⟩
 ·obtain⟨sl,e1⟩:=I.base.slot b o e n hb hx;exact⟨sl,(hs.2 b (old b o e)).trans e1⟩
 ·obtain⟨o',e1⟩:=I.base.there b o e hx;exact⟨o',(hs.2 b (old b o e)).trans e1⟩
 ·by_cases hj:j=i
  ·subst hj;rw[kAd hiσ]at e2;cases e2
  ·rw[kAa (Ne.symm hj)]at e2;obtain⟨u',r',q⟩:=hl j y v' e1 e2 e3;refine⟨u',r',?_⟩;rcases q with ⟨k,e⟩|⟨k,c,e,z⟩
   ·have:y≠n:=λe=>hj (A4 hN e1 (e▸hi));exact .inl ⟨k,by simp[this,e]⟩
   ·exact .inr ⟨k,c,e,z.sameBut hs (cne y c e)⟩
 ·obtain⟨w',z⟩:=I.cell y c e;exact⟨w',z.sameBut hs (cne y c e)⟩
 ·obtain⟨e,n,ne,nf,d⟩:=I.pin p hp;exact⟨(hs.2 p.1 ne).trans e,n,ne,nf,d⟩
 ·refine(I.hok b ob e).stay (λc w' hc q=>(hs.2 c ?_).trans q) (λ_ q=>q) λ_ _ q=>q
  rintro rfl
  rcases hc with rfl|hc
  ·rw[I.free]at e;cases e
  ·rw[I.free]at hc;cases hc
end
noncomputable def zb0(r n T:Str)(rp rp2 ip sp np tp icpos ccpos bpos apos:Pos):Stmt:=.Assign [.Name r rp] (.BinOp (.Name r rp2) .Add (.Call (.Name "int" ip) [.Call (.Name "isinstance" sp) [.Name n np,.Name T tp] [] icpos] [] ccpos) bpos) apos
noncomputable def zes(sp:Sp)(K:PySem.W.Frag)(Cy:Addr)(T:String)(i j:Nat)(t:TA):TS:=λD σ H=>t σ H λvs H1=>sp vs H1 (λ_ H2=>D.nx σ H2) λcls _ H2=>PySem.W.exmOne K cls (.ref Cy)=some true∧PySem.W.kitCls K cls (.type T)=some true∧(cls==.type T)=false∧
 ∃z,σ[j]?=some (some (.int z))∧D.nx ((σ.set j (some (.int (z+1)))).set i none) H2
section
variable{X:Cx}{k:Nat}{f Cy:Addr}{fd:FuncData}{ps:List Str}{sp:Sp}{x y r n xT:Str}{T:String}{i j:Nat}{p yp cpos epos hpos pos rp rp2 ip isp np tp icpos ccpos bpos apos:Pos}{e:Expr}{es:List Expr}{t:TA}
theorem zb1{a:Addr}{oe:Obj}(hN:X.N.Nodup)(hi:X.N[i]?=some n)(hj:X.N[j]?=some r)(hn:X.env.scope.names.lookup n=some .local)(hr:X.env.scope.names.lookup r=some .local)(hnd:(n==("__debug__":Str))=false)(hnc:(n==("__classdict__":Str))=false)(hrd:(r==("__debug__":Str))=false)(hrc:(r==("__classdict__":Str))=false)
  (h1:Gl X "int")(m1:X.mg "int"=none)(h2:Gl X "isinstance")(m2:X.mg "isinstance"=none)(h3:Gl X xT)(m3:X.mg xT=none)(b3:bootBuiltins xT=some (.type T))(n3:xT≠"__name__")(d3:(xT==("__debug__":Str))=false)
  (e1:PySem.W.kitCls X.K oe.cls (.type T)=some true) (q1:(oe.cls==.type T)=false):
  PS (X.held a oe).nox (zb0 r n xT rp rp2 ip isp np tp icpos ccpos bpos apos) (λD σ H=>σ[i]?=some (some (.ref a))∧∃z,σ[j]?=some (some (.int z))∧D.nx (σ.set j (some (.int (z+1)))) H):=by
 have P:=Lc (X:=(X.held a oe).nox) (pos:=apos) (pos':=rp) hN hj (.inl hr) (Ng (pos:=bpos) K5 (Fl (pos:=rp2) (i:=j) hj (.inl hr) hrd hrc) (m7 (p:=ip) (pos:=ccpos) C7 h1 m1 PyProof.Rows.boot_int (mf (qr (p:=isp) (pos:=icpos) (Q3 e1 q1) h2 m2 boot_isinstance (mf (Fl (pos:=np) (i:=i) hi (.inl hn) hnd hnc) (mf (Nc (v:=.ty T) (pos:=tp) h3 m3 b3 rfl n3 d3) Bc))) Bc))) rfl (.inr hr);intro pins s σ H D I h;obtain⟨a1,z,a2,q⟩:=h;exact P pins s σ H D I ⟨_,a2,_,a1,rfl,.inr ⟨true,rfl,_,_,rfl,rfl,q⟩⟩
theorem Uc(F:FnOk X.prog X.w X.K X.mg X.base (wg X.prog X.w) k f fd ps sp)(hr:Room k X.A)(hg:Gl X x)(hm:X.mg x=some (.ref f))(hk:kAc X.K (.ref f)=true)(hb:Binds X.K fd ps [])(ha:PA X.nox (e::es) t)
  (hstk:X.stack=X.env::X.outer)(hfr:X.env.frame=some X.env.locals)(hex:X.ex=[])(hgy:Gl X y)(hmy:X.mg y=some (.ref Cy))(hij:i≠j)
  (hN:X.N.Nodup) (hi:X.N[i]?=some n) (hj:X.N[j]?=some r) (hn:X.env.scope.names.lookup n=some .local) (hlr:X.env.scope.names.lookup r=some .local) (hnd:(n==("__debug__":Str))=false) (hnc:(n==("__classdict__":Str))=false) (hrd:(r==("__debug__":Str))=false) (hrc:(r==("__classdict__":Str))=false)
  (h1:Gl X "int") (m1:X.mg "int"=none) (h2:Gl X "isinstance") (m2:X.mg "isinstance"=none) (h3:Gl X xT) (m3:X.mg xT=none) (b3:bootBuiltins xT=some (.type T)) (n3:xT≠"__name__") (d3:(xT==("__debug__":Str))=false)
  (hsw:swapsWith (.Call (.Name x p) (e::es) [] cpos) none epos.line X.env=pure false:=by rfl)
  (hdb:(x==("__debug__":Str))=false:=by decide) (hdy:(y==("__debug__":Str))=false:=by decide) (he:starEach (e::es) X.env=(false,eval e X.env)::starEach es X.env:=by rfl) (hpl:(backTo cpos (starEach es X.env)).any (·.1)=false:=by rfl):
  PS X (.Try [.Expr (.Call (.Name x p) (e::es) [] cpos) epos] [.ExceptHandler (some (.Name y yp)) (some n) [zb0 r n xT rp rp2 ip isp np tp icpos ccpos bpos apos] hpos] [] [] pos) (zes sp X.K Cy T i j t):=by
 intro pins s σ H D I h;refine wpAny_Try_except (wpAny_execs_cons (wpAny_Expr_any (Bz F hr hg hm hk hb ha I h hdb he hpl (λv H2 w s2 I2 _ q=>?_) λH1 s1 H2 s2 a cls I1 J un ex ⟨hc,hT,hTn,z,hz,hu⟩=>?_) I.quiet hsw))
 ·exact wpAny_execs_nil (wpAny_execs_nil ⟨σ,H2,I2,q⟩)
 ·refine Q7 hstk hfr hex I1 J un ex λh' J' ex'=>?_;refine wpAny_handleBy_cons (codeAny_handlers_test (n6 (X:=X.marked a) (J'.marked a) hgy hmy ?_ hdy)) (by intro q;cases q);have LT:PySem.W.Looks (model X.prog X.w) h' (typeOf (.ref a)) cls:=by
   obtain⟨oe,vs,g,rfl,_⟩:=ex'.obj;exact(PySem.W.Looks.ld g).andThen .now
  refine PySem.W.exm_one J'.kIn LT hc _ _ _ _ (λ_ _ q=>q) (codeAny_handlers_suite_as (Ry hex I1 J' ex' λhh J2 ex2=>?_));have yg:=I1.young hex ex2.new;have hiσ:i<σ.length:=by rw[I.len];exact(kAh.mp hi).1
  refine xq J2 hN hi (.inl hn) (v:=.ref a) (u:=.ref a) rfl (λs4 J4 hsb=>?_) (.inr hn);obtain⟨oe,vs,g,hcl,hd,_⟩:=ex2.obj;have g4:s4.heap.get? a=some oe:=by
   obtain⟨b,sb,hb⟩:=hsb;refine(sb.2 a λz=>?_).trans g;rcases hb with hb|hb
   ·exact yg.2.1 (z.trans hb)
   ·exact yg.2.2.1 n b hb z.symm
  have nfs:a∉X.fs:=λz=>by
   have st:a∈wy X.stack:=by rw[hstk];unfold wy;rw[List.filterMap_cons,hfr];exact kAl _ z
   obtain⟨_,o,ho,_⟩:=I1.stack.mem st;rw[ex2.new]at ho;cases ho
  subst hcl;have Jh:=J4.held g4 ex2.free yg.2.1 nfs (λv z=>by rw[hd]at z;cases z);have P:=zb1 (X:=X) (a:=a) (oe:=oe) (rp:=rp) (rp2:=rp2) (ip:=ip) (isp:=isp) (np:=np) (tp:=tp) (icpos:=icpos) (ccpos:=ccpos) (bpos:=bpos) (apos:=apos) hN hi hj hn hlr hnd hnc hrd hrc h1 m1 h2 m2 h3 m3 b3 n3 d3 hT hTn;have hset:((σ.set i (some (V.ref a))).set j (some (.int (z+1)))).set i none=(σ.set j (some (.int (z+1)))).set i none:=by
   rw[List.set_comm _ _ hij,List.set_set]
  refine wpAny_mono (zd P pins s4 _ H2 {nx:=λσ' H'=>D.nx (σ'.set i none) H',rt:=λ_ _=>False} (Jh.wish _) ⟨kAd hiσ,z,by rw[kAa hij];exact hz,by show D.nx _ _;rw[hset];exact hu⟩) (λfl s5 q=>?_) λ_ _ z=>False.elim z;cases fl with
  |next=>
   obtain⟨σ',H',I',q⟩:=q;exact Qk (I'.unwish.unheld I.ok) hN hi hn λs6 I6=>⟨_,H',I6,q⟩
  |ret u=>obtain⟨_,_,_,_,_,q⟩:=q;exact q.elim
  |brk=>obtain⟨_,_,_,q⟩:=q;exact q.elim
  |cont=>obtain⟨_,_,_,q⟩:=q;exact q.elim
end
section
variable{P:Program}{w:World}{K:PySem.W.Frag}{mg:Str→Option Value}{base:Heap}
theorem Fun.okE{x qual:Str}{st:Stmt}{f:Addr}{fd:FuncData}{N ps:List Str}{k:Nat}{sp:Sp}(F:Fun K x qual st f fd)(S:FnScope N ps (ah st))(len:∀vs H Q E,sp vs H Q E→vs.length=ps.length)
   (hbody:∀(cdv:Value)(A:Around)(outer:List Env)(s:Shared)(H:Hp)(vs:List V)(Q:VK)(E:XK),fd.code=cdv→Room k (A.deeper (envOfC qual (ah st) s.heap.objs.size f cdv))→sp vs H Q E→
   ∃t,PSs (t6 (wg P w) P w K mg base N qual (ah st) f cdv A outer s H E) (ak st) t∧t {nx:=λ_ H'=>Q .non H',rt:=Q} (mh N vs) H):FnOk P w K mg base (wg P w) (k+1) f fd ps sp:=by
 obtain⟨oc,od,kV,doc,pm,an,cdv,ct,osl,rfl,lk,hcd⟩:=F.ex;exact zaf lk hcd S len λA outer s H vs Q E hr hsp=>hbody cdv A outer s H vs Q E rfl hr hsp
theorem FnOk.calm{k:Nat}{f:Addr}{fd:FuncData}{ps:List Str}{sp:Sp}(F:FnOk P w K mg base (wg P w) k f fd ps sp):FnOk P w K mg base CX0 k f fd ps (λvs H Q _=>sp vs H Q E0):=by
 refine⟨λvs H Q E h=>F.len vs H Q E0 h,λA outer s H args us vs Q E hr e0 hb r h=>codeAny_mono (F.run A outer s H args us vs Q E0 hr e0 hb r h) λrs s' z=>?_⟩;cases rs with
 |ok fl=>cases fl<;>exact z
 |error e=>
  obtain⟨_,_,_,_,_,_,_,_,_,q⟩:=z;exact q.elim
end
end L2
namespace Pu
open PySem PySem.Spec PyProof.Rows L2
theorem R0{P:Program}{w:World}{Kf:PySem.W.Frag}{mg:Str→Option Value}{base:Heap}{x qual:Str}{st:Stmt}{f:Addr}{fd:FuncData}{N ps:List Str}{k:Nat}{ms:List Bool}{Fb:En→Out}(F:Fun Kf x qual st f fd)(S:FnScope N ps (ah st))(hm:ms.length=ps.length)
   (hbody:∀(cdv:Value)(A:Around)(outer:List Env)(s:Shared)(H G0:Hp)(E:XK),fd.code=cdv→Room k (A.deeper (envOfC qual (ah st) s.heap.objs.size f cdv))→
   ur (t6 (wg P w) P w Kf mg base N qual (ah st) f cdv A outer s H E) G0 H (ek ⟨Kf,yz mg⟩ E) (ak st) Fb):
  FnOk P w Kf mg base (wg P w) (k+1) f fd ps (Lo ⟨Kf,yz mg⟩ ms (fnD ms N.length Fb)):=by
 refine F.okE S (λvs H Q E h=>h.1.trans hm) λcdv A outer s H vs Q E hc hr h=>?_;obtain⟨hl,gb,G,ds,sg,al,q⟩:=h;exact⟨_,hbody cdv A outer s H G E hc hr,G,_,Ah gb sg al,Ext.refl sg,X7 sg q⟩
end Pu
end
section
namespace L2
open PySem PySem.Spec PyProof.Rows
noncomputable def zhz(sp:Sp)(t:TA):TS:=λD σ H=>t σ H λvs H1=>sp vs H1 (λv H2=>D.rt v H2) λ_ _ _=>False
section
variable{X:Cx}{k:Nat}{f Cy:Addr}{fd:FuncData}{ps:List Str}{sp:Sp}{x y:Str}{p yp cpos epos hpos pos:Pos}{e:Expr}{es:List Expr}{t:TA}{u:TS}{h₀:ExceptHandler}{hs:List ExceptHandler}
theorem Yn(F:FnOk X.prog X.w X.K X.mg X.base (wg X.prog X.w) k f fd ps sp)(hr:Room k X.A)(hg:Gl X x)(hm:X.mg x=some (.ref f))(hk:kAc X.K (.ref f)=true)(hb:Binds X.K fd ps [])(ha:PA X.nox (e::es) t)
  (hdb:(x==("__debug__":Str))=false:=by decide)(he:starEach (e::es) X.env=(false,eval e X.env)::starEach es X.env:=by rfl)(hpl:(backTo cpos (starEach es X.env)).any (·.1)=false:=by rfl):
  PS X (.Try [.Return (some (.Call (.Name x p) (e::es) [] cpos)) epos] (h₀::hs) [] [] pos) (zhz sp t):=by
 intro pins s σ H D I h;refine wpAny_Try_except (wpAny_execs_cons (wpAny_Return_some (Bz F hr hg hm hk hb ha I h hdb he hpl (λv H2 w s2 I2 r2 q=>?_) λH1 s1 H2 s2 a cls I1 J un ex hf=>hf.elim)));exact⟨v,σ,H2,I2,r2,q⟩
end
end L2
end
section
namespace Pu
open PySem PySem.Spec PyProof.Rows L2
noncomputable def Zj(K:KA)(ms:List Bool)(f:List D→Res):Sp:=λvs H Q E=>vs.length=ms.length∧GOk H∧∃G ds,Same G H∧ArgsM K G H ms ds vs∧ResP (ek K E) G H (f ds) λd=>∃es,d=.lst es∧
 ∀a ws G' H',Ext G H G' H'→H a=none→G' a=none→H' a=some (.lst ws)→DenL K G' es ws→Q (.ref a) H'
def Wa(K:KA)(G0 B:Hp)(E:EK)(o:Out)(D:Ends):Prop:=match o with
 |.rt d=>∃ds,d=.lst ds∧∀a vs G' H',Ext G0 B G' H'→B a=none→G' a=none→H' a=some (.lst vs)→DenL K G' ds vs→D.rt (.ref a) H'
 |.er c=>∀G' H',Ext G0 B G' H'→E c H'
 |_=>False
noncomputable def zkz(K:KA)(G0 B:Hp)(E:EK)(F:En→Out):TS:=λD σ H=>∃G δ,EnvR K B G H σ δ∧Ext G0 B G H∧Wa K G0 B E (F δ) D
abbrev Z5(X:Cx)(G0 B:Hp)(E:EK)(st:List Stmt)(F:En→Out):Prop:=PSs X st (zkz (kx X) G0 B E F)
def rq(F:En→Out):Prop:=∀δ d,F δ≠.rt d
section
variable{X:Cx}{G0 B:Hp}{E:EK}{e:Expr}{st:Stmt}{bg:List Stmt}{F F1 F2:En→Out}{g:En→Res}{pos:Pos}
theorem zh0{K:KA}{G H:Hp}{r:Res}{D:Ends}(e:Ext G0 B G H)(h:Wa K G0 B E (r.then .rt) D):ResP E G H r λd=>Wa K G0 B E (.rt d) D:=by
 cases r with
 |ok d=>exact h
 |er c=>exact λG' H' q=>h G' H' (e.trans q)
 |st=>exact h
theorem Zm(h:L8 X B E e g):Z5 X G0 B E [.Return (some e) pos] (fm g):=PSs.imp (zd (Ub h)) λD σ H ⟨G,δ,R,ex,q⟩=>⟨G,δ,R,(zh0 ex q).mono λd _ ⟨ds,hd,q⟩=>⟨ds,hd,λa vs G' H' e1 hn gn hh dl=>q a vs G' H' (ex.trans e1) (by
 cases hb:B a with
 |none=>rfl
 |some u=>rw[R.bh a u hb]at hn;cases hn) gn hh dl⟩⟩
theorem Vg(h1:lu X G0 B E st F1)(nr:rq F1)(h2:Z5 X G0 B E bg F2):Z5 X G0 B E (st::bg) (d5 F1 F2):=PSs.imp (Iy h1 h2) λD σ H ⟨G,δ,R,ex,q⟩=>by
 refine⟨G,δ,R,ex,?_⟩;unfold d5 at q;cases ef:F1 δ with
 |nx δ'=>
  rw[ef]at q;exact λσ' G' H' s R' e'=>⟨G',δ',R',e',q⟩
 |bk δ'=>rw[ef]at q;exact q.elim
 |ct δ'=>rw[ef]at q;exact q.elim
 |rt d=>exact absurd ef (nr δ d)
 |er c=>rw[ef]at q;exact q
 |st=>rw[ef]at q;exact q.elim
theorem X6{K:KA}{G H:Hp}{Q:VK}{o:Out}(h:ResP E G H (jl o) λd=>∃es,d=.lst es∧∀a ws G' H',Ext G H G' H'→H a=none→G' a=none→H' a=some (.lst ws)→DenL K G' es ws→Q (.ref a) H'):
  Wa K G H E o {nx:=λ_ H'=>Q .non H',rt:=Q}:=by
 cases o with
 |nx δ=>obtain⟨es,z,_⟩:=h;cases z
 |bk δ=>exact h.elim
 |ct δ=>exact h.elim
 |rt d=>exact h
 |er c=>exact h
 |st=>exact h
end
theorem zfy{P:Program}{w:World}{Kf:PySem.W.Frag}{mg:Str→Option Value}{base:Heap}{x qual:Str}{st:Stmt}{f:Addr}{fd:FuncData}{N ps:List Str}{k:Nat}{ms:List Bool}{Fb:En→Out}(F:Fun Kf x qual st f fd)(S:FnScope N ps (ah st))(hm:ms.length=ps.length)
   (hbody:∀(cdv:Value)(A:Around)(outer:List Env)(s:Shared)(H G0:Hp)(E:XK),fd.code=cdv→Room k (A.deeper (envOfC qual (ah st) s.heap.objs.size f cdv))→
   Z5 (t6 (wg P w) P w Kf mg base N qual (ah st) f cdv A outer s H E) G0 H (ek ⟨Kf,yz mg⟩ E) (ak st) Fb):
  FnOk P w Kf mg base (wg P w) (k+1) f fd ps (Zj ⟨Kf,yz mg⟩ ms (fnD ms N.length Fb)):=by
 refine F.okE S (λvs H Q E h=>h.1.trans hm) λcdv A outer s H vs Q E hc hr h=>?_;obtain⟨hl,gb,G,ds,sg,al,q⟩:=h;exact⟨_,hbody cdv A outer s H G E hc hr,G,_,Ah gb sg al,Ext.refl sg,X6 q⟩
section
variable{X:Cx}{B:Hp}{e:Expr}{es:List Expr}{pos p:Pos}{x:Str}
theorem X8{CX:L7}{k:Nat}{f:Addr}{fd:FuncData}{ps:List Str}{ms:List Bool}{fD:List D→Res}{r:En→ResL}{E:XK}(F:FnOk X.prog X.w X.K X.mg X.base CX k f fd ps (Zj (kx X) ms fD))(hr:Room k X.A)(hg:Gl X x)(hm:X.mg x=some (.ref f))(hk:kAc X.K (.ref f)=true)
  (hb:Binds X.K fd ps [])(hx:j9 CX X E)(ha:L6 X B (ek (kx X) E) ms (e::es) r)(hdb:(x==("__debug__":Str))=false:=by decide)(he:starEach (e::es) X.env=(false,eval e X.env)::starEach es X.env:=by rfl)(hpl:(backTo pos (starEach es X.env)).any (·.1)=false:=by rfl):
  L8 X B (ek (kx X) E) (.Call (.Name x p) (e::es) [] pos) (dq fD r):=
 PE.imp (Nd F hr hg hm hk hb .nil hx ha hdb he hpl) λσ H Q ⟨G,δ,R,q⟩=>⟨G,δ,R,(Q1 q).mono λds _ q vs G1 H1 e1 al=>
  ⟨by rw[kB0];exact al.length.2,R.gb.same (R.bh.trans e1.hh),G1,ds,e1.gh,by rw[kB0];exact al,(q.ext e1).mono λd _ ⟨es',hd,q⟩=>⟨es',hd,λa ws G' H' e2 hn gn hh dl=>q a ws G' H' (e1.trans e2) (by
   cases hb:H a with
   |none=>rfl
   |some u=>rw[e1.hh a u hb]at hn;cases hn) gn hh dl⟩⟩⟩
end
structure SC where
 N:List Str
 sc:Scope
 td:List Str
 lam:Bool
structure FS where
 ms:List Bool
 f:List D→Res
structure XT where
 exc:Str→Bool
 sub:Str→Str→Bool
 ve:Str→Bool
 nsub:Str→Str→Bool
structure GT where
 fns:Str→Option FS
 gstr:Str→Option Str
 xs:XT
 lam:Expr→List (Str×D)→List D→Res
 own:Str→Bool
noncomputable def wk:List Str:=["len","list","tuple","int","isinstance","range","all","any","sorted","set","min","max","abs","str","bool","dict","enumerate","zip","reversed","ValueError"]
def Qq(X:Cx):Prop:=∃c P,(c,P,X.env.qual++"<lambda>")∈Lu∧X.env.code=.ref c∧PySem.W.CodeHd X.base c P∧
 (∃bm o,X.mg "__builtins__"=some (.ref bm)∧bm≠builtinsNs∧bm≠mainGlobals∧X.base.get? bm=some o∧o.cls=.type "module"∧o.dict=some builtinsNs∧o.data=.plain)∧
 (∀y c,X.env.cells.lookup y=some c→X.s₀.heap.objs.size≤c)∧∀y∈rk,X.fn y=false
structure RoomL(k:Nat)(A:Around):Prop where
 hd:A.handled=none
 dp:A.depth+3 * k+5<recursionLimit
 un:A.units+16 * k+190<cLine
theorem RoomL.of{k:Nat}{A:Around}(r:Room k A):RoomL k A:=⟨r.hd,r.dp,by have:=r.un;omega⟩
theorem RoomL.depth{k:Nat}{A:Around}(r:RoomL k A):A.depth<recursionLimit:=by have:=r.dp;omega
theorem RoomL.deeper{k:Nat}{A:Around}(r:RoomL (k+1) A)(env:Env):Room k (A.deeper env):=
 ⟨r.hd,by have:=r.dp;show A.depth+1+3 * k+5<_;omega,by have:=r.un;show A.units+3+16 * k+200<_;omega⟩
noncomputable def Qr(P:Program)(w:World)(K:PySem.W.Frag)(mg:Str→Option Value)(base:Heap)(k:Nat)(e:Expr)(fs:List (Str×D))(ds:List D)(d:D):Prop:=
 ∀(A:Around)(outer:List Env)(s:Shared)(H G:Hp)(a:Addr)(us:List Value)(vs:List V)(Q:VK),RoomL k A→Env0 P w K mg base A outer s H→GOk H→Same G H→Den ⟨K,yz mg⟩ G (.obj e fs) (.ref a)→DenL ⟨K,yz mg⟩ G ds vs→Vals vs us→
  (∀v G' H',Ext G H G' H'→Den ⟨K,yz mg⟩ G' d v→Q v H')→codeAny (model P w) A (.call (.ref a) ⟨us,[]⟩) (CR (wg P w) outer P w H s Q E0) s
structure XOk(X:Cx)(C:SC)(T:GT)(E:XK):Prop where
 n:X.N=C.N
 s:X.env.scope=C.sc
 nd:C.N.Nodup
 calm:X.calm=true
 units:X.A.units+65<cLine
 fns:∀x s,T.fns x=some s→∃k f fd ps,Room k X.A∧X.mg x=some (.ref f)∧kAc X.K (.ref f)=true∧Binds X.K fd ps []∧FnOk X.prog X.w X.K X.mg X.base (wg X.prog X.w) k f fd ps (Lo (kx X) s.ms s.f)
 gstr:∀x y,T.gstr x=some y→∃t,X.mg x=some (.str y t)
 bl:∀x∈wk,X.mg x=none
 exc:∀x,T.xs.exc x=true→∃C bm newId,X.mg x=some (.ref C)∧PySem.W.excIn X.K C bm newId=true∧ExBase bm newId
 sub:∀c y,T.xs.sub c y=true→∃Cy,X.mg y=some (.ref Cy)∧PySem.W.exmOne X.K (.ref (yz X.mg c)) (.ref Cy)=some true
 ve:∀c,T.xs.ve c=true→PySem.W.kitCls X.K (.ref (yz X.mg c)) (.type "ValueError")=some true
 nsub:∀c y,T.xs.nsub c y=true→∃Cy,X.mg y=some (.ref Cy)∧PySem.W.exmOne X.K (.ref (yz X.mg c)) (.ref Cy)=some false
 goes:j9 (wg X.prog X.w) X E
 lamc:C.lam=true→Qq X
 lams:∀e fs ds d,T.lam e fs ds=.ok d→∃k,Room k X.A∧Qr X.prog X.w X.K X.mg X.base k e fs ds d
 own:∀x s,T.own x=true→T.fns x=some s→∃k f fd ps,Room k X.A∧X.mg x=some (.ref f)∧kAc X.K (.ref f)=true∧Binds X.K fd ps []∧FnOk X.prog X.w X.K X.mg X.base (wg X.prog X.w) k f fd ps (Zj (kx X) s.ms s.f)
noncomputable def vis(sc:Scope)(x:Str):Bool:=match sc.names.lookup x with
 |some .local=>true
 |some .cell=>true
 |some .free=>true
 |_=>false
theorem L5{sc:Scope}{x:Str}(h:vis sc x=true):Vis sc x:=by
 unfold vis at h;unfold Vis;cases e:sc.names.lookup x with
 |none=>rw[e]at h;cases h
 |some k=>rw[e]at h;cases k<;>first|exact .inl rfl|exact .inr (.inl rfl)|exact .inr (.inr rfl)|cases h
noncomputable def Hl(sc:Scope)(x:Str):Bool:=match sc.names.lookup x with
 |some .local=>true
 |some .cell=>true
 |_=>false
theorem p8{sc:Scope}{x:Str}(h:Hl sc x=true):L2.V6 sc x:=by
 unfold Hl at h;unfold L2.V6;cases e:sc.names.lookup x with
 |none=>rw[e]at h;cases h
 |some k=>rw[e]at h;cases k<;>first|exact .inl rfl|exact .inr rfl|cases h
noncomputable def mq(x:Str):Bool:= !(x==("__debug__":Str)) && !(x==("__classdict__":Str))
theorem qp{x:Str}(h:mq x=true):(x==("__debug__":Str))=false:=by
 unfold mq at h;simp only[kA1,Bool.not_eq_true']at h;exact h.1
theorem vo{x:Str}(h:mq x=true):(x==("__classdict__":Str))=false:=by
 unfold mq at h;simp only[kA1,Bool.not_eq_true']at h;exact h.2
noncomputable def Sv(x:Str):List Str→Nat→Option Nat
 |[],_=>none
 |y::r,i=>if x=y then some i else Sv x r (i+1)
theorem Ew{x:Str}:∀{l:List Str}{i j:Nat},Sv x l i=some j→i≤j∧l[j - i]?=some x
 |[],_,_,h=>by cases h
 |y::r,i,j,h=>by
  unfold Sv at h
  by_cases e:x=y
  ·rw[if_pos e]at h;cases h;subst e;exact⟨kA0 _,by simp⟩
  ·rw[if_neg e]at h;obtain⟨h1,h2⟩:=Ew h;refine⟨by omega,?_⟩;rw[show j - i=(j - (i+1))+1 by omega];simpa using h2
noncomputable def slot(C:SC)(x:Str):Option Nat:=if vis C.sc x && mq x then Sv x C.N 0 else none
theorem ro{C:SC}{x:Str}{i:Nat}(h:slot C x=some i):C.N[i]?=some x∧vis C.sc x=true∧mq x=true:=by
 unfold slot at h
 by_cases e:(vis C.sc x && mq x)=true
 ·rw[if_pos e]at h;rw[kA1]at e;obtain⟨_,q⟩:=Ew h;exact⟨by simpa using q,e.1,e.2⟩
 ·rw[if_neg e]at h;cases h
noncomputable def o6(C:SC)(x:Str):Bool:=decide (C.sc.names.lookup x=some .globalImplicit) && mq x
section
variable{X:Cx}{C:SC}{T:GT}{B:Hp}{E:EK}{x:Str}{i:Nat}{pos:Pos}
theorem XOk.var{E':XK}(O:XOk X C T E')(h:slot C x=some i):PE X (.Name x pos) (Cw i):=by
 obtain⟨h1,h2,h3⟩:=ro h;exact Fl (by rw[O.n];exact h1) (by rw[O.s];exact L5 h2) (qp h3) (vo h3)
theorem XOk.gl{E':XK}(O:XOk X C T E')(h:o6 C x=true):Gl X x∧(x==("__debug__":Str))=false:=by
 unfold o6 at h;rw[kA1]at h;refine⟨?_,qp h.2⟩;show X.env.scope.names.lookup x=_;rw[O.s];exact of_decide_eq_true h.1
end
noncomputable def ja:En→Res:=λ_=>.st
noncomputable def zby:En→ResL:=λ_=>.st
noncomputable def lh:En→Out:=λ_=>.st
section
variable{X:Cx}{B G0:Hp}{E:EK}{e tg:Expr}{es:List Expr}
theorem dh:ff X B E e ja:=λpins s σ H Q I ⟨G,δ,R,q⟩=>q.elim
theorem zgl:L8 X B E e ja:=λpins s σ H Q I ⟨G,δ,R,q⟩=>q.elim
theorem yj:B5 X B E e ja:=λpins s σ H Q I ⟨G,δ,R,q⟩=>q.elim
theorem Z8{ms:List Bool}:L6 X B E ms es zby:=λpos pins s σ H Q I ⟨G,δ,R,q⟩=>q.elim
theorem gu{st:Stmt}:lu X G0 B E st lh:=λpins s σ H D I ⟨G,δ,R,x,q⟩=>q.elim
end
theorem wx{y:Str}:∀{l:List (Str×NameKind)},(y,NameKind.free)∈l↔y∈fq l
 |[]=>by simp[fq]
 |(n,k)::r=>by
  unfold fq
  by_cases h:k=.free
  ·subst h;rw[if_pos rfl,kA6,kA6,wx];constructor
   ·rintro (z|z)
    ·cases z;exact .inl rfl
    ·exact .inr z
   ·rintro (z|z)
    ·subst z;exact .inl rfl
    ·exact .inr z
  ·rw[if_neg h,kA6,wx];constructor
   ·rintro (z|z)
    ·cases z;exact absurd rfl h
    ·exact z
   ·exact .inr
noncomputable def kn(scope sc:Scope):Scope:=
 {scope with names:=scope.names.map λ(n,k)=>if(k==.free && sc.kind==.function && sc.names.lookup n==some .cell)then(n,.cell)else(n,k)}
noncomputable def slots(C:SC):List Str→Option (List Nat)
 |[]=>some []
 |y::r=>match slot C y,slots C r with
  |some i,some is=>some (i::is)
  |_,_=>none
noncomputable def Me(C:SC)(scope:Scope)(y:Str):Bool:=
 (decide (C.sc.names.lookup y=some .cell)||decide (C.sc.names.lookup y=some .free)) &&
 (decide ((kn scope C.sc).names.lookup y=some .cell)||decide ((kn scope C.sc).names.lookup y=some .free))
noncomputable def wt(C:SC)(scope:Scope)(xs:List Str):Bool:=
 decide (scope.kind=.function) && (scope.names.all λy=>decide (y.2≠.cell)) && (scope.names.all λy=> !decide (y.2=.local)||decide (scope.names.lookup y.1=some .local)) &&
 (xs.all λx=>decide (scope.names.lookup x=some .local)) && decide ((xs++fq scope.names).Nodup) && (fq scope.names).all (Me C scope)
theorem Jf{C:SC}:∀{M:List Str}{ix:List Nat},slots C M=some ix→∀{X:Cx}{scope:Scope}{cl:List (Str×Addr)},X.N=C.N→X.env.scope=C.sc→(∀y∈M,∃c,cl.lookup y=some c)→M.all (Me C scope)=true→Caps X scope cl M ix
 |[],ix,h,X,scope,cl,_,_,_,_=>by cases h;exact rfl
 |y::r,ix,h,X,scope,cl,hn,hs,hc,ha=>by
  unfold slots at h;cases e1:slot C y with
  |none=>rw[e1]at h;cases h
  |some i=>
   cases e2:slots C r with
   |none=>rw[e1,e2]at h;cases h
   |some is=>
    rw[e1,e2]at h;cases h;rw[kAm,kA1]at ha;obtain⟨q1,q2,q3⟩:=ro e1;have q4:=ha.1;unfold Me at q4;rw[kA1,Bool.or_eq_true,Bool.or_eq_true,decide_eq_true_eq,decide_eq_true_eq,decide_eq_true_eq,decide_eq_true_eq]at q4;refine⟨i,is,rfl,⟨by rw[hn];exact q1,by rw[hs];exact L5 q2,?_,hc y (kAk),?_⟩,Jf e2 hn hs (λz hz=>hc z (kAl _ hz)) ha.2⟩
    ·show X.env.scope.names.lookup y≠_;rw[hs];rcases q4.1 with z|z<;>rw[z]<;>decide
    ·have:relabel scope X.env=kn scope C.sc:=by
      unfold relabel kn;rw[←hs];rfl
     rw[this];exact q4.2
theorem Je{C:SC}(nd:C.N.Nodup):∀{M:List Str}{ix:List Nat},slots C M=some ix→M.Nodup→ix.Nodup∧∀i∈ix,∃y∈M,C.N[i]?=some y
 |[],ix,h,_=>by cases h;exact⟨List.nodup_nil,λi hi=>by simp at hi⟩
 |y::r,ix,h,hM=>by
  unfold slots at h;cases e1:slot C y with
  |none=>rw[e1]at h;cases h
  |some i=>
   cases e2:slots C r with
   |none=>rw[e1,e2]at h;cases h
   |some is=>
    rw[e1,e2]at h;cases h;obtain⟨m1,m2⟩:=List.nodup_cons.mp hM;obtain⟨n1,n2⟩:=Je nd e2 m2;obtain⟨q1,_,_⟩:=ro e1;refine⟨List.nodup_cons.mpr ⟨λhi=>?_,n1⟩,λj hj=>?_⟩
    ·obtain⟨z,hz,ez⟩:=n2 i hi;rw[q1]at ez;cases ez;exact m1 hz
    ·rcases kA6.mp hj with rfl|hj
     ·exact⟨y,kAk,q1⟩
     ·obtain⟨z,hz,ez⟩:=n2 j hj;exact⟨z,kAl _ hz,ez⟩
theorem pk(env:Env):∀(names:List (Str×NameKind))(cs:List (Str×Addr)),(∀y∈fq names,∃c,env.cells.lookup y=some c)→∃cl,i5 env names cs=some cl
 |[],cs,_=>⟨cs,rfl⟩
 |(n,k)::r,cs,h=>by
  unfold i5
  by_cases hk:k=.free
  ·subst hk;rw[if_pos rfl];obtain⟨c,e⟩:=h n (by unfold fq;rw[if_pos rfl];exact kAk);rw[e];exact pk env r _ λy hy=>h y (by unfold fq;rw[if_pos rfl];exact kAl _ hy)
  ·rw[if_neg hk];exact pk env r cs λy hy=>h y (by unfold fq;rw[if_neg hk];exact hy)
theorem pj(env:Env):∀(names:List (Str×NameKind))(cs cl:List (Str×Addr)),i5 env names cs=some cl→∀y,(cs.lookup y=none)→y∉fq names→cl.lookup y=none
 |[],cs,cl,h,y,q,_=>by cases h;exact q
 |(n,k)::r,cs,cl,h,y,q,m=>by
  unfold i5 at h
  by_cases hk:k=.free
  ·subst hk;rw[if_pos rfl]at h;unfold fq at m;rw[if_pos rfl,kA6,not_or]at m;cases hc:env.cells.lookup n with
   |none=>rw[hc]at h;cases h
   |some c=>
    rw[hc]at h;refine pj env r _ cl h y ?_ m.2;have hb:(y==n)=false:=by simpa using m.1
    rw[List.lookup_cons,hb];exact q
  ·rw[if_neg hk]at h;unfold fq at m;rw[if_neg hk]at m;exact pj env r cs cl h y q m
theorem xy{X:Cx}{C:SC}{T:GT}{scope:Scope}{xs:List Str}{ix:List Nat}{E':XK}(O:XOk X C T E')(ok:X.Ok)(h:wt C scope xs=true)(hx:slots C (fq scope.names)=some ix):∃cl,CompOk X scope cl xs (fq scope.names) ix:=by
 unfold wt at h;simp only[kA1,decide_eq_true_eq]at h;obtain⟨⟨⟨⟨⟨h1,h2⟩,h3⟩,h4⟩,h5⟩,h6⟩:=h;have hcells:∀y∈fq scope.names,∃c,X.env.cells.lookup y=some c:=λy hy=>by
  have q:=List.all_eq_true.mp h6 y hy;unfold Me at q;rw[kA1,Bool.or_eq_true,decide_eq_true_eq,decide_eq_true_eq,←O.s]at q;exact ok.has y q.1
 obtain⟨cl,hcl⟩:=pk X.env scope.names [] hcells;obtain⟨n0,n2,n1⟩:=List.nodup_append.mp h5;have hfree:∀y∈fq scope.names,∃c,cl.lookup y=some c:=λy hy=>ly X.env _ _ cl hcl y (.inr (wx.mpr hy));refine⟨cl,hcl,h1,λy hy=>?_,λy hy e=>?_,λx hx=>of_decide_eq_true (List.all_eq_true.mp h4 x hx),λx hx=>pj X.env _ _ cl hcl x rfl (λhm=>n1 x hx x hm rfl),h5,(Je O.nd hx n2).1,Jf hx O.n O.s hfree h6⟩
 ·exact of_decide_eq_true (List.all_eq_true.mp h2 y hy)
 ·have q:=List.all_eq_true.mp h3 y hy;rw[decide_eq_true e]at q;exact of_decide_eq_true (by simpa using q)
noncomputable def t5(C:SC)(scope:Scope)(xs:List Str):SC:=⟨xs++fq scope.names,kn scope C.sc,[],false⟩
theorem Ac{X:Cx}{C:SC}{T:GT}{scope:Scope}{cl:List (Str×Addr)}{xs:List Str}{E':XK}(O:XOk X C T E')(h:wt C scope xs=true)(Cc s₀ H₀ ex pn):XOk (fj X scope cl (xs++fq scope.names) xs Cc s₀ H₀ ex pn) (t5 C scope xs) T E0 where
 n:=rfl
 s:=by
  show relabel scope X.env=_;unfold relabel;show _=kn scope C.sc;unfold kn;rw[←O.s];rfl
 nd:=by
  unfold wt at h;simp only[kA1,decide_eq_true_eq]at h;exact h.1.2
 calm:=O.calm
 units:=O.units
 fns:=O.fns
 gstr:=O.gstr
 bl:=O.bl
 exc:=O.exc
 sub:=O.sub
 ve:=O.ve
 nsub:=O.nsub
 goes:=xh
 lamc:=λh=>by cases h
 lams:=O.lams
 own:=O.own
theorem XOk.none{X:Cx}{C:SC}{T:GT}{E:XK}(O:XOk X C T E):XOk X C T E0:=⟨O.n,O.s,O.nd,O.calm,O.units,O.fns,O.gstr,O.bl,O.exc,O.sub,O.ve,O.nsub,xh,O.lamc,O.lams,O.own⟩
theorem XOk.nox{X:Cx}{C:SC}{T:GT}{E:XK}(O:XOk X C T E):XOk X.nox C T E0:=⟨O.n,O.s,O.nd,O.calm,O.units,O.fns,O.gstr,O.bl,O.exc,O.sub,O.ve,O.nsub,xh,O.lamc,O.lams,O.own⟩
end Pu
end
section
namespace Pu
open PySem PySem.Spec PyProof.Rows L2 PySem.SeqAt
noncomputable def zbb(A:Around)(s:Shared)(y x:Value)(b:Bool):Prop:=
 ∀(prog:Program)(w:World)(E:Value→Shared→Prop)(Q:Value→Shared→Prop),Q (.bool b) s→wpAny (model prog w) A (richCompare .Lt y x) Q E s
noncomputable def lr(e c:Nat→Bool)(fin:Bool):List Nat→Bool
 |[]=>fin
 |i::r=>if e i then lr e c fin r else c i
theorem ze0(l m:Addr)(xs ys:Array Value)(n k:Nat)(dd dm:Option Addr)(sl sm:Array (Option Value))(e c:Nat→Bool):
  Meets (Builtin.«tuple.__lt__» ⟨[.ref l,.ref m],[]⟩) (λA R s=>
   s.heap.get? l=some {cls:=.type "tuple",dict:=dd,data:=.seq xs n,slots:=sl}∧
   s.heap.get? m=some {cls:=.type "tuple",dict:=dm,data:=.seq ys k,slots:=sm}∧
   (∀j (p:j<xs.size) (q:j<ys.size),EqAt A.in1 s xs[j] ys[j] (e j)∧(e j=false→zbb A.in1 s xs[j] ys[j] (c j)))∧
   R (.ok (.ret (.bool (lr e c (decide (xs.size<ys.size)) (kA5 (min xs.size ys.size)))))) s):=
 .of_wp λprog w A R s h=>by
  obtain⟨hp,g,d,tk,os⟩:=s;obtain⟨hl,hm,he,h⟩:=h;have f2:=AutoSeq1.sub_tuple_tuple;have hZ:(xs.toList.zip ys.toList).length=min xs.size ys.size:=by simp
  wp_walk using wpAny_loadPart' hl,wpAny_loadPart' hm,wpAny_forIn_list _ (λbg b s'=>b.1=none∧s'=⟨hp,g,d,tk,os⟩∧∃i,
   bg=(xs.toList.zip ys.toList).drop i∧R (.ok (.ret (.bool (lr e c (decide (xs.size<ys.size)) ((kA5 (min xs.size ys.size)).drop i))))) ⟨hp,g,d,tk,os⟩) _
  case turn=>
   rintro ⟨y,x⟩ bg b s' ⟨hb',rfl,i,hz,hR⟩
   have lt0:i<(xs.toList.zip ys.toList).length:=by
    by_cases z:i<(xs.toList.zip ys.toList).length
    ·exact z
    ·rw[List.drop_of_length_le (Nat.le_of_not_lt z)]at hz;cases hz
   have lt1:i<min xs.size ys.size:=by rw[←hZ];exact lt0
   have p:i<xs.size:=by omega
   have q:i<ys.size:=by omega
   rw[kBg lt0]at hz;injection hz with hyx hrest
   obtain rfl:y=xs[i]:=by simpa using congrArg Prod.fst hyx
   obtain rfl:x=ys[i]:=by simpa using congrArg Prod.snd hyx
   have hd:(kA5 (min xs.size ys.size)).drop i=i::(kA5 (min xs.size ys.size)).drop (i+1):=by simp[kBg,lt1]
   rw[hd]at hR;refine wpAny_bind ((he i p q).1 prog w _ _ ?_);cases hy:e i with
   |true=>
    simp only[lr,hy,if_true]at hR
    wp_walk
    exact⟨rfl,rfl,i+1,hrest,hR⟩
   |false=>
    simp only[lr,hy,kA9,if_false]at hR;rw[if_pos (show(!false)=true from rfl)];refine wpAny_bind (wpAny_rule (wpAny_bind ((he i p q).2 hy prog w _ _ ?_)))
    wp_walk
    exact⟨_,rfl,hR⟩
  case fin=>
   rintro ⟨b1,b2⟩ s' ⟨hb',rfl,i,hz,hR⟩
   simp only at hb';subst hb';have ge0:min xs.size ys.size≤i:=by
    by_cases z:i<(xs.toList.zip ys.toList).length
    ·rw[kBg z]at hz;cases hz
    ·omega
   rw[List.drop_of_length_le (by simpa using ge0)]at hR
   wp_walk
   exact⟨_,rfl,by simpa[Builtin.Tuple.tupleCompareSizes,lr]using hR⟩
  case h=>exact⟨rfl,rfl,0,rfl,by simpa using h⟩
mutual
noncomputable def S7:PyData→PyData→Option Bool
 |.int i,.int j=>some (decide (i<j))
 |.str x,.str y=>some (decide (x.cps.toList<y.cps.toList))
 |.tuple xs,.tuple ys=>fk xs ys
 |_,_=>none
noncomputable def fk:List PyData→List PyData→Option Bool
 |[],[]=>some false
 |[],_::_=>some true
 |_::_,[]=>some false
 |x::xs,y::ys=>match S7 x y,fk xs ys with
  |some a,some b=>some (if PyData.eqv x y then b else a)
  |_,_=>none
end
noncomputable def oi(xs ys:List PyData)(j:Nat):Bool:=match xs[j]?,ys[j]? with
 |some x,some y=>(S7 x y).getD false
 |_,_=>false
theorem qf{x y:PyData}{xs ys:List PyData}{c:Bool}(h:fk (x::xs) (y::ys)=some c):∃a b,S7 x y=some a∧fk xs ys=some b∧c=if PyData.eqv x y then b else a:=by
 rw[fk]at h;cases h1:S7 x y with
 |none=>rw[h1]at h;cases h
 |some a=>
  cases h2:fk xs ys with
  |none=>rw[h1,h2]at h;cases h
  |some b=>rw[h1,h2]at h;cases h;exact⟨a,b,rfl,rfl,rfl⟩
theorem uc{e c:Nat→Bool}{fin:Bool}:∀l:List Nat,lr e c fin (l.map (· +1))=lr (λj=>e (j+1)) (λj=>c (j+1)) fin l
 |[]=>rfl
 |i::r=>by
  rw[kA4];unfold lr;rw[uc r]
theorem M3:∀{xs ys:List PyData}{c:Bool},fk xs ys=some c→lr (pairEq xs ys) (oi xs ys) (decide (xs.length<ys.length)) (kA5 (min xs.length ys.length))=c
 |[],[],c,h=>by cases h;rfl
 |[],_::_,c,h=>by cases h;simp[lr]
 |_::_,[],c,h=>by cases h;simp[lr]
 |x::xs,y::ys,c,h=>by
  obtain⟨a,b,h1,h2,rfl⟩:=qf h;have e:min (x::xs).length (y::ys).length=min xs.length ys.length+1:=by simp
  have ih:=M3 h2;rw[e,List.range_succ_eq_map];unfold lr;have e0:pairEq (x::xs) (y::ys) 0=PyData.eqv x y:=rfl;have c0:oi (x::xs) (y::ys) 0=a:=by simp[oi,h1]
  rw[e0,c0,show(Nat.succ:Nat→Nat)=(· +1)from rfl,uc];have d:(decide ((x::xs).length<(y::ys).length))=decide (xs.length<ys.length):=by simp
  rw[d];have e1:(λj=>pairEq (x::xs) (y::ys) (j+1))=pairEq xs ys:=rfl;have c1:(λj=>oi (x::xs) (y::ys) (j+1))=oi xs ys:=rfl;rw[e1,c1,ih]
mutual
theorem ud:∀(da db:PyData)(A:Around)(s:Shared)(a b:Value)(as bs:List Addr)(c:Bool),Reads s.heap a da as→Reads s.heap b db bs→da.canLay0=true→db.canLay0=true→A.units+min da.depth db.depth<cLine→
  S7 da db=some c→zbb A s a b c
 |.int i,.int j,A,s,_,_,_,_,c,ra,rb,ha,hb,hu,h=>by
  cases ra;cases rb;cases h;exact λprog w E Q q=>(show wpAny _ _ (compareOp .Lt _ _) _ _ _ from PyProof.Rows.lt_int q)
 |.str i,.str j,A,s,_,_,_,_,c,ra,rb,ha,hb,hu,h=>by
  cases ra;cases rb;cases h;exact λprog w E Q q=>(show wpAny _ _ (compareOp .Lt _ _) _ _ _ from PyProof.Rows.lt_str q)
 |.tuple xs,.tuple ys,A,s,_,_,_,_,c,ra,rb,ha,hb,hu,h=>by
  cases ra with
  |@tuple l o vs n _ as₁ h1 h2 h3 h4=>
   cases rb with
   |@tuple l' o' vs' n' _ bs₁ k1 k2 k3 k4=>
    have h':fk xs ys=some c:=h;have n1:vs.size=xs.length:=by simpa using ReadsAll.length _ _ _ h4
    have n2:vs'.size=ys.length:=by simpa using ReadsAll.length _ _ _ k4
    obtain⟨cl,dd,dt,sl⟩:=o;obtain⟨cl',dd',dt',sl'⟩:=o';simp only at h2 h3 k2 k3;subst h2 h3 k2 k3;intro prog w E Q q;refine richCompare_meets_room (op:=.Lt) ⟨_,h1,rfl⟩ ⟨_,k1,rfl⟩ F.slot_tuple_lt F.entry_tuple_lt (F.args_tuple_lt_2 _ _) (ze0 l l' vs vs' n n' dd dd' sl sl' (pairEq xs ys) (oi xs ys)) ⟨h1,k1,λj p r=>⟨?_,λ_=>?_⟩,?_⟩ (room_here hu)
    ·have z:=eqAt_readsAll xs ys A.in1 s vs.toList vs'.toList _ _ h4 k4 ha hb (room_in hu) j (by simpa using p) (by simpa using r);simpa using z
    ·have z:=su xs ys A.in1 s vs.toList vs'.toList _ _ c h4 k4 ha hb (room_in hu) h' j (by simpa using p) (by simpa using r);simpa using z
    ·have e:=M3 h';rw[←n1,←n2]at e;rw[e];exact show Value.bool c≠Value.notImplemented∧Q (.bool c) s from⟨(λx=>nomatch x),q⟩
 |.none,_,_,_,_,_,_,_,_,_,_,_,_,_,h=>by cases h
 |.bool _,_,_,_,_,_,_,_,_,_,_,_,_,_,h=>by cases h
 |.list _,_,_,_,_,_,_,_,_,_,_,_,_,_,h=>by cases h
 |.dict _,_,_,_,_,_,_,_,_,_,_,_,_,_,h=>by cases h
 |.int _,.none,_,_,_,_,_,_,_,_,_,_,_,_,h=>by cases h
 |.int _,.bool _,_,_,_,_,_,_,_,_,_,_,_,_,h=>by cases h
 |.int _,.str _,_,_,_,_,_,_,_,_,_,_,_,_,h=>by cases h
 |.int _,.list _,_,_,_,_,_,_,_,_,_,_,_,_,h=>by cases h
 |.int _,.tuple _,_,_,_,_,_,_,_,_,_,_,_,_,h=>by cases h
 |.int _,.dict _,_,_,_,_,_,_,_,_,_,_,_,_,h=>by cases h
 |.str _,.none,_,_,_,_,_,_,_,_,_,_,_,_,h=>by cases h
 |.str _,.bool _,_,_,_,_,_,_,_,_,_,_,_,_,h=>by cases h
 |.str _,.int _,_,_,_,_,_,_,_,_,_,_,_,_,h=>by cases h
 |.str _,.list _,_,_,_,_,_,_,_,_,_,_,_,_,h=>by cases h
 |.str _,.tuple _,_,_,_,_,_,_,_,_,_,_,_,_,h=>by cases h
 |.str _,.dict _,_,_,_,_,_,_,_,_,_,_,_,_,h=>by cases h
 |.tuple _,.none,_,_,_,_,_,_,_,_,_,_,_,_,h=>by cases h
 |.tuple _,.bool _,_,_,_,_,_,_,_,_,_,_,_,_,h=>by cases h
 |.tuple _,.int _,_,_,_,_,_,_,_,_,_,_,_,_,h=>by cases h
 |.tuple _,.str _,_,_,_,_,_,_,_,_,_,_,_,_,h=>by cases h
 |.tuple _,.list _,_,_,_,_,_,_,_,_,_,_,_,_,h=>by cases h
 |.tuple _,.dict _,_,_,_,_,_,_,_,_,_,_,_,_,h=>by cases h
theorem su:∀(xs ys:List PyData)(A:Around)(s:Shared)(vs ws:List Value)(as bs:List Addr)(c:Bool),ReadsAll s.heap vs xs as→ReadsAll s.heap ws ys bs→PyData.canLayAll0 xs=true→PyData.canLayAll0 ys=true→
  A.units+min (PyData.depthAll xs) (PyData.depthAll ys)<cLine→fk xs ys=some c→∀j (p:j<vs.length) (q:j<ws.length),zbb A s vs[j] ws[j] (oi xs ys j)
 |[],_,_,_,_,_,_,_,_,ra,_,_,_,_,_,j,p,_=>by cases ra;exact absurd p (Nat.not_lt_zero _)
 |_::_,[],_,_,_,_,_,_,_,_,rb,_,_,_,_,j,_,q=>by cases rb;exact absurd q (Nat.not_lt_zero _)
 |x::xs,y::ys,A,s,_,_,_,_,c,ra,rb,ha,hb,hu,h,j,p,q=>by
  have ha':x.canLay0=true∧PyData.canLayAll0 xs=true:=by simpa[PyData.canLayAll0]using ha
  have hb':y.canLay0=true∧PyData.canLayAll0 ys=true:=by simpa[PyData.canLayAll0]using hb
  obtain⟨a,b,h1,h2,_⟩:=qf h;cases ra with
  |cons r rs=>
   cases rb with
   |cons r' rs'=>
    cases j with
    |zero=>
     have e:oi (x::xs) (y::ys) 0=a:=by simp[oi,h1]
     rw[e];exact ud x y A s _ _ _ _ a r r' ha'.1 hb'.1 (room_head hu) h1
    |succ j=>exact su xs ys A s _ _ _ _ b rs rs' ha'.2 hb'.2 (room_tail hu) h2 j (Nat.lt_of_succ_lt_succ p) (Nat.lt_of_succ_lt_succ q)
end
noncomputable def zba(A:Around)(s:Shared)(y x:Value)(b:Bool):Prop:=
 ∀(prog:Program)(w:World)(E:Value→Shared→Prop)(Q:Value→Shared→Prop),Q (.bool b) s→wpAny (model prog w) A (richCompare .LtE y x) Q E s
theorem zez(l m:Addr)(xs ys:Array Value)(n k:Nat)(dd dm:Option Addr)(sl sm:Array (Option Value))(e c:Nat→Bool):
  Meets (Builtin.«tuple.__le__» ⟨[.ref l,.ref m],[]⟩) (λA R s=>
   s.heap.get? l=some {cls:=.type "tuple",dict:=dd,data:=.seq xs n,slots:=sl}∧
   s.heap.get? m=some {cls:=.type "tuple",dict:=dm,data:=.seq ys k,slots:=sm}∧
   (∀j (p:j<xs.size) (q:j<ys.size),EqAt A.in1 s xs[j] ys[j] (e j)∧(e j=false→zba A.in1 s xs[j] ys[j] (c j)))∧
   R (.ok (.ret (.bool (lr e c (decide (xs.size≤ys.size)) (kA5 (min xs.size ys.size)))))) s):=
 .of_wp λprog w A R s h=>by
  obtain⟨hp,g,d,tk,os⟩:=s;obtain⟨hl,hm,he,h⟩:=h;have f2:=AutoSeq1.sub_tuple_tuple;have hZ:(xs.toList.zip ys.toList).length=min xs.size ys.size:=by simp
  wp_walk using wpAny_loadPart' hl,wpAny_loadPart' hm,wpAny_forIn_list _ (λbg b s'=>b.1=none∧s'=⟨hp,g,d,tk,os⟩∧∃i,
   bg=(xs.toList.zip ys.toList).drop i∧R (.ok (.ret (.bool (lr e c (decide (xs.size≤ys.size)) ((kA5 (min xs.size ys.size)).drop i))))) ⟨hp,g,d,tk,os⟩) _
  case turn=>
   rintro ⟨y,x⟩ bg b s' ⟨hb',rfl,i,hz,hR⟩
   have lt0:i<(xs.toList.zip ys.toList).length:=by
    by_cases z:i<(xs.toList.zip ys.toList).length
    ·exact z
    ·rw[List.drop_of_length_le (Nat.le_of_not_lt z)]at hz;cases hz
   have lt1:i<min xs.size ys.size:=by rw[←hZ];exact lt0
   have p:i<xs.size:=by omega
   have q:i<ys.size:=by omega
   rw[kBg lt0]at hz;injection hz with hyx hrest
   obtain rfl:y=xs[i]:=by simpa using congrArg Prod.fst hyx
   obtain rfl:x=ys[i]:=by simpa using congrArg Prod.snd hyx
   have hd:(kA5 (min xs.size ys.size)).drop i=i::(kA5 (min xs.size ys.size)).drop (i+1):=by simp[kBg,lt1]
   rw[hd]at hR;refine wpAny_bind ((he i p q).1 prog w _ _ ?_);cases hy:e i with
   |true=>
    simp only[lr,hy,if_true]at hR
    wp_walk
    exact⟨rfl,rfl,i+1,hrest,hR⟩
   |false=>
    simp only[lr,hy,kA9,if_false]at hR;rw[if_pos (show(!false)=true from rfl)];refine wpAny_bind (wpAny_rule (wpAny_bind ((he i p q).2 hy prog w _ _ ?_)))
    wp_walk
    exact⟨_,rfl,hR⟩
  case fin=>
   rintro ⟨b1,b2⟩ s' ⟨hb',rfl,i,hz,hR⟩
   simp only at hb';subst hb';have ge0:min xs.size ys.size≤i:=by
    by_cases z:i<(xs.toList.zip ys.toList).length
    ·rw[kBg z]at hz;cases hz
    ·omega
   rw[List.drop_of_length_le (by simpa using ge0)]at hR
   wp_walk
   exact⟨_,rfl,by simpa[Builtin.Tuple.tupleCompareSizes,lr]using hR⟩
  case h=>exact⟨rfl,rfl,0,rfl,by simpa using h⟩
mutual
noncomputable def S5:PyData→PyData→Option Bool
 |.int i,.int j=>some (decide (i≤j))
 |.str x,.str y=>some (!decide (y.cps.toList<x.cps.toList))
 |.tuple xs,.tuple ys=>fy xs ys
 |_,_=>none
noncomputable def fy:List PyData→List PyData→Option Bool
 |[],[]=>some true
 |[],_::_=>some true
 |_::_,[]=>some false
 |x::xs,y::ys=>match S5 x y,fy xs ys with
  |some a,some b=>some (if PyData.eqv x y then b else a)
  |_,_=>none
end
noncomputable def oh(xs ys:List PyData)(j:Nat):Bool:=match xs[j]?,ys[j]? with
 |some x,some y=>(S5 x y).getD false
 |_,_=>false
theorem ye{x y:PyData}{xs ys:List PyData}{c:Bool}(h:fy (x::xs) (y::ys)=some c):∃a b,S5 x y=some a∧fy xs ys=some b∧c=if PyData.eqv x y then b else a:=by
 rw[fy]at h;cases h1:S5 x y with
 |none=>rw[h1]at h;cases h
 |some a=>
  cases h2:fy xs ys with
  |none=>rw[h1,h2]at h;cases h
  |some b=>rw[h1,h2]at h;cases h;exact⟨a,b,rfl,rfl,rfl⟩
theorem Hx:∀{xs ys:List PyData}{c:Bool},fy xs ys=some c→lr (pairEq xs ys) (oh xs ys) (decide (xs.length≤ys.length)) (kA5 (min xs.length ys.length))=c
 |[],[],c,h=>by cases h;rfl
 |[],_::_,c,h=>by cases h;simp[lr]
 |_::_,[],c,h=>by cases h;simp[lr]
 |x::xs,y::ys,c,h=>by
  obtain⟨a,b,h1,h2,rfl⟩:=ye h;have e:min (x::xs).length (y::ys).length=min xs.length ys.length+1:=by simp
  have ih:=Hx h2;rw[e,List.range_succ_eq_map];unfold lr;have e0:pairEq (x::xs) (y::ys) 0=PyData.eqv x y:=rfl;have c0:oh (x::xs) (y::ys) 0=a:=by simp[oh,h1]
  rw[e0,c0,show(Nat.succ:Nat→Nat)=(· +1)from rfl,uc];have d:(decide ((x::xs).length≤(y::ys).length))=decide (xs.length≤ys.length):=by simp
  rw[d];have e1:(λj=>pairEq (x::xs) (y::ys) (j+1))=pairEq xs ys:=rfl;have c1:(λj=>oh (x::xs) (y::ys) (j+1))=oh xs ys:=rfl;rw[e1,c1,ih]
mutual
theorem Av:∀(da db:PyData)(A:Around)(s:Shared)(a b:Value)(as bs:List Addr)(c:Bool),Reads s.heap a da as→Reads s.heap b db bs→da.canLay0=true→db.canLay0=true→A.units+min da.depth db.depth<cLine→
  S5 da db=some c→zba A s a b c
 |.int i,.int j,A,s,_,_,_,_,c,ra,rb,ha,hb,hu,h=>by
  cases ra;cases rb;cases h;exact λprog w E Q q=>(show wpAny _ _ (compareOp .LtE _ _) _ _ _ from PyProof.Rows.le_int q)
 |.str i,.str j,A,s,_,_,_,_,c,ra,rb,ha,hb,hu,h=>by
  cases ra;cases rb;cases h;exact λprog w E Q q=>(show wpAny _ _ (compareOp .LtE _ _) _ _ _ from PySem.P.le_str q)
 |.tuple xs,.tuple ys,A,s,_,_,_,_,c,ra,rb,ha,hb,hu,h=>by
  cases ra with
  |@tuple l o vs n _ as₁ h1 h2 h3 h4=>
   cases rb with
   |@tuple l' o' vs' n' _ bs₁ k1 k2 k3 k4=>
    have h':fy xs ys=some c:=h;have n1:vs.size=xs.length:=by simpa using ReadsAll.length _ _ _ h4
    have n2:vs'.size=ys.length:=by simpa using ReadsAll.length _ _ _ k4
    obtain⟨cl,dd,dt,sl⟩:=o;obtain⟨cl',dd',dt',sl'⟩:=o';simp only at h2 h3 k2 k3;subst h2 h3 k2 k3;intro prog w E Q q;refine richCompare_meets_room (op:=.LtE) ⟨_,h1,rfl⟩ ⟨_,k1,rfl⟩ F.slot_tuple_le F.entry_tuple_le (F.args_tuple_le_2 _ _) (zez l l' vs vs' n n' dd dd' sl sl' (pairEq xs ys) (oh xs ys)) ⟨h1,k1,λj p r=>⟨?_,λ_=>?_⟩,?_⟩ (room_here hu)
    ·have z:=eqAt_readsAll xs ys A.in1 s vs.toList vs'.toList _ _ h4 k4 ha hb (room_in hu) j (by simpa using p) (by simpa using r);simpa using z
    ·have z:=sr xs ys A.in1 s vs.toList vs'.toList _ _ c h4 k4 ha hb (room_in hu) h' j (by simpa using p) (by simpa using r);simpa using z
    ·have e:=Hx h';rw[←n1,←n2]at e;rw[e];exact show Value.bool c≠Value.notImplemented∧Q (.bool c) s from⟨(λx=>nomatch x),q⟩
 |.none,_,_,_,_,_,_,_,_,_,_,_,_,_,h=>by cases h
 |.bool _,_,_,_,_,_,_,_,_,_,_,_,_,_,h=>by cases h
 |.list _,_,_,_,_,_,_,_,_,_,_,_,_,_,h=>by cases h
 |.dict _,_,_,_,_,_,_,_,_,_,_,_,_,_,h=>by cases h
 |.int _,.none,_,_,_,_,_,_,_,_,_,_,_,_,h=>by cases h
 |.int _,.bool _,_,_,_,_,_,_,_,_,_,_,_,_,h=>by cases h
 |.int _,.str _,_,_,_,_,_,_,_,_,_,_,_,_,h=>by cases h
 |.int _,.list _,_,_,_,_,_,_,_,_,_,_,_,_,h=>by cases h
 |.int _,.tuple _,_,_,_,_,_,_,_,_,_,_,_,_,h=>by cases h
 |.int _,.dict _,_,_,_,_,_,_,_,_,_,_,_,_,h=>by cases h
 |.str _,.none,_,_,_,_,_,_,_,_,_,_,_,_,h=>by cases h
 |.str _,.bool _,_,_,_,_,_,_,_,_,_,_,_,_,h=>by cases h
 |.str _,.int _,_,_,_,_,_,_,_,_,_,_,_,_,h=>by cases h
 |.str _,.list _,_,_,_,_,_,_,_,_,_,_,_,_,h=>by cases h
 |.str _,.tuple _,_,_,_,_,_,_,_,_,_,_,_,_,h=>by cases h
 |.str _,.dict _,_,_,_,_,_,_,_,_,_,_,_,_,h=>by cases h
 |.tuple _,.none,_,_,_,_,_,_,_,_,_,_,_,_,h=>by cases h
 |.tuple _,.bool _,_,_,_,_,_,_,_,_,_,_,_,_,h=>by cases h
 |.tuple _,.int _,_,_,_,_,_,_,_,_,_,_,_,_,h=>by cases h
 |.tuple _,.str _,_,_,_,_,_,_,_,_,_,_,_,_,h=>by cases h
 |.tuple _,.list _,_,_,_,_,_,_,_,_,_,_,_,_,h=>by cases h
 |.tuple _,.dict _,_,_,_,_,_,_,_,_,_,_,_,_,h=>by cases h
theorem sr:∀(xs ys:List PyData)(A:Around)(s:Shared)(vs ws:List Value)(as bs:List Addr)(c:Bool),ReadsAll s.heap vs xs as→ReadsAll s.heap ws ys bs→PyData.canLayAll0 xs=true→PyData.canLayAll0 ys=true→
  A.units+min (PyData.depthAll xs) (PyData.depthAll ys)<cLine→fy xs ys=some c→∀j (p:j<vs.length) (q:j<ws.length),zba A s vs[j] ws[j] (oh xs ys j)
 |[],_,_,_,_,_,_,_,_,ra,_,_,_,_,_,j,p,_=>by cases ra;exact absurd p (Nat.not_lt_zero _)
 |_::_,[],_,_,_,_,_,_,_,_,rb,_,_,_,_,j,_,q=>by cases rb;exact absurd q (Nat.not_lt_zero _)
 |x::xs,y::ys,A,s,_,_,_,_,c,ra,rb,ha,hb,hu,h,j,p,q=>by
  have ha':x.canLay0=true∧PyData.canLayAll0 xs=true:=by simpa[PyData.canLayAll0]using ha
  have hb':y.canLay0=true∧PyData.canLayAll0 ys=true:=by simpa[PyData.canLayAll0]using hb
  obtain⟨a,b,h1,h2,_⟩:=ye h;cases ra with
  |cons r rs=>
   cases rb with
   |cons r' rs'=>
    cases j with
    |zero=>
     have e:oh (x::xs) (y::ys) 0=a:=by simp[oh,h1]
     rw[e];exact Av x y A s _ _ _ _ a r r' ha'.1 hb'.1 (room_head hu) h1
    |succ j=>exact sr xs ys A s _ _ _ _ b rs rs' ha'.2 hb'.2 (room_tail hu) h2 j (Nat.lt_of_succ_lt_succ p) (Nat.lt_of_succ_lt_succ q)
end
noncomputable def ltD(d e:D):Option Bool:=match dj d,dj e with
 |some p,some q=>if SeqAt.shaped p && SeqAt.shaped q then S7 p q else none
 |_,_=>none
noncomputable def leD(d e:D):Option Bool:=match dj d,dj e with
 |some p,some q=>if SeqAt.shaped p && SeqAt.shaped q then S5 p q else none
 |_,_=>none
noncomputable def qz(d e:D):Option D:=match zar d e with
 |some r=>some r
 |none=>(ltD d e).map .bl
noncomputable def qu(d e:D):Option D:=match zg1 d e with
 |some r=>some r
 |none=>(leD d e).map .bl
theorem Dp{f:PyData→PyData→Option Bool}{d e:D}{b:Bool}(h:(match dj d,dj e with
 |some p,some q=>if(SeqAt.shaped p && SeqAt.shaped q)=true then f p q else none
 |_,_=>none)=some b):∃p q,dj d=some p∧dj e=some q∧SeqAt.shaped p=true∧SeqAt.shaped q=true∧f p q=some b:=by
 cases e1:dj d with
 |none=>rw[e1]at h;cases h
 |some p=>
  cases e2:dj e with
  |none=>rw[e1,e2]at h;cases h
  |some q=>
   rw[e1,e2]at h;dsimp only at h
   by_cases hs:(SeqAt.shaped p && SeqAt.shaped q)=true
   ·rw[if_pos hs]at h;rw[kA1]at hs;exact⟨p,q,rfl,rfl,hs.1,hs.2,h⟩
   ·rw[if_neg hs]at h;cases h
section
variable{X:Cx}
noncomputable def zd2(K:KA)(f:D→D→Option Bool):R2:=λx y H Q=>∃G dx dy b,Same G H∧Arg K G H dx x∧Arg K G H dy y∧f dx dy=some b∧Q (.bl b) H
theorem zcp(hu:X.A.units+64<cLine):OpR X (compareOp .Lt) (zd2 (kx X) ltD):=by
 intro pins s σ H x y v u Q I rx ry q;obtain⟨G,dx,dy,b,sg,ax,ay,eb,q⟩:=q;obtain⟨p,p',e1,e2,s1,s2,eb⟩:=Dp eb;obtain⟨as,ra⟩:=cv I sg ax rx e1;obtain⟨bs,rb⟩:=cv I sg ay ry e2;exact ud p p' X.A s v u as bs b ra rb (canLay_of_shaped s1) (canLay_of_shaped s2) (room_of_shaped s1 hu) eb X.prog X.w _ _ ⟨.bl b,H,I,rfl,q⟩
theorem zco(hu:X.A.units+64<cLine):OpR X (compareOp .LtE) (zd2 (kx X) leD):=by
 intro pins s σ H x y v u Q I rx ry q;obtain⟨G,dx,dy,b,sg,ax,ay,eb,q⟩:=q;obtain⟨p,p',e1,e2,s1,s2,eb⟩:=Dp eb;obtain⟨as,ra⟩:=cv I sg ax rx e1;obtain⟨bs,rb⟩:=cv I sg ay ry e2;exact Av p p' X.A s v u as bs b ra rb (canLay_of_shaped s1) (canLay_of_shaped s2) (room_of_shaped s1 hu) eb X.prog X.w _ _ ⟨.bl b,H,I,rfl,q⟩
theorem Iw{K:KA}{c:Int→Int→Bool}{f:D→D→Option Bool}{g:D→D→Option D}(hg:∀d e,g d e=match s8 c d e with
 |some r=>some r
 |none=>(f d e).map .bl):gc K g (λx y H Q=>Ur (λi j=>.bl (c i j)) x y H Q∨zd2 K f x y H Q):=λG H x y dx dy d sg ax ay ed Q q=>by
 rw[hg]at ed;cases h:s8 c dx dy with
 |some r=>rw[h]at ed;cases ed;exact .inl (Bf G H x y dx dy d sg ax ay h Q q)
 |none=>
  rw[h]at ed;cases e:f dx dy with
  |none=>rw[e]at ed;cases ed
  |some b=>rw[e]at ed;cases ed;exact .inr ⟨G,dx,dy,b,sg,ax,ay,e,q _ G H (Ext.refl sg) rfl⟩
theorem Tq{c:Int→Int→Bool}{f:D→D→Option Bool}{g:D→D→Option D}(hg:∀d e,g d e=match s8 c d e with
 |some r=>some r
 |none=>(f d e).map .bl) (x y d:D) (ed:g x y=some d):∃b,d=.bl b:=by
 rw[hg]at ed;cases h:s8 c x y with
 |some r=>rw[h]at ed;cases ed;exact J7 _ _ _ h
 |none=>rw[h]at ed;exact A1 (f:=id) ed
end
end Pu
end
section
namespace Pu
open PySem PySem.Spec PyProof.Rows L2
noncomputable abbrev Ev:=SC→Expr→En→Res
def fw(T:GT)(ev:Ev):Prop:=∀X C B (E:XK) e,XOk X C T E→ff X B (ek (kx X) E) e (ev C e)
def B6(T:GT)(tv:Ev):Prop:=∀X C B (E:XK) e,XOk X C T E→B5 X B (ek (kx X) E) e (tv C e)
section
variable{X:Cx}{B:Hp}{E:EK}{e a b:Expr}{es:List Expr}{g h:En→Res}{pos:Pos}
noncomputable def Dt:D→Option D
 |.int i=>some (.int (-i))
 |_=>none
theorem zdp(ha:iz X B E a g):ff X B E (.UnaryOp .USub a pos) (g1 Dt g):=zgy ze2 (λG H x dx d sg ax ed Q q=>by
 cases dx with
 |int i=>cases ed;exact⟨i,ax.int,q _ G H (Ext.refl sg) rfl⟩
 |_=>cases ed) ha
noncomputable def Hm:D→Bool
 |.non=>true
 |_=>false
noncomputable def Ds:D→D→Option D
 |d,.non=>some (.bl (Hm d))
 |.bl b,.bl c=>some (.bl (b==c))
 |.non,.bl _=>some (.bl false)
 |_,_=>none
noncomputable def m9:D→D→Option D
 |d,.non=>some (.bl (!Hm d))
 |.bl b,.bl c=>some (.bl (!(b==c)))
 |.non,.bl _=>some (.bl true)
 |_,_=>none
theorem xt{K:KA}{G H:Hp}{d:D}{v:V}(h:Arg K G H d v):decide (v=.non)=Hm d:=by
 rcases h with h|⟨ds,a,vs,rfl,rfl,_⟩|⟨t,kvs,a,rfl,rfl,_⟩
 ·cases d with
  |non=>cases (show v=.non from h);rfl
  |bl b=>cases (show v=.bl b from h);rfl
  |int b=>cases (show v=.int b from h);rfl
  |str b=>cases (show v=.str b from h);rfl
  |tup ds=>obtain⟨a,vs,rfl,_⟩:=h;rfl
  |lst ds=>obtain⟨a,vs,rfl,_⟩:=h;rfl
  |dct t kvs=>obtain⟨a,rfl,_⟩:=h;rfl
  |obj C fs=>obtain⟨a,vs,rfl,_⟩:=h;rfl
  |fn f=>cases (show v=.ref _ from h);rfl
 ·rfl
 ·rfl
noncomputable def Y4(f:Bool→Bool):R2:=λx y H Q=>(∃b c,x=.bl b∧y=.bl c∧Q (.bl (f (b==c))) H)∨∃c,x=.non∧y=.bl c∧Q (.bl (f false)) H
theorem zcm:OpR X (compareOp .Is) (Y4 id):=by
 intro pins s σ H x y v u Q I rx ry h;rcases h with ⟨b,c,rfl,rfl,q⟩|⟨c,rfl,rfl,q⟩
 ·cases rx;cases ry;exact wpAny_is_plain rfl ⟨.bl (b==c),H,I,(by cases b<;>cases c<;>rfl),q⟩
 ·cases rx;cases ry;exact wpAny_is_plain rfl ⟨.bl false,H,I,rfl,q⟩
theorem X1:OpR X (compareOp .IsNot) (Y4 λb=> !b):=by
 intro pins s σ H x y v u Q I rx ry h;rcases h with ⟨b,c,rfl,rfl,q⟩|⟨c,rfl,rfl,q⟩
 ·cases rx;cases ry;exact wpAny_isNot_plain rfl ⟨.bl (!(b==c)),H,I,(by cases b<;>cases c<;>rfl),q⟩
 ·cases rx;cases ry;exact wpAny_isNot_plain rfl ⟨.bl true,H,I,rfl,q⟩
theorem T8{K:KA}:gc K Ds (λx y H Q=>(y=.non∧Q (.bl (decide (x=.non))) H)∨Y4 id x y H Q):=λG H x y dx dy d sg ax ay ed Q q=>by
 unfold Ds at ed;split at ed
 ·cases ed;refine .inl ⟨ay.non,?_⟩;rw[xt ax];exact q _ G H (Ext.refl sg) rfl
 ·cases ed;exact .inr (.inl ⟨_,_,ax.bl,ay.bl,q _ G H (Ext.refl sg) rfl⟩)
 ·cases ed;exact .inr (.inr ⟨_,ax.non,ay.bl,q _ G H (Ext.refl sg) rfl⟩)
 ·cases ed
theorem Iv{K:KA}:gc K m9 (λx y H Q=>(y=.non∧Q (.bl (!decide (x=.non))) H)∨Y4 (λb=> !b) x y H Q):=λG H x y dx dy d sg ax ay ed Q q=>by
 unfold m9 at ed;split at ed
 ·cases ed;refine .inl ⟨ay.non,?_⟩;rw[xt ax];exact q _ G H (Ext.refl sg) rfl
 ·cases ed;exact .inr (.inl ⟨_,_,ax.bl,ay.bl,q _ G H (Ext.refl sg) rfl⟩)
 ·cases ed;exact .inr (.inr ⟨_,ax.non,ay.bl,q _ G H (Ext.refl sg) rfl⟩)
 ·cases ed
theorem Sn{f:D→D→Option D}(hf:f=Ds∨f=m9)(x y d:D)(h:f x y=some d):∃b,d=.bl b:=by
 rcases hf with rfl|rfl
 ·unfold Ds at h;split at h<;>first|(cases h;exact⟨_,rfl⟩)|cases h
 ·unfold m9 at h;split at h<;>first|(cases h;exact⟨_,rfl⟩)|cases h
noncomputable def Eg:CmpOp→Option (D→D→Option D)
 |.Eq=>some js
 |.NotEq=>some mr
 |.Lt=>some qz
 |.LtE=>some qu
 |.Gt=>some Fo
 |.GtE=>some zg0
 |.In=>some Y0
 |.NotIn=>some ze
 |.Is=>some Ds
 |.IsNot=>some m9
theorem y6{op:CmpOp}{f:D→D→Option D}(hf:Eg op=some f)(hu:X.A.units+65<cLine):∃r,OpR X (compareOp op) r∧gc (kx X) f r∧∀x y d,f x y=some d→∃b,d=.bl b:=by
 cases op<;>cases hf
 ·exact⟨_,zck (by omega),Yh,λ_ _ _ h=>A1 (f:=id) h⟩
 ·exact⟨_,zcs (by omega),Yk,λ_ _ _ h=>A1 (f:=λb=> !b) h⟩
 ·exact⟨_,zgj.or (zcp (by omega)),Iw λ_ _=>rfl,Tq λ_ _=>rfl⟩
 ·exact⟨_,zgi.or (zco (by omega)),Iw λ_ _=>rfl,Tq λ_ _=>rfl⟩
 ·exact⟨_,zgh,Bf,J7⟩
 ·exact⟨_,zgg,Bf,J7⟩
 ·exact⟨_,zcn.or zcm,T8,Sn (.inl rfl)⟩
 ·exact⟨_,X2.or X1,Iv,Sn (.inr rfl)⟩
 ·exact⟨_,zcl hu,Yi,λ_ _ _ h=>A1 (f:=id) h⟩
 ·exact⟨_,Po hu,Lb,λ_ _ _ h=>A1 (f:=λb=> !b) h⟩
end
noncomputable def ju(ev:Ev)(C:SC)(e:Expr):En→Res:=match e with
 | .Name x _ => (match slot C x with
  |some i=>af i
  |none=>ev C e)
 |_=>ev C e
noncomputable def Hg(ev:Ev)(C:SC):List Bool→List Expr→En→ResL
 |[],[]=>bx
 |m::ms,e::es=>ae (if m then ju ev C e else ev C e) (Hg ev C ms es)
 |_,_=>zby
noncomputable def o3(ev:Ev)(C:SC):List Expr→En→ResL
 |[]=>bx
 |e::es=>ae (ev C e) (o3 ev C es)
noncomputable def Bw(T:GT)(C:SC)(x:Str):En→Res:=match slot C x with
 |some i=>iu i
 | none => if o6 C x then (match T.gstr x with
  |some y=>gC (.str y)
  | none => (match T.fns x with
   |some _=>gC (.fn x)
   |none=>ja))else ja
noncomputable def Hh(f:Expr→En→Res):List Expr→En→Res
 |[]=>ja
 |[a]=>f a
 |a::r=>u7 (f a) (Hh f r)
noncomputable def R9(f:Expr→En→Res):List Expr→En→Res
 |[]=>ja
 |[a]=>f a
 |a::r=>B3 (f a) (R9 f r)
noncomputable def v8(ev:Ev)(C:SC)(l:Expr)(ops:List CmpOp)(rs:List Expr):En→Res:=match ops,rs with
 | [op], [r] => (match Eg op with
  |some f=>if md r then g2 f (ju ev C l) (ju ev C r)else ja
  |none=>ja)
 | [op, op'], [m, r] => (match Eg op, Eg op' with
  |some f,some f'=>if md r then t8 f f' (ju ev C l) (ju ev C m) (ju ev C r)else ja
  |_,_=>ja)
 |_,_=>ja
section
variable{T:GT}{ev tv:Ev}{X:Cx}{C:SC}{B:Hp}{E:XK}{pos:Pos}
theorem di(h:fw T ev)(O:XOk X C T E)(e:Expr):iz X B (ek (kx X) E) e (ju ev C e):=by
 have d:iz X B (ek (kx X) E) e (ev C e):=zgr (h X C B E e O);cases e with
 |Name x p=>
  show iz X B _ _ (match slot C x with
   |some i=>af i
   |none=>ev C (.Name x p))
  cases es:slot C x with
  |none=>exact d
  |some i=>exact zbg i (O.var es)
 |_=>exact d
theorem se(h:fw T ev)(O:XOk X C T E):∀{ms:List Bool}{es:List Expr},es.all gi=true→L6 X B (ek (kx X) E) ms es (Hg ev C ms es)
 |[],[],_=>kc
 |[],_::_,_=>Z8
 |_::_,[],_=>Z8
 |m::ms,e::es,hs=>by
  rw[kAm,kA1]at hs;cases m with
  |true=>exact jx (di h O e) (se h O hs.2) (bj hs.1)
  |false=>exact zq (h X C B E e O) (se h O hs.2) (bj hs.1)
theorem n4(h:fw T ev)(O:XOk X C T E):∀{es:List Expr},es.all gi=true→L6 X B (ek (kx X) E) (es.map λ_=>false) es (o3 ev C es)
 |[],_=>kc
 |e::es,hs=>by
  rw[kAm,kA1]at hs;exact zq (h X C B E e O) (n4 h O hs.2) (bj hs.1)
theorem mx:∀{es:List Expr},D8 (es.map λ_=>false)=true
 |[]=>rfl
 |_::es=>by
  show(!false && D8 (es.map λ_=>false))=true;rw[mx (es:=es)];rfl
theorem Xp(O:XOk X C T E){x:Str}:ff X B (ek (kx X) E) (.Name x pos) (Bw T C x):=by
 unfold Bw;cases es:slot C x with
 |some i=>exact zdw i (O.var es)
 |none=>
  dsimp only
  by_cases hg:o6 C x=true
  ·rw[if_pos hg];obtain⟨g1,g2⟩:=O.gl hg;cases e1:T.gstr x with
   |some y=>
    obtain⟨t,q⟩:=O.gstr x y e1;exact Yu g1 q g2
   |none=>
    cases e2:T.fns x with
    |some s=>
     obtain⟨k,f,fd,ps,_,q,_⟩:=O.fns x s e2;exact zdj g1 q g2
    |none=>exact dh
  ·rw[if_neg hg];exact dh
theorem Ma{f:Expr→En→Res}{E:EK}(h:∀e,ff X B E e (f e)):∀{vs:List Expr},ff X B E (.BoolOp .And vs pos) (Hh f vs)
 |[]=>dh
 |[a]=>Ul (h a)
 |a::b::r=>zdg (h a) (Ma h (vs:=b::r))
theorem Tn{f:Expr→En→Res}{E:EK}(h:∀e,ff X B E e (f e)):∀{vs:List Expr},ff X B E (.BoolOp .Or vs pos) (R9 f vs)
 |[]=>dh
 |[a]=>Ul (h a)
 |a::b::r=>zgx (h a) (Tn h (vs:=b::r))
theorem zaq{E:EK}{e:Expr}:V7 X B E e ja:=λwh pins s σ H Q I ⟨G,δ,R,q⟩=>q.elim
theorem Mb{f:Expr→En→Res}{E:EK}(h:∀e,B5 X B E e (f e)):∀{vs:List Expr},V7 X B E (.BoolOp .And vs pos) (Hh f vs)
 |[]=>zaq
 |[a]=>Up (h a)
 |a::b::r=>Yx (h a) (Mb h (vs:=b::r))
theorem To{f:Expr→En→Res}{E:EK}(h:∀e,B5 X B E e (f e)):∀{vs:List Expr},V7 X B E (.BoolOp .Or vs pos) (R9 f vs)
 |[]=>zaq
 |[a]=>Yz (h a)
 |a::b::r=>zdz (h a) (To h (vs:=b::r))
theorem Ra(h:fw T ev)(O:XOk X C T E){l:Expr}{ops:List CmpOp}{rs:List Expr}:ff X B (ek (kx X) E) (.Compare l ops rs pos) (v8 ev C l ops rs)∧B5 X B (ek (kx X) E) (.Compare l ops rs pos) (v8 ev C l ops rs):=by
 unfold v8;split
 ·rename_i op r;cases hf:Eg op with
  |none=>exact⟨dh,yj⟩
  |some f=>
   dsimp only
   by_cases hs:md r=true
   ·rw[if_pos hs];obtain⟨rr,h1,h2,h3⟩:=y6 (X:=X) hf O.units;exact⟨zdi h1 h2 (di h O l) (di h O r) (me hs),Yp h1 h2 h3 (di h O l) (di h O r) (me hs)⟩
   ·rw[if_neg hs];exact⟨dh,yj⟩
 ·rename_i op op' m r;cases hf:Eg op with
  |none=>exact⟨dh,yj⟩
  |some f=>
   cases hf':Eg op' with
   |none=>exact⟨dh,yj⟩
   |some f'=>
    dsimp only
    by_cases hs:md r=true
    ·rw[if_pos hs];obtain⟨rr,h1,h2,h3⟩:=y6 (X:=X) hf O.units;obtain⟨rr',h1',h2',h3'⟩:=y6 (X:=X) hf' O.units;exact⟨Uj h1 h2 h1' h2' (di h O l) (di h O m) (di h O r) (A3 hs),Py h1 h2 h1' h2' h3' (di h O l) (di h O m) (di h O r) (A3 hs)⟩
    ·rw[if_neg hs];exact⟨dh,yj⟩
 ·exact⟨dh,yj⟩
end
section
variable{X:Cx}{pins:List (Addr×Obj)}{σ:St}{G H:Hp}{s:Shared}{B:Hp}{E:EK}{e a b:Expr}{g h:En→Res}{pos p:Pos}
noncomputable def jy:List D→Option (List Bool)
 |[]=>some []
 |.bl b::r=>(jy r).map (b::·)
 |_::_=>none
theorem xu{K:KA}:∀{ds:List D}{bs:List Bool}{vs:List V}{us:List Value},jy ds=some bs→DenL K G ds vs→Vals vs us→us=bs.map Value.bool
 |[],bs,vs,us,h,d,r=>by cases h;cases (show vs=[]from d);cases r;rfl
 |d::ds,bs,vs,us,h,dl,r=>by
  obtain⟨v,vr,rfl,dv,dr⟩:=dl;cases d with
  |bl b=>
   unfold jy at h;cases e:jy ds with
   |none=>rw[e]at h;cases h
   |some bs'=>
    rw[e]at h;cases h;cases r with
    |cons r1 rr=>
     cases (show v=.bl b from dv);cases (show _=Value.bool b from r1);rw[kA4,xu e dr rr]
  |_=>cases h
theorem B7(bs:List Bool)(f:List Bool→(Nat→Bool))(hf:f=λbs i=>bs.getD i false):(kA5 bs.length).all (f bs)=bs.all id∧(kA5 bs.length).any (f bs)=bs.any id:=by
 subst hf;have e:(kA5 bs.length).map (λi=>bs.getD i false)=bs:=by
  apply List.ext_getElem
  ·simp
  ·intro i h1 h2;simp[kB6,h2]
 constructor
 ·have:=congrArg (λl=>l.all id) e;simp only[List.all_map]at this;simpa[Function.comp_def]using this
 ·have:=congrArg (λl=>l.any id) e;simp only[List.any_map]at this;simpa[Function.comp_def]using this
noncomputable def zg3(K:KA)(an:Bool):List V→Hp→VK→Prop:=λxs H Q=>∃G l vs ds bs,xs=[.ref l]∧SqL K H l vs∧DenL K G ds vs∧jy ds=some bs∧Q (.bl (if an then bs.any id else bs.all id)) H
theorem Gj{A:Around}{prog:Program}{w:World}{bs:List Bool}{items:Array Value}(e:items.toList=bs.map Value.bool):TruthOf prog w A (λi v=>items[i]?=some v) (λi=>bs.getD i false):=by
 intro i v s Q E hv hQ;have hv':items.toList[i]?=some v:=by simpa using hv
 rw[e,kAs]at hv';cases eb:bs[i]? with
 |none=>rw[eb]at hv';cases hv'
 |some b=>
  rw[eb]at hv';cases hv';have hQ':Q (bs.getD i false) s:=hQ;rw[kB6,eb]at hQ';exact wpAny_truthy_bool hQ'
theorem Oc(hc:X.calm=true):CallR X (.builtin "all") (zg3 (kx X) false):=by
 intro pins s σ H xs us Q I r q;obtain⟨G,l,vs,ds,bs,rfl,sq,dl,eb,q⟩:=q;obtain⟨u,rfl,ru⟩:=we r;cases ru;obtain⟨its,rv,pl,_⟩:=I.list sq;have e:=xu eb dl rv;have hl:l<s.heap.objs.size:=by obtain⟨o,ho,_⟩:=pl.isList;exact Heap.lt_size ho
 have W:=Walks.list (prog:=X.prog) (w:=X.w) (A:=X.A.in1) (show X.A.in1.handled=none from I.ok.hd hc) s.heap.objs.size l (kAf hl) its.toArray;refine call_all_walk (wpAny_pyIter_list pl.isList ⟨s.heap.objs.size,_,_,_,_,_,λi=>bs.getD i false,rfl,W,⟨⟨_,Heap.get?_push_size _ rfl,rfl,rfl⟩,pl.isList.at λo ho=>Heap.get?_push_of_some _ ho⟩,Gj (by simpa using e),λh' tk hk=>?_⟩);refine⟨.bl _,H,I.kept λb o e=>hk b o (by simpa using kAf (Heap.lt_size e)) (Heap.get?_push_of_some _ e),?_,q⟩;have hsz:its.toArray.size=bs.length:=by rw[kAe,e,kA3]
 rw[hsz,(B7 bs _ rfl).1];rfl
noncomputable def sv:D→Option D
 |.lst ds=>(jy ds).map λbs=>.bl (bs.all id)
 |_=>none
theorem zdf(hc:X.calm=true)(hg:Gl X "all")(hm:X.mg "all"=none)(ha:iz X B E e g)(he:starEach [e] X.env=(false,eval e X.env)::starEach [] X.env):ff X B E (.Call (.Name "all" p) [e] [] pos) (g1 sv g):=
 PE.imp (qr (Oc hc) hg hm PyProof.Rows.boot_all (jx ha kc he) (by decide) (by decide) he rfl) λσ H Q q=>cb1 (λG H x dx d sg ax ed Q q=>by
  cases dx with
  |lst ds=>
   unfold sv at ed;dsimp only at ed;cases eb:jy ds with
   |none=>rw[eb]at ed;cases ed
   |some bs=>
    rw[eb]at ed;cases ed;obtain⟨l,vs,rfl,sq,dl⟩:=ax.lst sg;exact⟨G,l,vs,ds,bs,rfl,sq,dl,eb,q _ G H (Ext.refl sg) rfl⟩
  |_=>cases ed) q
end
noncomputable def Va(x:Str):List D:=x.cps.toList.map λc=>.str ⟨#[c]⟩
noncomputable def Its(x:Str):It:=⟨λi _=>i<x.cps.size,λi H v H'=>H'=H∧∃c,x.cps[i]?=some c∧v=.str ⟨#[c]⟩,λi _=>x.cps.size≤i⟩
theorem Lz{P:Program}{w:World}{K:PySem.W.Frag}{tg:Expr}(it:Addr)(x:Str)(t:Tok):Turn P w K tg (Its x) [it] it (λi h=>h.IsStrIter it "str_ascii_iterator" x t i) where
 mem:=by simp
 obj:=λi h st b hb=>by
  have e:b=it:=by simpa using hb
  subst e;obtain⟨o,e,c,d⟩:=st;exact⟨o,e,λv z=>by rw[d]at z;cases z⟩
 keep:=λi h h' st k=>let ⟨o,ho,r⟩:=st;⟨o,k it (by simp) o ho,r⟩
 item:=by
  intro X hP hw hK hc i pins s σ H E I hf st hg;subst hP hw hK;obtain⟨f0,f1,f2,f3,f4,f5⟩:=hf it (by simp);have hg':i<x.cps.size:=hg;refine wpAny_pyNext_ascii_item st (c:=x.cps[i]) (by simp[hg']) λh' st' sb=>?_;have I1:Inv X pins σ H {s with heap:=h',toks:=s.toks+1}:=I.turned (t':=s.toks+1) (λb o hb e=>(sb.2 b hb).trans e) f0 f1 f3 f4 f5;obtain⟨o,e,c,d⟩:=id st';exact⟨_,rfl,Hi (s:={s with heap:=h',toks:=s.toks+1}) e c d (by decide) ⟨.str ⟨#[x.cps[i]]⟩,H,I1,⟨_,rfl⟩,⟨rfl,_,by simp[hg'],rfl⟩,st',λb hb=>(hf b hb).1⟩⟩
 done:=by
  intro X hP hw hK hc i pins s σ H E I hf st hg;subst hP hw hK;obtain⟨f0,f1,f2,f3,f4,f5⟩:=hf it (by simp);have hg':x.cps.size≤i:=hg;exact wpAny_pyNext_ascii_end (I.ok.hd hc) st (by simp[hg']) λh' eb=>⟨rfl,I.turned (t':=s.toks) (λb o hb e=>eb b o hb e) f0 f1 f3 f4 f5⟩
 self:=λ_ _ _ _ _ st h=>wpAny_pyIter_striter_ascii st h
theorem Qj{P:Program}{w:World}{K:PySem.W.Frag}{tg:Expr}(it:Addr)(x:Str)(t:Tok):Turn P w K tg (Its x) [it] it (λi h=>h.IsStrIter it "str_iterator" x t i) where
 mem:=by simp
 obj:=λi h st b hb=>by
  have e:b=it:=by simpa using hb
  subst e;obtain⟨o,e,c,d⟩:=st;exact⟨o,e,λv z=>by rw[d]at z;cases z⟩
 keep:=λi h h' st k=>let ⟨o,ho,r⟩:=st;⟨o,k it (by simp) o ho,r⟩
 item:=by
  intro X hP hw hK hc i pins s σ H E I hf st hg;subst hP hw hK;obtain⟨f0,f1,f2,f3,f4,f5⟩:=hf it (by simp);have hg':i<x.cps.size:=hg;refine wpAny_pyNext_wide_item st (c:=x.cps[i]) (by simp[hg']) λh' st' sb=>?_;have I1:Inv X pins σ H {s with heap:=h',toks:=s.toks+1}:=I.turned (t':=s.toks+1) (λb o hb e=>(sb.2 b hb).trans e) f0 f1 f3 f4 f5;obtain⟨o,e,c,d⟩:=id st';exact⟨_,rfl,Hi (s:={s with heap:=h',toks:=s.toks+1}) e c d (by decide) ⟨.str ⟨#[x.cps[i]]⟩,H,I1,⟨_,rfl⟩,⟨rfl,_,by simp[hg'],rfl⟩,st',λb hb=>(hf b hb).1⟩⟩
 done:=by
  intro X hP hw hK hc i pins s σ H E I hf st hg;subst hP hw hK;obtain⟨f0,f1,f2,f3,f4,f5⟩:=hf it (by simp);have hg':x.cps.size≤i:=hg;exact wpAny_pyNext_wide_end (I.ok.hd hc) st (by simp[hg']) λh' eb=>⟨rfl,I.turned (t':=s.toks) (λb o hb e=>eb b o hb e) f0 f1 f3 f4 f5⟩
 self:=λ_ _ _ _ _ st h=>wpAny_pyIter_striter_wide st h
theorem Ss{K:KA}{x:Str}{S:Hp→Hp→Prop}:D4 K (Its x) (Va x) S:=λi G H hS sg=>by
 unfold Va;refine⟨λd ed=>?_,λhl=>?_⟩
 ·rw[kAs]at ed;cases e:x.cps.toList[i]? with
  |none=>rw[e]at ed;cases ed
  |some c=>
   rw[e]at ed;cases ed;have hi:i<x.cps.size:=by simpa using(kAh.mp e).1
   refine⟨hi,λv H' ⟨z,c',ec,ev⟩=>?_⟩;subst z;have:x.cps.toList[i]?=some c':=by simpa using ec
   rw[e]at this;cases this;exact⟨G,Ext.refl sg,ev⟩
 ·rw[kA3]at hl;show x.cps.size≤i;simpa using hl
section
variable{X:Cx}{G0 B:Hp}{E:EK}{e a b c tg iter:Expr}{g h:En→Res}{pos p:Pos}
noncomputable def zf2(K:PySem.W.Frag)(tl:TE):TI:=λσ H R=>tl σ H λx H1=>(∃a,x=.ref a∧(((∃xs,SqL K H1 a xs)∧R (Itl K a) H1)∨((∃xs,SqT K H1 a xs)∧R (Itt K a) H1)))∨∃z,x=.str z∧R (Its z) H1
theorem Nj{l:Expr}{tl:TE}(hl:PE X l tl):PI X tg l (zf2 X.K tl):=by
 intro pins s σ H R I h;refine gx (hl pins s σ H _ I h) λv s1 ⟨x,H1,I1,r1,q1⟩=>?_;rcases q1 with ⟨a,e,⟨⟨xs,hq⟩,q⟩|⟨⟨xs,hq⟩,q⟩⟩|⟨z,e,q⟩
 ·subst e;cases r1;obtain⟨its,rv,p,hz⟩:=I1.list hq;refine wpAny_pyIter_list p.isList ?_;refine⟨s1.heap.objs.size,[s1.heap.objs.size],_,_,H1,rfl,I1.kept (t':=s1.toks) λb o e=>Heap.get?_push_of_some _ e,Qi a _,⟨_,Heap.get?_push_size _ rfl,rfl,rfl⟩,λb hb=>?_,q⟩;have e:b=s1.heap.objs.size:=by simpa using hb
  subst e;exact I1.fpOk (kA0 _) (I1.hok.fresh (kA0 _))
 ·subst e;cases r1;obtain⟨its,rv,p,hz⟩:=I1.tuple hq;refine wpAny_pyIter_tuple (show s1.heap.IsTuple a its.toArray from p) ?_;refine⟨s1.heap.objs.size,[s1.heap.objs.size],_,_,H1,rfl,I1.kept (t':=s1.toks) λb o e=>Heap.get?_push_of_some _ e,L1 a _,⟨_,Heap.get?_push_size _ rfl,rfl,rfl⟩,λb hb=>?_,q⟩;have e:b=s1.heap.objs.size:=by simpa using hb
  subst e;exact I1.fpOk (kA0 _) (I1.hok.fresh (kA0 _))
 ·subst e;obtain⟨t,rfl⟩:=r1;cases ha:z.cps.all (· <128)
  ·refine wpAny_pyIter_wide ha ⟨s1.heap.objs.size,[s1.heap.objs.size],_,_,H1,rfl,I1.kept (t':=s1.toks) λb o e=>Heap.get?_push_of_some _ e,Qj _ z t,⟨_,Heap.get?_push_size _ rfl,rfl,rfl⟩,λb hb=>?_,q⟩;have e:b=s1.heap.objs.size:=by simpa using hb
   subst e;exact I1.fpOk (kA0 _) (I1.hok.fresh (kA0 _))
  ·refine wpAny_pyIter_ascii ha ⟨s1.heap.objs.size,[s1.heap.objs.size],_,_,H1,rfl,I1.kept (t':=s1.toks) λb o e=>Heap.get?_push_of_some _ e,Lz _ z t,⟨_,Heap.get?_push_size _ rfl,rfl,rfl⟩,λb hb=>?_,q⟩;have e:b=s1.heap.objs.size:=by simpa using hb
   subst e;exact I1.fpOk (kA0 _) (I1.hok.fresh (kA0 _))
noncomputable def D3:D→Option (List D)
 |.lst ds=>some ds
 |.tup ds=>some ds
 |.str x=>some (Va x)
 |_=>none
noncomputable def ie(g:En→Res):En→ResL:=λδ=>match g δ with
 | .ok d => (match D3 d with
  |some ds=>.ok ds
  |none=>.st)
 |.er c=>.er c
 |.st=>.st
theorem za4{G H:Hp}{δ:En}{P:List D→Prop}(q:ResLP E G H (ie g δ) P):ResP E G H (g δ) λd=>∃ds,D3 d=some ds∧P ds:=by
 unfold ie at q;cases e:g δ with
 |ok d=>
  rw[e]at q;dsimp only at q;cases e2:D3 d with
  |some ds=>rw[e2]at q;exact⟨ds,e2,q⟩
  |none=>rw[e2]at q;exact q.elim
 |er c=>rw[e]at q;exact q
 |st=>rw[e]at q;exact q
theorem T4(h:BoE X B E e g):PuI X B E tg e (ie g):=PI.imp (Nj h) λσ H R ⟨G,δ,Rr,q⟩=>⟨G,δ,Rr,(za4 q).mono λd _ ⟨ds,ed,q⟩ v G1 H1 e1 ax=>by
 have bh:Same B H1:=Rr.bh.trans e1.hh;cases d with
 |lst ds'=>
  cases ed;rcases ax with ⟨a,vs,rfl,s,dl⟩|⟨ds2,a,vs,z,rfl,s,dl⟩|⟨t,kvs,a,z,_⟩
  ·exact .inl ⟨a,rfl,.inl ⟨⟨vs,SqL.mono e1.gh s⟩,q _ G1 H1 e1 (Kn (λG2 H2 ⟨x1,x2⟩ sg=>⟨SqL.mono (x1.trans sg) s,x1⟩) dl)⟩⟩
  ·cases z;exact .inl ⟨a,rfl,.inl ⟨⟨vs,SqL.mono bh s⟩,q _ G1 H1 e1 (Kn (λG2 H2 ⟨x1,x2⟩ sg=>⟨SqL.mono x2 s,x1⟩) dl)⟩⟩
  ·cases z
 |tup ds'=>
  cases ed;rcases ax with ⟨a,vs,rfl,s,dl⟩|⟨ds2,a,vs,z,rfl,s,dl⟩|⟨t,kvs,a,z,_⟩
  ·exact .inl ⟨a,rfl,.inr ⟨⟨vs,SqT.of (e1.gh _ _ s)⟩,q _ G1 H1 e1 (Su (λG2 H2 ⟨x1,x2⟩ sg=>⟨SqT.of ((x1.trans sg) _ _ s),x1⟩) dl)⟩⟩
  ·cases z
  ·cases z
 |str z=>cases ed;exact .inr ⟨z,ax.str,q _ G1 H1 e1 Ss⟩
 |non=>cases ed
 |bl _=>cases ed
 |int _=>cases ed
 |dct _ _=>cases ed
 |obj _ _=>cases ed
 |fn _=>cases ed⟩
theorem Nk(h:iz X B E e g):N8 X B E tg e (ie g):=PI.imp (Nj h) λσ H R ⟨G,δ,Rr,q⟩=>⟨G,δ,Rr,(za4 q).mono λd _ ⟨ds,ed,q⟩ v G1 H1 e1 ax=>by
 cases d with
 |lst ds'=>
  cases ed;obtain⟨a,vs,rfl,s,dl⟩:=ax.lst e1.gh;exact .inl ⟨a,rfl,.inl ⟨⟨vs,s⟩,q _ G1 H1 e1 (Kn (λG2 H2 x sg=>⟨SqL.mono x.hh s,x.gg⟩) dl)⟩⟩
 |tup ds'=>
  cases ed;obtain⟨a,vs,rfl,s,dl⟩:=ax.tup e1.gh;exact .inl ⟨a,rfl,.inr ⟨⟨vs,s⟩,q _ G1 H1 e1 (Su (λG2 H2 x sg=>⟨SqT.mono x.hh s,x.gg⟩) dl)⟩⟩
 |str z=>cases ed;exact .inr ⟨z,ax.str,q _ G1 H1 e1 Ss⟩
 |non=>cases ed
 |bl _=>cases ed
 |int _=>cases ed
 |dct _ _=>cases ed
 |obj _ _=>cases ed
 |fn _=>cases ed⟩
noncomputable def Rx(ps:List PyData)(q:PyData):Option Nat:=ps.findIdx? λy=>PyData.eqv y q
noncomputable def j0:D→D→Option D
 | .lst xs, d => (match e8 xs, dj d with
  |some ps,some q=>if PyData.canLayAll0 ps && SeqAt.shaped q && decide (xs.length≤sizeLine)then(Rx ps q).map λj=>.int (j:Nat)else none
  |_,_=>none)
 |_,_=>none
noncomputable def rMt(K:KA)(f:D→D→Option D):V→List V→Hp→VK→Prop:=λx vs H Q=>∃G dx dy y d,Same G H∧Arg K G H dx x∧vs=[y]∧Arg K G H dy y∧f dx dy=some d∧∀v,Den K G d v→Q v H
theorem Pf(hu:X.A.units+65<cLine):MtR X "list.index" (rMt (kx X) j0):=by
 intro pins s σ H x vs v us Q I rx rv q;obtain⟨G,dx,dy,y,d,sg,ax,rfl,ay,ed,q⟩:=q;obtain⟨u,rfl,ru⟩:=rv.one;cases dx with
 |lst xs=>
  unfold j0 at ed;dsimp only at ed;cases e1:e8 xs with
  |none=>rw[e1]at ed;cases ed
  |some ps=>
   cases e2:dj dy with
   |none=>rw[e1,e2]at ed;cases ed
   |some q'=>
    rw[e1,e2]at ed;dsimp only at ed
    by_cases hs:(PyData.canLayAll0 ps && SeqAt.shaped q' && decide (xs.length≤sizeLine))=true
    ·rw[if_pos hs]at ed;simp only[kA1,decide_eq_true_eq]at hs;obtain⟨⟨h1,h2⟩,h3⟩:=hs;cases ej:Rx ps q' with
     |none=>rw[ej]at ed;cases ed
     |some j=>
      rw[ej]at ed;cases ed;obtain⟨as,ra⟩:=cv (p:=.list ps) I sg ax rx (by unfold dj;rw[e1]);obtain⟨bs,rb⟩:=cv I sg ay ru e2;cases ra with
      |@list l o items n _ _ g1 g2 g3 g4=>
       obtain⟨cls,dd,data,sl⟩:=o;simp only at g2 g3;subst g2 g3;have hm:=SeqAt.readsAll_map ps _ _ h1 g4;have hlen:items.size=ps.length:=by rw[←hm,kA3];simp
       unfold Rx at ej;obtain⟨w1,w2,w3⟩:=List.findIdx?_eq_some_iff_getElem.mp ej;have at_:∀(k:Nat)(hk:k<items.size),PyData.eqv (SeqAt.readOf s.heap items[k]) q'=PyData.eqv (ps[k]'(by omega)) q':=λk hk=>by
        congr 1
        have:(items.toList.map (SeqAt.readOf s.heap))[k]?=ps[k]?:=by rw[hm]
        rw[kAs,kB2 (by simpa using hk),kB2 (by omega)]at this;simpa using this
       have hz:ps.length≤sizeLine:=by
        have:xs.length=ps.length:=by
         obtain⟨l',vs',rfl,sq,dl⟩:=ax.lst sg;cases rx;obtain⟨its,rv',pl,_⟩:=I.list sq;obtain⟨o',ho',hc',n',hd'⟩:=pl.isList;rw[g1]at ho';cases ho';cases hd';rw[dl.length,rv'.length,←hlen];simp
        omega
       have hbig:(sizeLine:Int)<2 ^ 63 - 1:=by decide
       refine call_meets PySem.F.slot_list_index ⟨_,g1,rfl⟩ PySem.F.entry_list_index (PySem.F.args_list_index_2 _ _)
        (PySem.SeqAt.list_indexAt l items n dd sl u (λy=>PyData.eqv (SeqAt.readOf s.heap y) q') j (by omega) (by omega) ?_ ?_) ⟨g1,λy hy=>SeqAt.items_eqAt g4 rb h1 (SeqAt.canLay_of_shaped h2) (room_in_shaped h2 hu) y hy,?_⟩
       ·show PyData.eqv (SeqAt.readOf s.heap items[j]) q'=true;rw[at_ j (by omega)];exact w2
       ·intro k hk hlt;show PyData.eqv (SeqAt.readOf s.heap items[k]) q'=false;rw[at_ k hk];have:=w3 k hlt;simpa using this
       ·exact⟨.int j,H,I.tok _,⟨_,rfl⟩,q _ rfl⟩
    ·rw[if_neg hs]at ed;cases ed
 |_=>cases ed
end
end Pu
end
section
namespace L2
open PySem PySem.Spec PyProof.Rows
theorem Xt{n:Int}(h:n≤16777216):Builtin.Tuple.tupleTooMany n=false:=by
 unfold Builtin.Tuple.tupleTooMany;rw[decide_eq_false_iff_not];have:(sizeLine:Int)=16777216:=by decide
 omega
theorem Zt(l:Addr)(o:Obj)(items:Array Value)(n:Nat)(x:Int)(u:Tok)(hcl:o.cls=.type "tuple")(hd:o.data=.seq items n)(h0:items.isEmpty=false)(h2:2≤x)(h3:x<2 ^ 20)(hz:items.size * x.toNat≤16777216):
  Meets (Builtin.«tuple.__mul__» ⟨[.ref l,.int x u],[]⟩) (λ_ R s=>s.heap.get? l=some o∧R (.ok (.ret (Value.ref s.heap.objs.size))) {s with heap:=s.heap.push {cls:=Value.type "tuple",data:=Data.seq (List.foldl (λx1 x2=>x1++x2) #[] (kA2 x.toNat items))}}):=
 .of_wp λprog w A R s h=>by
  obtain⟨hp,g,d,tk,os⟩:=s;obtain⟨hl,h⟩:=h;obtain⟨oc,od,odt,osl⟩:=o;subst hcl hd;unfold Builtin.«tuple.__mul__»;have hx:(decide (x< -2 ^ 63)||decide (x≥2 ^ 63))=false:=by
   rw[Bool.or_eq_false_iff,decide_eq_false_iff_not,decide_eq_false_iff_not];omega
  wp_walk
  rw[if_neg (by rw[hx];decide)];refine wpAny_bind (wpAny_tupleItemsOf hl rfl ?_);have h1:(items.isEmpty||x==1)=false:=by
   rw[h0,Bool.false_or];exact beq_eq_false_iff_ne.mpr (by omega)
  rw[if_neg (by rw[h1];decide)];have hc:((items.size:Nat):Int) * x≤16777216:=by
   have e:x=((x.toNat:Nat):Int):=by omega
   rw[e,←Int.natCast_mul];omega
  have h4:(decide (x≤0)||items.isEmpty)=false:=by
   rw[h0,Bool.or_false,decide_eq_false_iff_not];omega
  rw[if_neg (by rw[h4];decide)];rw[if_neg (by omega),if_neg (by rw[Xt hc];decide)];have hf:List.foldl (λx1 x2=>x1++x2) #[] (kA2 x.toNat items)=(kA2 x.toNat items.toList).flatten.toArray:=by
   have:=mz items.toList x.toNat [];simpa using this
  have hsz:(List.foldl (λx1 x2=>x1++x2) #[] (kA2 x.toNat items)).size≤sizeLine:=by
   rw[hf,kAe,y9,kAb,Nat.mul_comm];exact hz
  first
   |exact wpAny_bind (m:=Builtin.Tuple.tupleExact _) (wpAny_newObj_type (wpAny_pure ⟨_,rfl,h⟩) hsz)
   |exact wpAny_bind (m:=Builtin.Tuple.tupleExact _) (wpAny_newObj_type ⟨_,rfl,h⟩ hsz)
theorem Vx(l:Addr)(o:Obj)(items:Array Value)(n:Nat)(u:Tok)(hcl:o.cls=.type "tuple")(hd:o.data=.seq items n):
  Meets (Builtin.«tuple.__mul__» ⟨[.ref l,.int 1 u],[]⟩) (λ_ R s=>s.heap.get? l=some o∧R (.ok (.ret (Value.ref l))) s):=
 .of_wp λprog w A R s h=>by
  obtain⟨hp,g,d,tk,os⟩:=s;obtain⟨hl,h⟩:=h;obtain⟨oc,od,odt,osl⟩:=o;subst hcl hd;unfold Builtin.«tuple.__mul__»
  wp_walk
  exact⟨_,rfl,h⟩
theorem m6:fillsNumberSlot (.type "tuple") "mul"=pure false:=PySem.fillsNumberSlot_seq (id:="tuple.__mul__") (r:=some (.builtin "tuple.__rmul__")) F.slot_tuple_mul.lookup (by decide+kernel) F.slot_tuple_rmul.lookup (by decide+kernel)
theorem vt:seqRepeat? (.type "tuple")=pure (some (.builtin "tuple.__mul__")):=by
 unfold seqRepeat?;rw[PySem.seqSlot_of (T:="tuple") (name:="__mul__") (id:="tuple.__mul__") F.slot_tuple_mul.lookup (by decide+kernel),PySem.seqSlot_of (T:="tuple") (name:="__rmul__") (id:="tuple.__rmul__") F.slot_tuple_rmul.lookup (by decide+kernel)];rfl
theorem I9(a:Int)(t:Tok)(l:Addr)(o:Obj)(items:Array Value)(n:Nat)(hcl:o.cls=.type "tuple")(hd:o.data=.seq items n):Meets (Builtin.«int.__rmul__» ⟨[.int a t,.ref l],[]⟩) (λ_ R s=>s.heap.get? l=some o∧R (.ok (.ret Value.notImplemented)) s):=
 .of_wp λprog w A R s h=>by
  obtain⟨hp,g,d,tk,os⟩:=s;obtain⟨hl,h⟩:=h;obtain⟨oc,od,odt,osl⟩:=o;subst hcl hd
  wp_walk;exact⟨_,rfl,h⟩
section
variable{X:Cx}
noncomputable def zhc(K:PySem.W.Frag):R2:=λx y H Q=>∃l k xs,x=.ref l∧y=.int k∧SqT K H l xs∧xs≠[]∧1≤k∧k<2 ^ 20∧xs.length * k.toNat≤16777216∧(k=1→Q (.ref l) H)∧
 ∀p,H p=none→Q (.ref p) (upd H p (.tup (kA2 k.toNat xs).flatten))
theorem X4:OpR X (binaryOp .Mult) (zhc X.K):=by
 intro pins s σ H x y v u Q I rx ry h;obtain⟨l,k,xs,rfl,rfl,hH,hne,h1,h2,hz,q1,q⟩:=h;cases rx;obtain⟨t,rfl⟩:=ry;obtain⟨its,r,⟨o,e,hc,n,hd⟩,_⟩:=I.tuple hH;have hl:=r.length
 by_cases hk1:k=1
 ·subst hk1;exact wpAny_binaryOp_repeat_ref (T:="tuple") (U:="int") (by decide) ⟨_,e,hc⟩ (λs'=>typeIs_int s' 1 t) m6 F.fills_int_mul F.slot_int_rmul vt F.slot_int_index.lookup
   (call_meets F.slot_int_rmul (typeIs_int s 1 t) F.entry_int_rmul (F.args_int_rmul_2 _ _) (I9 1 t l o its.toArray n hc hd)
    ⟨e,rfl,⟨_,e,hc⟩,call_meets F.slot_tuple_mul ⟨_,e,hc⟩ F.entry_tuple_mul (F.args_tuple_mul_2 _ _) (Vx l o its.toArray n t hc hd) ⟨e,⟨.ref l,H,I,rfl,q1 rfl⟩⟩⟩)
 have h1:2≤k:=by omega
 have hemp:its.toArray.isEmpty=false:=by
  cases its with
  |nil=>cases xs with
   |nil=>exact absurd rfl hne
   |cons _ _=>cases hl
  |cons a b=>rfl
 refine wpAny_binaryOp_repeat_ref (T:="tuple") (U:="int") (by decide) ⟨_,e,hc⟩ (λs'=>typeIs_int s' k t) m6 F.fills_int_mul F.slot_int_rmul vt F.slot_int_index.lookup
  (call_meets F.slot_int_rmul (typeIs_int s k t) F.entry_int_rmul (F.args_int_rmul_2 _ _) (I9 k t l o its.toArray n hc hd)
   ⟨e,rfl,⟨_,e,hc⟩,call_meets F.slot_tuple_mul ⟨_,e,hc⟩ F.entry_tuple_mul (F.args_tuple_mul_2 _ _) (Zt l o its.toArray n k t hc hd hemp h1 h2 (by rw[kAe,←hl];exact hz)) ⟨e,?_⟩⟩)
 have hnew:List.foldl (λx1 x2=>x1++x2) #[] (kA2 k.toNat its.toArray)=(kA2 k.toNat its).flatten.toArray:=by
  have:=mz its k.toNat [];rw[List.nil_append]at this;exact this
 rw[hnew];exact⟨.ref _,_,I.laid (o:=.tup (kA2 k.toNat xs).flatten) (t':=s.toks) (λ_ _ q=>Heap.get?_push_of_some _ q) (kA0 _) ⟨by rw[y9,Nat.mul_comm];exact hz,_,r.rep k.toNat,⟨_,Heap.get?_push_size _ rfl,rfl,0,rfl⟩⟩,rfl,q _ I.fresh⟩
theorem Xl(l:Addr)(o:Obj)(items:Array Value)(n:Nat)(x:Int)(u:Tok)(hcl:o.cls=.type "list")(hdc:o.dict=none)(hd:o.data=.seq items n)(hc0:¬(!Builtin.List.listFitsIndex x)=true)(hc1:¬items.size * x.toNat>(2 ^ 63 - 1) / 8)(hc2:¬Builtin.List.listTooLong (items.size * x.toNat)=true):
  Meets (Builtin.«list.__mul__» ⟨[.ref l,.int x u],[]⟩) (λ_ R s=>s.heap.get? l=some o∧R (.ok (.ret (Value.ref s.heap.objs.size))) {s with heap:=s.heap.push {cls:=Value.type "list",data:=Data.seq (List.foldl (λx1 x2=>x1++x2) #[] (kA2 (if items.isEmpty=true then 0 else x.toNat) items))}}):=
 .of_wp λprog w A R s h=>by
  obtain⟨hp,g,d,tk,os⟩:=s;obtain⟨hl,h⟩:=h;obtain⟨oc,od,odt,osl⟩:=o;subst hcl hdc hd;have hsz:=AutoListH.joined_fits hc2
  wp_walk;refine wpAny_ite_false (decide_eq_false (Nat.not_lt.mpr hsz)) ?_;wp_walk;exact⟨_,rfl,h⟩
theorem Uz(a:Int)(t:Tok)(l:Addr)(o:Obj)(items:Array Value)(n:Nat)(hcl:o.cls=.type "list")(hd:o.data=.seq items n):Meets (Builtin.«int.__rmul__» ⟨[.int a t,.ref l],[]⟩) (λ_ R s=>s.heap.get? l=some o∧R (.ok (.ret Value.notImplemented)) s):=
 .of_wp λprog w A R s h=>by
  obtain⟨hp,g,d,tk,os⟩:=s;obtain⟨hl,h⟩:=h;obtain⟨oc,od,odt,osl⟩:=o;subst hcl hd
  wp_walk;exact⟨_,rfl,h⟩
noncomputable def zhb(K:PySem.W.Frag):R2:=λx y H Q=>∃l k xs,x=.ref l∧y=.int k∧SqL K H l xs∧-(2 ^ 63)≤k∧k<2 ^ 63∧xs.length * k.toNat≤sizeLine∧
 ∀p,H p=none→Q (.ref p) (upd H p (.lst (kA2 k.toNat xs).flatten))
theorem X3:OpR X (binaryOp .Mult) (zhb X.K):=by
 intro pins s σ H x y v u Q I rx ry h;obtain⟨l,k,xs,rfl,rfl,hH,h1,h2,hz,q⟩:=h;cases rx;obtain⟨t,rfl⟩:=ry;obtain⟨its,r,⟨o,n,e,hc,hdc,hd⟩,_⟩:=I.list hH;have hl:=r.length;have hlen:its.toArray.size * k.toNat≤sizeLine:=by rw[kAe,←hl];exact hz
 have hcap:¬its.toArray.size * k.toNat>(2 ^ 63 - 1) / 8:=by
  have:(sizeLine:Nat)≤(2 ^ 63 - 1) / 8:=by decide
  omega
 have hfit:¬(!Builtin.List.listFitsIndex k)=true:=by
  rw[fitsIndex_both h1 h2];exact kB7
 have hlong:¬Builtin.List.listTooLong (its.toArray.size * k.toNat)=true:=by
  rw[A5 hlen];exact kB7
 have hnew:List.foldl (λx1 x2=>x1++x2) #[] (kA2 (if its.toArray.isEmpty=true then 0 else k.toNat) its.toArray)=(kA2 k.toNat its).flatten.toArray:=by
  have f0:∀m:Nat,List.foldl (λx1 x2=>x1++x2) #[] (kA2 m its.toArray)=(kA2 m its).flatten.toArray:=λm=>by
   have:=mz its m [];rw[List.nil_append]at this;exact this
  rw[f0];cases its with
  |nil=>simp
  |cons a r'=>rw[if_neg (by simp)]
 refine wpAny_binaryOp_repeat_ref (T:="list") (U:="int") (by decide) ⟨_,e,hc⟩ (λs'=>typeIs_int s' k t) noFill_list_mul F.fills_int_mul F.slot_int_rmul repeat_list F.slot_int_index.lookup
  (call_meets F.slot_int_rmul (typeIs_int s k t) F.entry_int_rmul (F.args_int_rmul_2 _ _) (Uz k t l o its.toArray n hc hd)
   ⟨e,rfl,⟨_,e,hc⟩,call_meets F.slot_list_mul ⟨_,e,hc⟩ F.entry_list_mul (F.args_list_mul_2 _ _) (Xl l o its.toArray n k t hc hdc hd hfit hcap hlong) ⟨e,?_⟩⟩)
 rw[hnew];exact⟨.ref _,_,I.lnew (t':=s.toks) (r.rep k.toNat) (by rw[y9,Nat.mul_comm];exact hz),rfl,q _ I.fresh⟩
end
end L2
end
section
namespace Pu
open PySem PySem.Spec PyProof.Rows L2
section
variable{X:Cx}{G0 B:Hp}{E:EK}{e a b c tg iter:Expr}{g h:En→Res}{pos p:Pos}
noncomputable def gM(f:D→D→Option D)(g h:En→Res):En→Res:=λδ=>(g δ).bind λx=>match x with
 |.lst xs=>(h δ).bind λy=>Res.of (f (.lst xs) y)
 |_=>.st
theorem zgw{f:D→D→Option D}{m:Str}{id:String}{ap cp:Pos}(slot:Slot "list" m id)(hty:typeOf (.builtin id)=pure (.type "method_descriptor"))(hm:MtR X id (rMt (kx X) f))(ho:iz X B E a g)(he:iz X B E e h)
  (hb:attributeBase a m X.env (eval a X.env)=eval a X.env)(hn:gi e=true)(hl:(ap.endLine==cp.line)=true):ff X B E (.Call (.Attribute a m ap) [e] [] cp) (gM f g h):=
 PE.imp (Tu PySem.F.plainAttrs_list slot hty hm ho (jx he kc (bj hn)) hb (by rw[q8 (by rw[kAm,hn];rfl)];rfl) hl (bj hn) rfl) λσ H Q ⟨G,δ,R,q⟩=>⟨G,δ,R,(ResP.bind q).mono λdx _ qx x G1 H1 e1 ax=>by
  cases dx with
  |lst xs=>
   have ax':=ax;obtain⟨l,vs,rfl,sq,dl⟩:=ax.lst e1.gh;refine⟨.inl ⟨rfl,vs,sq⟩,G1,δ,R.ext e1,?_⟩;have qx:ResP E G1 H1 ((h δ).bind λy=>Res.of (f (.lst xs) y)) _:=ResP.ext e1 qx;unfold ae;cases eh:h δ with
   |ok dy=>
    rw[eh]at qx;obtain⟨d,ed,qd⟩:=ResP.of (show ResP E G1 H1 (Res.of (f (.lst xs) dy)) _ from qx);intro ws G2 H2 e2 al;obtain⟨y,rfl,ay⟩:=ArgsM.one al;exact⟨G2,.lst xs,dy,y,d,e2.gh,ax'.ext e2,rfl,ay,ed,λv dn=>qd v G2 H2 (e1.trans e2) dn⟩
   |er c=>rw[eh]at qx;exact qx
   |st=>rw[eh]at qx;exact qx
  |_=>exact qx.elim⟩
theorem Uk{ap cp:Pos}(hu:X.A.units+65<cLine)(ho:iz X B E a g)(he:iz X B E e h)(hb:xc a=true)(hn:gi e=true)(hl:(ap.endLine==cp.line)=true):ff X B E (.Call (.Attribute a "index" ap) [e] [] cp) (gM j0 g h):=
 zgw PySem.F.slot_list_index PySem.F.type_list_index (Pf hu) ho he (yh hb) hn hl
noncomputable def g7:D→D→Option D
 |.int i,.int j=>if(-(2 ^ 64)<i∧i<2 ^ 64)∨(-(2 ^ 64)<j∧j<2 ^ 64)then some (.int (i * j))else none
 |.str x,.int n=>if x.length * n.toNat≤sizeLine∧-(2 ^ 20)≤n∧n<2 ^ 20 then some (.str (Txt.mul x n))else none
 |.tup xs,.int n=>if xs≠[]∧1≤n∧n<2 ^ 20∧xs.length * n.toNat≤16777216 then some (.tup (kA2 n.toNat xs).flatten)else none
 |.lst xs,.int n=>if xs.length * n.toNat≤sizeLine∧-(2 ^ 20)≤n∧n<2 ^ 20 then some (.lst (kA2 n.toNat xs).flatten)else none
 |_,_=>none
theorem zgb{x:Str}{n:Int}(h:x.length * n.toNat≤sizeLine∧-(2 ^ 20)≤n∧n<2 ^ 20):MulOk x n:=by
 obtain⟨h1,h2,h3⟩:=h;refine⟨?_,λa b=>?_,λa b=>?_⟩
 ·simp only[Bool.or_eq_false_iff,decide_eq_false_iff_not];omega
 ·intro hc;have hx:x.length≤sizeLine:=by
   have:1≤n.toNat:=by omega
   exact kAn (Nat.le_mul_of_pos_right _ this) h1
  have hs:(sizeLine:Int)=2 ^ 24:=rfl;have h4:(2 ^ 63 - 1:Int) / n≥2 ^ 43 - 1:=by
   rw[ge_iff_le,Int.le_ediv_iff_mul_le (by omega)];have:(2 ^ 43 - 1:Int) * n≤(2 ^ 43 - 1) * 2 ^ 20:=Int.mul_le_mul_of_nonneg_left (by omega) (by decide);omega
  omega
 ·unfold Builtin.Str.tooLong;simp only[gt_iff_lt,decide_eq_false_iff_not,Nat.not_lt];exact h1
theorem ux{K:KA}{G:Hp}{ds:List D}{vs:List V}(dl:DenL K G ds vs):∀n:Nat,DenL K G (kA2 n ds).flatten (kA2 n vs).flatten
 |0=>rfl
 |n+1=>by
  rw[List.replicate_succ,List.flatten_cons,List.replicate_succ,List.flatten_cons];exact dl.append (ux dl n)
noncomputable def zha(K:KA):R2:=λx y H Q=>∃G dx dy d,Same G H∧Arg K G H dx x∧Arg K G H dy y∧g7 dx dy=some d∧∀v G' H',Ext G H G' H'→Den K G' d v→Q v H'
theorem X0:OpR X (binaryOp .Mult) (zha (kx X)):=by
 intro pins s σ H x y v u Q I rx ry q;obtain⟨G,dx,dy,d,sg,ax,ay,ed,q⟩:=q;unfold g7 at ed;split at ed
 ·split at ed
  ·rename_i hc;cases ed;rw[ax.int]at rx;rw[ay.int]at ry;exact zcr pins s σ H _ _ _ _ Q I rx ry ⟨_,_,rfl,rfl,hc,q _ G H (Ext.refl sg) rfl⟩
  ·cases ed
 ·split at ed
  ·rename_i hc;cases ed;rw[ax.str]at rx;rw[ay.int]at ry;obtain⟨t,rfl⟩:=rx;obtain⟨t',rfl⟩:=ry;exact SB.mul (zgb hc) λt'' k=>⟨.str _,H,I.tok _,⟨_,rfl⟩,q _ G H (Ext.refl sg) rfl⟩
  ·cases ed
 ·split at ed
  ·rename_i xs n hc;cases ed;have ax':=ax;obtain⟨l,vs,rfl,sq,dl⟩:=ax.tup sg;rw[ay.int]at ry;have hl:=dl.length;refine X4 pins s σ H _ _ _ _ Q I rx ry ⟨l,n,vs,rfl,rfl,sq,λz=>hc.1 (List.length_eq_zero_iff.mp (by rw[hl,z];rfl)),hc.2.1,hc.2.2.1,by rw[←hl];exact hc.2.2.2,λhn=>q _ G H (Ext.refl sg) (by subst hn;rw[show(kA2 (1:Int).toNat xs).flatten=xs from kB0 xs];rcases ax' with ad|⟨_,_,_,z,_⟩|⟨_,_,_,z,_⟩<;>first|exact ad|cases z),λp hp=>q _ (upd G p (.tup (kA2 n.toNat vs).flatten)) _ (Ext.new sg _ hp) (pv sg hp (ux dl n.toNat))⟩
  ·cases ed
 ·split at ed
  ·rename_i xs n hc;cases ed;obtain⟨l,vs,rfl,sq,dl⟩:=ax.lst sg;rw[ay.int]at ry;have hl:=dl.length;exact X3 pins s σ H _ _ _ _ Q I rx ry ⟨l,n,vs,rfl,rfl,sq,by omega,by omega,by rw[←hl];exact hc.1,λp hp=>q _ (upd G p (.lst (kA2 n.toNat vs).flatten)) _ (Ext.new sg _ hp) (pq sg hp (ux dl n.toNat))⟩
  ·cases ed
 ·cases ed
theorem zdo(ha:iz X B E a g)(hb:iz X B E b h):ff X B E (.BinOp a .Mult b pos) (g2 g7 g h):=Dr X0 (λG H x y dx dy d sg ax ay ed Q q=>⟨G,dx,dy,d,sg,ax,ay,ed,q⟩) ha hb
noncomputable def Sd(g h:En→Res):En→Res:=λδ=>(g δ).bind λx=>(h δ).bind λy=>match x,y with
 |.lst xs,.int n=>if xs.length * n.toNat≤sizeLine∧-(2 ^ 20)≤n∧n<2 ^ 20 then .ok (.lst (kA2 n.toNat xs).flatten)else .st
 |_,_=>.st
theorem Ts(ha:L8 X B E a g)(hil:IsL g)(hb:iz X B E b h):L8 X B E (.BinOp a .Mult b pos) (Sd g h):=
 PE.imp (Ng zcu ha hb) λσ H Q ⟨G,δ,R,q⟩=>⟨G,δ,R,(ResP.bind q).mono λdx edx qx=>by
  obtain⟨xs,rfl⟩:=hil δ dx edx
  ·refine⟨xs,rfl,λl vs G1 H1 e1 hn gn hl dl=>⟨G1,δ,R.ext e1,((ResP.bind qx).ext e1).mono λdy _ qy y G2 H2 e2 ay=>?_⟩⟩;cases dy with
   |int n=>
    dsimp only at qy;split at qy
    ·rename_i hc;obtain⟨ds,ed,qd⟩:=qy;cases ed;have e12:=e1.trans e2;refine⟨l,n,vs,rfl,ay.int,e2.hh _ _ hl,by omega,by omega,by rw[←dl.length];exact hc.1,λp hp=>?_⟩;exact qd p _ G2 _ (e12.trans (Ext.own e2.gh _ hp)) (eu e12.hh hp) (eu e2.gh hp) cb (ux (dl.mono e2.gg) n.toNat)
    ·exact qy.elim
   |_=>exact qy.elim⟩
theorem W7:IsL (Sd g h):=λδ d e=>by
 unfold Sd at e;cases e1:g δ with
 |er c=>rw[e1]at e;cases e
 |st=>rw[e1]at e;cases e
 |ok x=>
  rw[e1]at e;cases e2:h δ with
  |er c=>rw[e2]at e;cases e
  |st=>rw[e2]at e;cases e
  |ok y=>
   rw[e2]at e;cases x with
   |lst xs=>
    cases y with
    |int n=>
     have e:(if xs.length * n.toNat≤sizeLine∧-(2 ^ 20)≤n∧n<2 ^ 20 then Res.ok (.lst (kA2 n.toNat xs).flatten)else .st)=.ok d:=e;split at e
     ·cases e;exact⟨_,rfl⟩
     ·cases e
    |_=>cases e
   |_=>cases e
theorem Ju:∀{xs:List V}{us:List Value},xs.length=us.length→(∀(i:Nat) x u,xs[i]?=some x→us[i]?=some u→RelV x u)→Vals xs us
 |[],[],_,_=>.nil
 |[],_::_,h,_=>by simp at h
 |_::_,[],h,_=>by simp at h
 |x::xs,u::us,h,f=>.cons (f 0 x u rfl rfl) (Ju (by simpa using h) λi y v e1 e2=>f (i+1) y v (by simpa using e1) (by simpa using e2))
end
inductive ResE where
 |ok (d:D) (δ:En)
 |er (c:Str)
 |st
def zm(K:KA)(G0 B:Hp)(E:EK)(G:Hp)(σ:St)(r:ResE)(P:D→Hp→Hp→En→Prop):Prop:=match r with
 |.ok d δ'=>∀G' H',Same G G'→EnvR K B G' H' σ δ'→Ext G0 B G' H'→P d G' H' δ'
 |.er c=>∀G' H',Ext G0 B G' H'→E c H'
 |.st=>False
noncomputable def tEf(K:KA)(G0 B:Hp)(E:EK)(g:En→ResE):TE:=λσ H Q=>∃G δ,EnvR K B G H σ δ∧Ext G0 B G H∧zm K G0 B E G σ (g δ) λd G' H' _=>∀v,Den K G' d v→Q v H'
noncomputable def tEt(K:KA)(G0 B:Hp)(E:EK)(g:En→ResE):TT:=λσ H Q=>∃G δ,EnvR K B G H σ δ∧Ext G0 B G H∧zm K G0 B E G σ (g δ) λd G' H' _=>∃b,d=.bl b∧Q b H'
abbrev V5(X:Cx)(G0 B:Hp)(E:EK)(e:Expr)(g:En→ResE):Prop:=PE X e (tEf (kx X) G0 B E g)
abbrev EfT(X:Cx)(G0 B:Hp)(E:EK)(e:Expr)(g:En→ResE):Prop:=PT X e (tEt (kx X) G0 B E g)
noncomputable def Res.ef(r:Res)(δ:En):ResE:=match r with
 |.ok d=>.ok d δ
 |.er c=>.er c
 |.st=>.st
noncomputable def Sb(g:En→Res):En→ResE:=λδ=>(g δ).ef δ
section
variable{X:Cx}{G0 B:Hp}{E:EK}{e a b c tg iter:Expr}{g h k:En→Res}{f:En→ResE}{pos p:Pos}{ss tt:List Stmt}{F1 F2:En→Out}
theorem efP{K:KA}{G H:Hp}{σ:St}{δ:En}{r:Res}{P:D→Hp→Hp→En→Prop}(R:EnvR K B G H σ δ)(x:Ext G0 B G H)(q:zm K G0 B E G σ (r.ef δ) P):ResP E G H r λd=>∀G' H',Ext G H G' H'→P d G' H' δ:=by
 cases r with
 |ok d=>exact λG' H' e=>q G' H' e.gg (R.ext e) (x.trans e)
 |er c=>exact λG' H' e=>q G' H' (x.trans e)
 |st=>exact q
theorem Mm(h:ff X B E e g):V5 X G0 B E e (Sb g):=PE.imp h λσ H Q ⟨G,δ,R,x,q⟩=>⟨G,δ,R,(efP R x q).mono λd _ q v G' H' e dn=>q G' H' e v dn⟩
noncomputable def R8(c:En→Res)(f1 f2:En→ResE):En→ResE:=λδ=>match c δ with
 |.ok (.bl true)=>f1 δ
 |.ok (.bl false)=>f2 δ
 |.ok _=>.st
 |.er c=>.er c
 |.st=>.st
theorem Rm{f1 f2:En→ResE}(hc:B5 X B E c g)(h1:V5 X G0 B E a f1)(h2:V5 X G0 B E b f2):V5 X G0 B E (.IfExp c a b pos) (R8 g f1 f2):=
 PE.imp (Iu hc h1 h2) λσ H Q ⟨G,δ,R,x,q⟩=>⟨G,δ,R,by
  unfold R8 at q;cases eg:g δ with
  |er c=>rw[eg]at q;exact λG' H' e=>q G' H' (x.trans e)
  |st=>rw[eg]at q;exact q
  |ok d=>
   rw[eg]at q;cases d with
   |bl t=>
    cases t with
    |true=>
     refine⟨true,rfl,λG1 H1 e1=>⟨G1,δ,R.ext e1,x.trans e1,?_⟩⟩;dsimp only at q;cases ef:f1 δ with
     |ok d δ'=>rw[ef]at q;exact λG' H' s=>q G' H' (e1.gg.trans s)
     |er c=>rw[ef]at q;exact q
     |st=>rw[ef]at q;exact q
    |false=>
     refine⟨false,rfl,λG1 H1 e1=>⟨G1,δ,R.ext e1,x.trans e1,?_⟩⟩;dsimp only at q;cases ef:f2 δ with
     |ok d δ'=>rw[ef]at q;exact λG' H' s=>q G' H' (e1.gg.trans s)
     |er c=>rw[ef]at q;exact q
     |st=>rw[ef]at q;exact q
   |_=>exact q.elim⟩
noncomputable def ya(p:D→D→Option D)(f:En→ResE)(h:En→Res):En→ResE:=λδ=>match f δ with
 |.ok x δ'=>((h δ').bind λy=>Res.of (p x y)).ef δ'
 |.er c=>.er c
 |.st=>.st
theorem zbu{op:CmpOp}{f2:D→D→Option D}{r:R2}(ho:OpR X (compareOp op) r)(hp:gc (kx X) f2 r)(hb':∀x y d,f2 x y=some d→∃b,d=.bl b)(ha:V5 X G0 B E a f)(hb:iz X B E b h)(hm:behindInMarks op b=false):EfT X G0 B E (.Compare a [op] [b] pos) (ya f2 f h):=
 PT.imp (Np ho ha hb hm) λσ H Q ⟨G,δ,R,x,q⟩=>⟨G,δ,R,x,by
  unfold ya at q;cases ef:f δ with
  |er c=>rw[ef]at q;exact q
  |st=>rw[ef]at q;exact q
  |ok dx δ'=>
   rw[ef]at q;intro G1 H1 s1 R1 x1 v dn;have q1:zm (kx X) G0 B E G1 σ (((h δ').bind λy=>Res.of (f2 dx y)).ef δ') λd G' H' _=>∃b,d=.bl b∧Q b H':=by
    dsimp only at q;cases eh:(h δ').bind λy=>Res.of (f2 dx y)with
    |ok d=>rw[eh]at q;exact λG' H' s=>q G' H' (s1.trans s)
    |er c=>rw[eh]at q;exact q
    |st=>rw[eh]at q;exact q
   have q2:=efP R1 x1 q1;refine⟨G1,δ',R1,(ResP.bind q2).mono λdy _ qy y G2 H2 e2 ay=>?_⟩;obtain⟨d,ed,qd⟩:=ResP.of qy;obtain⟨b,rfl⟩:=hb' _ _ _ ed;refine hp G2 H2 v y dx dy (.bl b) e2.gh (Arg.ext e2 (.inl dn)) ay ed _ λw G3 H3 e3 dw=>?_;obtain⟨b',eb,qb⟩:=qd G3 H3 (e2.trans e3);cases eb;exact⟨b,dw,qb⟩⟩
noncomputable def yx(f:En→ResE)(F1 F2:En→Out):En→Out:=λδ=>match f δ with
 |.ok (.bl true) δ'=>F1 δ'
 |.ok (.bl false) δ'=>F2 δ'
 |.ok _ _=>.st
 |.er c=>.er c
 |.st=>.st
theorem zhk(hc:EfT X G0 B E c f)(ha:ur X G0 B E ss F1)(hb:ur X G0 B E tt F2):lu X G0 B E (.If c ss tt pos) (yx f F1 F2):=
 PS.imp (zap hc ha hb) λD σ H ⟨G,δ,R,x,q⟩=>⟨G,δ,R,x,by
  unfold yx at q;cases ef:f δ with
  |er c=>rw[ef]at q;exact q
  |st=>rw[ef]at q;exact q
  |ok d δ'=>
   rw[ef]at q;intro G1 H1 s1 R1 x1;cases d with
   |bl t=>
    refine⟨t,rfl,?_⟩;cases t with
    |true=>exact⟨G1,δ',R1,x1,OutP.same s1 q⟩
    |false=>exact⟨G1,δ',R1,x1,OutP.same s1 q⟩
   |_=>exact q.elim⟩
noncomputable def Nt(i:Nat)(f:En→ResE):En→Out:=λδ=>match f δ with
 |.ok d δ'=>.nx (δ'.set i (.pu d))
 |.er c=>.er c
 |.st=>.st
theorem zef{i:Nat}{x:Str}{pos':Pos}(hs:PS X (.Assign [.Name x pos'] e pos) (Lr (tEf (kx X) G0 B E f) (p5 i))):lu X G0 B E (.Assign [.Name x pos'] e pos) (Nt i f):=
 PS.imp hs λD σ H ⟨G,δ,R,x,q⟩=>⟨G,δ,R,x,by
  unfold Nt at q;cases ef:f δ with
  |er c=>rw[ef]at q;exact q
  |st=>rw[ef]at q;exact q
  |ok d δ'=>
   rw[ef]at q;intro G1 H1 s1 R1 x1 v dn;exact q _ G1 H1 s1 (R1.set dn) x1⟩
noncomputable def Fs(f:En→ResE):En→Out:=λδ=>match f δ with
 |.ok _ δ'=>.nx δ'
 |.er c=>.er c
 |.st=>.st
theorem Za(h:V5 X G0 B E e f)(hs:swapsWith e none pos.line X.env=pure false):lu X G0 B E (.Expr e pos) (Fs f):=
 PS.imp (zc h hs) λD σ H ⟨G,δ,R,x,q⟩=>⟨G,δ,R,x,by
  unfold Fs at q;cases ef:f δ with
  |er c=>rw[ef]at q;exact q
  |st=>rw[ef]at q;exact q
  |ok d δ'=>
   rw[ef]at q;intro G1 H1 s1 R1 x1 v dn;exact q σ G1 H1 s1 R1 x1⟩
theorem Rf{pins:List (Addr×Obj)}{σ:St}{H:Hp}{s:Shared}{a:Addr}{kvs:List (fo×V)}{k:fo}{v:V}{u r:Value}{A:Around}{E:Value→Shared→Prop}{Q:Value→Shared→Prop}(I:Inv X pins σ H s)(e:H a=some (.dK kvs))(hl:kvs.length<sizeLine)(ry:RelV (kV k) u)(rv:RelV v r)
  (h1:∀v' w s',ky kvs k=some v'→RelV v' w→Inv X pins σ H s'→Q w s')(h2:∀s',ky kvs k=none→Inv X pins σ (upd H a (.dK (o7 kvs k v))) s'→Q r s'):
  wpAny (model X.prog X.w) A (call (.builtin "dict.setdefault") [.ref a,u,r]) Q E s:=by
 obtain⟨z,hd,vs,rel,dd⟩:=Rk I.hok e;refine call_meetsIn PySem.F.slot_dict_setdefault dd.typeIs PySem.F.entry_dict_setdefault (PySem.F.args_dict_setdefault_3 _ _ _) (kt_meets_setdefault (bq X.prog X.w) a (Dh ry) hd r)
  ⟨vs,dd,by rw[←rel.length];exact z,λw hw=>?_,λhn h' dd' hs=>?_⟩
 ·have:=rel.val k;rw[hw]at this;cases ev:ky kvs k with
  |none=>rw[ev]at this;cases this
  |some v'=>rw[ev]at this;exact h1 v' w _ ev this (I.tok _)
 ·have hv:=rel.val k;rw[hn]at hv;have ev:ky kvs k=none:=by
   cases ev:ky kvs k with
   |none=>rfl
   |some v'=>rw[ev]at hv;cases hv
  refine h2 _ ev ?_;have he:∃q,h'.get? a=some q:=let ⟨q,_,_,hq,_⟩:=dd';⟨q,hq⟩;have hz:(o7 kvs k v).length≤sizeLine:=by have:=qa kvs k v;omega
  exact Ej I (by rw[e];exact True.intro) hs he (Rj hz hd (rel.put k rv) dd')
end
section
variable{X:Cx}{G0 B:Hp}{E:EK}{e a b c tg iter:Expr}{g h k:En→Res}{f:En→ResE}{pos p:Pos}
noncomputable def jz(i:Nat)(gk gv:En→Res):En→ResE:=λδ=>match δ[i]? with
 | some (.od false kvs) => (match gk δ with
  | .ok dk => (match gv δ with
   | .ok dv => (match d7 dk with
    | some j => if kvs.length < sizeLine then (match de kvs j with
     |some d=>.ok d δ
     |none=>.ok dv (δ.set i (.od false (xk kvs j dv))))else .st
    |none=>.st)
   |.er c=>.er c
   |.st=>.st)
  |.er c=>.er c
  |.st=>.st)
 |_=>.st
theorem P0{K:KA}{G:Hp}{kvs:List (D×D)}{es:List (fo×V)}(dl:DenK K G kvs es){j:fo}(h:ky es j=none):de kvs j=none:=by
 cases e:de kvs j with
 |none=>rfl
 |some d=>
  obtain⟨v,q,_⟩:=(dl.look j).1 d e;rw[h]at q;cases q
theorem Ol{i:Nat}{x:Str}{ke ve:Expr}{ap cp:Pos}(hv:PE X (.Name x p) (Cw i))(hk:iz X B E ke g)(hval:ff X B E ve h)(hn:gi ke=true)(hn2:gi ve=true)(hl:(ap.endLine==cp.line)=true):
  V5 X G0 B E (.Call (.Attribute (.Name x p) "setdefault" ap) [ke,ve] [] cp) (jz i g h):=by
 intro pins s σ H Q I ⟨G,δ,R,ex,q⟩;unfold jz at q;cases ed:δ[i]? with
 |none=>rw[ed]at q;exact q.elim
 |some sl=>
  rw[ed]at q;cases sl with
  |od t kvs=>
   cases t with
   |true=>exact q.elim
   |false=>
    dsimp only at q;obtain⟨l,es,q1,q2,q3,q4,q5⟩:=R.odAt ed;have few:((backTo cp (starEach [ke,ve] X.env)).all (λx=> !x.1) && (backToKw cp (keywordEach [] X.env)).all (λx=>x.1.isSome)
     && decide (([ke,ve]:List Expr).length+([]:List Keyword).length+(if([]:List Keyword).isEmpty then 0 else 1)<30))=true:=by
     rw[q8 (by rw[kAm,kAm,hn,hn2];rfl)];rfl
    refine wpAny_Call_method rfl few hl PySem.F.plainAttrs_dict PySem.F.slot_dict_setdefault PySem.F.type_dict_setdefault (gx (hv pins s σ H (λv H1=>v=.ref l∧H1=H) I ⟨_,q1,rfl,rfl⟩) λu s1 ⟨v,H1,I1,r1,e1,e2⟩=>?_);subst e1 e2;cases r1;obtain⟨t1,t2,_⟩:=Sm I1 (.inl ⟨es,.inl q2⟩);refine⟨t1,t2,?_⟩;rw[Jl hn hn2];have qk:ResP (E) G H1 (g δ) λdk=>ResP E G H1 (h δ) λdv=>∃j,d7 dk=some j∧kvs.length<sizeLine∧zm (kx X) G0 B E G σ (match de kvs j with
     |some d=>.ok d δ
     |none=>.ok dv (δ.set i (.od false (xk kvs j dv)))) λd G' H' _=>∀v,Den (kx X) G' d v→Q v H':=by
     cases eg:g δ with
     |er c=>rw[eg]at q;exact λG' H' e=>q G' H' (ex.trans e)
     |st=>rw[eg]at q;exact q
     |ok dk=>
      rw[eg]at q;dsimp only at q;show ResP E G H1 (h δ) _;cases eh:h δ with
      |er c=>rw[eh]at q;exact λG' H' e=>q G' H' (ex.trans e)
      |st=>rw[eh]at q;exact q
      |ok dv=>
       rw[eh]at q;dsimp only at q;cases ej:d7 dk with
       |none=>rw[ej]at q;exact q.elim
       |some j=>
        rw[ej]at q;dsimp only at q
        by_cases hl:kvs.length<sizeLine
        ·rw[if_pos hl]at q;exact⟨j,rfl,hl,q⟩
        ·rw[if_neg hl]at q;exact q.elim
    refine Calls.callWith_builtin rfl (Calls.evalArgs_plain (Calls.spliced_cons (gx (hk pins s1 σ H1 (λy H2=>∃G2 dk,Ext G H1 G2 H2∧Arg (kx X) G2 H2 dk y∧ResP E G H1 (h δ) λdv=>∃j,d7 dk=some j∧kvs.length<sizeLine∧zm (kx X) G0 B E G σ (match de kvs j with
     |some d=>.ok d δ
     |none=>.ok dv (δ.set i (.od false (xk kvs j dv)))) λd G' H' _=>∀v,Den (kx X) G' d v→Q v H') I1 ⟨G,δ,R,qk.mono λdk _ qk y G2 H2 e2 ay=>⟨G2,dk,e2,ay,qk⟩⟩) λyv s2 ⟨y,H2,I2,ry,G2,dk,e2,ay,qv⟩=>?_)))
    refine Calls.spliced_cons (gx (hval pins s2 σ H2 (λz H3=>∃G3 dv j,Ext G2 H2 G3 H3∧Den (kx X) G3 dv z∧d7 dk=some j∧kvs.length<sizeLine∧zm (kx X) G0 B E G σ (match de kvs j with
     |some d=>.ok d δ
     |none=>.ok dv (δ.set i (.od false (xk kvs j dv)))) λd G' H' _=>∀v,Den (kx X) G' d v→Q v H') I2 ⟨G2,δ,R.ext e2,(qv.ext e2).mono λdv _ ⟨j,ej,hl,q⟩ z G3 H3 e3 dz=>⟨G3,dv,j,e3,dz,ej,hl,q⟩⟩) λzv s3 ⟨z,H3,I3,rz,G3,dv,j,e3,dz,ej,hsz,q⟩=>Calls.spliced_nil ?_)
    have e23:=e2.trans e3;have h3:=e23.hh _ _ q2;have g3:=e23.fr _ _ q2 q4 rfl;have dl3:=q3.mono e23.gg;have R3:=R.ext e23;rw[rg ay ej]at ry;refine Rf I3 h3 (by rw[←dl3.length];exact hsz) ry rz (λv' w s' ev rw' I'=>?_) λs' ev I'=>?_
    ·cases el:de kvs j with
     |none=>rw[(dl3.look j).2 el]at ev;cases ev
     |some d=>
      rw[el]at q;obtain⟨v2,z1,z2⟩:=(dl3.look j).1 d el;rw[z1]at ev;cases ev;exact⟨v',H3,I',rw',q G3 H3 e23.gg R3 (ex.trans e23) v' z2⟩
    ·have el:=P0 dl3 ev;rw[el]at q;exact⟨z,_,I',rz,q G3 _ e23.gg (EnvR.wrD R3 ed q1 h3 (dl3.put dz j)) (Ext.wr (ex.trans e23) g3 q5) z dz⟩
  |no=>exact q.elim
  |pu _=>exact q.elim
  |bo _=>exact q.elim
  |ow _=>exact q.elim
noncomputable def zak(kvs:List (D×D)):List D:=kvs.map (·.1)
theorem Da{K:KA}{G:Hp}:∀{kvs:List (D×D)}{es:List (fo×V)},DenK K G kvs es→DenL K G (zak kvs) (es.map λp=>kV p.1)
 |[],es,h=>by rw[show es=[]from h];rfl
 |(_,_)::_,es,⟨k,v,r,h1,h0,h2,h3⟩=>by
  subst h1 h0;refine⟨kV k,_,rfl,?_,Da h3⟩;cases k<;>rfl
noncomputable def fi:D→Option D
 |.lst ds=>some (.lst ds)
 |.tup ds=>some (.lst ds)
 |.dct false kvs=>some (.lst (zak kvs))
 |_=>none
theorem zf6{P:Program}{w:World}{k:fo}{v:Value}(h:(bq P w).is k v=true):RelV (kV k) v:=by
 rcases cq (show yc k v=true from h)with ⟨i,t,rfl,rfl⟩|⟨x,t,rfl,rfl⟩
 ·exact⟨t,rfl⟩
 ·exact⟨t,rfl⟩
theorem J5(hc:X.calm=true):CallR X (.type "list") (λxs H Q=>∃p es,xs=[.ref p]∧H p=some (.dK es)∧∀l,H l=none→Q (.ref l) (upd H l (.lst (es.map λp=>kV p.1)))):=by
 intro pins s σ H xs us Q I r h;obtain⟨p,es,rfl,hp,q⟩:=h;obtain⟨u,rfl,rx⟩:=we r;cases rx;obtain⟨z,hd,vs,rel,dd⟩:=Rk I.hok hp;obtain⟨ep,da⟩:=dd.dictAt;refine PySem.W.kdl_call (PySem.W.kdl_dict (knd:=bq X.prog X.w) (kvs:=vs) (ep:=ep) hd) (I.ok.hd hc) da (by rw[←rel.length];exact z) λh' tk acc c' hk hS ⟨hn,hacc⟩=>?_;have hv:Vals (es.map λp=>kV p.1) acc.toList:=by
  refine Ju (by rw[kA3,rel.length];simp[hn]) λi x u e1 e2=>?_;obtain⟨k,y,ek,hk'⟩:=hacc i u (by simpa using e2);rw[kAs]at e1;have key:∀{l:List (fo×V)}{m:List (fo×Value)},KV l m→∀(i:Nat)(p:fo×V)(q:fo×Value),l[i]?=some p→m[i]?=some q→p.1=q.1:=by
   intro l m r;induction r with
   |nil=>intro i p q e;simp at e
   |@cons a b as bs hh t ih=>
    intro i p q e1 e2;cases i with
    |zero=>simp at e1 e2;subst e1 e2;exact hh.1
    |succ i=>exact ih i p q (by simpa using e1) (by simpa using e2)
  cases eo:es[i]? with
  |none=>rw[eo]at e1;cases e1
  |some pr=>
   rw[eo]at e1;cases e1;have:=key rel i pr (k,y) eo ek;show RelV (kV pr.1) u;rw[this];exact zf6 hk'
 refine⟨.ref _,_,I.laid (t':=tk) (o:=.lst (es.map λp=>kV p.1)) hk (kA0 _) ⟨by rw[kA3];exact z,acc.toList,c',hv,by simpa using hS⟩,rfl,q _ I.fresh⟩
theorem Bb(hc:X.calm=true)(hg:Gl X "list")(hm:X.mg "list"=none)(ha:iz X B E e g)(hn:gi e=true):L8 X B E (.Call (.Name "list" p) [e] [] pos) (g1 fi g):=
 PE.imp (m7 (CallR.or Ee (J5 hc)) hg hm PyProof.Rows.boot_list (jx ha kc (bj hn)) (by decide) (by decide) (bj hn) rfl) λσ H Q ⟨G,δ,R,q⟩=>⟨G,δ,R,by
  unfold ae;unfold g1 at q;cases e:g δ with
  |er c=>rw[e]at q;exact q
  |st=>rw[e]at q;exact q
  |ok dx=>
   rw[e]at q;obtain⟨d,ed,ds,e2,qd⟩:=ResP.of (show ResP E G H (Res.of (fi dx)) _ from q);subst e2;intro vs G1 H1 e1 al;obtain⟨v,rfl,ax⟩:=ArgsM.one al;unfold fi at ed;split at ed
   ·cases ed;obtain⟨l,vs,rfl,sq,dl⟩:=ax.lst e1.gh;exact .inl ⟨l,vs,rfl,.inl sq,λp hp=>qd p vs G1 _ (e1.trans (Ext.own e1.gh _ hp)) (eu e1.hh hp) (eu e1.gh hp) cb dl⟩
   ·cases ed;obtain⟨l,vs,rfl,sq,dl⟩:=ax.tup e1.gh;exact .inl ⟨l,vs,rfl,.inr sq,λp hp=>qd p vs G1 _ (e1.trans (Ext.own e1.gh _ hp)) (eu e1.hh hp) (eu e1.gh hp) cb dl⟩
   ·cases ed;obtain⟨l,es,rfl,h1,dl⟩:=Arg.dctK e1.gh ax;exact .inr ⟨l,es,rfl,h1,λp hp=>qd p _ G1 _ (e1.trans (Ext.own e1.gh _ hp)) (eu e1.hh hp) (eu e1.gh hp) cb (Da dl)⟩
   ·cases ed⟩
theorem Ow:IsL (g1 fi g):=λδ d h=>by
 unfold g1 at h;cases e:g δ with
 |er c=>rw[e]at h;cases h
 |st=>rw[e]at h;cases h
 |ok dx=>
  rw[e]at h;have h':Res.of (fi dx)=.ok d:=h;unfold fi at h';split at h'
  ·cases h';exact⟨_,rfl⟩
  ·cases h';exact⟨_,rfl⟩
  ·cases h';exact⟨_,rfl⟩
  ·cases h'
end
section
variable{X:Cx}{G0 B:Hp}{E:EK}{e a b:Expr}{es:List Expr}{g h k:En→Res}{pos p:Pos}
theorem zgt:ff X B E (.Dict [] [] pos) (gC (.dct false [])):=
 PE.imp Ir λσ H Q ⟨G,δ,R,q⟩ p hp=>q (.ref p) (upd G p (.dK [])) _ (Ext.new R.gh _ hp) ⟨p,rfl,.inl ⟨rfl,[],cb,rfl⟩⟩
noncomputable def zd9(i:Nat)(g:En→Res):En→Out:=λδ=>(g δ).then λd=>match d with
 |.dct false kvs=>.nx (δ.set i (.od false kvs))
 |_=>.st
end
noncomputable def PD(K:KA)(G:Hp):List (fo×D)→List (fo×V)→Prop
 |[],[]=>True
 |(j,d)::r,(k,v)::q=>j=k∧Den K G d v∧PD K G r q
 |_,_=>False
theorem PD.length{K:KA}{G:Hp}:∀{l:List (fo×D)}{q:List (fo×V)},PD K G l q→l.length=q.length
 |[],[],_=>rfl
 |_::_,_::_,⟨_,_,h⟩=>by rw[kA7,kA7,PD.length h]
noncomputable def riseF(m:Nat):List Nat→Prop
 |[]=>True
 |k::r=>m≤k∧k<6∧riseF (k+1) r
theorem riseF.mono{m m':Nat}(h:m'≤m):∀{S:List Nat},riseF m S→riseF m' S
 |[],_=>trivial
 |_::_,⟨h1,h2,h3⟩=>⟨kAn h h1,h2,h3⟩
noncomputable def zk2(S:List Nat)(led:Bool):SetTable:={mask:=if S.length<5 then 7 else 31,place:=S.toArray,dummies:=#[],finger:=0,led,moves:=if S.length<5 then 0 else 1,plain:=true}
def SetS(h:Heap)(a:Addr)(S:List Nat)(led:Bool):Prop:=riseF 0 S∧∃(es:Array (Int×Value)) (ep:Nat),h.get? a=some {cls:=.type "set",dict:=none,data:=.set es ep (zk2 S led)}∧
 es.toList.map (·.1)=S.map Int.ofNat∧IntsAre (es.toList.map (·.2)) (S.map Int.ofNat)
theorem riseF.len:∀{S:List Nat}{m:Nat},m≤6→riseF m S→S.length+m≤6
 |[],m,h,_=>by simpa using h
 |k::r,m,_,⟨h1,h2,h3⟩=>by
  have:=riseF.len (by omega) h3;rw[kA7];omega
theorem riseF.lt:∀{S:List Nat}{m:Nat},riseF m S→∀k∈S,m≤k∧k<6
 |[],_,_,k,h=>by simp at h
 |a::r,m,⟨h1,h2,h3⟩,k,h=>by
  rcases kA6.mp h with rfl|h
  ·exact⟨h1,h2⟩
  ·have:=riseF.lt h3 k h;exact⟨by omega,this.2⟩
theorem oz{α:Type}(es:Array α):(Array.range es.size).filterMap (es[·]?)=es:=by
 apply Array.toList_inj.mp;rw[Array.toList_filterMap,Array.toList_range];have gen:∀(l:List α),(kA5 l.length).filterMap (λi=>l[i]?)=l:=by
  intro l;induction l with
  |nil=>rfl
  |cons a r ih=>
   rw[kA7,List.range_succ_eq_map,List.filterMap_cons,List.filterMap_map];simp only[List.getElem?_cons_zero]
   congr 1
 have:=gen es.toList;rw[kAb]at this;simpa using this
noncomputable def Hw(w:World):Bool:= !(w.params.followText "set-order")
theorem SetS.keep{h h':Heap}{a:Addr}{S:List Nat}{led:Bool}(x:SetS h a S led)(k:∀o,h.get? a=some o→h'.get? a=some o):SetS h' a S led:=by
 obtain⟨r,es,ep,ho,q⟩:=x;exact⟨r,es,ep,k _ ho,q⟩
section
variable{prog:Program}{w:World}{A:Around}{E:Value→Shared→Prop}{s:Shared}
theorem Xq(x:Value){Q:Value→Shared→Prop}(h:Q (.ref s.heap.objs.size) {s with heap:=s.heap.push {cls:=.type "set",dict:=none,data:=.set #[] 0 (.fresh 0 0 (Hw w))}}):
  codeAny (model prog w) A (.call (.builtin "set.__new__") ⟨[.type "set",x],[]⟩) (wants Q E) s:=by
 refine codeAny_of_tree ?_;show wpAny _ A.in1 (checkBuiltinCall "set.__new__" ⟨[.type "set",x],[]⟩>>=λ_=>again (.builtin "set.__new__" ⟨[.type "set",x],[]⟩)) _ _ s;refine wpAny_bind (wpAny_of_eq (PySem.F.newCall_set_1 x) (wpAny_pure ?_));refine⟨plainId_quiet PySem.F.plain_set_new _,codeAny_builtin PySem.F.entry_set_new ?_⟩;rw[Around.under_plainId PySem.F.plain_set_new _];unfold Builtin.«set.__new__» Builtin.Frozenset.newClass;have hsub:=sub_set_self;obtain⟨hp,gs,dr,tk,os⟩:=s;dsimp only at h⊢
 wp_walk
 refine wpAny_askSetting (wpAny_pure ?_);dsimp only;simp only[newObj];refine wpAny_bind (wpAny_alloc (wpAny_pure (wpAny_pure ?_)));exact h
end
theorem t7{α:Type}:∀{l:List α}{i:Nat}(h:i<l.length),(l[i]::l.eraseIdx i).Perm l
 |a::r,0,_=>List.Perm.refl _
 |a::r,i+1,h=>by
  have h':i<r.length:=by simpa using h
  exact(List.Perm.swap a (r[i]'h') (r.eraseIdx i)).trans ((t7 h').cons a)
theorem yi{α:Type}(next:Nat→Nat):∀(n k:Nat)(left:List α)(out:Array α),left.length=n→(pickOrder.go next n k left out).toList.Perm (out.toList++left)
 |0,k,left,out,h=>by
  have:left=[]:=List.length_eq_zero_iff.mp h;subst this;unfold pickOrder.go;rw[kB0]
 |n+1,k,left,out,h=>by
  unfold pickOrder.go;have hlt:next k % left.length<left.length:=Nat.mod_lt _ (by omega)
  rw[kB2 hlt];dsimp only;refine(yi next n (k+1) _ _ (by rw[List.length_eraseIdx,if_pos hlt];omega)).trans ?_;rw[Array.toList_push,List.append_assoc];refine List.Perm.append_left _ ?_;exact t7 hlt
theorem Pt{α:Type}(next:Nat→Nat)(xs:Array α):(pickOrder next xs).toList.Perm xs.toList:=by
 have:=yi next xs.size 0 xs.toList #[] (by simp)
 simpa[pickOrder]using this
noncomputable def mj(w:World)(a ep:Nat)(es:Array (Int×Value)):Array (Int×Value):=if w.params.followText "set-order" then pickOrder (w.params.setOrder a ep) es else es
theorem lg(w:World)(a ep:Nat)(es:Array (Int×Value)):(mj w a ep es).toList.Perm es.toList:=by
 unfold mj;split
 ·exact Pt _ _
 ·exact List.Perm.refl _
def SetIt(h:Heap)(I a:Addr)(slot i n ep:Nat):Prop:=h.get? I=some {cls:=.type "set_iterator",data:=.fields #[rawInt slot,rawInt i,.ref a,rawInt n,rawInt ep]}
theorem ft:Slot "set_iterator" "__next__" "set_iterator.__next__":=
 .of (owner:="set_iterator") (n:="__next__") (by rw[typeLookup_type,builtinLookup_eq_fast];kernel_rfl) (by decide+kernel) (by decide+kernel) (by decide+kernel) (.inl (by decide+kernel)) (by rw[isSubtype_type];kernel_rfl)
theorem ou:entryFor table "set_iterator.__next__"=some Builtin.«set_iterator.__next__»:=entryFor_of_tree (by kernel_rfl)
theorem ot(a:Value):argsOk "set_iterator.__next__" ⟨[a],[]⟩:=by
 unfold argsOk;kernel_rfl
theorem vy:Slot "set_iterator" "__iter__" "set_iterator.__iter__":=
 .of (owner:="set_iterator") (n:="__iter__") (by rw[typeLookup_type,builtinLookup_eq_fast];kernel_rfl) (by decide+kernel) (by decide+kernel) (by decide+kernel) (.inl (by decide+kernel)) (by rw[isSubtype_type];kernel_rfl)
theorem Bp:entryFor table "set.__iter__"=some Builtin.«frozenset.__iter__»:=entryFor_alias (id':="frozenset.__iter__") (by kernel_rfl) rfl (by decide+kernel) (by kernel_rfl)
theorem Br(a:Value):argsOk "set_iterator.__iter__" ⟨[a],[]⟩:=by
 unfold argsOk;kernel_rfl
theorem Bs:entryFor table "set_iterator.__iter__"=some Builtin.«dict_keyiterator.__iter__»:=entryFor_alias (id':="dict_keyiterator.__iter__") (by kernel_rfl) (by first|rfl|decide+kernel) (by decide+kernel) (by kernel_rfl)
section
variable{prog:Program}{w:World}{A:Around}{E:Value→Shared→Prop}{s:Shared}{a I:Addr}{S:List Nat}{es:Array (Int×Value)}{ep i:Nat}
theorem SetIt.ty{slot n:Nat}(h:SetIt s.heap I a slot i n ep):s.TypeIs (.ref I) "set_iterator":=⟨_,h,rfl⟩
theorem Jc(hT:s.TypeIs (.ref a) "set"){Q:Bool→Shared→Prop}(h:Q false s):wpAny (model prog w) A (Builtin.List.listLengthHint (.ref a)) Q E s:=by
 unfold Builtin.List.listLengthHint;refine wpAny_bind (wpAny_specialOf hT PySem.F.slot_set_len.lookup ?_);generalize hid:("set.__len__":String)=id0
 wp_delta
 rw[show splitId id0=some ("set","__len__")from by subst hid;decide+kernel];subst hid;refine wpAny_bind (wpAny_isInstance (T:="set") (b:=true) hT sub_set_self ?_);refine wpAny_ite_split (λhab=>absurd hab (by decide)) (λ_=>?_);refine wpAny_ite_split (λ_=>?_) (λhab=>absurd (by decide+kernel) hab);exact wpAny_bind (wpAny_typeOf hT (wpAny_pure h))
end
section
variable{X:Cx}
theorem riseF.pw:∀{S:List Nat}{m:Nat},riseF m S→(S.map Int.ofNat).Pairwise (· ≤·)
 |[],_,_=>List.Pairwise.nil
 |k::r,m,⟨h1,h2,h3⟩=>by
  rw[kA4];refine List.Pairwise.cons (λx hx=>?_) (riseF.pw h3);obtain⟨j,hj,rfl⟩:=kAr.mp hx;have:=(riseF.lt h3 j hj).1;show(k:Int)≤(j:Int);omega
end
end Pu
end
section
namespace Pu
open PySem PySem.Spec PyProof.Rows L2 PySem.W
noncomputable def GoOk(n:Nat)(cmp:Nat→Nat→Bool){α:Type}:KasT α→(α→Prop)→Prop
 |.ret a,R=>R a
 |.ask i j k,R=>i<n∧j<n∧GoOk n cmp (k (cmp i j)) R
section
variable{n:Nat}{cmp:Nat→Nat→Bool}
theorem GoOk.mono{α:Type}{R R':α→Prop}(h:∀a,R a→R' a):∀{t:KasT α},GoOk n cmp t R→GoOk n cmp t R'
 |.ret a,g=>h a g
 |.ask i j k,⟨g1,g2,g3⟩=>⟨g1,g2,GoOk.mono h g3⟩
theorem GoOk.bind{α β:Type}{f:α→KasT β}{R:β→Prop}:∀{t:KasT α},GoOk n cmp t (λa=>GoOk n cmp (f a) R)→GoOk n cmp (t.bind f) R
 |.ret a,g=>g
 |.ask i j k,⟨g1,g2,g3⟩=>⟨g1,g2,GoOk.bind g3⟩
theorem GoOk.wp{α:Type}{C:Nat→Nat→(Bool→Shared→Prop)→Shared→Prop}{R:α→Prop}{Q:α→Shared→Prop}{s:Shared}(hc:∀i j (K:Bool→Shared→Prop),i<n→j<n→K (cmp i j) s→C i j K s)(hq:∀a,R a→Q a s):
  ∀{t:KasT α},GoOk n cmp t R→t.kasWp C Q s
 |.ret a,g=>hq a g
 |.ask i j k,⟨g1,g2,g3⟩=>hc i j _ g1 g2 (GoOk.wp hc hq g3)
structure Ord(n:Nat)(cmp:Nat→Nat→Bool):Prop where
 as:∀i j,i<n→j<n→i≠j→cmp j i= !cmp i j
 tr:∀i j k,i<n→j<n→k<n→cmp i j=true→cmp j k=true→cmp i k=true
noncomputable def At(p:Array Nat)(i:Nat):Nat:=p.getD i 0
def PermR(n:Nat)(p:Array Nat):Prop:=p.toList.Perm (kA5 n)
theorem PermR.size{p:Array Nat}(h:PermR n p):p.size=n:=by
 have:=List.Perm.length_eq h;simpa using this
theorem zr{p:Array Nat}{i:Nat}(h:i<p.size):At p i=p[i]:=by
 unfold At;simp[Array.getD,h]
theorem PermR.lt{p:Array Nat}(h:PermR n p){i:Nat}(hi:i<n):At p i<n:=by
 have hs:i<p.size:=by rw[h.size];exact hi
 rw[zr hs];exact kB1.mp (h.mem_iff.mp (by simp))
theorem PermR.ne{p:Array Nat}(h:PermR n p){i j:Nat}(hi:i<n)(hj:j<n)(e:i≠j):At p i≠At p j:=by
 have hs:i<p.size:=by rw[h.size];exact hi
 have ht:j<p.size:=by rw[h.size];exact hj
 rw[zr hs,zr ht];have nd:p.toList.Nodup:=(h.nodup_iff).mpr List.nodup_range;intro z;have pw:=List.pairwise_iff_getElem.mp nd;rcases Nat.lt_or_gt_of_ne e with q|q
 ·exact pw i j (by simpa using hs) (by simpa using ht) q (by simpa using z)
 ·exact pw j i (by simpa using ht) (by simpa using hs) q (by simpa using z.symm)
def So(cmp:Nat→Nat→Bool)(p:Array Nat)(m:Nat):Prop:=∀a b,a<b→b<m→cmp (At p a) (At p b)=true
def De(cmp:Nat→Nat→Bool)(p:Array Nat)(m:Nat):Prop:=∀a b,a<b→b<m→cmp (At p b) (At p a)=true
theorem So.succ{p:Array Nat}{m:Nat}(O:Ord n cmp)(hp:PermR n p)(h1:1≤m)(hm:m<n)(h:So cmp p m)(hc:cmp (At p m) (At p (m - 1))=false):So cmp p (m+1):=by
 intro a b hab hb
 by_cases hb':b<m
 ·exact h a b hab hb'
 ·obtain rfl:b=m:=by omega
  have e:cmp (At p (b - 1)) (At p b)=true:=by
   have:=O.as (At p b) (At p (b - 1)) (hp.lt hm) (hp.lt (by omega)) (hp.ne hm (by omega) (by omega));rw[this,hc];rfl
  by_cases ha:a=b - 1
  ·rw[ha];exact e
  ·exact O.tr _ _ _ (hp.lt (by omega)) (hp.lt (by omega)) (hp.lt hm) (h a (b - 1) (by omega) (by omega)) e
theorem De.succ{p:Array Nat}{m:Nat}(O:Ord n cmp)(hp:PermR n p)(h1:1≤m)(hm:m<n)(h:De cmp p m)(hc:cmp (At p m) (At p (m - 1))=true):De cmp p (m+1):=by
 intro a b hab hb
 by_cases hb':b<m
 ·exact h a b hab hb'
 ·obtain rfl:b=m:=by omega
  by_cases ha:a=b - 1
  ·rw[ha];exact hc
  ·exact O.tr _ _ _ (hp.lt hm) (hp.lt (by omega)) (hp.lt (by omega)) hc (h a (b - 1) (by omega) (by omega))
theorem Jy{p:Array Nat}(O:Ord n cmp)(hp:PermR n p):∀(f m:Nat),1≤m→m+f≤n→So cmp p m→GoOk n cmp (kas_asc p f m) (λk=>m≤k∧k≤m+f∧So cmp p k∧(k<m+f→cmp (At p k) (At p (k - 1))=true))
 |0,m,h1,h2,h=>⟨kA0 _,kA0 _,h,λz=>by omega⟩
 |f+1,m,h1,h2,h=>by
  refine⟨hp.lt (show m<n by omega),hp.lt (show m - 1<n by omega),?_⟩;show GoOk n cmp (if cmp (At p m) (At p (m - 1))=true then KasT.ret m else kas_asc p f (m+1)) _
  by_cases hc:cmp (At p m) (At p (m - 1))=true
  ·rw[if_pos hc];exact⟨kA0 _,by omega,h,λ_=>hc⟩
  ·rw[if_neg hc];refine(Jy O hp f (m+1) (by omega) (by omega) (h.succ O hp h1 (by omega) (by simpa using hc))).mono λk g=>?_;obtain⟨g1,g2,g3,g4⟩:=g;exact⟨by omega,by omega,g3,λz=>g4 (by omega)⟩
theorem Ml{p:Array Nat}(O:Ord n cmp)(hp:PermR n p):∀(f m:Nat),2≤m→m+f≤n→De cmp p m→GoOk n cmp (kas_desc f p m 0) (λr=>r.1=p∧r.2.2=0∧m≤r.2.1∧r.2.1≤m+f∧De cmp p r.2.1)
 |0,m,h1,h2,h=>⟨rfl,rfl,kA0 _,kA0 _,h⟩
 |f+1,m,h1,h2,h=>by
  have l1:At p m<n:=hp.lt (by omega);have l2:At p (m - 1)<n:=hp.lt (by omega);refine⟨l1,l2,?_⟩;show GoOk n cmp (if cmp (At p m) (At p (m - 1))=true then(if 0>0 then kas_desc f (kas_rev p (m - (0+1)) m) (m+1) 0 else kas_desc f p (m+1) 0)
   else .ask (At p (m - 1)) (At p m) λd=>if d=true then .ret (p,m,0)else kas_desc f p (m+1) (0+1)) _
  by_cases hc:cmp (At p m) (At p (m - 1))=true
  ·rw[if_pos hc,if_neg (by omega)];refine(Ml O hp f (m+1) (by omega) (by omega) (h.succ O hp (by omega) (by omega) hc)).mono λr g=>?_;obtain⟨g1,g2,g3,g4,g5⟩:=g;exact⟨g1,g2,by omega,by omega,g5⟩
  ·rw[if_neg hc];have e:cmp (At p (m - 1)) (At p m)=true:=by
    have:=O.as (At p m) (At p (m - 1)) l1 l2 (hp.ne (by omega) (by omega) (by omega));rw[this];simpa using hc
   refine⟨l2,l1,?_⟩;dsimp only;rw[if_pos e];exact⟨rfl,rfl,kA0 _,(show m≤m+(f+1) by omega),h⟩
theorem PermR.rev{p:Array Nat}(hp:PermR n p)(i j:Nat):PermR n (kas_rev p i j):=(Array.perm_iff_toList_perm.mp (mirror_perm p i j _)).trans hp
theorem PermR.bub{p:Array Nat}(hp:PermR n p)(i j:Nat):PermR n (bubble p i j):=(Array.perm_iff_toList_perm.mp (bubble_perm p i j)).trans hp
theorem wj{p:Array Nat}{i:Nat}:At p i=(p[i]?).getD 0:=by
 unfold At;simp[Array.getD_eq_getD_getElem?]
theorem Qw{p:Array Nat}{m:Nat}(hm:m≤p.size){k:Nat}(hk:k<m):At (kas_rev p 0 m) k=At p (m - 1 - k):=by
 rw[wj,wj];unfold kas_rev;rw[getElem?_mirror_all hm];rw[if_pos (by omega)]
 congr 2
 omega
theorem Vp{p:Array Nat}{m:Nat}(O:Ord n cmp)(hp:PermR n p)(h1:1≤m)(h2:m≤n)(h:De cmp p m):GoOk n cmp (kas_tail3 m n p) (λr=>PermR n r.2∧1≤r.1∧r.1≤n∧So cmp r.2 r.1):=by
 unfold kas_tail3;have hr:=hp.rev 0 m;have hs:So cmp (kas_rev p 0 m) m:=λa b hab hb=>by
  have hz:m≤p.size:=by rw[hp.size];exact h2
  rw[Qw hz (by omega),Qw hz hb];exact h _ _ (by omega) (by omega)
 refine GoOk.bind ((Jy O hr (n - m) m h1 (by omega) hs).mono λk g=>?_);obtain⟨g1,g2,g3,_⟩:=g;exact⟨hr,by omega,by omega,g3⟩
theorem Re{p:Array Nat}(O:Ord n cmp)(hp:PermR n p)(h2:2≤n):GoOk n cmp (kas_count n p) (λr=>PermR n r.2∧1≤r.1∧r.1≤n∧So cmp r.2 r.1):=by
 unfold kas_count;refine GoOk.bind ((Jy O hp (n - 1) 1 (kA0 _) (by omega) (λa b h1 h2=>by omega)).mono λm g=>?_);obtain⟨g1,g2,g3,g4⟩:=g
 by_cases e1:(m==n)=true
 ·rw[if_pos e1];exact⟨hp,g1,by omega,g3⟩
 ·rw[if_neg e1];have ne:m≠n:=λz=>e1 (by rw[z];exact beq_self_eq_true _)
  by_cases e2:m>1
  ·rw[if_pos e2];refine⟨hp.lt (show 0<n by omega),hp.lt (show m - 1<n by omega),?_⟩;have:cmp (At p 0) (At p (m - 1))=true:=g3 0 (m - 1) (by omega) (by omega);show GoOk n cmp (if cmp (At p 0) (At p (m - 1))=true then _ else _) _;rw[if_pos this];exact⟨hp,g1,by omega,g3⟩
  ·rw[if_neg e2];obtain rfl:m=1:=by omega
   have c0:=g4 (by omega);unfold kas_descPart;refine GoOk.bind ((Ml O hp (n - 2) 2 (kA0 _) (by omega) (λa b h1 h2=>?_)).mono λr g=>?_)
   ·obtain rfl:b=1:=by omega
    obtain rfl:a=0:=by omega
    exact c0
   ·obtain⟨k1,k2,k3,k4,k5⟩:=g;rw[k1,k2,if_neg (by omega)];exact Vp O hp (by omega) (by omega) k5
theorem Be{p:Array Nat}{k:Nat}(O:Ord n cmp)(hp:PermR n p)(hk:k<n)(hs:So cmp p k):∀(f l r:Nat),l≤r→r≤k→r - l≤f→(∀a,a<l→cmp (At p a) (At p k)=true)→(∀a,r≤a→a<k→cmp (At p k) (At p a)=true)→
  GoOk n cmp (kas_place p k f l r) (λm=>m≤k∧(∀a,a<m→cmp (At p a) (At p k)=true)∧(∀a,m≤a→a<k→cmp (At p k) (At p a)=true))
 |0,l,r,h1,h2,h3,h4,h5=>by
  obtain rfl:l=r:=by omega
  exact⟨h2,h4,h5⟩
 |f+1,l,r,h1,h2,h3,h4,h5=>by
  unfold kas_place
  by_cases hl:l≥r
  ·rw[if_pos hl];obtain rfl:l=r:=by omega
   exact⟨h2,h4,h5⟩
  ·rw[if_neg hl];have hm:(l+r) / 2<k:=by omega
   refine⟨hp.lt hk,hp.lt (by omega),?_⟩;show GoOk n cmp (if cmp (At p k) (At p ((l+r) / 2))=true then kas_place p k f l ((l+r) / 2)else kas_place p k f ((l+r) / 2+1) r) _
   by_cases hc:cmp (At p k) (At p ((l+r) / 2))=true
   ·rw[if_pos hc];refine Be O hp hk hs f l _ (by omega) (by omega) (by omega) h4 λa a1 a2=>?_
    by_cases z:a=(l+r) / 2
    ·rw[z];exact hc
    ·exact O.tr _ _ _ (hp.lt hk) (hp.lt (by omega)) (hp.lt (by omega)) hc (hs _ _ (by omega) a2)
   ·rw[if_neg hc];have e:cmp (At p ((l+r) / 2)) (At p k)=true:=by
     have:=O.as (At p k) (At p ((l+r) / 2)) (hp.lt hk) (hp.lt (by omega)) (hp.ne hk (by omega) (by omega));rw[this];simpa using hc
    refine Be O hp hk hs f _ r (by omega) (by omega) (by omega) (λa ha=>?_) h5
    by_cases z:a=(l+r) / 2
    ·rw[z];exact e
    ·exact O.tr _ _ _ (hp.lt (by omega)) (hp.lt (by omega)) (hp.lt hk) (hs a _ (by omega) (by omega)) e
theorem Qv{p:Array Nat}{k l:Nat}(hk:k<p.size)(hl:l≤k)(i:Nat):At (bubble p k (k - l)) i=if i=l then At p k else if l<i∧i≤k then At p (i - 1)else At p i:=by
 rw[wj,getElem?_bubble hk (k - l) (by omega),wj,wj,wj];have e:k - (k - l)=l:=by omega
 by_cases h1:i=l
 ·subst h1;simp[e]
 ·by_cases h2:l<i∧i≤k
  ·simp[e,h1,h2]
  ·simp[e,h1,h2]
theorem Mc(O:Ord n cmp):∀(f k:Nat)(p:Array Nat),PermR n p→1≤k→k+f=n→So cmp p k→GoOk n cmp (kas_bin f p k) (λq=>PermR n q∧So cmp q n)
 |0,k,p,hp,h1,h2,hs=>by
  obtain rfl:k=n:=by omega
  exact⟨hp,hs⟩
 |f+1,k,p,hp,h1,h2,hs=>by
  unfold kas_bin;have hk:k<n:=by omega
  refine GoOk.bind ((Be O hp hk hs k 0 k (kAt _) (kA0 _) (by omega) (λa h=>by omega) (λa h h'=>by omega)).mono λl g=>?_);obtain⟨g1,g2,g3⟩:=g;refine Mc O f (k+1) _ (hp.bub _ _) (by omega) (by omega) λa b hab hb=>?_;have hz:k<p.size:=by rw[hp.size];exact hk
  rw[Qv hz g1,Qv hz g1]
  by_cases a1:a=l
  ·rw[if_pos a1,if_neg (by omega),if_pos (by omega)];exact g3 _ (by omega) (by omega)
  ·rw[if_neg a1]
   by_cases a2:l<a∧a≤k
   ·rw[if_pos a2,if_neg (by omega),if_pos (by omega)];exact hs _ _ (by omega) (by omega)
   ·rw[if_neg a2]
    by_cases b1:b=l
    ·rw[if_pos b1];exact g2 _ (by omega)
    ·rw[if_neg b1]
     by_cases b2:l<b∧b≤k
     ·rw[if_pos b2];exact hs _ _ (by omega) (by omega)
     ·rw[if_neg b2];exact hs _ _ hab (by omega)
theorem Zi(O:Ord n cmp)(h2:2≤n):GoOk n cmp (kas_sort n) (λq=>PermR n q∧So cmp q n):=by
 unfold kas_sort;refine GoOk.bind ((Re O (by unfold PermR;simp) h2).mono λr g=>?_);obtain⟨g1,g2,g3,g4⟩:=g
 by_cases hr:r.1<n
 ·rw[if_pos hr];have:max r.1 1=r.1:=by omega
  rw[this];exact Mc O _ _ _ g1 g2 (by omega) g4
 ·rw[if_neg hr];obtain e:r.1=n:=by omega
  rw[e]at g4;exact⟨g1,g4⟩
end
end Pu
end
section
namespace Pu
open PySem PySem.Spec PyProof.Rows L2 PySem.SeqAt PySem.W
theorem Wy(i j:Int):PyData.eqv (.int i) (.int j)=(i==j):=by rw[PyData.eqv]
theorem pz:∀(c d:List Int),PyData.eqvAll (c.map .int) (d.map .int)=decide (c=d)
 |[],[]=>by simp[PyData.eqvAll]
 |[],_::_=>by simp[PyData.eqvAll]
 |_::_,[]=>by simp[PyData.eqvAll]
 |i::c,j::d=>by
  rw[kA4,kA4,PyData.eqvAll,pz c d,Wy]
  by_cases h:i=j<;>simp[h]
theorem qg:∀(k l:List Int),fk (k.map .int) (l.map .int)=some (decide (k<l))
 |[],[]=>by simp[fk]
 |[],_::_=>by simp[fk]
 |_::_,[]=>by simp[fk]
 |i::k,j::l=>by
  rw[kA4,kA4,fk,qg k l,Wy];show some (if(i==j)=true then decide (k<l)else decide (i<j))=_
  congr 1
  by_cases h:i=j
  ·subst h;simp[kBa]
  ·have:(i==j)=false:=by simpa using h
   rw[this];simp[kBa,h]
theorem gj:∀k:List Int,PyData.canLayAll0 (k.map .int)=true
 |[]=>rfl
 |i::k=>by
  rw[kA4,PyData.canLayAll0,gj k];rfl
theorem ma:∀k:List Int,PyData.depthAll (k.map .int)=0
 |[]=>rfl
 |i::k=>by
  rw[kA4,PyData.depthAll,ma k];rfl
noncomputable def uz(x:Str)(c:List Int):List Int:=x.cps.toList.map Int.ofNat++(-1)::c
theorem u0:∀(a b:List Nat)(c d:List Int),(a.map Int.ofNat++(-1)::c<b.map Int.ofNat++(-1)::d)↔(a<b∨(a=b∧c<d))
 |[],[],c,d=>by simp[kBa]
 |[],j::b,c,d=>by
  simp only[List.map_nil,List.nil_append,kA4,List.cons_append,kBa];have h1:(-1:Int)<Int.ofNat j:=Int.lt_of_lt_of_le (by decide) (Int.natCast_nonneg j);have h2:([]:List Nat)<j::b:=by simp
  simp only[h1,h2,true_or]
 |i::a,[],c,d=>by
  simp only[List.map_nil,List.nil_append,kA4,List.cons_append,kBa];have h0:(0:Int)≤Int.ofNat i:=Int.natCast_nonneg i;have h1:¬Int.ofNat i<(-1:Int):=λz=>by omega
  have h2:Int.ofNat i≠(-1:Int):=λz=>by omega
  have h3:¬(i::a<([]:List Nat)):=by simp
  simp[h1,h2,h3]
 |i::a,j::b,c,d=>by
  simp only[kA4,List.cons_append,kBa,u0 a b c d];have h1:(Int.ofNat i<Int.ofNat j)↔i<j:=Int.ofNat_lt;have h2:(Int.ofNat i=Int.ofNat j)↔i=j:=Int.ofNat_inj;rw[h1,h2];constructor
  ·rintro (h|⟨rfl,h|⟨rfl,h⟩⟩)
   ·exact .inl (.inl h)
   ·exact .inl (.inr ⟨rfl,h⟩)
   ·exact .inr ⟨rfl,h⟩
  ·rintro ((h|⟨rfl,h⟩)|⟨e,h⟩)
   ·exact .inl h
   ·exact .inr ⟨rfl,.inl h⟩
   ·cases e;exact .inr ⟨rfl,.inr ⟨rfl,h⟩⟩
noncomputable def shp:Nat→List Int→List PyData→Prop
 |0,k,xs=>k≠[]∧xs=k.map .int
 |1,k,xs=>∃i c,k=i::c∧xs=[.int i,.tuple (c.map .int)]
 |_,k,xs=>∃x c,k=uz x c∧PyData.strOk x=true∧xs=[.str x,.tuple (c.map .int)]
theorem F4{x y:Str}(e:x.cps.toList=y.cps.toList):x=y:=by
 cases x;cases y;exact congrArg _ (Array.toList_inj.mp e)
theorem N5(c d:List Int):fk [.tuple (c.map .int)] [.tuple (d.map .int)]=some (decide (c<d)):=by
 have e1:S7 (.tuple (c.map .int)) (.tuple (d.map .int))=some (decide (c<d)):=by rw[S7];exact qg c d
 have e2:PyData.eqv (.tuple (c.map .int)) (.tuple (d.map .int))=decide (c=d):=by rw[PyData.eqv];exact pz c d
 rw[fk,e1,e2];show some (if decide (c=d)=true then false else decide (c<d))=_
 by_cases z:c=d
 ·subst z;simp
 ·simp[z]
theorem U9{b:Nat}{k l:List Int}{xs ys:List PyData}(h:shp b k xs)(h':shp b l ys):fk xs ys=some (decide (k<l)):=by
 match b,h,h' with
 |0,h,h'=>rw[h.2,h'.2];exact qg k l
 |1,h,h'=>
  obtain⟨i,c,rfl,rfl⟩:=h;obtain⟨j,d,rfl,rfl⟩:=h';rw[fk,N5,Wy];show some (if(i==j)=true then decide (c<d)else decide (i<j))=_
  congr 1
  by_cases z:i=j
  ·subst z;simp[kBa]
  ·have:(i==j)=false:=by simpa using z
   rw[this];simp[kBa,z]
 |_+2,h,h'=>
  obtain⟨x,c,rfl,_,rfl⟩:=h;obtain⟨y,d,rfl,_,rfl⟩:=h';have ex:S7 (.str x) (.str y)=some (decide (x.cps.toList<y.cps.toList)):=by rw[S7]
  rw[fk,N5,ex];have e3:PyData.eqv (.str x) (.str y)=decide (x=y):=by rw[PyData.eqv];by_cases e:x=y<;>simp[e]
  rw[e3];show some (if decide (x=y)=true then decide (c<d)else decide (x.cps.toList<y.cps.toList))=_
  congr 1
  have q:decide (uz x c<uz y d)=decide (x.cps.toList<y.cps.toList∨(x.cps.toList=y.cps.toList∧c<d)):=decide_eq_decide.mpr (u0 x.cps.toList y.cps.toList c d);rw[q]
  by_cases z:x=y
  ·subst z;simp[List.lt_irrefl]
  ·have z':x.cps.toList≠y.cps.toList:=λe=>z (F4 e);simp[z,z']
def FT(b:Nat)(d:PyData):Prop:=if b<2 then∃i,d=.int i else∃x,d=.str x
theorem vw{b:Nat}{k:List Int}{xs:List PyData}(h:shp b k xs):PyData.canLayAll0 xs=true∧PyData.depthAll xs≤1∧∃d r,FT b d∧xs=d::r:=by
 match b,h with
 |0,h=>
  obtain⟨h1,rfl⟩:=h;refine⟨gj k,by rw[ma];omega,?_⟩;cases k with
  |nil=>exact absurd rfl h1
  |cons i c=>exact⟨_,_,⟨i,rfl⟩,rfl⟩
 |1,h=>
  obtain⟨i,c,rfl,rfl⟩:=h;refine⟨?_,?_,_,_,⟨i,rfl⟩,rfl⟩
  ·rw[PyData.canLayAll0,PyData.canLayAll0,PyData.canLayAll0,PyData.canLay0,PyData.canLay0,gj c];rfl
  ·rw[PyData.depthAll,PyData.depthAll,PyData.depthAll,PyData.depth,PyData.depth,ma c];simp
 |_+2,h=>
  obtain⟨x,c,rfl,ok,rfl⟩:=h;refine⟨?_,?_,_,_,by unfold FT;rw[if_neg (by omega)];exact⟨x,rfl⟩,rfl⟩
  ·rw[PyData.canLayAll0,PyData.canLayAll0,PyData.canLayAll0,PyData.canLay0,PyData.canLay0,gj c,ok];rfl
  ·rw[PyData.depthAll,PyData.depthAll,PyData.depthAll,PyData.depth,PyData.depth,ma c];simp
section
variable{prog:Program}{w:World}{A:Around}{E:Value→Shared→Prop}{s:Shared}
theorem Sy{fin:Bool}{Q:Bool→Shared→Prop}:∀(xs ys:List PyData)(vs ws:List Value)(i:Nat)(as bs:List Addr)(c:Bool),ReadsAll s.heap vs xs as→ReadsAll s.heap ws ys bs→PyData.canLayAll0 xs=true→PyData.canLayAll0 ys=true→
  A.units+min (PyData.depthAll xs) (PyData.depthAll ys)<cLine→fk xs ys=some c→fin=decide (xs.length<ys.length)→(i=0→∀x y,xs.head?=some x→ys.head?=some y→(∃a b,x=.int a∧y=.int b)∨∃a b,x=.str a∧y=.str b)→Q c s→KatLex prog w A true fin Q (vs.zip ws) i s
 |[],[],vs,ws,i,as,bs,c,ra,rb,ha,hb,hu,hl,hf,h0,q=>by
  cases ra;cases rb;cases hl;subst hf;exact kat_nil q
 |[],y::ys,vs,ws,i,as,bs,c,ra,rb,ha,hb,hu,hl,hf,h0,q=>by
  cases ra;cases rb;cases hl;have:fin=true:=by rw[hf];simp
  subst this;exact kat_nil q
 |x::xs,[],vs,ws,i,as,bs,c,ra,rb,ha,hb,hu,hl,hf,h0,q=>by
  cases ra;cases rb;cases hl;have:fin=false:=by rw[hf];simp
  subst this;exact kat_nil q
 |x::xs,y::ys,_,_,i,_,_,c,ra,rb,ha,hb,hu,hl,hf,h0,q=>by
  have ha':x.canLay0=true∧PyData.canLayAll0 xs=true:=by simpa[PyData.canLayAll0]using ha
  have hb':y.canLay0=true∧PyData.canLayAll0 ys=true:=by simpa[PyData.canLayAll0]using hb
  obtain⟨a,b,l1,l2,rfl⟩:=qf hl;cases ra with
  |@cons v vr _ _ as1 as2 r rs=>
   cases rb with
   |@cons v' vr' _ _ bs1 bs2 r' rs'=>
    refine kat_cons (eqAt_reads x y A s _ _ _ _ r r' ha'.1 hb'.1 (room_head hu) prog w _ _ ?_);cases he:PyData.eqv x y with
    |true=>
     rw[he,if_pos rfl]at q;exact kat_yes (Sy xs ys _ _ (i+1) _ _ b rs rs' ha'.2 hb'.2 (room_tail hu) l2 (by rw[hf];simp) (λz=>by omega) q)
    |false=>
     rw[he,if_neg (by simp)]at q;refine kat_no ?_
     by_cases hi:i=0
     ·rcases h0 hi x y rfl rfl with ⟨m,n,rfl,rfl⟩|⟨m,n,rfl,rfl⟩
      ·subst hi;cases r;cases r';cases l1;exact oneLt_int q
      ·subst hi;cases r;cases r';cases l1;exact oneLt_str q
     ·have:(i==0)=false:=by simpa using hi
      rw[this,Bool.and_false];exact kat_one _ _ (ud x y A s _ _ _ _ a r r' ha'.1 hb'.1 (room_head hu) l1 prog w _ _ q)
theorem zcc{b:Nat}{x y:Value}{xs ys:List PyData}{as bs:List Addr}{k l:List Int}{Q:Bool→Shared→Prop}(rx:Reads s.heap x (.tuple xs) as)(ry:Reads s.heap y (.tuple ys) bs)(sx:shp b k xs)(sy:shp b l ys)(hu:A.units+1<cLine)(h:Q (decide (k<l)) s):
  wpAny (model prog w) A (keyLt' (tuples' true) x y) Q E s:=by
 obtain⟨c1,d1,i1,r1,t1,e1⟩:=vw sx;obtain⟨c2,d2,i2,r2,t2,e2⟩:=vw sy;have hs:=U9 sx sy;cases rx with
 |@tuple a o vs n _ as1 h1 h2 h3 h4=>
  cases ry with
  |@tuple a' o' vs' n' _ bs1 k1 k2 k3 k4=>
   have n1:vs.size=xs.length:=by simpa using ReadsAll.length _ _ _ h4
   have n2:vs'.size=ys.length:=by simpa using ReadsAll.length _ _ _ k4
   refine kat_lt h1 h3 k1 k3 (Sy xs ys _ _ 0 _ _ _ h4 k4 c1 c2 ?_ hs (by rw[n1,n2]) (λ_ x y hx hy=>?_) h)
   ·have:min (PyData.depthAll xs) (PyData.depthAll ys)≤1:=kAn (Nat.min_le_left _ _) d1;omega
   ·rw[e1]at hx;rw[e2]at hy;cases hx;cases hy;unfold FT at t1 t2
    by_cases hb:b<2
    ·rw[if_pos hb]at t1 t2;obtain⟨i,rfl⟩:=t1;obtain⟨j,rfl⟩:=t2;exact .inl ⟨_,_,rfl,rfl⟩
    ·rw[if_neg hb]at t1 t2;obtain⟨i,rfl⟩:=t1;obtain⟨j,rfl⟩:=t2;exact .inr ⟨_,_,rfl,rfl⟩
noncomputable def KeysAre(s:Shared)(b:Nat):List Value→List (List Int)→Prop
 |[],[]=>True
 |v::vs,k::ks=>(∃xs as,Reads s.heap v (.tuple xs) as∧shp b k xs)∧KeysAre s b vs ks
 |_,_=>False
theorem KeysAre.len{b:Nat}:∀{vs:List Value}{ks:List (List Int)},KeysAre s b vs ks→ks.length=vs.length
 |[],[],_=>rfl
 |[],_::_,h=>h.elim
 |_::_,[],h=>h.elim
 |v::vs,k::ks,⟨_,h⟩=>by rw[kA7,kA7,KeysAre.len h]
theorem KeysAre.get{b:Nat}:∀{vs:List Value}{ks:List (List Int)},KeysAre s b vs ks→∀{i:Nat},i<vs.length→∃xs as,Reads s.heap (vs.getD i Value.none) (.tuple xs) as∧shp b (ks.getD i []) xs
 |[],_,_,i,h=>by simp at h
 |_::_,[],h,_,_=>h.elim
 |v::vs,k::ks,⟨h0,_⟩,0,_=>h0
 |v::vs,k::ks,⟨_,h⟩,i+1,hi=>by
  have:=KeysAre.get h (i:=i) (by simpa using hi);simpa using this
def FV(b:Nat)(v:Value):Prop:=if b<2 then∃n t,v=Value.int n t else∃x t,v=Value.str x t
theorem KeysAre.firsts{b:Nat}:∀{vs:List Value}{ks:List (List Int)},KeysAre s b vs ks→∃fs,KatTups s.heap vs fs∧fs.length=vs.length∧∀v∈fs,FV b v
 |[],[],_=>⟨[],.nil,rfl,λv h=>by simp at h⟩
 |[],_::_,h=>h.elim
 |_::_,[],h=>h.elim
 |v::vs,k::ks,⟨⟨xs,as,r,sh⟩,h⟩=>by
  obtain⟨fs,f1,f2,f3⟩:=KeysAre.firsts h;obtain⟨_,_,d,q,td,rfl⟩:=vw sh;cases r with
  |@tuple a o ws n _ as1 h1 h2 h3 h4=>
   cases hw:ws.toList with
   |nil=>rw[hw]at h4;cases h4
   |cons u us=>
    rw[hw]at h4;cases h4 with
    |cons r rs=>
     have fu:FV b u:=by
      unfold FT at td;unfold FV
      by_cases hb:b<2
      ·rw[if_pos hb]at td⊢;obtain⟨i,rfl⟩:=td;cases r with
       |int _ t=>exact⟨_,_,rfl⟩
      ·rw[if_neg hb]at td⊢;obtain⟨i,rfl⟩:=td;cases r with
       |str _ t=>exact⟨_,_,rfl⟩
     refine⟨u::fs,KatTups.cons h1 h2 h3 ?_ f1,by simp[f2],λv hv=>?_⟩
     ·have:ws.toList[0]?=some u:=by rw[hw];rfl
      simpa using this
     ·rcases kA6.mp hv with rfl|hv
      ·exact fu
      ·exact f3 v hv
noncomputable def wq(kz:List (List Int))(i j:Nat):Bool:=decide (kz.getD i []<kz.getD j [])
theorem Tr{kz:List (List Int)}(nd:kz.Nodup):Ord kz.length (wq kz) where
 as:=λi j hi hj ne=>by
  have e:kz.getD i []≠kz.getD j []:=by
   rw[show kz.getD i []=kz[i] by simp[hi],show kz.getD j []=kz[j] by simp[hj]];have pw:=List.pairwise_iff_getElem.mp nd;rcases Nat.lt_or_gt_of_ne ne with q|q
   ·exact pw i j hi hj q
   ·exact(pw j i hj hi q).symm
  unfold wq
  by_cases z:kz.getD i []<kz.getD j []
  ·have:¬kz.getD j []<kz.getD i []:=λy=>List.lt_irrefl _ (List.lt_trans z y);rw[decide_eq_true z,decide_eq_false this];rfl
  ·have:kz.getD j []<kz.getD i []:=Std.lt_of_le_of_ne z (Ne.symm e);rw[decide_eq_true this,decide_eq_false z];rfl
 tr:=λi j k _ _ _ h1 h2=>by
  unfold wq at *;exact decide_eq_true (List.lt_trans (of_decide_eq_true h1) (of_decide_eq_true h2))
noncomputable def D7(prog:Program)(w:World)(A:Around)(ks vs:List Value)(R:Array Nat→Prop)(s:Shared):Prop:=
 ∀E:Value→Shared→Prop,wpAny (model prog w) A (keyKind' ks.toArray) (λκ s'=>s'=s∧∀E':Value→Shared→Prop,wpAny (model prog w) A (sortRuns'.run (SortSt.mk' κ (ks.toArray.zip vs.toArray) #[] 7 none)) (λr s''=>
  s''=s∧failedOf r.2=none∧∃p:Array Nat,R p∧p.size=vs.length∧(arrOf r.2).map (·.2)=List.toArray (p.toList.map λi=>vs.getD i Value.none)) E' s) E s
theorem zd6{b:Nat}{ks vs:List Value}{kz:List (List Int)}(hl:ks.length=vs.length)(hk:KeysAre s b ks kz)(h2:2≤vs.length)(h64:vs.length<64)(nd:kz.Nodup)(hu:A.units+1<cLine):
  D7 prog w A ks vs (λp=>PermR vs.length p∧So (wq kz) p vs.length) s:=by
 intro E;have hz:=hk.len;obtain⟨fs,f1,f2,f3⟩:=hk.firsts;have go:∀{T:Value},(T==T)=true→(T !=Value.type "tuple")=true→(∀v∈fs,Looks (model prog w) s.heap (typeOf v) T)→wpAny (model prog w) A (keyKind' ks.toArray) (λκ s'=>s'=s∧∀E':Value→Shared→Prop,wpAny (model prog w) A (sortRuns'.run (SortSt.mk' κ (ks.toArray.zip vs.toArray) #[] 7 none)) (λr s''=>
  s''=s∧failedOf r.2=none∧∃p:Array Nat,(PermR vs.length p∧So (wq kz) p vs.length)∧p.size=vs.length∧(arrOf r.2).map (·.2)=List.toArray (p.toList.map λi=>vs.getD i Value.none)) E' s) E s:=λ{T} t1 t2 t3=>by
  refine kat_kind (T:=T) f1 (by omega) t3 t1 ?_;rw[t2];refine⟨rfl,λE'=>?_⟩;have o:=Tr nd;rw[hz,hl]at o;refine wpAny_mono (kat_run (Q:=λst s''=>s''=s∧failedOf st=none∧∃p:Array Nat,(PermR vs.length p∧So (wq kz) p vs.length)∧p.size=vs.length∧(arrOf st).map (·.2)=List.toArray (p.toList.map λi=>vs.getD i Value.none))
   (G:=λp s'=>s'=s∧PermR vs.length p∧So (wq kz) p vs.length) hl h2 h64 (λp st s' g1 g2 g3 g4=>⟨g4.1,g3,p,g4.2,g1,kat_snds hl g2⟩) ?_) (λ_ _ x=>x) (λ_ _ x=>x)
  refine GoOk.wp (cmp:=wq kz) (n:=vs.length) (R:=λp=>PermR vs.length p∧So (wq kz) p vs.length) (λi j K hi hj q=>?_) (λp r=>⟨rfl,r⟩) (Zi o h2);obtain⟨xs,as,r1,s1⟩:=hk.get (i:=i) (by omega);obtain⟨ys,bs,r2,s2⟩:=hk.get (i:=j) (by omega);exact zcc r1 r2 s1 s2 hu q
 by_cases hb:b<2
 ·refine go (T:=.type "int") (by decide) (by decide) λv hv=>?_;have:=f3 v hv;unfold FV at this;rw[if_pos hb]at this;obtain⟨n,t,rfl⟩:=this;exact Looks.of_pure rfl
 ·refine go (T:=.type "str") (by decide) (by decide) λv hv=>?_;have:=f3 v hv;unfold FV at this;rw[if_neg hb]at this;obtain⟨n,t,rfl⟩:=this;exact Looks.of_pure rfl
end
noncomputable def Kw(h:Heap)(a:Addr)(vs:List Value):Heap:=((h.update a (Obj.mapSeq λ_=>(#[]:Array Value))).push (seqObj "tuple" vs.toArray 0)).push (seqObj "list" #[] 0)
theorem S8{h:Heap}{a:Addr}{vs:List Value}{b:Addr}{o:Obj}(e:h.get? b=some o)(ne:b≠a):(Kw h a vs).get? b=some o:=by
 unfold Kw;refine Heap.get?_push_of_some _ (Heap.get?_push_of_some _ ?_);rw[Heap.get?_update_ne _ _ _ _ ne];exact e
def OutOf(R:Array Nat→Prop)(vs out:List Value):Prop:=(vs.length<2∧out=vs)∨(2≤vs.length∧∃p:Array Nat,R p∧p.size=vs.length∧out=p.toList.map λi=>vs.getD i Value.none)
theorem OutOf.len{R:Array Nat→Prop}{vs out:List Value}(h:OutOf R vs out):out.length=vs.length:=by
 rcases h with ⟨_,rfl⟩|⟨_,p,_,h1,rfl⟩
 ·rfl
 ·rw[kA3,kAb,h1]
section
variable{prog:Program}{w:World}{A:Around}{E:Value→Shared→Prop}{s:Shared}
theorem Ln{a:Addr}{vs:List Value}{n:Nat}{P:PySem.Fin→Shared→Prop}{R:Array Nat→Prop}(ho:s.heap.get? a=some (seqObj "list" vs.toArray n))(hz:vs.length≤1000)(hR:2≤vs.length→D7 prog w A vs vs R {s with heap:=Kw s.heap a vs})
  (h:∀out:List Value,OutOf R vs out→P (.done (.ret .none)) {s with heap:=sortedHeap s.heap a vs out.toArray}):wpAny (model prog w) A (Builtin.«list.sort» ⟨[.ref a],[]⟩) P E s:=by
 have ha:a<s.heap.objs.size:=Heap.lt_size ho;have zl:vs.length≤sizeLine:=by rw[sizeLine_eq];omega
 obtain⟨e1,ho1⟩:∃e1,(s.heap.update a (Obj.mapSeq λ_=>(#[]:Array Value))).get? a=some (seqObj "list" #[] e1):=⟨_,get?_update_seq ho λ_=>#[]⟩;have ho6:(Kw s.heap a vs).get? a=some (seqObj "list" #[] e1):=Heap.get?_push_of_some _ (Heap.get?_push_of_some _ ho1);rw[list_sort_plain];refine wpAny_bind (listItems_at ho rfl (wpAny_bind (listUpdate_at ho rfl ?_ (by simpa using zl) (kAt _))));refine wpAny_bind (seqEpoch_at ho1 rfl (wpAny_bind (wpAny_newTuple (wpAny_bind (wpAny_newList (wpAny_holding ?_) (kAt _))) zl)));show wpAny (model prog w) A _ P E {s with heap:=Kw s.heap a vs};dsimp only
 by_cases h2:vs.toArray.size<2
 ·have h2':vs.length<2:=by simpa using h2
  rw[if_pos h2,if_pos h2];refine wpAny_bind (wpAny_pure ?_);rw[StateT.run_pure];refine wpAny_bind (wpAny_pure ?_);dsimp only;have em:Array.map (λx:Keyed=>x.2) (vs.toArray.zip vs.toArray)=vs.toArray:=by
   apply Array.toList_inj.mp;rw[Array.toList_map,Array.toList_zip];exact List.map_snd_zip (kA0 _)
  rw[show(arrOf (SortSt.mk' general' (vs.toArray.zip vs.toArray) #[] 7 none)).map (·.2)=vs.toArray from em];refine wpAny_bind (seqEpoch_at ho6 rfl (wpAny_bind (listUpdate_at ho6 rfl ?_ (kAt _) (kAn (Nat.le_of_eq (kAe ..)) (by omega)))));simp only[bne_self_eq_false,kA9,if_false];exact wpAny_pure (h vs (.inl ⟨h2',rfl⟩))
 ·have h2':2≤vs.length:=by simpa using h2
  rw[if_neg h2,if_neg h2];refine wpAny_bind (wpAny_mono (hR h2' _) (λκ s' g=>?_) λ_ _ x=>x);obtain⟨rfl,g⟩:=g;refine wpAny_bind (wpAny_mono (g _) (λr s' g=>?_) λ_ _ x=>x);obtain⟨rfl,hf,p,hp,hs,ho'⟩:=g;obtain⟨⟨⟩,st⟩:=r;dsimp only at hf ho'⊢;rw[ho',hf];have zo:(p.toList.map λi=>vs.getD i Value.none).length≤sizeLine:=by rw[kA3,kAb,hs];exact zl
  refine wpAny_bind (seqEpoch_at ho6 rfl (wpAny_bind (listUpdate_at ho6 rfl ?_ (kAt _) (kAn (Nat.le_of_eq (kAe ..)) (by omega)))));simp only[bne_self_eq_false,kA9,if_false];exact wpAny_pure (h _ (.inr ⟨h2',p,hp,hs,rfl⟩))
end
noncomputable def zf5:D→Option Int
 |.int i=>some i
 |_=>none
noncomputable def p7:List D→Option (List Int)
 |[]=>some []
 |d::ds=>match zf5 d,p7 ds with
  |some i,some r=>some (i::r)
  |_,_=>none
noncomputable def O0:D→Option (List Int)
 |.tup ds=>match p7 ds with
  |some (i::r)=>some (i::r)
  |_=>none
 |_=>none
noncomputable def jv:List D→Option (List (List Int))
 |[]=>some []
 |d::ds=>match O0 d,jv ds with
  |some k,some r=>some (k::r)
  |_,_=>none
theorem Al:∀{ds:List D}{ns:List Int},p7 ds=some ns→ds=ns.map D.int
 |[],ns,h=>by cases h;rfl
 |d::ds,ns,h=>by
  unfold p7 at h;cases e1:zf5 d with
  |none=>rw[e1]at h;cases h
  |some i=>
   cases e2:p7 ds with
   |none=>rw[e1,e2]at h;cases h
   |some r=>
    rw[e1,e2]at h;cases h;cases d<;>first|(cases e1;rw[Al e2];rfl)|cases e1
theorem Xc{d:D}{k:List Int}(h:O0 d=some k):k≠[]∧d=.tup (k.map D.int):=by
 unfold O0 at h;cases d with
 |tup ds=>
  dsimp only at h;cases e:p7 ds with
  |none=>rw[e]at h;cases h
  |some ns=>
   rw[e]at h;cases ns with
   |nil=>cases h
   |cons i r=>cases h;exact⟨by simp,by rw[Al e]⟩
 |_=>cases h
theorem kh{d:D}{ds:List D}{kz:List (List Int)}(h:jv (d::ds)=some kz):∃k r,O0 d=some k∧jv ds=some r∧kz=k::r:=by
 unfold jv at h;cases e1:O0 d with
 |none=>rw[e1]at h;cases h
 |some k=>
  cases e2:jv ds with
  |none=>rw[e1,e2]at h;cases h
  |some r=>rw[e1,e2]at h;cases h;exact⟨k,r,rfl,rfl,rfl⟩
theorem xr:∀ns:List Int,e8 (ns.map D.int)=some (ns.map PyData.int)
 |[]=>rfl
 |i::r=>by
  rw[kA4,e8,xr r];rfl
section
variable{X:Cx}{pins:List (Addr×Obj)}{σ:St}{G H:Hp}{s:Shared}
theorem Hs(I:Inv X pins σ H s)(sg:Same G H):∀{ds:List D}{kz:List (List Int)}{vs:List V}{us:List Value},jv ds=some kz→DenL (kx X) G ds vs→Vals vs us→KeysAre s 0 us kz
 |[],kz,vs,us,h,dl,r=>by
  cases h;cases (show vs=[]from dl);cases r;trivial
 |d::ds,kz,vs,us,h,dl,r=>by
  obtain⟨k,r',h1,h2,rfl⟩:=kh h;obtain⟨v,vr,rfl,dv,dr⟩:=dl;obtain⟨hn,rfl⟩:=Xc h1;cases r with
  |cons rv rr=>
   refine⟨?_,Hs I sg h2 dr rr⟩;obtain⟨as,ra⟩:=vq I sg dv rv (show dj (.tup (k.map D.int))=some (.tuple (k.map PyData.int)) by rw[dj,xr]);exact⟨_,as,ra,hn,rfl⟩
end
noncomputable def Ki(x:List Int×D):List (List Int×D)→List (List Int×D)
 |[]=>[x]
 |y::r=>if x.1<y.1 then x::y::r else y::Ki x r
noncomputable def vz(l:List (List Int×D)):List (List Int×D):=l.foldr Ki []
theorem w9(x:List Int×D):∀l,(Ki x l).Perm (x::l)
 |[]=>.refl _
 |y::r=>by
  unfold Ki;split
  ·exact .refl _
  ·exact((w9 x r).cons y).trans (List.Perm.swap x y r)
theorem ji:∀l,(vz l).Perm l
 |[]=>.refl _
 |x::r=>(w9 x _).trans ((ji r).cons x)
theorem Mw{x:List Int×D}:∀{l:List (List Int×D)},l.Pairwise (λa b=>a.1<b.1)→(∀y∈l,y.1≠x.1)→(Ki x l).Pairwise (λa b=>a.1<b.1)
 |[],_,_=>by unfold Ki;exact List.pairwise_singleton _ _
 |y::r,h,hn=>by
  unfold Ki;obtain⟨h1,h2⟩:=List.pairwise_cons.mp h;split
  ·rename_i c;refine List.pairwise_cons.mpr ⟨λz hz=>?_,h⟩;rcases kA6.mp hz with rfl|hz
   ·exact c
   ·exact List.lt_trans c (h1 z hz)
  ·rename_i c;have lt:y.1<x.1:=Std.lt_of_le_of_ne c (hn y (.head _));refine List.pairwise_cons.mpr ⟨λz hz=>?_,Mw h2 λz hz=>hn z (.tail _ hz)⟩;rcases kA6.mp ((w9 x r).mem_iff.mp hz)with rfl|hz
   ·exact lt
   ·exact h1 z hz
theorem v7:∀{l:List (List Int×D)},(l.map (·.1)).Nodup→(vz l).Pairwise (λa b=>a.1<b.1)
 |[],_=>List.Pairwise.nil
 |x::r,h=>by
  obtain⟨h1,h2⟩:=List.nodup_cons.mp (show(x.1::r.map (·.1)).Nodup from h);refine Mw (v7 h2) λy hy e=>h1 ?_;rw[←e];exact List.mem_map_of_mem ((ji r).mem_iff.mp hy)
theorem Pv{kz:List (List Int)}{ds:List D}{p:Array Nat}(hl:kz.length=ds.length)(nd:kz.Nodup)(hp:PermR ds.length p)(hs:So (wq kz) p ds.length):p.toList.map (λi=>ds.getD i D.non)=(vz (kz.zip ds)).map (·.2):=by
 have e:p.toList.map (λi=>(kz.getD i [],ds.getD i D.non))=vz (kz.zip ds):=by
  have pr:(p.toList.map λi=>(kz.getD i [],ds.getD i D.non)).Perm (kz.zip ds):=by
   have:(kA5 ds.length).map (λi=>(kz.getD i [],ds.getD i D.non))=kz.zip ds:=by
    refine List.ext_getElem (by simp[hl]) λi h1 h2=>?_;have:i<ds.length:=by simpa using h1
    have:i<kz.length:=by omega
    simp[*]
   rw[←this];exact List.Perm.map _ hp
  have nz:((kz.zip ds).map (·.1)).Nodup:=by
   rw[List.map_fst_zip (by omega)];exact nd
  refine List.Perm.eq_of_pairwise (le:=λa b:List Int×D=>a.1<b.1) (λa b _ _ h1 h2=>absurd (List.lt_trans h1 h2) (List.lt_irrefl _)) ?_ (v7 nz) (pr.trans (ji _).symm);rw[List.pairwise_map,List.pairwise_iff_getElem];intro i j hi hj hij;have hz:=hp.size;have hj':j<ds.length:=by rw[←hz];simpa using hj
  have:=hs i j hij hj';rw[zr (by omega),zr (by omega)]at this;simpa[wq]using this
 rw[←e,List.map_map];rfl
end Pu
end
section
namespace Pu
open PySem PySem.Spec PyProof.Rows L2
noncomputable def sk:List D→Option (List fo)
 |[]=>some []
 |d::r=>match d7 d,sk r with
  |some k,some ks=>some (k::ks)
  |_,_=>none
theorem Hr:∀ks:List fo,sk (ks.map kD)=some ks
 |[]=>rfl
 |k::ks=>by
  show(match d7 (kD k),sk (ks.map kD)with
   |some k,some ks=>some (k::ks)
   |_,_=>none)=_
  rw[p9,Hr ks]
noncomputable def Tb:D→Option NK
 |.tup ds=>(sk ds).map .inr
 |d=>(d7 d).map .inl
noncomputable def K0:List D→Option az
 |[]=>some []
 |d::r=>match Tb d,K0 r with
  |some k,some ks=>some (k::ks)
  |_,_=>none
noncomputable def jh:D→Option az
 |.tup ds=>K0 ds
 |_=>none
theorem Tc:∀k:NK,Tb (nkD k)=some k
 |.inl (.inl _)=>rfl
 |.inl (.inr _)=>rfl
 |.inr ks=>by show(sk (ks.map kD)).map Sum.inr=_;rw[Hr];rfl
theorem M6:∀ks:az,K0 (ks.map nkD)=some ks
 |[]=>rfl
 |k::ks=>by
  show(match Tb (nkD k),K0 (ks.map nkD)with
   |some k,some ks=>some (k::ks)
   |_,_=>none)=_
  rw[Tc,M6 ks]
theorem rj(ks:az):jh (kT ks)=some ks:=M6 ks
theorem uw{K:KA}{G:Hp}:∀{ds:List D}{vs:List V}{ks:List fo},DenL K G ds vs→sk ds=some ks→vs=ks.map kV
 |[],_,_,h,e=>by cases e;exact h
 |d::r,_,ks,⟨v,t,h1,h2,h3⟩,e=>by
  unfold sk at e;cases e1:d7 d with
  |none=>rw[e1]at e;cases e
  |some k=>
   cases e2:sk r with
   |none=>rw[e1,e2]at e;cases e
   |some ks'=>
    rw[e1,e2]at e;cases e;rw[h1,uw h3 e2,rg (H:=G) (.inl h2) e1];rfl
theorem zbr{K:KA}{G:Hp}{d:D}{v:V}{k:NK}(h:Den K G d v)(e:Tb d=some k):nkAt G k v:=by
 have one:∀{d:D},Den K G d v→(d7 d).map Sum.inl=some k→nkAt G k v:=λ{d} h e=>by
  cases e1:d7 d with
  |none=>rw[e1]at e;cases e
  |some j=>rw[e1]at e;cases e;exact rg (H:=G) (.inl h) e1
 cases d with
 |tup ds=>
  obtain⟨a,vs,rfl,h2,h3⟩:=h;have e:(sk ds).map Sum.inr=some k:=e;cases e1:sk ds with
  |none=>rw[e1]at e;cases e
  |some ks=>rw[e1]at e;cases e;exact⟨a,rfl,by rw[←uw h3 e1];exact h2⟩
 |_=>exact one h e
theorem Ae{K:KA}{G:Hp}:∀{ds:List D}{vs:List V}{ks:az},DenL K G ds vs→K0 ds=some ks→NkL G ks vs
 |[],_,_,h,e=>by cases e;exact h
 |d::r,_,ks,⟨v,t,h1,h2,h3⟩,e=>by
  unfold K0 at e;cases e1:Tb d with
  |none=>rw[e1]at e;cases e
  |some k=>
   cases e2:K0 r with
   |none=>rw[e1,e2]at e;cases e
   |some ks'=>
    rw[e1,e2]at e;cases e;exact⟨v,t,h1,zbr h2 e1,Ae h3 e2⟩
noncomputable def Hy:List (D×D)→az→Option D
 |[],_=>none
 |(k,d)::r,j=>if jh k=some j then some d else Hy r j
noncomputable def Er(kvs:List (D×D))(j:az):Bool:=kvs.any λp=>decide (jh p.1=some j)
noncomputable def zdx(kvs:List (D×D))(j:az)(v:D):List (D×D):=if Er kvs j=true then kvs.map (λp=>if jh p.1=some j then(p.1,v)else p)else kvs++[(kT j,v)]
section
variable{K:KA}{G:Hp}
theorem DenT.length:∀{kvs:List (D×D)}{es:List (az×V)},DenT K G kvs es→kvs.length=es.length
 |[],_,h=>by rw[show _=[]from h];rfl
 |(_,_)::_,_,⟨k,v,r,h1,_,_,h3⟩=>by rw[h1,kA7,kA7,DenT.length h3]
theorem DenT.look:∀{kvs:List (D×D)}{es:List (az×V)},DenT K G kvs es→∀j,(∀d,Hy kvs j=some d→∃v,ky es j=some v∧Den K G d v)∧(Hy kvs j=none→ky es j=none)
 |[],es,h,j=>by
  rw[show es=[]from h];exact⟨λd e=>(by cases e),λ_=>Jt⟩
 |(k,d)::r,es,h,j=>by
  obtain⟨k',v,t,rfl,rfl,dv,dt⟩:=h;obtain⟨i1,i2⟩:=DenT.look dt j;unfold Hy;rw[rj k']
  by_cases e:k'=j
  ·subst e;rw[if_pos rfl];exact⟨λd' z=>⟨v,rf rfl,by cases z;exact dv⟩,λz=>by cases z⟩
  ·rw[if_neg (λz=>e (kAg.inj z))];refine⟨λd' z=>?_,λz=>?_⟩
   ·obtain⟨u,q1,q2⟩:=i1 d' z;exact⟨u,(lb e).trans q1,q2⟩
   ·exact(lb e).trans (i2 z)
theorem DenT.has:∀{kvs:List (D×D)}{es:List (az×V)},DenT K G kvs es→∀j,Er kvs j=es.any λkv=>decide (kv.1=j)
 |[],es,h,j=>by rw[show es=[]from h];rfl
 |(k,d')::r,es,h,j=>by
  obtain⟨k',u,t,rfl,rfl,du,dt⟩:=h;have ih:=DenT.has dt j;unfold Er at ih⊢;rw[List.any_cons,List.any_cons,ih]
  congr 1
  rw[rj k']
  by_cases e:k'=j
  ·simp[e]
  ·rw[decide_eq_false e,decide_eq_false λz=>e (kAg.inj z)]
theorem DenT.repl{d:D}{v:V}(dv:Den K G d v):∀{kvs:List (D×D)}{es:List (az×V)},DenT K G kvs es→∀j,DenT K G (kvs.map λp=>if jh p.1=some j then(p.1,d)else p) (es.map λkv=>if kv.1=j then(kv.1,v)else kv)
 |[],es,h,j=>by rw[show es=[]from h];rfl
 |(k,d')::r,es,h,j=>by
  obtain⟨k',u,t,rfl,rfl,du,dt⟩:=h;have ih:=DenT.repl dv dt j;rw[kA4,kA4];dsimp only;rw[rj k']
  by_cases e:k'=j
  ·rw[if_pos e,if_pos (by rw[e])];exact⟨k',v,_,rfl,rfl,dv,ih⟩
  ·rw[if_neg e,if_neg λz=>e (kAg.inj z)];exact⟨k',u,_,rfl,rfl,du,ih⟩
theorem DenT.snoc{d:D}{v:V}(dv:Den K G d v):∀{kvs:List (D×D)}{es:List (az×V)},DenT K G kvs es→∀j,DenT K G (kvs++[(kT j,d)]) (es++[(j,v)])
 |[],es,h,j=>by rw[show es=[]from h];exact⟨j,v,[],rfl,rfl,dv,rfl⟩
 |(k,d')::r,es,h,j=>by
  obtain⟨k',u,t,rfl,rfl,du,dt⟩:=h;exact⟨k',u,_,rfl,rfl,du,DenT.snoc dv dt j⟩
theorem DenT.put{d:D}{v:V}(dv:Den K G d v){kvs:List (D×D)}{es:List (az×V)}(h:DenT K G kvs es)(j:az):DenT K G (zdx kvs j d) (o7 es j v):=by
 unfold zdx o7;rw[h.has j]
 by_cases e:(es.any λkv=>decide (kv.1=j))=true
 ·rw[if_pos e,if_pos e];exact h.repl dv j
 ·rw[if_neg e,if_neg e];exact h.snoc dv j
end
section
variable{X:Cx}{G0 B:Hp}{E:EK}{e a b:Expr}{es:List Expr}{g h k:En→Res}{pos p:Pos}
noncomputable def U1(i:Nat):En→Out:=λδ=>.nx (δ.set i (.od true []))
theorem EnvR.setDT{K:KA}{G H:Hp}{σ:St}{δ:En}{i:Nat}{a:Addr}(R:EnvR K B G H σ δ)(hn:H a=none):EnvR K B G (upd H a (.dT [])) (σ.set i (some (.ref a))) (δ.set i (.od true [])):=by
 have e:Ext G H G (upd H a (.dT [])):=Ext.own R.gh _ hn;have R':=R.ext e;have gn:G a=none:=eu R.gh hn;have bn:B a=none:=eu R.bh hn;have oth:∀(j:Nat) s,δ[j]?=some s→s.own=true→σ[j]?=some (some (V.ref a))→False:=λj s q1 q2 q3=>by
  obtain⟨o,z1,z2⟩:=R.sl j s q1;rw[q3]at z1;cases z1;obtain⟨a',z,u,z3,_⟩:=z2.ref q2;cases z;rw[hn]at z3;cases z3
 have at_i:∀{s:Sl},(δ.set i (.od true []))[i]?=some s→s=.od true []∧i<δ.length:=λq=>by
  have hl:i<δ.length:=by
   have:=(kAh.mp q).1;rwa [kAp]at this
  rw[kAd hl]at q;cases q;exact⟨rfl,hl⟩
 refine⟨R'.bh,R'.gh,by rw[kAp,kAp];exact R.len,λj s q=>?_,λj s b q1 q2 q3=>?_,λj k s t b q1 q2 q3 q4 q5 q6=>?_,R.gb⟩
 ·by_cases z:i=j
  ·subst z;obtain⟨rfl,hl⟩:=at_i q;exact⟨some (.ref a),kAd (by rw[R.len];exact hl),a,[],rfl,cb,rfl⟩
  ·rw[kAa z]at q⊢;exact R'.sl j s q
 ·by_cases z:i=j
  ·subst z;obtain⟨rfl,hl⟩:=at_i q1;rw[kAd (by rw[R.len];exact hl)]at q3;cases q3;exact⟨gn,bn⟩
  ·rw[kAa z]at q1 q3;exact R'.own j s b q1 q2 q3
 ·by_cases zj:i=j
  ·subst zj;obtain⟨rfl,hl⟩:=at_i q1;rw[kAd (by rw[R.len];exact hl)]at q5;cases q5
   by_cases zk:i=k
   ·exact zk
   ·rw[kAa zk]at q2 q6;exact(oth k t q2 q4 q6).elim
  ·rw[kAa zj]at q1 q5
   by_cases zk:i=k
   ·subst zk;obtain⟨rfl,hl⟩:=at_i q2;rw[kAd (by rw[R.len];exact hl)]at q6;cases q6;exact(oth j s q1 q3 q5).elim
   ·rw[kAa zk]at q2 q6;exact R'.dis j k s t b q1 q2 q3 q4 q5 q6
theorem Zc{i:Nat}{x:Str}{pos' p:Pos}(hs:PS X (.Assign [.Name x pos'] (.Dict [] [] p) pos) (Lr Vm (p5 i))):lu X G0 B E (.Assign [.Name x pos'] (.Dict [] [] p) pos) (U1 i):=
 PS.imp hs λD σ H ⟨G,δ,R,e,q⟩=>λa ha=>q _ G _ (Same.refl G) (R.setDT ha) (e.trans (Ext.own R.gh _ ha))
theorem EnvR.odAtT{K:KA}{G H:Hp}{σ:St}{δ:En}{i:Nat}{kvs:List (D×D)}(R:EnvR K B G H σ δ)(h:δ[i]?=some (.od true kvs)):∃a es,σ[i]?=some (some (V.ref a))∧H a=some (.dT es)∧DenT K G kvs es∧G a=none∧B a=none:=by
 obtain⟨o,q1,a,vs,q2,q3,q4⟩:=R.sl i _ h;subst q2;obtain⟨g,b⟩:=R.own i _ a h rfl q1;exact⟨a,vs,q1,q3,q4,g,b⟩
theorem EnvR.wrDT{K:KA}{G H:Hp}{σ:St}{δ:En}{i:Nat}{kvs kvs':List (D×D)}{a:Addr}{es es':List (az×V)}(R:EnvR K B G H σ δ)(hi:δ[i]?=some (.od true kvs))(hs:σ[i]?=some (some (V.ref a)))(ha:H a=some (.dT es))(dl:DenT K G kvs' es'):
  EnvR K B G (upd H a (.dT es')) σ (δ.set i (.od true kvs')):=by
 obtain⟨gn,bn⟩:=R.own i _ a hi rfl hs;have hl:i<δ.length:=(kAh.mp hi).1;have sb:∀{F:Hp},F a=none→Same F H→Same F (upd H a (.dT es')):=λfn s b u q=>by
  rw[bp (cn q fn)];exact s b u q
 have ownEq:∀{j:Nat}{s:Sl},(δ.set i (.od true kvs'))[j]?=some s→s.own=true→∃s',δ[j]?=some s'∧s'.own=true:=λ{j s} q o=>by
  by_cases z:i=j
  ·subst z;exact⟨_,hi,rfl⟩
  ·rw[kAa z]at q;exact⟨s,q,o⟩
 refine⟨sb bn R.bh,sb gn R.gh,by rw[kAp];exact R.len,λj s q=>?_,λj s b q1 q2 q3=>?_,λj k s t b q1 q2 q3 q4 q5 q6=>?_,R.gb⟩
 ·by_cases z:i=j
  ·subst z;rw[kAd hl]at q;cases q;exact⟨_,hs,a,es',rfl,cb,dl⟩
  ·rw[kAa z]at q;obtain⟨o,z1,z2⟩:=R.sl j s q;refine⟨o,z1,?_⟩;cases s with
   |no=>trivial
   |pu d=>exact z2
   |bo d=>exact z2
   |ow fs=>
    obtain⟨b,us,y1,y2,y3⟩:=z2;have nb:b≠a:=by
     rintro rfl
     rw[ha]at y2;cases y2
    exact⟨b,us,y1,by rw[bp nb];exact y2,y3⟩
   |od t fs=>
    cases t with
    |true=>
     obtain⟨b,us,y1,y2,y3⟩:=z2;have nb:b≠a:=by
      rintro rfl
      subst y1;exact z (R.dis i j _ _ b hi q rfl rfl hs z1)
     exact⟨b,us,y1,by rw[bp nb];exact y2,y3⟩
    |false=>
     obtain⟨b,us,y1,y2,y3⟩:=z2;have nb:b≠a:=by
      rintro rfl
      rw[ha]at y2;cases y2
     exact⟨b,us,y1,by rw[bp nb];exact y2,y3⟩
 ·obtain⟨s',z1,z2⟩:=ownEq q1 q2;exact R.own j s' b z1 z2 q3
 ·obtain⟨s',z1,z2⟩:=ownEq q1 q3;obtain⟨t',y1,y2⟩:=ownEq q2 q4;exact R.dis j k s' t' b z1 y1 z2 y2 q5 q6
theorem Arg.keys{K:KA}{G H:Hp}{d:D}{v:V}{ks:az}(s:Same G H)(h:Arg K G H d v)(e:jh d=some ks):∃b,v=.ref b∧TkAt H ks b:=by
 cases d with
 |tup ds=>
  obtain⟨b,vs,h1,h2,h3⟩:=h.tup0 s;exact⟨b,h1,vs,h2,(Ae h3 e).mono λ_ _ q=>s _ _ q⟩
 |_=>cases e
noncomputable def Fq(i:Nat)(gk gv:En→Res):En→Out:=λδ=>match δ[i]? with
 |some (.od true kvs)=>(gv δ).then λv=>(gk δ).then λk=>match jh k with
  |some j=>if kvs.length<sizeLine then .nx (δ.set i (.od true (zdx kvs j v)))else .st
  |none=>.st
 |_=>.st
theorem Y9{i:Nat}{x:Str}{p pos':Pos}{kxx vx:Expr}(hu:X.A.units+5<cLine)(hv:PE X (.Name x p) (Cw i))(hk:iz X B E kxx g)(hval:ff X B E vx h)
  (hs:swapsWith vx (some (.Subscript (.Name x p) kxx pos')) pos.line X.env=pure false:=by rfl):lu X G0 B E (.Assign [.Subscript (.Name x p) kxx pos'] vx pos) (Fq i g h):=
 PS.imp (Nn hu hv hk hval hs) λD σ H ⟨G,δ,R,ex,q⟩=>by
  unfold Fq at q;cases ed:δ[i]? with
  |none=>rw[ed]at q;exact q.elim
  |some sl=>
   rw[ed]at q;cases sl with
   |od t kvs=>
    cases t with
    |false=>exact q.elim
    |true=>
     dsimp only at q;obtain⟨l,es,q1,q2,q3,q4,q5⟩:=R.odAtT ed;refine⟨G,δ,R,(mi ex q).mono λdv _ q v G1 H1 e1 dn=>⟨.ref l,q1,G1,δ,R.ext e1,(mi (K:=(kx X)) (ex.trans e1) (OutP.same e1.gg q)).mono λdk _ q y G2 H2 e2 ay=>?_⟩⟩;have e12:=e1.trans e2;cases ej:jh dk with
     |none=>rw[ej]at q;exact q.elim
     |some j=>
      rw[ej]at q;dsimp only at q
      by_cases hl:kvs.length<sizeLine
      ·rw[if_pos hl]at q;have h2:=e12.hh _ _ q2;have g2:=e12.fr _ _ q2 q4 rfl;obtain⟨b,rfl,hb⟩:=Arg.keys e2.gh ay ej;refine⟨l,_,rfl,DPut.t h2 hb (by rw[←q3.length];exact hl),?_⟩;exact q σ G2 _ e2.gg (EnvR.wrDT (R.ext e12) ed q1 h2 ((q3.mono e12.gg).put (dn.mono e2.gg) j)) (Ext.wr (ex.trans e12) g2 q5)
      ·rw[if_neg hl]at q;exact q.elim
   |no=>exact q.elim
   |pu _=>exact q.elim
   |bo _=>exact q.elim
   |ow _=>exact q.elim
end
noncomputable def Vu:Expr→Bool
 |.Call (.Name x _) _ _ _=>decide (x≠"len") && decide (x≠"int") && decide (x≠"str")
 |.Tuple _ _ _=>true
 |_=>false
noncomputable def Lv:Nat→Expr→List Str
 |0,_=>[]
 |n+1,e=>match e with
  |.Call (.Attribute (.Name x _) m _) (k::r) _ _=>(if(m="setdefault"||m="get") && Vu k then[x]else[])++(r.flatMap (Lv n))
  |.Call (.Attribute o _ _) _ _ _=>Lv n o
  |.Compare l _ rs _=>Lv n l++rs.flatMap (Lv n)
  |.BoolOp _ es _=>es.flatMap (Lv n)
  |.UnaryOp _ e _=>Lv n e
  |.BinOp l _ r _=>Lv n l++Lv n r
  |_=>[]
noncomputable def Lw:Nat→List Stmt→List Str
 |0,_=>[]
 |n+1,ss=>ss.flatMap λs=>match s with
  |.For _ it b o _=>Lv n it++Lw n b++Lw n o
  |.While c b o _=>Lv n c++Lw n b++Lw n o
  |.If c b o _=>Lv n c++Lw n b++Lw n o
  |.Assign [.Subscript (.Name x _) k _] v _=>(if Vu k then[x]else[])++Lv n v
  |.Assign _ v _=>Lv n v
  |.Expr e _=>Lv n e
  |.Return (some e) _=>Lv n e
  |_=>[]
noncomputable def bz:D→D→Option D
 |.lst xs,.int i=>atI xs i
 |.tup xs,.int i=>atI xs i
 | .str z, .int i => if z.length ≤ sizeLine then (match atI z.cps.toList i with
  |some c=>some (.str ⟨#[c]⟩)
  |none=>none)else none
 |.dct false kvs,k=>(d7 k).bind (de kvs)
 |.dct true kvs,k=>(jh k).bind (Hy kvs)
 |_,_=>none
noncomputable def zg6:R2:=λx y H Q=>∃a v,x=.ref a∧DGet H a y (some v)∧Q v H
section
variable{X:Cx}{B:Hp}{E:EK}{a b:Expr}{g h:En→Res}{pos:Pos}
theorem Xb(hu:X.A.units+5<cLine):IxR X zg6:=by
 intro value slice pins s σ H x y v u Q I rx ry q hs;obtain⟨l,w,rfl,dg,q⟩:=q;cases rx;exact tail_any (Gw I dg) PySem.F.slot_dict_getitem.lookup (Of hu I dg ry λw' s3 I3 rw'=>⟨w,H,I3,rw',q⟩) hs
theorem Arg.dctT{K:KA}{G H:Hp}{kvs:List (D×D)}{v:V}(s:Same G H)(h:Arg K G H (.dct true kvs) v):∃a es,v=.ref a∧H a=some (.dT es)∧DenT K G kvs es:=by
 rcases h with ⟨a,h1,h2⟩|⟨_,_,_,z,_⟩|⟨t',kvs',a,z,h1,h2⟩
 ·rcases h2 with ⟨z,_⟩|⟨_,es,q,r⟩
  ·cases z
  ·exact⟨a,es,h1,s _ _ q,r⟩
 ·cases z
 ·cases z;rcases h2 with ⟨z,_⟩|⟨_,es,q,r⟩
  ·cases z
  ·exact⟨a,es,h1,q,r⟩
theorem Yj{K:KA}:gc K bz (λx y H Q=>rIx K x y H Q∨zg6 x y H Q):=λG H x y dx dy d sg ax ay ed Q q=>by
 unfold bz at ed;split at ed
 ·obtain⟨l,vs,rfl,sq,dl⟩:=ax.lst sg;obtain⟨v,ev,dv⟩:=dl.atI ed;exact .inl (.inl ⟨l,vs,_,v,rfl,ay.int,sq,ev,q _ G H (Ext.refl sg) dv⟩)
 ·obtain⟨l,vs,rfl,sq,dl⟩:=ax.tup sg;obtain⟨v,ev,dv⟩:=dl.atI ed;exact .inl (.inr (.inl ⟨l,vs,_,v,rfl,ay.int,sq,ev,q _ G H (Ext.refl sg) dv⟩))
 ·split at ed
  ·rename_i hz;split at ed
   ·rename_i c ec;cases ed;exact .inl (.inr (.inr ⟨_,_,c,ax.str,ay.int,hz,ec,q _ G H (Ext.refl sg) rfl⟩))
   ·cases ed
  ·cases ed
 ·rename_i kvs;cases ek:d7 dy with
  |none=>rw[ek]at ed;cases ed
  |some j=>
   rw[ek]at ed;obtain⟨l,es,rfl,h1,dl⟩:=Arg.dctK sg ax;obtain⟨v,ev,dv⟩:=(dl.look j).1 d ed;rw[rg ay ek];refine .inr ⟨l,v,rfl,?_,q _ G H (Ext.refl sg) dv⟩;rw[←ev];exact DGet.k h1
 ·rename_i kvs;cases ek:jh dy with
  |none=>rw[ek]at ed;cases ed
  |some j=>
   rw[ek]at ed;obtain⟨l,es,rfl,h1,dl⟩:=Arg.dctT sg ax;obtain⟨v,ev,dv⟩:=(dl.look j).1 d ed;obtain⟨b,rfl,hb⟩:=Arg.keys sg ay ek;refine .inr ⟨l,v,rfl,?_,q _ G H (Ext.refl sg) dv⟩;rw[←ev];exact DGet.t h1 hb
 ·cases ed
theorem zgv(hu:X.A.units+5<cLine)(ha:iz X B E a g)(hb:iz X B E b h)(hs:D5 b:=by intro _ _;rfl):ff X B E (.Subscript a b pos) (g2 bz g h):=PE.imp (zgn (zb6.or (Xb hu)) ha hb hs) λσ H Q q=>op2 Yj q
end
end Pu
end
section
namespace Pu
open PySem PySem.Spec PyProof.Rows L2 PySem.SeqAt PySem.W
theorem Mh{K:KA}{G:Hp}{ds:List D}{vs:List V}(dl:DenL K G ds vs):∀{ps:List Nat},(∀i∈ps,i<ds.length)→DenL K G (ps.map λi=>ds.getD i D.non) (ps.map λi=>vs.getD i V.non)
 |[],_=>rfl
 |i::r,h=>by
  refine⟨_,_,rfl,?_,Mh dl λj hj=>h j (.tail _ hj)⟩;have key:∀{ds:List D}{vs:List V}(i:Nat),DenL K G ds vs→i<ds.length→Den K G (ds.getD i D.non) (vs.getD i V.non):=by
   intro ds;induction ds with
   |nil=>intro vs i _ h;simp at h
   |cons d ds ih=>
    intro vs i dl h;obtain⟨v,vr,rfl,dv,dr⟩:=dl;cases i with
    |zero=>exact dv
    |succ i=>simpa using ih i dr (by simpa using h)
  exact key i dl (h i (.head _))
theorem N6{vs:List V}{us:List Value}(r:Vals vs us):∀{ps:List Nat},(∀i∈ps,i<vs.length)→Vals (ps.map λi=>vs.getD i V.non) (ps.map λi=>us.getD i Value.none)
 |[],_=>.nil
 |i::q,h=>by
  refine .cons ?_ (N6 r λj hj=>h j (.tail _ hj));have key:∀{vs:List V}{us:List Value}(i:Nat),Vals vs us→i<vs.length→RelV (vs.getD i V.non) (us.getD i Value.none):=by
   intro vs us i r;induction r generalizing i with
   |nil=>intro h;simp at h
   |cons hh t ih=>
    intro h;cases i with
    |zero=>exact hh
    |succ i=>simpa using ih i (by simpa using h)
  exact key i r (h i (.head _))
noncomputable def Ko:D→Option (List Int)
 |.tup [.str x,.tup ds]=>if PyData.strOk x then(p7 ds).map (uz x)else none
 |_=>none
noncomputable def jc:List D→Option (List (List Int))
 |[]=>some []
 |d::ds=>match Ko d,jc ds with
  |some k,some r=>some (k::r)
  |_,_=>none
theorem Xd{d:D}{k:List Int}(h:Ko d=some k):∃x c,PyData.strOk x=true∧k=uz x c∧d=.tup [.str x,.tup (c.map D.int)]:=by
 unfold Ko at h;split at h
 ·rename_i x ds;split at h
  ·rename_i ok;cases e:p7 ds with
   |none=>rw[e]at h;cases h
   |some c=>rw[e]at h;cases h;exact⟨x,c,ok,rfl,by rw[Al e]⟩
  ·cases h
 ·cases h
theorem kj{d:D}{ds:List D}{kz:List (List Int)}(h:jc (d::ds)=some kz):∃k r,Ko d=some k∧jc ds=some r∧kz=k::r:=by
 unfold jc at h;cases e1:Ko d with
 |none=>rw[e1]at h;cases h
 |some k=>
  cases e2:jc ds with
  |none=>rw[e1,e2]at h;cases h
  |some r=>rw[e1,e2]at h;cases h;exact⟨k,r,rfl,rfl,rfl⟩
noncomputable def jg(ds:List D):Option (Nat×List (List Int)):=match jv ds with
 |some kz=>some (0,kz)
 |none=>(jc ds).map λkz=>(2,kz)
theorem Dj:∀{ds:List D}{kz:List (List Int)},jv ds=some kz→kz.length=ds.length
 |[],kz,h=>by cases h;rfl
 |d::ds,kz,h=>by
  obtain⟨k,r,_,h2,rfl⟩:=kh h;rw[kA7,kA7,Dj h2]
theorem Dk:∀{ds:List D}{kz:List (List Int)},jc ds=some kz→kz.length=ds.length
 |[],kz,h=>by cases h;rfl
 |d::ds,kz,h=>by
  obtain⟨k,r,_,h2,rfl⟩:=kj h;rw[kA7,kA7,Dk h2]
theorem ub{ds:List D}{b:Nat}{kz:List (List Int)}(h:jg ds=some (b,kz)):kz.length=ds.length:=by
 unfold jg at h;split at h
 ·rename_i e;cases h;exact Dj e
 ·cases e:jc ds with
  |none=>rw[e]at h;cases h
  |some k=>rw[e]at h;cases h;exact Dk e
noncomputable def ko(ds:List D):Option (List D):=if ds.length<2 then some ds else if ds.length<64 then(match jg ds with
  |some (_,kz)=>if kz.Nodup then some ((vz (kz.zip ds)).map (·.2))else none
  |none=>none)else none
theorem Jj{ds ds':List D}(h:ko ds=some ds'):ds.length<64∧((ds.length<2∧ds'=ds)∨(2≤ds.length∧∃b kz,jg ds=some (b,kz)∧kz.Nodup∧ds'=(vz (kz.zip ds)).map (·.2))):=by
 unfold ko at h
 by_cases h2:ds.length<2
 ·rw[if_pos h2]at h;cases h;exact⟨by omega,.inl ⟨h2,rfl⟩⟩
 ·rw[if_neg h2]at h
  by_cases h64:ds.length<64
  ·rw[if_pos h64]at h;cases hk:jg ds with
   |none=>rw[hk]at h;cases h
   |some p=>
    obtain⟨b,kz⟩:=p;rw[hk]at h;dsimp only at h
    by_cases nd:kz.Nodup
    ·rw[if_pos nd]at h;cases h;exact⟨h64,.inr ⟨by omega,b,kz,rfl,nd,rfl⟩⟩
    ·rw[if_neg nd]at h;cases h
  ·rw[if_neg h64]at h;cases h
section
variable{X:Cx}{pins:List (Addr×Obj)}{σ:St}{G H:Hp}{s:Shared}
theorem Dm(I:Inv X pins σ H s)(sg:Same G H):∀{ds:List D}{kz:List (List Int)}{vs:List V}{us:List Value},jc ds=some kz→DenL (kx X) G ds vs→Vals vs us→KeysAre s 2 us kz
 |[],kz,vs,us,h,dl,r=>by
  cases h;cases (show vs=[]from dl);cases r;trivial
 |d::ds,kz,vs,us,h,dl,r=>by
  obtain⟨k,r',h1,h2,rfl⟩:=kj h;obtain⟨v,vr,rfl,dv,dr⟩:=dl;obtain⟨x,c,ok,rfl,rfl⟩:=Xd h1;cases r with
  |cons rv rr=>
   refine⟨?_,Dm I sg h2 dr rr⟩;have e:dj (.tup [.str x,.tup (c.map D.int)])=some (.tuple [.str x,.tuple (c.map PyData.int)]):=by
    rw[dj,e8,e8,e8,dj,dj,xr]
   obtain⟨as,ra⟩:=vq I sg dv rv e;exact⟨_,as,ra,x,c,rfl,ok,rfl⟩
theorem Kq(I:Inv X pins σ H s)(sg:Same G H){ds:List D}{b:Nat}{kz:List (List Int)}{vs:List V}{us:List Value}(h:jg ds=some (b,kz))(dl:DenL (kx X) G ds vs)(r:Vals vs us):KeysAre s b us kz:=by
 unfold jg at h;split at h
 ·rename_i e;cases h;exact Hs I sg e dl r
 ·cases e:jc ds with
  |none=>rw[e]at h;cases h
  |some k=>rw[e]at h;cases h;exact Dm I sg e dl r
end
section
variable{X:Cx}{B:Hp}{E:EK}{e:Expr}{g:En→Res}{pos p:Pos}
def RawD(h:Heap)(d:Addr)(es:Array DictEntry)(ep:Nat):Prop:=∃o,h.get? d=some o∧o.ExactDict∧o.data=.dict es ep
section
variable{prog:Program}{w:World}{A:Around}{E:Value→Shared→Prop}{s:Shared}{d:Addr}{es:Array DictEntry}{ep:Nat}
theorem RawD.ty(h:RawD s.heap d es ep):s.TypeIs (.ref d) "dict":=let ⟨o,h1,h2,_⟩:=h;⟨o,h1,h2.1⟩
end
noncomputable def gT(G H:Hp):Hp:=λb=>match H b with
 |some (.tup vs)=>some (.tup vs)
 |_=>G b
theorem wz{G H:Hp}{b:Addr}{vs:List V}(h:H b=some (.tup vs)):gT G H b=some (.tup vs):=by unfold gT;rw[h]
theorem Ep{G H:Hp}{b:Addr}(h:∀vs,H b≠some (.tup vs)):gT G H b=G b:=by
 unfold gT;split
 ·rename_i vs e;exact absurd e (h vs)
 ·rfl
theorem Ru{G H:Hp}(sg:Same G H):Ext G H (gT G H) H:=by
 refine⟨λb u q=>?_,Same.refl H,λb u q=>?_,λb u q g z=>?_⟩
 ·have:=sg b u q
  by_cases c:∃vs,u=.tup vs
  ·obtain⟨vs,rfl⟩:=c;exact wz this
  ·rw[Ep λvs e=>c ⟨vs,by rw[this]at e;cases e;rfl⟩];exact q
 ·by_cases c:∃vs,H b=some (.tup vs)
  ·obtain⟨vs,e⟩:=c;rw[wz e]at q;rw[e];exact q
  ·rw[Ep λvs e=>c ⟨vs,e⟩]at q;exact sg b u q
 ·rw[Ep λvs e=>by rw[q]at e;cases e;cases z];exact g
theorem Rg{K:KA}{G:Hp}(k:fo):Den K G (kD k) (kV k):=by cases k<;>exact rfl
theorem Mi{K:KA}{G:Hp}:∀ks:List fo,DenL K G (ks.map kD) (ks.map kV)
 |[]=>rfl
 |k::r=>⟨_,_,rfl,Rg k,Mi r⟩
theorem Rh{K:KA}{G H:Hp}{k:NK}{v:V}(h:nkAt H k v):Den K (gT G H) (nkD k) v:=by
 cases k with
 |inl k=>rw[show v=kV k from h];exact Rg k
 |inr ks=>obtain⟨b,rfl,q⟩:=h;exact⟨b,_,rfl,wz q,Mi ks⟩
theorem Gu{K:KA}{G H:Hp}:∀{ks:az}{vs:List V},NkL H ks vs→DenL K (gT G H) (ks.map nkD) vs
 |[],_,h=>h
 |_::_,_,⟨v,t,e,h1,h2⟩=>⟨v,t,e,Rh h1,Gu h2⟩
theorem zbs{K:KA}{G H:Hp}{k:az}{b:Addr}(h:TkAt H k b):Den K (gT G H) (kT k) (.ref b):=by
 obtain⟨vs,h1,h2⟩:=h;exact⟨b,vs,rfl,wz h1,Gu h2⟩
end
end Pu
end
section
namespace Pu
open PySem PySem.Spec PyProof.Rows L2
theorem Ap{d:D}{ds:List D}{k:List Int}{r:List (List Int)}(h1:O0 d=some k)(h2:jv ds=some r):jv (d::ds)=some (k::r):=by
 unfold jv;rw[h1,h2]
theorem Ar{d:D}{ds:List D}{k:List Int}{r:List (List Int)}(h1:Ko d=some k)(h2:jc ds=some r):jc (d::ds)=some (k::r):=by
 unfold jc;rw[h1,h2]
theorem Aq{ds ds2:List D}(p:ds.Perm ds2):∀{kz:List (List Int)},jv ds=some kz→∃kz2,jv ds2=some kz2∧(kz2.zip ds2).Perm (kz.zip ds):=by
 induction p with
 |nil=>intro kz h;exact⟨kz,h,List.Perm.refl _⟩
 |cons x p ih=>
  intro kz h;obtain⟨k,r,h1,h2,rfl⟩:=kh h;obtain⟨r2,q1,q2⟩:=ih h2;exact⟨k::r2,Ap h1 q1,q2.cons _⟩
 |swap x y l=>
  intro kz h;obtain⟨k,r,h1,h2,rfl⟩:=kh h;obtain⟨k2,r2,h3,h4,rfl⟩:=kh h2;exact⟨k2::k::r2,Ap h3 (Ap h1 h4),List.Perm.swap _ _ _⟩
 |trans p1 p2 ih1 ih2=>
  intro kz h;obtain⟨k1,q1,q2⟩:=ih1 h;obtain⟨k2,q3,q4⟩:=ih2 q1;exact⟨k2,q3,q4.trans q2⟩
theorem Kp{ds ds2:List D}(p:ds.Perm ds2):∀{kz:List (List Int)},jc ds=some kz→∃kz2,jc ds2=some kz2∧(kz2.zip ds2).Perm (kz.zip ds):=by
 induction p with
 |nil=>intro kz h;exact⟨kz,h,List.Perm.refl _⟩
 |cons x p ih=>
  intro kz h;obtain⟨k,r,h1,h2,rfl⟩:=kj h;obtain⟨r2,q1,q2⟩:=ih h2;exact⟨k::r2,Ar h1 q1,q2.cons _⟩
 |swap x y l=>
  intro kz h;obtain⟨k,r,h1,h2,rfl⟩:=kj h;obtain⟨k2,r2,h3,h4,rfl⟩:=kj h2;exact⟨k2::k::r2,Ar h3 (Ar h1 h4),List.Perm.swap _ _ _⟩
 |trans p1 p2 ih1 ih2=>
  intro kz h;obtain⟨k1,q1,q2⟩:=ih1 h;obtain⟨k2,q3,q4⟩:=ih2 q1;exact⟨k2,q3,q4.trans q2⟩
theorem Lm{l l2:List (List Int×D)}(p:l2.Perm l)(nd:(l.map (·.1)).Nodup):vz l2=vz l:=by
 have nd2:(l2.map (·.1)).Nodup:=(p.map _).nodup_iff.mpr nd;exact List.Perm.eq_of_pairwise (le:=λa b:List Int×D=>a.1<b.1) (λa b _ _ h1 h2=>absurd (List.lt_trans h1 h2) (List.lt_irrefl _)) (v7 nd2) (v7 nd) ((ji _).trans (p.trans (ji _).symm))
theorem Ho{ds ds2:List D}(p:ds.Perm ds2){b:Nat}{kz:List (List Int)}(h:jg ds=some (b,kz)):∃b2 kz2,jg ds2=some (b2,kz2)∧(kz2.zip ds2).Perm (kz.zip ds):=by
 unfold jg at h⊢;cases e:jv ds with
 |some k=>
  rw[e]at h;cases h;obtain⟨k2,q1,q2⟩:=Aq p e;exact⟨0,k2,by rw[q1],q2⟩
 |none=>
  rw[e]at h;cases e2:jv ds2 with
  |some k2=>
   obtain⟨k3,q1,_⟩:=Aq p.symm e2;rw[e]at q1;cases q1
  |none=>
   cases e3:jc ds with
   |none=>rw[e3]at h;cases h
   |some k=>
    rw[e3]at h;cases h;obtain⟨k2,q1,q2⟩:=Kp p e3;exact⟨2,k2,by rw[q1];rfl,q2⟩
theorem Lk{ds ds2 ds':List D}(p:ds.Perm ds2)(h:ko ds=some ds'):ko ds2=some ds':=by
 have pl:=p.length_eq;obtain⟨h64,hh⟩:=Jj h;rcases hh with ⟨h2,rfl⟩|⟨h2,b,kz,hk,nd,rfl⟩
 ·have:ds2=ds':=by
   match ds',ds2,h2,p with
   |[],l,_,p=>exact List.Perm.nil_eq p|>.symm
   |[x],l,_,p=>exact(List.singleton_perm.mp p).symm▸rfl
  rw[this];exact h
 ·obtain⟨b2,kz2,q1,q2⟩:=Ho p hk;have lz:=ub hk;have lz2:=ub q1;have n1:((kz.zip ds).map (·.1)).Nodup:=by rw[List.map_fst_zip (by omega)];exact nd
  have n2:kz2.Nodup:=by
   have:=(q2.map (·.1)).nodup_iff.mpr n1;rw[List.map_fst_zip (by omega)]at this;exact this
  unfold ko;rw[if_neg (by omega),if_pos (by omega),q1];dsimp only;rw[if_pos n2,Lm q2 n1]
end Pu
end
section
namespace L2
open PySem PySem.Spec PyProof.Rows
theorem Inv.drew{X:Cx}{pins:List (Addr×Obj)}{σ:St}{H:Hp}{s:Shared}(I:Inv X pins σ H s)(d':Drawn):Inv X pins σ H {s with drawn:=d'}:=by
 have:=I.step (h':=s.heap) (H':=H) (g':=s.gens) (d':=d') (t':=s.toks) (ch:=[]) (λ_ z=>nomatch z) (λb o _ _ _ e _=>e) (λb o _ _ _ e _=>⟨o.slots,e⟩) (λb o _ _ n=>n) (λb o _ e=>⟨o,e⟩) (λ_ _ z=>z) (λ_ _ _ z=>z) (λ_ _ z=>z) (λ_ z=>z) I.hok I.bare;exact this
end L2
namespace Pu
open PySem PySem.Spec PyProof.Rows L2
section
variable{X:Cx}{B:Hp}{E:EK}{e:Expr}{g:En→Res}{pos p:Pos}
theorem Jk{pins:List (Addr×Obj)}{σ:St}{G H:Hp}{s:Shared}{a:Addr}{ds':List D}{Q:VK}(hu:X.A.units+5<cLine)(I:Inv X pins σ H s)(sg:Same G H)
  (col:∀(Q':List Value→Shared→Prop)(E':Value→Shared→Prop),(∀d' h' tk its vs ds,(∀b o,s.heap.get? b=some o→h'.get? b=some o)→Vals vs its→DenL (kx X) G ds vs→ko ds=some ds'→Q' its {s with heap:=h',toks:=tk,drawn:=d'})→wpAny (model X.prog X.w) X.A.in1 (collect (.ref a)) Q' E' s)
  (q:∀p vs',H p=none→DenL (kx X) G ds' vs'→Q (.ref p) (upd H p (.lst vs'))):wpAny (model X.prog X.w) X.A (call (.builtin "sorted") [.ref a]) (EP X pins σ Q) X.xe s:=by
 refine Calls.call_function_entry kind_sorted plain_sorted entry_sorted (args_sorted1 _) ?_;unfold Builtin.«sorted»;refine wpAny_bind (m:=checkCount "sorted" 1 1 _) (wpAny_pure (wpAny_bind (col _ _ λd0 h1 tk its vs ds k1 rv dl e=>?_)));obtain⟨h64,hh⟩:=Jj e;have n1:its.length=vs.length:=rv.length.symm;have n2:vs.length=ds.length:=dl.length.symm;have zl:its.length≤sizeLine:=by rw[sizeLine_eq];omega
 refine wpAny_bind (wpAny_newList ?_ zl);have I1:Inv X pins σ H {s with heap:=h1,toks:=tk,drawn:=d0}:=(I.drew d0).kept k1;have hoL:(h1.push (seqObj "list" its.toArray 0)).get? h1.objs.size=some (seqObj "list" its.toArray 0):=Heap.get?_push_size _ rfl;have k2:∀b o,h1.get? b=some o→(h1.push (seqObj "list" its.toArray 0)).get? b=some o∧b≠h1.objs.size:=λb o e=>⟨Heap.get?_push_of_some _ e,kAf (Heap.lt_size e)⟩;have hR:2≤its.length→D7 X.prog X.w X.A.in1.in1 its its (λp=>PermR its.length p∧∃b kz,jg ds=some (b,kz)∧kz.Nodup∧So (wq kz) p its.length∧ds'=(vz (kz.zip ds)).map (·.2)) {s with heap:=Kw (h1.push (seqObj "list" its.toArray 0)) h1.objs.size its,toks:=tk,drawn:=d0}:=λh2=>by
  rcases hh with ⟨z,_⟩|⟨_,b,kz,hk,nd,hd⟩
  ·omega
  ·have I2:Inv X pins σ H {s with heap:=Kw (h1.push (seqObj "list" its.toArray 0)) h1.objs.size its,toks:=tk,drawn:=d0}:=I1.kept (t':=tk) λb o e=>S8 (k2 b o e).1 (k2 b o e).2;have ka:=Kq I2 sg hk dl rv;intro E';refine wpAny_mono (zd6 (prog:=X.prog) (w:=X.w) (A:=X.A.in1.in1) (vs:=its) rfl ka h2 (by omega) nd (by show X.A.units+1+1+1<cLine;omega) E') (λκ s' g=>⟨g.1,λE2=>wpAny_mono (g.2 E2) (λr s2 g2=>?_) λ_ _ x=>x⟩) λ_ _ x=>x;obtain⟨g1,g2,p,⟨g3,g4⟩,g5,g6⟩:=g2;exact⟨g1,g2,p,⟨g3,b,kz,hk,nd,g4,hd⟩,g5,g6⟩
 refine wpAny_bind (wpAny_holding (wpAny_call_entry slot_list_sort ⟨_,hoL,rfl⟩ entry_list_sort (Ln (s:={s with heap:=h1.push (seqObj "list" its.toArray 0),toks:=tk,drawn:=d0}) hoL (by omega) hR λout ho=>⟨_,rfl,wpAny_pure ⟨_,rfl,?_⟩⟩) (args_list_sort _)));obtain⟨ep,hat⟩:=sortedHeap_at (out:=out.toArray) hoL;have key:∃vs',DenL (kx X) G ds' vs'∧Vals vs' out:=by
  rcases ho with ⟨z,rfl⟩|⟨z,p,⟨hp,b,kz,hk,nd,hs,hd⟩,hps,rfl⟩
  ·rcases hh with ⟨_,rfl⟩|⟨z2,_⟩
   ·exact⟨vs,dl,rv⟩
   ·omega
  ·have hp':PermR ds.length p:=by rw[←n2,←n1];exact hp
   have hs':So (wq kz) p ds.length:=by rw[←n2,←n1];exact hs
   have lt:∀i∈p.toList,i<ds.length:=λi hi=>kB1.mp (hp'.mem_iff.mp hi);rw[hd,←Pv (ub hk) nd hp' hs'];exact⟨_,Mh dl lt,N6 rv λi hi=>by rw[n2];exact lt i hi⟩
 obtain⟨vs',d',v'⟩:=key;have z:vs'.length≤sizeLine:=by rw[v'.length,ho.len];exact zl
 refine⟨.ref h1.objs.size,_,I1.laid (a:=h1.objs.size) (o:=.lst vs') (t':=tk) (λb o e=>?_) (kA0 _) ⟨z,out,ep,v',hat⟩,rfl,q _ vs' (I1.hok.fresh (kA0 _)) d'⟩;have hlt:=Heap.lt_size e;rw[sortedHeap_old (k2 b o e).2 (by rw[Heap.size_push];exact Nat.lt_succ_of_lt hlt)];exact(k2 b o e).1
end
end Pu
end
section
namespace ST
open PySem PySem.SetTable
noncomputable def Ge(mask:Nat)(p:Probe):Probe:=if p.more>0 then{p with j:=p.j+1,more:=p.more - 1}else
 {p with j:=(leap mask p.i p.perturb).1,more:=runEnd mask (leap mask p.i p.perturb).1 - (leap mask p.i p.perturb).1,i:=(leap mask p.i p.perturb).1,perturb:=(leap mask p.i p.perturb).2}
noncomputable def it(mask:Nat):Nat→Probe→Probe
 |0,p=>p
 |n+1,p=>it mask n (Ge mask p)
theorem Et{mask:Nat}:∀(m n:Nat)(p:Probe),it mask (m+n) p=it mask n (it mask m p)
 |0,n,p=>by rw[Nat.zero_add];rfl
 |m+1,n,p=>by
  rw[show m+1+n=(m+n)+1 by omega];exact Et m n (Ge mask p)
noncomputable def Qo(mask:Nat)(h:Int):Probe:={j:=bits h % (mask+1),more:=runEnd mask (bits h % (mask+1)) - bits h % (mask+1),i:=bits h % (mask+1),perturb:=bits h,dummy:=none}
structure Val(mask:Nat)(p:Probe):Prop where
 more:p.more≤9
 i:p.i≤mask
 pt:p.perturb<2 ^ 64
 dum:p.dummy=none
 j:p.j+p.more≤mask
theorem xl{mask i:Nat}(h:i≤mask):i≤runEnd mask i∧runEnd mask i≤mask∧runEnd mask i - i≤9:=by
 unfold runEnd;split<;>omega
theorem Wj(h:Int):bits h<2 ^ 64:=by
 unfold bits;have h1:=Int.emod_nonneg h (show(2 ^ 64:Int)≠0 by decide);have h2:=Int.emod_lt_of_pos h (show(0:Int)<2 ^ 64 by decide);omega
theorem zi(mask:Nat)(h:Int):Val mask (Qo mask h):=by
 have e:bits h % (mask+1)≤mask:=Nat.le_of_lt_succ (Nat.mod_lt _ (Nat.succ_pos _));obtain⟨h1,h2,h3⟩:=xl e;exact⟨h3,e,Wj h,rfl,by show bits h % (mask+1)+(runEnd mask (bits h % (mask+1)) - bits h % (mask+1))≤mask;omega⟩
noncomputable def yd(mask:Nat)(p:Probe):Nat:=(p.i * 5+1+p.perturb / 32) % (mask+1)
noncomputable def vi(mask:Nat)(p:Probe):Probe:={p with j:=yd mask p,more:=runEnd mask (yd mask p) - yd mask p,i:=yd mask p,perturb:=p.perturb / 32}
theorem wd{mask:Nat}{p:Probe}(v:Val mask p):Val mask (vi mask p):=by
 have e:yd mask p≤mask:=Nat.le_of_lt_succ (Nat.mod_lt _ (Nat.succ_pos _));obtain⟨h1,h2,h3⟩:=xl e;exact⟨h3,e,Nat.lt_of_le_of_lt (Nat.div_le_self _ _) v.pt,v.dum,by show yd mask p+(runEnd mask (yd mask p) - yd mask p)≤mask;omega⟩
theorem Z1{mask:Nat}{p:Probe}(v:Val mask p):Val mask (Ge mask p):=by
 unfold Ge;split
 ·exact⟨by have:=v.more;show p.more - 1≤9;omega,v.i,v.pt,v.dum,by have:=v.j;show p.j+1+(p.more - 1)≤mask;omega⟩
 ·exact wd v
theorem L4{mask:Nat}:∀(n:Nat){p:Probe},Val mask p→Val mask (it mask n p)
 |0,_,v=>v
 |n+1,_,v=>L4 n (Z1 v)
theorem Eu{mask:Nat}:∀(k:Nat)(p:Probe),p.more=k→it mask (k+1) p=vi mask p
 |0,p,h=>by
  show Ge mask p=_;unfold Ge;rw[if_neg (by omega)];rfl
 |k+1,p,h=>by
  show it mask (k+1) (Ge mask p)=_;have e:Ge mask p={p with j:=p.j+1,more:=p.more - 1}:=by unfold Ge;rw[if_pos (by omega)]
  rw[Eu k (Ge mask p) (by rw[e];show p.more - 1=k;omega),e];rfl
noncomputable def H8(mask:Nat):Nat→Probe→Probe
 |0,p=>p
 |n+1,p=>H8 mask n (vi mask p)
theorem Sr{mask:Nat}:∀(k:Nat){p:Probe},Val mask p→∃m,m≤10 * k∧it mask m p=H8 mask k p
 |0,p,v=>⟨0,by omega,rfl⟩
 |k+1,p,v=>by
  obtain⟨m,h1,h2⟩:=Sr k (wd v);have:=v.more;exact⟨p.more+1+m,by omega,by rw[Et,Eu _ p rfl,h2];rfl⟩
theorem vj{mask:Nat}:∀(m n:Nat)(p:Probe),H8 mask (m+n) p=H8 mask n (H8 mask m p)
 |0,n,p=>by rw[Nat.zero_add];rfl
 |m+1,n,p=>by
  rw[show m+1+n=(m+n)+1 by omega];exact vj m n (vi mask p)
theorem F6{mask:Nat}:∀(n:Nat){p:Probe},Val mask p→Val mask (H8 mask n p)
 |0,_,v=>v
 |n+1,_,v=>F6 n (wd v)
theorem Ks{mask:Nat}:∀(k:Nat)(p:Probe),(H8 mask k p).perturb=p.perturb / 32 ^ k
 |0,p=>by rw[Nat.pow_zero,Nat.div_one];rfl
 |k+1,p=>by
  show(H8 mask k (vi mask p)).perturb=_;rw[Ks k,Nat.pow_succ,Nat.mul_comm,←Nat.div_div_eq_div_mul];rfl
noncomputable def lc(mask:Nat):Nat→Nat→Nat
 |0,i=>i
 |n+1,i=>lc mask n ((i * 5+1) % (mask+1))
theorem E3{mask:Nat}:∀(m n i:Nat),lc mask (m+n) i=lc mask n (lc mask m i)
 |0,n,p=>by rw[Nat.zero_add];rfl
 |m+1,n,p=>by
  rw[show m+1+n=(m+n)+1 by omega];exact E3 m n _
theorem Kr{mask:Nat}:∀(k:Nat){p:Probe},p.perturb=0→p.j=p.i→(H8 mask k p).i=lc mask k p.i∧(H8 mask k p).j=lc mask k p.i
 |0,p,h,e=>⟨rfl,e⟩
 |k+1,p,h,e=>by
  have:=Kr (mask:=mask) k (p:=vi mask p) (by show p.perturb / 32=0;rw[h]) rfl;have e2:(vi mask p).i=(p.i * 5+1) % (mask+1):=by show(p.i * 5+1+p.perturb / 32) % (mask+1)=_;rw[h]
  rw[e2]at this;exact this
noncomputable def Tp(mask:Nat):Nat→Nat→List Nat
 |0,_=>[]
 |n+1,i=>i::Tp mask n ((i * 5+1) % (mask+1))
theorem Fi{mask j:Nat}:∀{n i:Nat},j∈Tp mask n i→∃k,k<n∧lc mask k i=j
 |0,i,h=>by cases h
 |n+1,i,h=>by
  rcases kA6.mp h with h|h
  ·exact⟨0,by omega,h.symm⟩
  ·obtain⟨k,h1,h2⟩:=Fi h;exact⟨k+1,by omega,h2⟩
def Mk(mask:Nat):Prop:=mask=7∨mask=31∨mask=127
theorem X5{mask:Nat}(hm:Mk mask):(∀j,j≤mask→j∈Tp mask (mask+1) 0)∧lc mask (mask+1) 0=0:=by
 have g:∀m,((kA5 (m+1)).all λj=>(Tp m (m+1) 0).contains j)=true→∀j,j≤m→j∈Tp m (m+1) 0:=λm h j hj=>by
  have:=List.all_eq_true.mp h j (kB1.mpr (by omega));simpa using this
 rcases hm with rfl|rfl|rfl
 ·exact⟨g _ (by decide+kernel),by decide+kernel⟩
 ·exact⟨g _ (by decide+kernel),by decide+kernel⟩
 ·exact⟨g _ (by decide+kernel),by decide+kernel⟩
theorem Hv{mask i j:Nat}(hm:Mk mask)(hi:i≤mask)(hj:j≤mask):∃k,k≤mask∧lc mask k i=j:=by
 obtain⟨h1,h2⟩:=X5 hm;obtain⟨a,a1,a2⟩:=Fi (h1 i hi);obtain⟨b,b1,b2⟩:=Fi (h1 j hj)
 by_cases h:a≤b
 ·exact⟨b - a,by omega,by rw[←a2,←E3,show a+(b - a)=b by omega,b2]⟩
 ·exact⟨mask+1 - a+b,by omega,by rw[←a2,←E3,show a+(mask+1 - a+b)=(mask+1)+b by omega,E3,h2,b2]⟩
theorem zfu{mask j:Nat}{p:Probe}(hm:Mk mask)(v:Val mask p)(hj:j≤mask):∃m,m<10 * turns mask∧(it mask m p).j=j:=by
 have v13:=F6 13 v;have p0:(H8 mask 13 p).perturb=0:=by
  rw[Ks];exact Nat.div_eq_of_lt (kAo v.pt (by decide))
 have e13:(H8 mask 13 p).j=(H8 mask 13 p).i:=by
  rw[show(13:Nat)=12+1 from rfl,vj];rfl
 obtain⟨k,k1,k2⟩:=Hv hm v13.i hj;obtain⟨m,m1,m2⟩:=Sr (13+k) v;refine⟨m,by unfold turns;omega,?_⟩;rw[m2,vj,(Kr k p0 e13).2,k2]
abbrev Ris(xs:Array Nat):Prop:=xs.toList.Pairwise (· <·)
theorem Ris.lt{xs:Array Nat}(h:Ris xs){a b x y:Nat}(hab:a<b)(hx:xs[a]?=some x)(hy:xs[b]?=some y):x<y:=by
 rw[←kAw]at hx hy;obtain⟨a1,rfl⟩:=kAh.mp hx;obtain⟨b1,rfl⟩:=kAh.mp hy;exact List.pairwise_iff_getElem.mp h a b a1 b1 hab
theorem Ris.inj{xs:Array Nat}(h:Ris xs){a b x:Nat}(hx:xs[a]?=some x)(hy:xs[b]?=some x):a=b:=by
 rcases Nat.lt_trichotomy a b with z|z|z
 ·exact absurd (h.lt z hx hy) (kAx _)
 ·exact z
 ·exact absurd (h.lt z hy hx) (kAx _)
theorem zy{xs:Array Nat}{j:Nat}(h:Ris xs):∀(fuel lo hi:Nat),hi≤xs.size→lo≤hi→hi - lo≤fuel→(∀k x,k<lo→xs[k]?=some x→x<j)→(∀k x,hi≤k→xs[k]?=some x→j≤x)→
  below.go xs j fuel lo hi≤xs.size∧(∀k x,k<below.go xs j fuel lo hi→xs[k]?=some x→x<j)∧(∀k x,below.go xs j fuel lo hi≤k→xs[k]?=some x→j≤x)
 |0,lo,hi,h1,h2,h3,a,b=>by
  have:lo=hi:=by omega
  subst this;exact⟨h1,a,b⟩
 |fuel+1,lo,hi,h1,h2,h3,a,b=>by
  unfold below.go
  by_cases hl:lo<hi
  ·rw[if_pos hl];dsimp only;have hm:(lo+hi) / 2<xs.size:=by omega
   have eg:xs[(lo+hi) / 2]?=some (xs.getD ((lo+hi) / 2) j):=by
    rw[kAz hm];simp[Array.getD,hm]
   by_cases hc:xs.getD ((lo+hi) / 2) j<j
   ·rw[if_pos hc];refine zy h fuel _ hi h1 (by omega) (by omega) (λk x hk hx=>?_) b;rcases Nat.lt_or_ge k ((lo+hi) / 2)with z|z
    ·exact Nat.lt_trans (h.lt z hx eg) hc
    ·have:k=(lo+hi) / 2:=by omega
     subst this;rw[eg]at hx;cases hx;exact hc
   ·rw[if_neg hc];refine zy h fuel lo _ (by omega) (by omega) (by omega) a (λk x hk hx=>?_);rcases Nat.lt_or_ge ((lo+hi) / 2) k with z|z
    ·have:=h.lt z eg hx;omega
    ·have:k=(lo+hi) / 2:=by omega
     subst this;rw[eg]at hx;cases hx;omega
  ·rw[if_neg hl];have:lo=hi:=by omega
   subst this;exact⟨h1,a,b⟩
theorem uu{xs:Array Nat}{j:Nat}(h:Ris xs):below xs j≤xs.size∧(∀k x,k<below xs j→xs[k]?=some x→x<j)∧(∀k x,below xs j≤k→xs[k]?=some x→j≤x):=
 zy h xs.size 0 xs.size (kA0 _) (by omega) (by omega) (λk x hk=>by omega) λk x hk hx=>by
  obtain⟨z,_⟩:=kBe.mp hx;omega
theorem Qx{xs:Array Nat}{i j:Nat}(h:Ris xs)(e:xs[i]?=some j):below xs j=i:=by
 obtain⟨_,h2,h3⟩:=uu (j:=j) h;rcases Nat.lt_trichotomy i (below xs j)with z|z|z
 ·exact absurd (h2 i j z e) (kAx _)
 ·exact z.symm
 ·have hz:below xs j<xs.size:=by
   obtain⟨q,_⟩:=kBe.mp e;omega
  have e2:xs[below xs j]?=some xs[below xs j]:=kAz hz;have:=h3 _ _ (kA0 _) e2;have:=h.lt z e2 e;omega
theorem Dv{t:SetTable}{i j:Nat}(h:Ris t.place)(e:t.place[i]?=some j):t.slot j=.live i:=by
 unfold slot;rw[Qx h e];dsimp only;rw[if_pos (by rw[e];exact beq_self_eq_true _)]
theorem Lj{t:SetTable}{j:Nat}(hd:t.dummies=#[])(e:j∉t.place.toList):t.slot j=.empty:=by
 unfold slot;dsimp only;rw[if_neg (λz=>e (by
  have z:t.place[below t.place j]?=some j:=by simpa using z
  rw[←kAw]at z;exact kAy z)),hd]
 rfl
theorem Li{t:SetTable}(h:Ris t.place)(hd:t.dummies=#[])(j:Nat):(∃i,t.place[i]?=some j∧t.slot j=.live i)∨(j∉t.place.toList∧t.slot j=.empty):=by
 by_cases e:j∈t.place.toList
 ·obtain⟨i,hi⟩:=List.getElem?_of_mem e;rw[kAw]at hi;exact .inl ⟨i,hi,Dv h hi⟩
 ·exact .inr ⟨e,Lj hd e⟩
theorem K8:∀(n:Nat)(l:List Nat),l.length<n→∃j,j<n∧j∉l
 |0,l,h=>by omega
 |n+1,l,h=>by
  by_cases e:n∈l
  ·obtain⟨j,h1,h2⟩:=K8 n (l.erase n) (by rw[List.length_erase_of_mem e];have:=List.length_pos_of_mem e;omega);exact⟨j,by omega,λz=>h2 ((List.mem_erase_of_ne (by omega)).mpr z)⟩
  ·exact⟨n,by omega,e⟩
theorem Mu{t:SetTable}{hashAt:Nat→Int}{h:Int}(hr:Ris t.place)(hd:t.dummies=#[]):∀(fuel:Nat)(p:Probe),p.dummy=none→(∃m,m<fuel∧(it t.mask m p).j∉t.place.toList)→
  ∃m,m<fuel∧(∀m',m'<m→∃i,t.place[i]?=some (it t.mask m' p).j∧hashAt i≠h)∧
   (((it t.mask m p).j∉t.place.toList∧probe.go t hashAt h fuel p=some (.empty (it t.mask m p).j none))∨
    ∃i,t.place[i]?=some (it t.mask m p).j∧hashAt i=h∧probe.go t hashAt h fuel p=some (.candidate (it t.mask m p).j i (it t.mask (m+1) p)))
 |0,p,_,⟨m,h1,_⟩=>by omega
 |fuel+1,p,hp,⟨m0,h1,h2⟩=>by
  rcases Li hr hd p.j with ⟨i,e1,e2⟩|⟨e1,e2⟩
  ·by_cases hh:hashAt i=h
   ·refine⟨0,by omega,λm' z=>by omega,.inr ⟨i,e1,hh,?_⟩⟩;unfold probe.go;rw[e2];dsimp only;rw[if_pos (by rw[hh];exact beq_self_eq_true _)];rfl
   ·have hm0:m0≠0:=λz=>by
     subst z;rw[←kAw]at e1;exact h2 (kAy e1)
    obtain⟨k,rfl⟩:∃k,m0=k+1:=⟨m0 - 1,by omega⟩;have hp':(Ge t.mask p).dummy=none:=by unfold Ge;split<;>exact hp
    obtain⟨m,q1,q2,q3⟩:=Mu (hashAt:=hashAt) (h:=h) hr hd fuel (Ge t.mask p) hp' ⟨k,by omega,h2⟩;have eg:probe.go t hashAt h (fuel+1) p=probe.go t hashAt h fuel (Ge t.mask p):=by
     rw[probe.go,e2];dsimp only;rw[if_neg (by simpa using hh)];rfl
    refine⟨m+1,by omega,λm' z=>?_,?_⟩
    ·cases m' with
     |zero=>exact⟨i,e1,hh⟩
     |succ m'=>exact q2 m' (by omega)
    ·rw[eg];exact q3
  ·refine⟨0,by omega,λm' z=>by omega,.inl ⟨e1,?_⟩⟩;unfold probe.go;rw[e2];dsimp only;rw[hp];rfl
noncomputable def d8(mask:Nat)(h:Int)(m:Nat):Nat:=(it mask m (Qo mask h)).j
theorem Nb{mask m:Nat}{h:Int}:d8 mask h m≤mask:=by
 have:=(L4 m (zi mask h)).j;unfold d8;omega
structure TOk(t:SetTable)(hs:List Int):Prop where
 mask:Mk t.mask
 dum:t.dummies=#[]
 len:t.place.size=hs.length
 rise:Ris t.place
 le:∀j∈t.place.toList,j≤t.mask
 room:t.place.size≤t.mask
 reach:∀q∈t.place.toList.zip hs,∃m,d8 t.mask q.2 m=q.1∧∀m',m'<m→d8 t.mask q.2 m'∈t.place.toList
theorem TOk.fits{t:SetTable}{hs:List Int}(T:TOk t hs):t.place.size=hs.length∧t.fill≤t.mask:=by
 refine⟨T.len,?_⟩;unfold fill;rw[T.dum];exact T.room
theorem TOk.empty{t:SetTable}{hs:List Int}(T:TOk t hs)(p:Probe)(v:Val t.mask p):∃m,m<10 * turns t.mask∧(it t.mask m p).j∉t.place.toList:=by
 obtain⟨j,h1,h2⟩:=K8 (t.mask+1) t.place.toList (by have:=T.room;rw[kAb];omega);obtain⟨m,m1,m2⟩:=zfu T.mask v (j:=j) (by omega);exact⟨m,m1,by rw[m2];exact h2⟩
theorem TOk.probe{t:SetTable}{hs:List Int}(T:TOk t hs)(hashAt:Nat→Int)(h:Int)(m:Nat):∃m1,m≤m1∧(∀m',m≤m'→m'<m1→∃i,t.place[i]?=some (d8 t.mask h m')∧hashAt i≠h)∧
   ((d8 t.mask h m1∉t.place.toList∧t.probe hashAt h (it t.mask m (Qo t.mask h))=some (.empty (d8 t.mask h m1) none))∨
   ∃i,t.place[i]?=some (d8 t.mask h m1)∧hashAt i=h∧t.probe hashAt h (it t.mask m (Qo t.mask h))=some (.candidate (d8 t.mask h m1) i (it t.mask (m1+1) (Qo t.mask h)))):=by
 have v:=L4 m (zi t.mask h);obtain⟨k,k1,k2,k3⟩:=Mu (hashAt:=hashAt) (h:=h) T.rise T.dum (10 * turns t.mask) _ v.dum (T.empty _ v);have e:∀n,(it t.mask n (it t.mask m (Qo t.mask h)))=it t.mask (m+n) (Qo t.mask h):=λn=>(Et m n _).symm;refine⟨m+k,by omega,λm' a b=>?_,?_⟩
 ·have:=k2 (m' - m) (by omega);rw[e,show m+(m' - m)=m' by omega]at this;exact this
 ·rw[e,e]at k3;exact k3
theorem TOk.first{t:SetTable}{hs:List Int}(T:TOk t hs)(h:Int):∃M,M<10 * turns t.mask∧d8 t.mask h M∉t.place.toList:=T.empty _ (zi t.mask h)
theorem V0{mask:Nat}(h:Mk mask):10 * turns mask≤1420:=by
 unfold turns;rcases h with rfl|rfl|rfl<;>decide
theorem fc{α:Type}(xs:Array α)(p:Nat)(x:α):(insertAt xs p x).toList=xs.toList.take p++x::xs.toList.drop p:=by
 unfold insertAt;simp[List.extract_eq_drop_take];exact List.take_of_length_le (by simp)
theorem za{α:Type}{l:List α}{p:Nat}{x y:α}:y∈l.take p++x::l.drop p↔y=x∨y∈l:=by
 rw[kB4,kA6];constructor
 ·rintro (h|h|h)
  ·exact .inr (List.mem_of_mem_take h)
  ·exact .inl h
  ·exact .inr (List.mem_of_mem_drop h)
 ·rintro (h|h)
  ·exact .inr (.inl h)
  ·rw[←List.take_append_drop p l,kB4]at h;rcases h with h|h
   ·exact .inl h
   ·exact .inr (.inr h)
theorem Z3{α β:Type}{l:List α}{r:List β}{p:Nat}{x:α}{y:β}(hl:l.length=r.length):(l.take p++x::l.drop p).zip (r.take p++y::r.drop p)=(l.zip r).take p++(x,y)::(l.zip r).drop p:=by
 rw[List.zip_append (by rw[List.length_take,List.length_take,hl]),List.zip_cons_cons];unfold List.zip;rw[List.take_zipWith,List.drop_zipWith]
theorem TOk.put{t:SetTable}{hs:List Int}{h:Int}{m:Nat}(T:TOk t hs)(hn:d8 t.mask h m∉t.place.toList)(hb:∀m',m'<m→d8 t.mask h m'∈t.place.toList)(room:t.place.size+1≤t.mask):
  ∃p,p≤hs.length∧(t.put (d8 t.mask h m)).2=p∧TOk (t.put (d8 t.mask h m)).1 (hs.take p++h::hs.drop p)∧(t.put (d8 t.mask h m)).1={t with place:=insertAt t.place p (d8 t.mask h m),dummies:=#[]}:=by
 obtain⟨b1,b2,b3⟩:=uu (j:=d8 t.mask h m) T.rise;have hd:has t.dummies (d8 t.mask h m)=false:=by rw[T.dum];rfl
 have ep:(t.put (d8 t.mask h m)).1={t with place:=insertAt t.place (below t.place (d8 t.mask h m)) (d8 t.mask h m),dummies:=#[]}:=by
  unfold SetTable.put;dsimp only;rw[hd,T.dum];rfl
 refine⟨below t.place (d8 t.mask h m),by rw[←T.len];exact b1,rfl,?_,ep⟩;rw[ep];generalize hp:below t.place (d8 t.mask h m)=p at *;have hl:t.place.toList.length=hs.length:=by rw[kAb];exact T.len
 have lt:∀x∈t.place.toList.take p,x<d8 t.mask h m:=λx hx=>by
  obtain⟨i,hi⟩:=List.getElem?_of_mem hx;rw[List.getElem?_take]at hi;split at hi
  ·rename_i z;rw[kAw]at hi;exact b2 i x z hi
  ·cases hi
 have gt:∀x∈t.place.toList.drop p,d8 t.mask h m<x:=λx hx=>by
  obtain⟨i,hi⟩:=List.getElem?_of_mem hx;rw[List.getElem?_drop,kAw]at hi;have h1:=b3 _ x (Nat.le_add_right p i) hi;have h2:x≠d8 t.mask h m:=λz=>by
   subst z;rw[←kAw]at hi;exact hn (kAy hi)
  omega
 have rs:(t.place.toList.take p).Pairwise (· <·)∧(t.place.toList.drop p).Pairwise (· <·):=by
  have:=T.rise;unfold Ris at this;rw[←List.take_append_drop p t.place.toList,List.pairwise_append]at this;exact⟨this.1,this.2.1⟩
 refine⟨T.mask,rfl,?_,?_,?_,?_,?_⟩
 ·show(insertAt t.place p _).size=_;rw[←kAb,fc];simp only[kAi,List.length_take,kA7,List.length_drop,hl]
 ·show((insertAt t.place p (d8 t.mask h m)).toList).Pairwise (· <·);rw[fc,List.pairwise_append];refine⟨rs.1,List.pairwise_cons.mpr ⟨gt,rs.2⟩,λx hx y hy=>?_⟩;rcases kA6.mp hy with rfl|hy
  ·exact lt x hx
  ·exact Nat.lt_trans (lt x hx) (gt y hy)
 ·show∀j∈(insertAt t.place p (d8 t.mask h m)).toList,j≤t.mask;rw[fc];intro j hj;rcases za.mp hj with rfl|hj
  ·exact Nb
  ·exact T.le j hj
 ·show(insertAt t.place p _).size≤t.mask;rw[←kAb,fc];simp only[kAi,List.length_take,kA7,List.length_drop,kAb];omega
 ·show∀q∈(insertAt t.place p (d8 t.mask h m)).toList.zip _,∃m',d8 t.mask q.2 m'=q.1∧∀k,k<m'→d8 t.mask q.2 k∈(insertAt t.place p (d8 t.mask h m)).toList;rw[fc,Z3 hl];intro q hq;rcases za.mp hq with rfl|hq
  ·exact⟨m,rfl,λk hk=>za.mpr (.inr (hb k hk))⟩
  ·obtain⟨m',h1,h2⟩:=T.reach q hq;exact⟨m',h1,λk hk=>za.mpr (.inr (h2 k hk))⟩
theorem Qg(fg mv:Nat)(led:Bool):TOk (.fresh fg mv led) []:=⟨.inl rfl,rfl,rfl,List.Pairwise.nil,(λj hj=>absurd (show j∈([]:List Nat)from hj) (by simp)),kAt _,(λq hq=>absurd (show q∈([]:List (Nat×Int))from hq) (by simp))⟩
structure Own(mask:Nat)(owner:Array (Option Nat))(L:List Nat):Prop where
 size:owner.size=mask+1
 nd:L.Nodup
 le:∀j∈L,j≤mask
 at_:∀(j i:Nat),owner[j]?=some (some i)↔L[i]?=some j
theorem Own.none{mask:Nat}{owner:Array (Option Nat)}{L:List Nat}(O:Own mask owner L){j:Nat}(hj:j≤mask):(owner.getD j (some 0)).isNone=true↔j∉L:=by
 have hz:j<owner.size:=by rw[O.size];omega
 have eg:owner.getD j (some 0)=owner[j]:=by simp[Array.getD,hz]
 rw[eg];cases e:owner[j]with
 |none=>
  refine⟨λ_ z=>?_,λ_=>rfl⟩;obtain⟨i,hi⟩:=List.getElem?_of_mem z;have:=(O.at_ j i).mpr hi;rw[kAz hz,e]at this;cases this
 |some i=>
  refine⟨λz=>(by cases z),λz=>absurd (kAy ((O.at_ j i).mp ?_)) z⟩;rw[kAz hz,e]
theorem Km{mask:Nat}:∀(k:Nat)(p:Probe),k≤p.more→(it mask k p).j=p.j+k
 |0,p,_=>rfl
 |k+1,p,h=>by
  show(it mask k (Ge mask p)).j=_;have e:Ge mask p={p with j:=p.j+1,more:=p.more - 1}:=by unfold Ge;rw[if_pos (by omega)]
  rw[e,Km k _ (by show k≤p.more - 1;omega)];show p.j+1+k=p.j+(k+1);omega
theorem Kd{n:Nat}{f:Nat→Bool}:(∀k,(kA5 n).find? f=some k→k<n∧f k=true∧∀k',k'<k→f k'=false)∧((kA5 n).find? f=none→∀k,k<n→f k=false):=by
 refine⟨λk h=>?_,λh k hk=>?_⟩
 ·have h1:=kB1.mp (List.mem_of_find?_eq_some h);have h2:=List.find?_some h;refine⟨h1,h2,λk' hk'=>?_⟩;obtain⟨_,as,bs,e1,e2⟩:=List.find?_eq_some_iff_append.mp h;have la:as.length=k:=by
   have e3:(kA5 n)[as.length]?=some k:=by rw[e1];simp
   rw[List.getElem?_range (by
    have:=congrArg List.length e1;simp at this;omega)]at e3
   exact kAg.inj e3
  have:k'∈as:=by
   have e3:(kA5 n)[k']?=some k':=List.getElem?_range (by omega);rw[e1,kBc (by omega)]at e3;exact kAy e3
  simpa using e2 k' this
 ·have:=List.find?_eq_none.mp h k (kB1.mpr hk);simpa using this
theorem Ms{mask:Nat}{owner:Array (Option Nat)}{L:List Nat}(O:Own mask owner L):∀(fuel:Nat)(p:Probe),Val mask p→p.j=p.i→p.more=runEnd mask p.i - p.i→(∃k,k<fuel∧(H8 mask k p).j∉L)→
  ∃m,layClean.free mask owner fuel p.i p.perturb=some (it mask m p).j∧(it mask m p).j∉L∧∀m',m'<m→(it mask m' p).j∈L
 |0,p,_,_,_,⟨k,h,_⟩=>by omega
 |fuel+1,p,v,ej,em,⟨k,hk,hf⟩=>by
  obtain⟨r1,r2,r3⟩:=xl v.i;obtain⟨f1,f2⟩:=Kd (n:=runEnd mask p.i+1 - p.i) (f:=λk=>(owner.getD (p.i+k) (some 0)).isNone);unfold layClean.free;cases e:(kA5 (runEnd mask p.i+1 - p.i)).find? λk=>(owner.getD (p.i+k) (some 0)).isNone with
  |some q=>
   obtain⟨q1,q2,q3⟩:=f1 q e;dsimp only;have eq:∀x,x≤q→(it mask x p).j=p.i+x:=λx hx=>by rw[Km x p (by omega),ej]
   refine⟨q,by rw[eq q (kA0 _)],?_,λm' hm=>?_⟩
   ·rw[eq q (kA0 _)];exact(O.none (by omega)).mp q2
   ·rw[eq m' (by omega)];refine Classical.byContradiction λz=>?_;have:=(O.none (j:=p.i+m') (by omega)).mpr z;have:=q3 m' hm
    simp_all
  |none=>
   dsimp only;have all:=f2 e;have ne:k≠0:=λz=>by
    subst z;refine hf ?_;refine Classical.byContradiction λz=>?_;have z':p.i+0∉L:=by rw[Nat.add_zero,←ej];exact z
    have a:=all 0 (by omega);have b:=(O.none (j:=p.i+0) (by omega)).mpr z'
    simp_all
   obtain⟨k',rfl⟩:∃k',k=k'+1:=⟨k - 1,by omega⟩;obtain⟨m,m1,m2,m3⟩:=Ms O fuel (vi mask p) (wd v) rfl rfl ⟨k',by omega,hf⟩;have el:∀x,it mask (p.more+1+x) p=it mask x (vi mask p):=λx=>by rw[Et,Eu _ p rfl]
   refine⟨p.more+1+m,?_,?_,λm' hm=>?_⟩
   ·rw[el];exact m1
   ·rw[el];exact m2
   ·rcases Nat.lt_or_ge m' (p.more+1)with z|z
    ·rw[Km m' p (by omega),ej];refine Classical.byContradiction λy=>?_;have a:=all m' (by omega);have b:=(O.none (j:=p.i+m') (by omega)).mpr y
     simp_all
    ·have:=m3 (m' - (p.more+1)) (by omega);rw[←el,show p.more+1+(m' - (p.more+1))=m' by omega]at this;exact this
theorem W1{mask:Nat}{owner:Array (Option Nat)}{L:List Nat}(hm:Mk mask)(O:Own mask owner L)(hl:L.length≤mask)(h:Int):
  ∃m,layClean.free mask owner (turns mask) (bits h % (mask+1)) (bits h)=some (d8 mask h m)∧d8 mask h m∉L∧∀m',m'<m→d8 mask h m'∈L:=by
 obtain⟨j,j1,j2⟩:=K8 (mask+1) L (by omega);have v:=zi mask h;have v13:=F6 13 v;have p0:(H8 mask 13 (Qo mask h)).perturb=0:=by
  rw[Ks];exact Nat.div_eq_of_lt (kAo v.pt (by decide))
 have e13:(H8 mask 13 (Qo mask h)).j=(H8 mask 13 (Qo mask h)).i:=by
  rw[show(13:Nat)=12+1 from rfl,vj];rfl
 obtain⟨k,k1,k2⟩:=Hv hm v13.i (show j≤mask by omega);exact Ms O (turns mask) (Qo mask h) v rfl rfl ⟨13+k,by unfold turns;omega,by rw[vj,(Kr k p0 e13).2,k2];exact j2⟩
theorem Own.snoc{mask:Nat}{owner:Array (Option Nat)}{L:List Nat}(O:Own mask owner L){j:Nat}(hj:j≤mask)(hn:j∉L):Own mask (owner.setIfInBounds j (some L.length)) (L++[j]):=by
 have hz:j<owner.size:=by rw[O.size];omega
 refine⟨by rw[Array.size_setIfInBounds];exact O.size,?_,?_,λx i=>?_⟩
 ·rw[List.nodup_append];exact⟨O.nd,by simp,λa ha b hb=>by rw[kB5.mp hb];exact λz=>hn (z▸ha)⟩
 ·intro x hx;rcases kB4.mp hx with hx|hx
  ·exact O.le x hx
  ·rw[kB5.mp hx];exact hj
 ·rw[Array.getElem?_setIfInBounds]
  by_cases e:j=x
  ·subst e;rw[if_pos rfl,if_pos hz];constructor
   ·intro z;cases z;simp
   ·intro z;rcases Nat.lt_trichotomy i L.length with y|y|y
    ·rw[kBc y]at z;exact absurd (kAy z) hn
    ·rw[y]
    ·rw[kBf (by omega)]at z;have:=(kAh.mp z).1;simp at this;omega
  ·rw[if_neg e,O.at_];rcases Nat.lt_or_ge i L.length with y|y
   ·rw[kBc y]
   ·rw[kBf y,kBh y];constructor
    ·intro z;cases z
    ·intro z;have:=kB5.mp (kAy z);exact absurd this.symm e
theorem Hu{mask:Nat}(hm:Mk mask):∀(hs:List Int)(owner:Array (Option Nat))(L:List Nat)(pre:List Int),Own mask owner L→L.length=pre.length→L.length+hs.length≤mask→
  (∀q∈L.zip pre,∃m,d8 mask q.2 m=q.1∧∀m',m'<m→d8 mask q.2 m'∈L)→
  ∃owner' L',hs.foldl (init:=some (owner,L.length)) (λacc h=>do
    let (owner,k) ←acc;let j ←layClean.free mask owner (turns mask) (bits h % (mask+1)) (bits h)
    pure (owner.setIfInBounds j (some k),k+1))=some (owner',L'.length)∧Own mask owner' L'∧L'.length=(pre++hs).length∧
   ∀q∈L'.zip (pre++hs),∃m,d8 mask q.2 m=q.1∧∀m',m'<m→d8 mask q.2 m'∈L'
 |[],owner,L,pre,O,hl,_,r=>⟨owner,L,rfl,O,by rw[kB0];exact hl,by rw[kB0];exact r⟩
 |h::hs,owner,L,pre,O,hl,hr,r=>by
  rw[kA7]at hr;obtain⟨m,m1,m2,m3⟩:=W1 hm O (by omega) h;have O':=O.snoc Nb m2;have lL:(L++[d8 mask h m]).length=L.length+1:=by simp
  obtain⟨owner',L',h1,h2,h3,h4⟩:=Hu hm hs _ _ (pre++[h]) O' (by simp[hl]) (by rw[lL];omega) (λq hq=>by
   rw[List.zip_append hl,List.zip_cons_cons,List.zip_nil_left]at hq;rcases kB4.mp hq with hq|hq
   ·obtain⟨k,k1,k2⟩:=r q hq;exact⟨k,k1,λm' z=>List.mem_append_left _ (k2 m' z)⟩
   ·rw[kB5.mp hq];exact⟨m,rfl,λm' z=>List.mem_append_left _ (m3 m' z)⟩)
  refine⟨owner',L',?_,h2,by rw[h3];simp,by
   rw[List.append_assoc]at h4;exact h4⟩
  rw[List.foldl_cons];rw[lL]at h1;rw[←h1]
  congr 1
  show(layClean.free mask owner (turns mask) (bits h % (mask+1)) (bits h)).bind _=_;rw[m1];rfl
theorem zkh(mask:Nat):Own mask (Array.replicate (mask+1) none) []:=by
 refine⟨by simp,List.nodup_nil,λj hj=>(by cases hj),λj i=>?_⟩;constructor
 ·intro h;rw[Array.getElem?_replicate]at h;split at h<;>cases h
 ·intro h;cases h
theorem O7{mask:Nat}(hm:Mk mask)(hs:Array Int)(hl:hs.size≤mask):∃owner L,layClean mask hs=some owner∧Own mask owner L∧L.length=hs.size∧
  ∀q∈L.zip hs.toList,∃m,d8 mask q.2 m=q.1∧∀m',m'<m→d8 mask q.2 m'∈L:=by
 obtain⟨owner,L,h1,h2,h3,h4⟩:=Hu hm hs.toList _ [] [] (zkh mask) rfl (by simpa using hl) (λq hq=>by cases hq);refine⟨owner,L,?_,h2,by simpa using h3,by simpa using h4⟩;unfold layClean;rw[←Array.foldl_toList];exact congrArg (Option.map (·.1)) h1
noncomputable def kl(mask:Nat)(owner:Array (Option Nat)):List (Nat×Nat):=(kA5 (mask+1)).filterMap λj=>(owner.getD j none).map (j,·)
theorem km{mask:Nat}{owner:Array (Option Nat)}{L:List Nat}(O:Own mask owner L){q:Nat×Nat}:q∈kl mask owner↔L[q.2]?=some q.1:=by
 have e:∀j,j<mask+1→owner[j]?=some (owner.getD j none):=λj hj=>by
  have hz:j<owner.size:=by rw[O.size];exact hj
  rw[kAz hz];simp[Array.getD,hz]
 unfold kl;rw[List.mem_filterMap];constructor
 ·rintro ⟨j,hj,h⟩
  have hj:=kB1.mp hj;cases eo:owner.getD j none with
  |none=>rw[eo]at h;cases h
  |some i=>
   rw[eo]at h;cases h;exact(O.at_ j i).mp (by rw[e j hj,eo])
 ·intro h;have hj:q.1<mask+1:=Nat.lt_succ_of_le (O.le _ (kAy h));refine⟨q.1,kB1.mpr hj,?_⟩;have:=(O.at_ q.1 q.2).mpr h;rw[e _ hj]at this;rw[kAg.inj this];rfl
theorem M4(mask:Nat)(owner:Array (Option Nat)):(kl mask owner).Pairwise λa b=>a.1<b.1:=by
 unfold kl;rw[List.pairwise_filterMap];refine List.Pairwise.imp ?_ List.pairwise_lt_range;intro a b hab x hx y hy;cases ea:owner.getD a none with
 |none=>rw[ea]at hx;cases hx
 |some i=>
  cases eb:owner.getD b none with
  |none=>rw[eb]at hy;cases hy
  |some k=>
   rw[ea]at hx;rw[eb]at hy;cases hx;cases hy;exact hab
theorem Xj{mask:Nat}(hm:Mk mask)(hs:Array Int)(hl:hs.size≤mask)(fg mv:Nat)(led plain:Bool):∃t' order,laid mask fg mv led plain hs=some (t',order)∧t'.mask=mask∧t'.led=led∧t'.plain=plain∧
  order.toList.Perm (kA5 hs.size)∧TOk t' (order.toList.map λi=>hs.toList.getD i 0):=by
 obtain⟨owner,L,h1,O,h3,h4⟩:=O7 hm hs hl;refine⟨_,_,by unfold laid;rw[h1];rfl,rfl,rfl,rfl,?_,?_⟩
 ·show((kl mask owner).map (·.2)).Perm _;refine(List.perm_ext_iff_of_nodup ?_ List.nodup_range).mpr λi=>?_
  ·rw[List.Nodup,List.pairwise_map];refine List.Pairwise.imp_of_mem ?_ (M4 mask owner);intro a b ha hb hab z;have z1:=(km O).mp ha;have z2:=(km O).mp hb;rw[z,z2]at z1;have:=kAg.inj z1;omega
  ·rw[kAr,kB1];constructor
   ·rintro ⟨q,hq,rfl⟩
    have:=(kAh.mp ((km O).mp hq)).1;omega
   ·intro hi;have hz:i<L.length:=by omega
    exact⟨(L[i],i),(km O).mpr (kB2 hz),rfl⟩
 ·have pl:∀j,j∈(kl mask owner).map (·.1)↔j∈L:=λj=>by
   rw[kAr];constructor
   ·rintro ⟨q,hq,rfl⟩;exact kAy ((km O).mp hq)
   ·intro h;obtain⟨i,hi⟩:=List.getElem?_of_mem h;exact⟨(j,i),(km O).mpr hi,rfl⟩
  have pw:((kl mask owner).map (·.1)).Pairwise (· <·):=by rw[List.pairwise_map];exact M4 mask owner
  have pe:((kl mask owner).map (·.1)).Perm L:=(List.perm_ext_iff_of_nodup (List.Pairwise.imp (λh=>kAf h) pw) O.nd).mpr pl;have ln:(kl mask owner).length=hs.size:=by have:=pe.length_eq;rw[kA3]at this;omega
  refine⟨hm,rfl,?_,pw,λj hj=>O.le j ((pl j).mp hj),?_,?_⟩
  ·show((kl mask owner).map (·.1)).toArray.size=(((kl mask owner).map (·.2)).map λi=>hs.toList.getD i 0).length;simp
  ·show((kl mask owner).map (·.1)).toArray.size≤mask;simp;omega
  ·show∀q∈((kl mask owner).map (·.1)).zip (((kl mask owner).map (·.2)).map λi=>hs.toList.getD i 0),∃m,d8 mask q.2 m=q.1∧∀m',m'<m→d8 mask q.2 m'∈(kl mask owner).map (·.1);intro q hq;rw[List.map_map,List.zip_map',kAr]at hq;obtain⟨x,hx,rfl⟩:=hq;have hx:=(km O).mp hx;have hz:=(kAh.mp hx).1;have hh:hs.toList[x.2]?=some (hs.toList.getD x.2 0):=by
    rw[kB6,kB2 (by rw[kAb];omega)];rfl
   obtain⟨m,m1,m2⟩:=h4 (x.1,hs.toList.getD x.2 0) (by
    have:(L.zip hs.toList)[x.2]?=some (x.1,hs.toList.getD x.2 0):=by rw[List.getElem?_zip_eq_some];exact⟨hx,hh⟩
    exact kAy this)
   exact⟨m,m1,λm' z=>(pl _).mpr (m2 m' z)⟩
structure SOk(t:SetTable)(hs:List Int):Prop extends TOk t hs where
 loose:t.place.size * 5<t.mask * 3
theorem Qc(fg mv:Nat)(led:Bool):SOk (.fresh fg mv led) []:=⟨Qg fg mv led,by show 0 * 5<7 * 3;decide⟩
theorem SOk.room1{t:SetTable}{hs:List Int}(S:SOk t hs):t.place.size+1≤t.mask:=by
 have:=S.loose;rcases S.mask with e|e|e<;>rw[e]at this⊢<;>omega
theorem ym{t:SetTable}(hd:t.dummies=#[]):t.tooFull=decide (t.place.size * 5≥t.mask * 3):=by
 unfold tooFull fill;rw[hd];rfl
theorem SOk.relay{t:SetTable}{hs:Array Int}(T:TOk t hs.toList)(loose:(t.place.size - 1) * 5<t.mask * 3)(full:t.tooFull=true)(few:hs.size≤76):
  sizeAbove (grown hs.size)≤sizeLine∧∃t' order,t.relaid hs (grown hs.size)=some (t',order)∧t'.led=t.led∧t'.plain=t.plain∧order.toList.Perm (kA5 hs.size)∧SOk t' (order.toList.map λi=>hs.toList.getD i 0):=by
 rw[ym T.dum]at full;have full:=of_decide_eq_true full;have ln:=T.len;rw[kAb]at ln;have key:∀n mask',sizeAbove (grown n) - 1=mask'→n=hs.size→Mk mask'→n * 5<mask' * 3→n≤mask'→sizeAbove (grown n)≤sizeLine→sizeAbove (grown hs.size)≤sizeLine∧∃t' order,t.relaid hs (grown hs.size)=some (t',order)∧t'.led=t.led∧t'.plain=t.plain∧order.toList.Perm (kA5 hs.size)∧SOk t' (order.toList.map λi=>hs.toList.getD i 0):=by
  intro n mask' e en mk lo le sl;subst en;refine⟨sl,?_⟩;obtain⟨t',order,h1,h2,h3,h4,h5,h6⟩:=Xj mk hs le t.finger (t.movedTo mask') t.led t.plain;refine⟨t',order,?_,h3,h4,h5,h6,?_⟩
  ·unfold relaid;rw[e];exact h1
  ·rw[h6.len,h2];rw[kA3,h5.length_eq,kB9];exact lo
 rcases T.mask with e|e|e
 ·rw[e]at full loose;exact key 5 31 (by decide) (by omega) (.inr (.inl rfl)) (by decide) (by decide) (by decide)
 ·rw[e]at full loose;exact key 19 127 (by decide) (by omega) (.inr (.inr rfl)) (by decide) (by decide) (by decide)
 ·rw[e]at full loose;omega
end ST
end
section
namespace L2
open PySem PySem.Spec PyProof.Rows
noncomputable def plK:fo→Bool
 |.inl _=>true
 |.inr _=>false
noncomputable def plN:NK→Bool
 |.inl k=>plK k
 |.inr ks=>ks.all plK
noncomputable def plT(k:az):Bool:=k.all plN
section
variable{prog:Program}{w:World}{A:Around}{E:Value→Shared→Prop}{s:Shared}
theorem Mv{k:fo}{v:Value}(n:Nat)(h:(bq prog w).is k v=true):hashByValue n v=pure (plK k):=by
 rcases cq h with ⟨i,t,rfl,rfl⟩|⟨x,t,rfl,rfl⟩
 ·rw[hashByValue_scannable n rfl];rfl
 ·rw[hashByValue_scannable n rfl];rfl
theorem W2{ks:List fo}{a:Addr}{n:Nat}{Q:Bool→Shared→Prop}(hk:IsTupleKey (bq prog w) s.heap ks a)(h:Q (ks.all plK) s):wpAny (model prog w) A (hashByValue (n+1) (.ref a)) Q E s:=by
 have hT:=hk.typeIs;obtain⟨o,items,n',ho,_,hd,hi⟩:=hk;unfold hashByValue;refine wpAny_bind (wpAny_specialOf hT F.slot_tuple_hash.lookup ?_);show wpAny _ _ (seqItems? (.ref a)>>=_) _ _ s;refine wpAny_bind (wpAny_seqItems ho hd ?_);refine wpAny_bind ?_;show wpAny _ _ (forIn items _ _) _ _ s;rw[←Array.forIn_toList];refine wpAny_forIn_list _ (λbg r s'=>r.1=none∧s'=s∧∃left,ItemsAre (bq prog w) left bg∧left.all plK=ks.all plK) _ ?_ ?_ _ _ ⟨rfl,rfl,ks,hi,rfl⟩
 ·rintro v bg r s' ⟨hr,rfl,left,hl,ea⟩
  cases hl with
  |@cons k v' ks' vs' hk ht=>
   rw[Mv n hk];refine wpAny_bind (wpAny_pure ?_);rw[kAm]at ea;cases e:plK k with
   |true=>
    simp only[kAv,kA9,if_false];rw[e,Bool.true_and]at ea;exact wpAny_pure ⟨rfl,rfl,ks',ht,ea⟩
   |false=>
    simp only[Bool.not_false,if_true];rw[e,Bool.false_and]at ea;refine wpAny_pure (wpAny_pure ?_);rw[←ea]at h;exact h
 ·rintro ⟨r1,r2⟩ s' ⟨hr,rfl,left,hl,ea⟩
  simp only at hr;subst hr;cases hl;refine wpAny_pure ?_;rw[←ea]at h;exact h
theorem zbz{ks:az}{a:Addr}{Q:Bool→Shared→Prop}(hk:cx prog w s.heap ks a)(h:Q (plT ks) s):wpAny (model prog w) A (hashByValue 8 (.ref a)) Q E s:=by
 obtain⟨o,items,n',ho,hc,hd,hi⟩:=hk;have hT:s.TypeIs (.ref a) "tuple":=⟨o,ho,hc⟩;unfold hashByValue;refine wpAny_bind (wpAny_specialOf hT F.slot_tuple_hash.lookup ?_);show wpAny _ _ (seqItems? (.ref a)>>=_) _ _ s;refine wpAny_bind (wpAny_seqItems ho hd ?_);refine wpAny_bind ?_;show wpAny _ _ (forIn items _ _) _ _ s;rw[←Array.forIn_toList];refine wpAny_forIn_list _ (λbg r s'=>r.1=none∧s'=s∧∃left,NItems prog w s.heap left bg∧left.all plN=plT ks) _ ?_ ?_ _ _ ⟨rfl,rfl,ks,hi,rfl⟩
 ·rintro v bg r s' ⟨hr,rfl,left,hl,ea⟩
  cases left with
  |nil=>cases (show v::bg=[]from hl)
  |cons k ks'=>
   obtain⟨v',t,e,h1,hl'⟩:=hl;cases e;refine wpAny_bind ?_;have go:wpAny (model prog w) A (hashByValue 7 v) (λb s''=>b=plN k∧s''=s') E s':=by
    cases k with
    |inl k=>rw[Mv _ h1];exact wpAny_pure ⟨rfl,rfl⟩
    |inr ys=>obtain⟨b,rfl,q⟩:=h1;exact W2 q ⟨rfl,rfl⟩
   refine wpAny_mono go (λb s'' ⟨e1,e2⟩=>?_) λ_ _ q=>q;subst e2;rw[kAm,←e1]at ea;cases b with
   |true=>
    simp only[kAv,kA9,if_false];rw[Bool.true_and]at ea;exact wpAny_pure ⟨rfl,rfl,ks',hl',ea⟩
   |false=>
    simp only[Bool.not_false,if_true];rw[Bool.false_and]at ea;refine wpAny_pure (wpAny_pure ?_);rw[←ea]at h;exact h
 ·rintro ⟨r1,r2⟩ s' ⟨hr,rfl,left,hl,ea⟩
  simp only at hr;subst hr;cases left with
  |cons k ks'=>obtain⟨v',t,e,_⟩:=hl;cases e
  |nil=>
   refine wpAny_pure ?_;rw[←ea]at h;exact h
theorem M8{k:fo}{v:Value}(n:Nat)(h:(bq prog w).is k v=true):ofAClassStatement n v=pure false:=by
 rcases cq h with ⟨i,t,rfl,rfl⟩|⟨x,t,rfl,rfl⟩<;>(cases n<;>rfl)
theorem Xu{ks:List fo}{a:Addr}{n:Nat}{Q:Bool→Shared→Prop}(hk:IsTupleKey (bq prog w) s.heap ks a)(h:Q false s):wpAny (model prog w) A (ofAClassStatement (n+1) (.ref a)) Q E s:=by
 have hT:=hk.typeIs;obtain⟨o,items,n',ho,_,hd,hi⟩:=hk;unfold ofAClassStatement;refine wpAny_bind (wpAny_typeOf hT ?_);show wpAny _ _ ((if("tuple"=="tuple")=true then pure true else isSubtype (.type "tuple") (.type "tuple"))>>=_) _ _ s;rw[if_pos (beq_self_eq_true _)];refine wpAny_bind (wpAny_pure ?_);simp only[kAv,kA9,if_false];refine wpAny_bind (wpAny_seqItems ho hd ?_);dsimp only;refine wpAny_bind ?_;show wpAny _ _ (forIn items _ _) _ _ s;rw[←Array.forIn_toList];refine wpAny_forIn_list _ (λbg r s'=>r.1=none∧s'=s∧∃left,ItemsAre (bq prog w) left bg) _ ?_ ?_ _ _ ⟨rfl,rfl,ks,hi⟩
 ·rintro v bg r s' ⟨hr,rfl,left,hl⟩
  cases hl with
  |@cons k v' ks' vs' hk ht=>
   rw[M8 n hk];refine wpAny_bind (wpAny_pure ?_);simp only[kA9,if_false];exact wpAny_pure ⟨rfl,rfl,ks',ht⟩
 ·rintro ⟨r1,r2⟩ s' ⟨hr,rfl,left,hl⟩
  simp only at hr;subst hr;exact wpAny_pure h
theorem Th{ks:az}{a:Addr}{Q:Bool→Shared→Prop}(hk:cx prog w s.heap ks a)(h:Q false s):wpAny (model prog w) A (ofAClassStatement 8 (.ref a)) Q E s:=by
 obtain⟨o,items,n',ho,hc,hd,hi⟩:=hk;have hT:s.TypeIs (.ref a) "tuple":=⟨o,ho,hc⟩;unfold ofAClassStatement;refine wpAny_bind (wpAny_typeOf hT ?_);show wpAny _ _ ((if("tuple"=="tuple")=true then pure true else isSubtype (.type "tuple") (.type "tuple"))>>=_) _ _ s;rw[if_pos (beq_self_eq_true _)];refine wpAny_bind (wpAny_pure ?_);simp only[kAv,kA9,if_false];refine wpAny_bind (wpAny_seqItems ho hd ?_);dsimp only;refine wpAny_bind ?_;show wpAny _ _ (forIn items _ _) _ _ s;rw[←Array.forIn_toList];refine wpAny_forIn_list _ (λbg r s'=>r.1=none∧s'=s∧∃left,NItems prog w s.heap left bg) _ ?_ ?_ _ _ ⟨rfl,rfl,ks,hi⟩
 ·rintro v bg r s' ⟨hr,rfl,left,hl⟩
  cases left with
  |nil=>cases (show v::bg=[]from hl)
  |cons k ks'=>
   obtain⟨v',t,e,h1,hl'⟩:=hl;cases e;refine wpAny_bind ?_;have go:wpAny (model prog w) A (ofAClassStatement 7 v) (λb s''=>b=false∧s''=s') E s':=by
    cases k with
    |inl k=>rw[M8 _ h1];exact wpAny_pure ⟨rfl,rfl⟩
    |inr ys=>obtain⟨b,rfl,q⟩:=h1;exact Xu q ⟨rfl,rfl⟩
   refine wpAny_mono go (λb s'' ⟨e1,e2⟩=>?_) λ_ _ q=>q;subst e1 e2;simp only[kA9,if_false];exact wpAny_pure ⟨rfl,rfl,ks',hl'⟩
 ·rintro ⟨r1,r2⟩ s' ⟨hr,rfl,left,hl⟩
  simp only at hr;subst hr;exact wpAny_pure h
theorem ze3{k:az}{b:Addr}{Q:Bool→Shared→Prop}(hk:cx prog w s.heap k b){ys:List Value}(hy:∀y∈ys,∃c k',y=.ref c∧cx prog w s.heap k' c)(h:Q false s):wpAny (model prog w) A (searchCouldBeSeen (.ref b) ys) Q E s:=by
 unfold searchCouldBeSeen;refine wpAny_bind ?_;refine wpAny_forIn_list _ (λbg r s'=>r.1=none∧s'=s∧∀y∈bg,∃c k',y=.ref c∧cx prog w s.heap k' c) _ ?_ ?_ _ _ ⟨rfl,rfl,hy⟩
 ·rintro v bg r s' ⟨hr,rfl,hl⟩
  obtain⟨c,k',rfl,hc⟩:=hl v kAk;have tl:∀y∈bg,∃c k',y=.ref c∧cx prog w s'.heap k' c:=λy hy=>hl y (kAl _ hy);dsimp only;show wpAny _ _ (if((b==c)||(false && false))=true then _ else _) _ _ _;split
  ·exact wpAny_pure ⟨rfl,rfl,tl⟩
  ·refine wpAny_bind (Bh hk ?_);simp only[kAv,kA9,if_false];refine wpAny_bind (Bh hc ?_);simp only[kAv,kA9,if_false];refine wpAny_bind (Th hk ?_);simp only[kA9,if_false];refine wpAny_bind (Th hc ?_);simp only[kA9,if_false];exact wpAny_pure ⟨rfl,rfl,tl⟩
 ·rintro ⟨r1,r2⟩ s' ⟨hr,rfl,hl⟩
  simp only at hr;subst hr;exact wpAny_pure h
def ElK(prog:Program)(w:World)(h:Heap)(e:Int×Value)(k:az):Prop:=e.1=(ar prog w).hash k∧∃b,e.2=.ref b∧cx prog w h k b
noncomputable def ElsK(prog:Program)(w:World)(h:Heap):List (Int×Value)→List az→Prop
 |[],ks=>ks=[]
 |e::es,ks=>∃k r,ks=k::r∧ElK prog w h e k∧ElsK prog w h es r
theorem ElsK.len{h:Heap}:∀{es:List (Int×Value)}{ks:List az},ElsK prog w h es ks→es.length=ks.length
 |[],ks,e=>by rw[show ks=[]from e];rfl
 |_::_,_,⟨k,r,e,_,t⟩=>by rw[e,kA7,kA7,t.len]
theorem ElsK.get{h:Heap}:∀{es:List (Int×Value)}{ks:List az}{i:Nat}{e:Int×Value},ElsK prog w h es ks→es[i]?=some e→∃k,ks[i]?=some k∧ElK prog w h e k
 |[],_,_,_,_,q=>by simp at q
 |_::_,_,0,e,⟨k,r,e1,h1,t⟩,q=>by subst e1;simp at q;subst q;exact⟨k,rfl,h1⟩
 |_::_,_,i+1,e,⟨k,r,e1,h1,t⟩,q=>by
  subst e1;obtain⟨k',q1,q2⟩:=ElsK.get (i:=i) t (by simpa using q);exact⟨k',by simpa using q1,q2⟩
structure SetK(prog:Program)(w:World)(h:Heap)(a:Addr)(ks:List az)(es:Array (Int×Value))(ep:Nat)(t:SetTable):Prop where
 at_:h.get? a=some {cls:=.type "set",dict:=none,data:=.set es ep t}
 tab:ST.SOk t (es.toList.map (·.1))
 els:ElsK prog w h es.toList ks
 nd:ks.Nodup
theorem SetK.fits{h:Heap}{a:Addr}{ks:List az}{es:Array (Int×Value)}{ep:Nat}{t:SetTable}(S:SetK prog w h a ks es ep t):t.fits es.size=true:=by
 obtain⟨h1,h2⟩:=S.tab.toTOk.fits;unfold SetTable.fits;rw[kA1];exact⟨by rw[h1];simp,decide_eq_true h2⟩
theorem T9{es:Array (Int×Value)}{f:Nat→Int}{t:SetTable}{h:Int}{p:SetTable.Probe}(hf:∀i,f i=(es[i]?.map (·.1)).getD 0):t.probe f h p=t.probe (λi=>(es[i]?.map (·.1)).getD 0) h p:=by
 rw[show f=λi=>(es[i]?.map (·.1)).getD 0 from funext hf]
theorem Tg{t:SetTable}(h:ST.Mk t.mask):t.gaveWay=false:=by
 unfold SetTable.gaveWay;rcases h with e|e|e<;>rw[e]<;>rfl
end
section
variable{prog:Program}{w:World}{A:Around}{E:Value→Shared→Prop}{s:Shared}{a b:Addr}{ks:List az}{es:Array (Int×Value)}{ep:Nat}{t:SetTable}{k:az}
def Jw(t:SetTable)(ks:List az)(k:az)(h:Int)(m:Nat):Prop:=∀m',m'<m→∃(i:Nat) (k':az),t.place[i]?=some (ST.d8 t.mask h m')∧ks[i]?=some k'∧k'≠k
theorem SetK.at_slot(S:SetK prog w s.heap a ks es ep t){i j:Nat}(e:t.place[i]?=some j):∃v k',es[i]?=some v∧ks[i]?=some k'∧ElK prog w s.heap v k':=by
 have hi:i<es.size:=by
  have:=(kBe.mp e).1;have l:=S.tab.len;simp at l;omega
 have e1:es.toList[i]?=some es[i]:=by rw[kAw];exact kAz hi
 obtain⟨k',q1,q2⟩:=S.els.get e1;exact⟨es[i],k',by rw[←kAw];exact e1,q1,q2⟩
theorem P9(hr:(ar prog w).room A)(S:SetK prog w s.heap a ks es ep t)(hk:cx prog w s.heap k b){Q:SetFound→Shared→Prop}(h1:k∈ks→Q (.there none) s)
  (h2:∀m,ST.d8 t.mask ((ar prog w).hash k) m∉t.place.toList→Jw t ks k ((ar prog w).hash k) m→Q (.free (ST.d8 t.mask ((ar prog w).hash k) m) false) s)
  (M:Nat) (hM:ST.d8 t.mask ((ar prog w).hash k) M∉t.place.toList):∀(d fuel m:Nat)(stand:Option SetTable.Probe),M - m<d→m≤M→d≤fuel→stand.getD (t.probeStart ((ar prog w).hash k))=ST.it t.mask m (ST.Qo t.mask ((ar prog w).hash k))→
   Jw t ks k ((ar prog w).hash k) m→wpAny (model prog w) A (setSearchFrom a (.ref b) ((ar prog w).hash k) true fuel stand) Q E s:=by
 generalize hh:(ar prog w).hash k=hsh at *;intro d;induction d with
 |zero=>
  intro fuel m stand e1;omega
 |succ d ih=>
  intro fuel m stand e1 e2 e3 e4 ps;obtain⟨fuel,rfl⟩:∃f,fuel=f+1:=⟨fuel - 1,by omega⟩;unfold setSearchFrom;refine wpAny_bind (wpAny_setState_of S.at_ rfl S.fits ?_);dsimp only;rw[Tg S.tab.mask];simp only[kA9,if_false];rw[e4,T9 (es:=es)]
  ·obtain⟨m1,q1,q2,q3⟩:=S.tab.toTOk.probe (λi=>(es[i]?.map (·.1)).getD 0) hsh m;have mem:∀{i j:Nat},t.place[i]?=some j→j∈t.place.toList:=λe=>by
    rw[←kAw]at e;exact kAy e
   have le:m1≤M:=by
    rcases Nat.lt_or_ge M m1 with z|z
    ·obtain⟨i,z1,_⟩:=q2 M e2 z;exact absurd (mem z1) hM
    ·exact z
   have ps1:Jw t ks k hsh m1:=λm' hm=>by
    rcases Nat.lt_or_ge m' m with z|z
    ·exact ps m' z
    ·obtain⟨i,z1,z2⟩:=q2 m' z hm;obtain⟨v,k',y1,y2,y3,y4⟩:=S.at_slot z1;refine⟨i,k',z1,y2,λz3=>z2 ?_⟩;subst z3;show(es[i]?.map (·.1)).getD 0=hsh;rw[y1];show v.1=hsh;rw[y3,hh]
   rcases q3 with ⟨z1,z2⟩|⟨i,z1,z2,z3⟩
   ·rw[z2];exact wpAny_pure (h2 m1 z1 ps1)
   ·rw[z3];obtain⟨v,k',y1,y2,y3,c,y4,y5⟩:=S.at_slot z1;obtain⟨vh,vv⟩:=v;dsimp only at y3 y4;subst y4;have lt:m1<M:=by
     rcases Nat.lt_or_ge m1 M with z|z
     ·exact z
     ·have:m1=M:=by omega
      subst this;exact absurd (mem z1) hM
    have sl:=ST.Dv S.tab.rise z1;have sm:t.sameMemory t.moves t.mask=some true:=by unfold SetTable.sameMemory;rw[if_pos (beq_self_eq_true _)]
    have ts:∀y∈(es.filter λx=>x.fst==hsh).toList.map (λx=>x.snd),∃c k',y=.ref c∧cx prog w s.heap k' c:=λy hy=>by
     obtain⟨x,hx,rfl⟩:=kAr.mp hy;have hx:x∈es:=(show x∈es∧x.fst=hsh by simpa using hx).1;obtain⟨i,hi⟩:=List.getElem?_of_mem (show x∈es.toList by simpa using hx);obtain⟨k'',_,_,c',e5,e6⟩:=S.els.get hi;exact⟨c',k'',e5,e6⟩
    dsimp only;cases hl:t.led with
    |true=>
     simp only[kAv,kA9,if_false];rw[y1];dsimp only;refine wpAny_bind (wpAny_holding ((ar prog w).eqBool hr y5 hk ?_));refine wpAny_bind (wpAny_setState_of S.at_ rfl S.fits ?_);dsimp only
     by_cases ek:k'=k
     ·subst ek;simp only[decide_true,Bool.and_self,if_true];exact wpAny_pure (h1 (kAy y2))
     ·simp only[ek,decide_false,Bool.and_false,kA9,if_false];rw[sm];simp only[if_true];rw[sl];dsimp only;rw[y1];dsimp only;refine wpAny_bind (wpAny_isSame_ref_self ?_);simp only[if_true];refine wpAny_bind (wpAny_pure ?_);dsimp only;refine ih fuel (m1+1) _ (by omega) (by omega) (by omega) rfl λm' hm=>?_;rcases Nat.lt_or_ge m' m1 with z|z
      ·exact ps1 m' z
      ·have:m'=m1:=by omega
       subst this;exact⟨i,k',z1,y2,ek⟩
    |false=>
     simp only[Bool.not_false,if_true];refine wpAny_bind (ze3 hk ts ?_);simp only[kA9,if_false];rw[y1];dsimp only;refine wpAny_bind (wpAny_holding ((ar prog w).eqBool hr y5 hk ?_));refine wpAny_bind (wpAny_setState_of S.at_ rfl S.fits ?_);dsimp only
     by_cases ek:k'=k
     ·subst ek;simp only[decide_true,Bool.and_self,if_true];exact wpAny_pure (h1 (kAy y2))
     ·simp only[ek,decide_false,Bool.and_false,kA9,if_false];rw[sm];simp only[if_true];rw[sl];dsimp only;rw[y1];dsimp only;refine wpAny_bind (wpAny_isSame_ref_self ?_);simp only[if_true];refine wpAny_bind (wpAny_pure ?_);dsimp only;refine ih fuel (m1+1) _ (by omega) (by omega) (by omega) rfl λm' hm=>?_;rcases Nat.lt_or_ge m' m1 with z|z
      ·exact ps1 m' z
      ·have:m'=m1:=by omega
       subst this;exact⟨i,k',z1,y2,ek⟩
  ·intro i;rfl
theorem Kh(S:SetK prog w s.heap a ks es ep t){i:Nat}{k:az}(h:ks[i]?=some k):∃j,t.place[i]?=some j∧(j,(ar prog w).hash k)∈t.place.toList.zip (es.toList.map (·.1)):=by
 have hi:=(kAh.mp h).1;have l1:=S.els.len;have l2:=S.tab.len;rw[kA3]at l2;have hp:i<t.place.size:=by omega
 obtain⟨v,k',y1,y2,y3,_⟩:=S.at_slot (i:=i) (kAz hp);rw[h]at y2;cases y2;refine⟨t.place[i],kAz hp,?_⟩;have:(t.place.toList.zip (es.toList.map (·.1)))[i]?=some (t.place[i],(ar prog w).hash k):=by
  rw[List.getElem?_zip_eq_some];refine⟨by rw[kAw];exact kAz hp,?_⟩;rw[kAs,kAw,y1];show some v.1=_;rw[y3]
 exact kAy this
theorem U6(hr:(ar prog w).room A)(S:SetK prog w s.heap a ks es ep t)(hk:cx prog w s.heap k b){Q:SetFound→Shared→Prop}(h1:k∈ks→Q (.there none) s)
  (h2:k∉ks→∀m,ST.d8 t.mask ((ar prog w).hash k) m∉t.place.toList→(∀m',m'<m→ST.d8 t.mask ((ar prog w).hash k) m'∈t.place.toList)→Q (.free (ST.d8 t.mask ((ar prog w).hash k) m) false) s):
  wpAny (model prog w) A (setSearch a (.ref b) ((ar prog w).hash k) true) Q E s:=by
 obtain⟨M,M1,M2⟩:=S.tab.toTOk.first ((ar prog w).hash k)
 have:=ST.V0 S.tab.mask;refine P9 hr S hk h1 (λm z1 z2=>?_) M M2 100000 100000 0 none (by omega) (by omega) (by omega) rfl (λm' hm=>by omega);have mem:∀{i j:Nat},t.place[i]?=some j→j∈t.place.toList:=λe=>by
  rw[←kAw]at e;exact kAy e
 refine h2 (λz=>?_) m z1 λm' hm=>?_
 ·obtain⟨i0,e0⟩:=List.getElem?_of_mem z;obtain⟨j,j1,j2⟩:=Kh S e0;obtain⟨m0,r1,r2⟩:=S.tab.reach _ j2;dsimp only at r1 r2;have lt:m0<m:=by
   rcases Nat.lt_trichotomy m0 m with y|y|y
   ·exact y
   ·subst y;rw[r1]at z1;exact absurd (mem j1) z1
   ·exact absurd (r2 m y) z1
  obtain⟨i,k',y1,y2,y3⟩:=z2 m0 lt;rw[r1]at y1;have:=S.tab.rise.inj y1 j1;subst this;rw[e0]at y2;cases y2;exact y3 rfl
 ·obtain⟨i,k',y1,_⟩:=z2 m' hm;exact mem y1
end
section
variable{prog:Program}{w:World}{A:Around}{E:Value→Shared→Prop}{s:Shared}{a b:Addr}{ks:List az}{es:Array (Int×Value)}{ep:Nat}{t:SetTable}{k:az}
theorem Qh{h h':Heap}{d:Addr}{o:Obj}{es ep tt}(ho:h.get? d=some o)(hd:o.data=.set es ep tt)(hs:Heap.SameBut d h h'){ks:List fo}{b:Addr}(q:IsTupleKey (bq prog w) h ks b):IsTupleKey (bq prog w) h' ks b:=by
 obtain⟨o',items,n,ho',hc,hd',hi⟩:=q;refine⟨o',items,n,(hs.2 _ ?_).trans ho',hc,hd',hi⟩
 rintro rfl
 obtain rfl:=kAg.inj (ho'.symm.trans ho);rw[hd]at hd';exact nomatch hd'
theorem Td{h h':Heap}{d:Addr}{o:Obj}{es ep tt}(ho:h.get? d=some o)(hd:o.data=.set es ep tt)(hs:Heap.SameBut d h h'):∀{k:NK}{v:Value},yu prog w h k v→yu prog w h' k v
 |.inl k,v,e=>e
 |.inr ks,v,⟨b,e,q⟩=>⟨b,e,Qh ho hd hs q⟩
theorem Do{h h':Heap}{d:Addr}{o:Obj}{es ep tt}(ho:h.get? d=some o)(hd:o.data=.set es ep tt)(hs:Heap.SameBut d h h'):∀{ks:az}{vs:List Value},NItems prog w h ks vs→NItems prog w h' ks vs
 |[],_,e=>e
 |_::_,_,⟨v,t,e,h1,h2⟩=>⟨v,t,e,Td ho hd hs h1,Do ho hd hs h2⟩
theorem O4{h h':Heap}{d:Addr}{o:Obj}{es ep tt}(ho:h.get? d=some o)(hd:o.data=.set es ep tt)(hs:Heap.SameBut d h h'){ks:az}{b:Addr}(q:cx prog w h ks b):cx prog w h' ks b:=by
 obtain⟨o',items,n,ho',hc,hd',hi⟩:=q;refine⟨o',items,n,(hs.2 _ ?_).trans ho',hc,hd',Do ho hd hs hi⟩
 rintro rfl
 obtain rfl:=kAg.inj (ho'.symm.trans ho);rw[hd]at hd';exact nomatch hd'
theorem wu{h h':Heap}{d:Addr}{o:Obj}{es ep tt}(ho:h.get? d=some o)(hd:o.data=.set es ep tt)(hs:Heap.SameBut d h h'):∀{l:List (Int×Value)}{ks:List az},ElsK prog w h l ks→ElsK prog w h' l ks
 |[],_,e=>e
 |_::_,_,⟨k,r,e,⟨e1,b,e2,e3⟩,h2⟩=>⟨k,r,e,⟨e1,b,e2,O4 ho hd hs e3⟩,wu ho hd hs h2⟩
theorem ElsK.app{h:Heap}:∀{l l':List (Int×Value)}{ks ks':List az},ElsK prog w h l ks→ElsK prog w h l' ks'→ElsK prog w h (l++l') (ks++ks')
 |[],_,ks,_,e,q=>by rw[show ks=[]from e];exact q
 |_::_,_,_,_,⟨k,r,e,h1,h2⟩,q=>by subst e;exact⟨k,r++_,rfl,h1,h2.app q⟩
theorem ElsK.take{h:Heap}:∀{l:List (Int×Value)}{ks:List az}(n:Nat),ElsK prog w h l ks→ElsK prog w h (l.take n) (ks.take n)
 |_,_,0,_=>by simp[ElsK]
 |[],ks,n+1,e=>by rw[show ks=[]from e];simp[ElsK]
 |_::_,_,n+1,⟨k,r,e,h1,h2⟩=>by subst e;exact⟨k,r.take n,rfl,h1,h2.take n⟩
theorem ElsK.drop{h:Heap}:∀{l:List (Int×Value)}{ks:List az}(n:Nat),ElsK prog w h l ks→ElsK prog w h (l.drop n) (ks.drop n)
 |_,_,0,e=>e
 |[],ks,n+1,e=>by rw[show ks=[]from e];simp[ElsK]
 |_::_,_,n+1,⟨k,r,e,h1,h2⟩=>by subst e;exact h2.drop n
theorem ElsK.pick{h:Heap}{l:List (Int×Value)}{ks:List az}(q:ElsK prog w h l ks):∀(order:List Nat),(∀i∈order,i<l.length)→ElsK prog w h (order.map λi=>l.getD i (0,.none)) (order.map λi=>ks.getD i [])
 |[],_=>rfl
 |i::r,hb=>by
  have hi:=hb i kAk;have e:l[i]?=some l[i]:=kB2 hi;obtain⟨k,q1,q2⟩:=q.get e;refine⟨ks.getD i [],r.map _,rfl,?_,q.pick r λj hj=>hb j (kAl _ hj)⟩;show ElK prog w h (l.getD i (0,Value.none)) (ks.getD i []);rw[kB6,kB6,e,q1];exact q2
theorem T6{α:Type}{l:List α}{d:α}:(kA5 l.length).map (λi=>l.getD i d)=l:=by
 apply List.ext_getElem?;intro i;rw[kAs];rcases Nat.lt_or_ge i l.length with h|h
 ·rw[List.getElem?_range h,kB2 h];simp[kB6,h]
 ·rw[kBh (by simpa using h),kBh h];rfl
theorem ui{α:Type}{l:List α}{d:α}{order:List Nat}(h:order.Perm (kA5 l.length)):(order.map λi=>l.getD i d).Perm l:=by
 have:=h.map λi=>l.getD i d;rw[T6]at this;exact this
theorem Rz{α:Type}{l:List α}{d:α}:∀{order:List Nat},(∀i∈order,i<l.length)→order.filterMap (λi=>l[i]?)=order.map λi=>l.getD i d
 |[],_=>rfl
 |i::r,h=>by
  have hi:=h i kAk;rw[List.filterMap_cons,kB2 hi,kA4,Rz (d:=d) λj hj=>h j (kAl _ hj)];simp[kB6,hi]
theorem Y5{h0:Heap}(S:h0.get? a=some {cls:=.type "set",dict:=none,data:=.set es ep t})(hs0:s.heap=h0)(T:ST.TOk t (es.toList.map (·.1)))(el:ElsK prog w h0 es.toList ks)(nd:ks.Nodup)(loose:(t.place.size - 1) * 5<t.mask * 3)(full:t.tooFull=true)(few:es.size≤76)
  {Q:Unit→Shared→Prop} (h:∀h' ks' es' ep' t',Heap.SameBut a s.heap h'→SetK prog w h' a ks' es' ep' t'→ks'.Perm ks→(∀hh,ElsK prog w hh es.toList ks→ElsK prog w hh es'.toList ks')→t'.plain=t.plain→t'.led=t.led→Q () {s with heap:=h'}):wpAny (model prog w) A (setRelay a (SetTable.grown es.size)) Q E s:=by
 subst hs0;have fits:t.fits es.size=true:=by
  obtain⟨h1,h2⟩:=T.fits;unfold SetTable.fits;rw[kA1];exact⟨by rw[h1];simp,decide_eq_true h2⟩
 have eh:(es.map (·.1)).toList=es.toList.map (·.1):=by simp
 have sh:(es.map (·.1)).size=es.size:=by simp
 obtain⟨r1,t',order,r2,r3,r4,r5,r6⟩:=ST.SOk.relay (t:=t) (hs:=es.map (·.1)) (by rw[eh];exact T) loose full (by rw[sh];exact few);rw[sh]at r1 r2 r5;have ob:∀i∈order.toList,i<es.toList.length:=λi hi=>by
  have:=kB1.mp (r5.mem_iff.mp hi);rw[kAb];exact this
 have e2:(order.filterMap (es[·]?)).toList=order.toList.map λi=>es.toList.getD i (0,.none):=by
  rw[Array.toList_filterMap];have:(λ(i:Nat)=>es[i]?)=λ(i:Nat)=>es.toList[i]?:=by funext i;rw[kAw]
  rw[this];exact Rz ob
 have sz:(order.filterMap (es[·]?)).size=es.size:=by
  rw[←kAb,e2,kA3,r5.length_eq,kB9]
 unfold setRelay;refine wpAny_bind (wpAny_setState_of S rfl fits ?_);dsimp only;rw[if_neg (Nat.not_lt.mpr r1),r2];refine wpAny_bind (wpAny_of_eq (a:=(order.filterMap (es[·]?),t')) ?_ ?_)
 ·show(if((order.filterMap (es[·]?)).size !=es.size)=true then _ else _)=_;rw[if_neg (by rw[sz];simp)]
 ·dsimp only;have hz:(order.filterMap (es[·]?)).size≤sizeLine:=by rw[sz,sizeLine_eq];omega
  refine wpAny_storeSet_of S rfl ?_ hz;have sb:=Heap.SameBut.update s.heap a (Obj.putSet (order.filterMap (es[·]?)) t');have g1:(s.heap.update a (Obj.putSet (order.filterMap (es[·]?)) t')).get? a=some {cls:=.type "set",dict:=none,data:=.set (order.filterMap (es[·]?)) (ep+1) t'}:=Heap.get?_update_self (Obj.putSet (order.filterMap (es[·]?)) t') S rfl;have ll:=el.len;refine h _ (order.toList.map λi=>ks.getD i []) _ _ _ sb ⟨g1,?_,?_,?_⟩ ?_ (λhh z=>by rw[e2];exact z.pick _ ob) r4 r3
  ·have:(order.filterMap (es[·]?)).toList.map (·.1)=order.toList.map λi=>(es.map (·.1)).toList.getD i 0:=by
    rw[e2,List.map_map];refine List.map_congr_left λi hi=>?_;have:=ob i hi;rw[eh];show(es.toList.getD i (0,.none)).1=(es.toList.map (·.1)).getD i 0;rw[kB6,kB6,kAs,kB2 this];rfl
   rw[this];exact r6
  ·rw[e2];exact wu S rfl sb (el.pick _ ob)
  ·have p:=ui (l:=ks) (d:=[]) (order:=order.toList) (by rw[←ll,kAb];exact r5);exact p.nodup_iff.mpr nd
  ·exact ui (by rw[←ll,kAb];exact r5)
theorem vp{α:Type}{l:List α}{p:Nat}{x:α}:(l.take p++x::l.drop p).Perm (x::l):=by
 have:=List.perm_middle (a:=x) (l₁:=l.take p) (l₂:=l.drop p);rw[List.take_append_drop]at this;exact this
theorem Z7(hr:(ar prog w).room A)(S:SetK prog w s.heap a ks es ep t)(few:k∉ks→ks.length<76)(hk:cx prog w s.heap k b){Q:Bool→Shared→Prop}
  (h1:k∈ks→Q false s)
  (h2:k∉ks→∀h' ks' es' ep' t',Heap.SameBut a s.heap h'→SetK prog w h' a ks' es' ep' t'→ks'.Perm (k::ks)→(∀hh,ElsK prog w hh es.toList ks→cx prog w hh k b→ElsK prog w hh es'.toList ks')→t'.plain=(t.plain && plT k)→t'.led=t.led→Q true {s with heap:=h'}):
  wpAny (model prog w) A (setAddHashed a (.ref b) ((ar prog w).hash k)) Q E s:=by
 unfold setAddHashed setAddHashedIn;refine wpAny_holding (wpAny_bind (wpAny_setState_of S.at_ rfl S.fits ?_));dsimp only;have bs:byScan (.ref b) es=false:=rfl;rw[bs];simp only[kA9,if_false];refine wpAny_bind (U6 hr S hk (λz=>?_) λz m m1 m2=>?_)
 ·exact wpAny_pure (h1 z)
 dsimp only;refine wpAny_bind (wpAny_setState_of S.at_ rfl S.fits ?_);dsimp only;have few:=few z;obtain⟨p,p1,p2,p3,p4⟩:=S.tab.toTOk.put m1 m2 S.tab.room1;rw[p2];generalize (t.put (ST.d8 t.mask ((ar prog w).hash k) m)).1=t1 at p3 p4;have q1:t1.plain=t.plain:=by rw[p4]
 have q2:t1.led=t.led:=by rw[p4]
 have q3:t1.mask=t.mask:=by rw[p4]
 have l1:=S.els.len;have l2:=S.tab.len;rw[kA3]at l2;have il:(SetTable.insertAt es p ((ar prog w).hash k,Value.ref b)).toList=es.toList.take p++((ar prog w).hash k,Value.ref b)::es.toList.drop p:=ST.fc _ _ _;have sz:(SetTable.insertAt es p ((ar prog w).hash k,Value.ref b)).size=es.size+1:=by
  rw[←kAb,il,vp.length_eq,kA7,kAb]
 have hz:(SetTable.insertAt es p ((ar prog w).hash k,Value.ref b)).size≤sizeLine:=by rw[sz,sizeLine_eq];rw[kAb]at l1;omega
 have hh:(SetTable.insertAt es p ((ar prog w).hash k,Value.ref b)).toList.map (·.1)=(es.toList.map (·.1)).take p++(ar prog w).hash k::(es.toList.map (·.1)).drop p:=by
  rw[il,List.map_append,kA4,List.map_take,List.map_drop]
 rw[←hh]at p3;generalize SetTable.insertAt es p ((ar prog w).hash k,Value.ref b)=es1 at il sz hz hh p3;have fl:∀(F:Bool→Sem Bool),(∀bv,(t1.plain && bv)=(t.plain && plT k)→wpAny (model prog w) A (F bv) Q E s)→wpAny (model prog w) A (if t1.plain=true then hashByValue 8 (.ref b)>>=F else(pure true:Sem Bool)>>=F) Q E s:=λF hR=>by
  split
  ·rename_i c;exact wpAny_bind (zbz hk (hR _ (by rw[q1])))
  ·rename_i c;have c:t1.plain=false:=by simpa using c
   refine wpAny_bind (wpAny_pure (hR true ?_));rw[q1]at c;rw[q1,c];rfl
 refine fl _ λbv ebv=>?_;have⟨t2,et2,r1,r2,r3,r4⟩:∃t2,(if bv=true then t1 else{t1 with plain:=false})=t2∧ST.TOk t2 (es1.toList.map (·.1))∧t2.plain=(t.plain && plT k)∧t2.led=t.led∧t2.mask=t.mask:=by
  cases bv with
  |true=>exact⟨t1,if_pos rfl,p3,by rw[←ebv,Bool.and_true],q2,q3⟩
  |false=>exact⟨{t1 with plain:=false},if_neg (by decide),⟨p3.mask,p3.dum,p3.len,p3.rise,p3.le,p3.room,p3.reach⟩,by rw[←ebv,Bool.and_false],q2,q3⟩
 rw[et2];refine wpAny_bind (wpAny_storeSet_of S.at_ rfl ?_ hz);have g1:(s.heap.update a (Obj.putSet es1 t2)).get? a=some {cls:=.type "set",dict:=none,data:=.set es1 (ep+1) t2}:=Heap.get?_update_self (Obj.putSet es1 t2) S.at_ rfl;have sb:=Heap.SameBut.update s.heap a (Obj.putSet es1 t2);have el1:ElsK prog w (s.heap.update a (Obj.putSet es1 t2)) es1.toList (ks.take p++k::ks.drop p):=by
  rw[il];refine wu S.at_ rfl sb ((S.els.take p).app ⟨k,_,rfl,⟨rfl,b,rfl,hk⟩,S.els.drop p⟩)
 have el2:∀hh,ElsK prog w hh es.toList ks→cx prog w hh k b→ElsK prog w hh es1.toList (ks.take p++k::ks.drop p):=λhh z1 z2=>by
  rw[il];exact(z1.take p).app ⟨k,_,rfl,⟨rfl,b,rfl,z2⟩,z1.drop p⟩
 have nd1:(ks.take p++k::ks.drop p).Nodup:=vp.nodup_iff.mpr (List.nodup_cons.mpr ⟨z,S.nd⟩);have ps:t2.place.size=t.place.size+1:=by
  have:=r1.len;rw[kA3,kAb]at this;rw[kAb]at l2;omega
 have lo:=S.tab.loose
 by_cases full:t2.tooFull=true
 ·rw[full];simp only[Bool.not_false,Bool.and_self,if_true];rw[←sz];refine wpAny_bind (Y5 (h0:=s.heap.update a (Obj.putSet es1 t2)) g1 rfl r1 el1 nd1 (by rw[ps,r4];exact lo) full (by rw[sz];rw[kAb]at l1;omega) λh' ks' es' ep' t' sb' S' pp ee e1 e2=>?_);refine wpAny_pure (h2 z h' ks' es' ep' t' (sb.trans sb') S' (pp.trans vp) (λhh z1 z2=>ee hh (el2 hh z1 z2)) (e1.trans r2) (e2.trans r3))
 ·have full':t2.tooFull=false:=by simpa using full
  rw[full'];simp only[Bool.not_false,Bool.and_false,kA9,if_false];have lo2:t2.place.size * 5<t2.mask * 3:=by
   rw[ST.ym r1.dum]at full';have:=of_decide_eq_false full';omega
  exact wpAny_pure (h2 z _ _ _ _ _ sb ⟨g1,⟨r1,lo2⟩,el1,nd1⟩ vp el2 r2 r3)
end
noncomputable def Er(T:List az)(k:az):Bool:=T.any λx=>decide (x=k)
theorem vc{T:List az}{k:az}:Er T k=true↔k∈T:=by
 unfold Er;rw[List.any_eq_true];constructor
 ·rintro ⟨x,hx,e⟩;rw[←of_decide_eq_true e];exact hx
 ·intro h;exact⟨k,h,decide_eq_true rfl⟩
noncomputable def p6(T:List az)(k:az):List az:=if Er T k then T else T++[k]
noncomputable def mw(kz:List az):List az:=kz.foldl p6 []
theorem W4(T:List az)(k:az):T.length≤(p6 T k).length:=by
 unfold p6;split
 ·exact kA0 _
 ·simp
theorem Mr:∀(kz:List az)(T:List az),T.length≤(kz.foldl p6 T).length
 |[],T=>kA0 _
 |k::r,T=>kAn (W4 T k) (Mr r _)
section
variable{prog:Program}{w:World}
theorem Vw{h h':Heap}(m:∀c o,h.get? c=some o→h'.get? c=some o){ks:List fo}{b:Addr}(q:IsTupleKey (bq prog w) h ks b):IsTupleKey (bq prog w) h' ks b:=by
 obtain⟨o',items,n,ho',hc,hd',hi⟩:=q;exact⟨o',items,n,m _ _ ho',hc,hd',hi⟩
theorem Xr{h h':Heap}(m:∀c o,h.get? c=some o→h'.get? c=some o):∀{k:NK}{v:Value},yu prog w h k v→yu prog w h' k v
 |.inl k,v,e=>e
 |.inr ks,v,⟨b,e,q⟩=>⟨b,e,Vw m q⟩
theorem Ik{h h':Heap}(m:∀c o,h.get? c=some o→h'.get? c=some o):∀{ks:az}{vs:List Value},NItems prog w h ks vs→NItems prog w h' ks vs
 |[],_,e=>e
 |_::_,_,⟨v,t,e,h1,h2⟩=>⟨v,t,e,Xr m h1,Ik m h2⟩
theorem vf{h h':Heap}(m:∀c o,h.get? c=some o→h'.get? c=some o){ks:az}{b:Addr}(q:cx prog w h ks b):cx prog w h' ks b:=by
 obtain⟨o',items,n,ho',hc,hd',hi⟩:=q;exact⟨o',items,n,m _ _ ho',hc,hd',Ik m hi⟩
def N9(prog:Program)(w:World)(h0 h:Heap)(a:Addr)(T:List az):Prop:=∃ks es ep t,h.get? a=some {cls:=.type "set",dict:=none,data:=.set es ep t}∧ST.SOk t (es.toList.map (·.1))∧ElsK prog w h0 es.toList ks∧ks.Nodup∧ks.Perm T∧t.led=Pu.Hw w∧t.plain=T.all plT
theorem Hc{h h':Heap}(m:∀c o,h.get? c=some o→h'.get? c=some o):∀{l:List (Int×Value)}{ks:List az},ElsK prog w h l ks→ElsK prog w h' l ks
 |[],_,e=>e
 |_::_,_,⟨k,r,e,⟨e1,b,e2,e3⟩,h2⟩=>⟨k,r,e,⟨e1,b,e2,vf m e3⟩,Hc m h2⟩
end
section
variable{prog:Program}{w:World}{A:Around}{R:Result→Shared→Prop}{I:Addr}{fp wr:List Addr}{P:Nat→Value→Prop}{St:Nat→Heap→Prop}{kz:List az}{h0:Heap}
theorem Ql(W:Walks prog w A.in1 I fp wr kz.length P St)(hu:(ar prog w).room A.in1)(a:Addr)(ha:a∉fp)(hb:∀c o,h0.get? c=some o→c≠a∧c∉wr)(hP:∀i v,P i v→∃k b,kz[i]?=some k∧v=.ref b∧cx prog w h0 k b):
  ∀(bg:List az)(i:Nat)(s:Shared)(T:List az),kz.drop i=bg→i≤kz.length→St i s.heap→(∀c o,h0.get? c=some o→s.heap.get? c=some o)→N9 prog w h0 s.heap a T→(bg.foldl p6 T).length≤76→
   (∀h' tk,(∀b o,b≠a→b∉wr→s.heap.get? b=some o→h'.get? b=some o)→N9 prog w h0 h' a (bg.foldl p6 T)→R (.ok (.ret .none)) {s with heap:=h',toks:=tk})→
   codeAny (model prog w) A (.builtin "set.update.loop" ⟨[.ref a,.ref I],[]⟩) R s:=by
 have haw:a∉wr:=λz=>ha (W.sub _ z);intro bg;induction bg with
 |nil=>
  intro i s T hd hi st h0s hT hl hR;have hin:i=kz.length:=by
   have:=congrArg List.length hd;rw[List.length_drop,List.length_nil]at this;omega
  subst hin;refine codeAny_builtin PyProof.Rows.F.entry_set_update_loop ?_;rw[Around.under_plainId PyProof.Rows.F.plain_set_update_loop _];show wpAny _ A.in1 (pyNext (.ref I)>>=_) _ _ s;refine wpAny_bind (W.done s _ _ st λh' tk hk=>?_);show wpAny _ A.in1 (ret Value.none) _ _ _;obtain⟨ks,es,ep,t,g,q⟩:=hT;exact wpAny_pure (hR h' tk (λb o _ hb e=>hk b o hb e) ⟨ks,es,ep,t,hk a _ haw g,q⟩)
 |cons n bg ih=>
  intro i s T hd hi st h0s hT hl hR;have hlt:i<kz.length:=by
   have:=congrArg List.length hd;rw[List.length_drop,kA7]at this;omega
  have hni:kz[i]?=some n:=by
   have:(kz.drop i)[0]?=some n:=by rw[hd];rfl
   simpa using this
  have hd':kz.drop (i+1)=bg:=by
   have:(kz.drop i).drop 1=bg:=by rw[hd];rfl
   rw[List.drop_drop]at this;exact this
  refine codeAny_builtin PyProof.Rows.F.entry_set_update_loop ?_;rw[Around.under_plainId PyProof.Rows.F.plain_set_update_loop _];show wpAny _ A.in1 (pyNext (.ref I)>>=_) _ _ s;refine wpAny_bind (W.item i s _ _ hlt st λv h1 tk1 hv st1 hk1=>?_);obtain⟨k,b,e1,rfl,hk⟩:=hP i v hv;rw[hni]at e1;cases e1;have h0s1:∀c o,h0.get? c=some o→h1.get? c=some o:=λc o e=>hk1 c o (hb c o e).2 (h0s c o e);obtain⟨ks,es,ep,t,g,so,el,nd,pm,le,pl⟩:=hT;have S1:SetK prog w h1 a ks es ep t:=⟨hk1 a _ haw g,so,Hc h0s1 el,nd⟩;show wpAny _ A.in1 (holding [Value.ref b] (setAdd a (.ref b))>>=_) _ _ _;refine wpAny_bind (wpAny_holding ?_);unfold setAdd;refine wpAny_holding (wpAny_bind ((ar prog w).pyHash (k:=n) hu (vf h0s1 hk) ?_));have fl:=Mr bg (p6 T n);have fle:(bg.foldl p6 (p6 T n)).length≤76:=hl
  by_cases hn:n∈ks
  ·have eT:p6 T n=T:=by unfold p6;rw[if_pos (vc.mpr (pm.mem_iff.mp hn))]
   refine Z7 (s:={s with heap:=h1,toks:=tk1+(ar prog w).draws n}) hu S1 (λz=>absurd hn z) (vf h0s1 hk) (λ_=>?_) λz=>absurd hn z;refine wpAny_pure ⟨plainId_quiet PyProof.Rows.F.plain_set_update_loop _,ih (i+1) _ (p6 T n) hd' hlt st1 h0s1 (by rw[eT];exact⟨ks,es,ep,t,S1.at_,so,el,nd,pm,le,pl⟩) hl λh' tk hk' hT'=>?_⟩;exact hR h' tk (λc o hc hw e=>hk' c o hc hw (hk1 c o hw e)) hT'
  ·have hnT:n∉T:=λz=>hn (pm.mem_iff.mpr z);have eT:p6 T n=T++[n]:=by unfold p6;rw[if_neg (λz=>hnT (vc.mp z))]
   rw[eT]at fl fle;have few:ks.length<76:=by
    rw[pm.length_eq];simp at fl;omega
   refine Z7 (s:={s with heap:=h1,toks:=tk1+(ar prog w).draws n}) hu S1 (λ_=>few) (vf h0s1 hk) (λz=>absurd z hn) λ_ h2 ks' es' ep' t' sb S2 pp ee ep1 ep2=>?_;refine wpAny_pure ⟨plainId_quiet PyProof.Rows.F.plain_set_update_loop _,ih (i+1) _ (p6 T n) hd' hlt (W.frame _ _ _ st1 λc hc o e=>?_) (λc o e=>?_) ⟨ks',es',ep',t',S2.at_,S2.tab,ee h0 el hk,S2.nd,?_,ep2.trans le,?_⟩ hl λh' tk hk' hT'=>?_⟩
   ·rw[sb.2 c (λz:c=a=>ha (z▸hc))];exact e
   ·show h2.get? c=some o;rw[sb.2 c (hb c o e).1];exact h0s1 c o e
   ·rw[eT];exact(pp.trans (pm.cons n)).trans (List.perm_append_singleton n T).symm
   ·rw[ep1,pl,eT,List.all_append];simp
   ·refine hR h' tk (λc o hc hw e=>hk' c o hc hw ?_) hT';show h2.get? c=some o;rw[sb.2 c hc];exact hk1 c o hw e
end
end L2
end
section
namespace Pu
open PySem PySem.Spec PyProof.Rows L2
noncomputable def KeysIn(prog:Program)(w:World)(h:Heap):List Value→List az→Prop
 |[],kz=>kz=[]
 |v::vs,kz=>∃k r b,kz=k::r∧v=.ref b∧cx prog w h k b∧KeysIn prog w h vs r
theorem KeysIn.len{prog:Program}{w:World}{h:Heap}:∀{vs:List Value}{kz:List az},KeysIn prog w h vs kz→vs.length=kz.length
 |[],kz,e=>by rw[show kz=[]from e];rfl
 |_::_,_,⟨k,r,b,e,_,_,t⟩=>by rw[e,kA7,kA7,t.len]
theorem KeysIn.get{prog:Program}{w:World}{h:Heap}:∀{vs:List Value}{kz:List az}{i:Nat}{v:Value},KeysIn prog w h vs kz→vs[i]?=some v→∃k b,kz[i]?=some k∧v=.ref b∧cx prog w h k b
 |[],_,_,_,_,q=>by simp at q
 |_::_,_,0,v,⟨k,r,b,e1,e2,h1,t⟩,q=>by subst e1;simp at q;subst q;exact⟨k,b,rfl,e2,h1⟩
 |_::_,_,i+1,v,⟨k,r,b,e1,e2,h1,t⟩,q=>by
  subst e1;obtain⟨k',b',q1,q2⟩:=KeysIn.get (i:=i) t (by simpa using q);exact⟨k',b',by simpa using q1,q2⟩
section
variable{prog:Program}{w:World}{A:Around}{E:Value→Shared→Prop}{s:Shared}
theorem Od{h0:Heap}{l:Addr}{items:Array Value}{kz:List az}{Q:Value→Shared→Prop}(hu:A.units+12<cLine)(hh:A.handled=none)(hl:s.heap.IsList l items)(hi:KeysIn prog w h0 items.toList kz)(hm:∀c o,h0.get? c=some o→s.heap.get? c=some o)(hs:(mw kz).length≤76)
  (h:∀(h':Heap)(tk:Nat),N9 prog w h0 h' s.heap.objs.size (mw kz)→(∀c o,c<s.heap.objs.size→s.heap.get? c=some o→h'.get? c=some o)→Q (.ref s.heap.objs.size) {s with heap:=h',toks:=tk}):
  wpAny (model prog w) A (call (.type "set") [.ref l]) Q E s:=by
 obtain⟨c0,tl0,hmro⟩:=PySem.F.called_set.mro;have hmade:=PySem.F.called_set.made;have hsub:=PySem.F.called_set.sub;refine wpAny_call (codeAny_of_tree ?_);show wpAny _ _ (callAny (.type "set") _) _ _ _;refine wpAny_pure ⟨Code.quiet_builtin _ (by decide+kernel),codeAny_builtin PySem.F.entry_type_call ?_⟩;rw[Around.under_plain (weight_type_call_type "set" [.ref l] []) rfl];have hnt:=PySem.F.called_set.notType;have hcc:=PySem.F.called_set.canCreate;have hct:=PySem.F.typeCall_set_1 (.ref l)
 repeat (any_goals (first|assumption|wp_step))
 refine codeAny_mono (Xq (.ref l) (E:=E) (Q:=λobj s₁=>obj=.ref s.heap.objs.size∧s₁={s with heap:=s.heap.push {cls:=.type "set",dict:=none,data:=.set #[] 0 (.fresh 0 0 (Hw w))}}) ⟨rfl,rfl⟩) λr s₁ hr=>?_;cases r with
 |error e=>exact hr
 |ok fl=>
  cases fl with
  |ret obj=>
   obtain⟨rfl,rfl⟩:=hr;generalize hh1:s.heap.push {cls:=.type "set",dict:=none,data:=.set #[] 0 (.fresh 0 0 (Hw w))}=h1;have hz1:h1.objs.size=s.heap.objs.size+1:=by rw[←hh1,Heap.size_push]
   have k1:∀c o,s.heap.get? c=some o→h1.get? c=some o:=λc o e=>by rw[←hh1];exact Heap.get?_push_of_some _ e
   have hS:h1.get? s.heap.objs.size=some {cls:=.type "set",dict:=none,data:=.set #[] 0 (.fresh 0 0 (Hw w))}:=by rw[←hh1];exact Heap.get?_push_size _ rfl
   have hT:Shared.TypeIs {s with heap:=h1} (.ref s.heap.objs.size) "set":=⟨_,hS,rfl⟩;have hli:=PySem.F.called_set.init.lookup;have hbi:=PySem.F.called_set.init.bind (.ref s.heap.objs.size)
   repeat (any_goals (first|assumption|wp_step))
   refine codeAny_mono (codeAny_call_builtin (R:=wants (λr s₂=>r=.none∧∃h' tk,s₂={s with heap:=h',toks:=tk}∧N9 prog w h0 h' s.heap.objs.size (mw kz)∧(∀c o,c<s.heap.objs.size→s.heap.get? c=some o→h'.get? c=some o)) E)
    PySem.F.called_set.init.plain PySem.F.entry_set_init (check_set_init_1 hT ?_)) λr₂ s₂ hr₂=>?_
   ·have hlt:l<s.heap.objs.size:=by
     obtain⟨o,e,_⟩:=hl;exact Heap.lt_size e
    have hh3:A.in1.in1.in1.handled=none:=by simp[hh]
    have hneI:l≠h1.objs.size:=by rw[hz1];exact kAf (Nat.lt_succ_of_lt hlt)
    have hSf:s.heap.objs.size∉[h1.objs.size,l]:=by
     rw[hz1];simp only[kA6,kB3,or_false,not_or];exact⟨kAf (Nat.lt_succ_self _),Nat.ne_of_gt hlt⟩
    have len:items.size=kz.length:=by rw[←kAb];exact hi.len
    have fin:∀{h2:Heap}{oI:Obj},h2=h1.push oI→∀(h':Heap)(tk:Nat),(∀c o,c≠s.heap.objs.size→c∉[h1.objs.size]→h2.get? c=some o→h'.get? c=some o)→∀c o,c<s.heap.objs.size→s.heap.get? c=some o→h'.get? c=some o:=λ{h2 oI} e2 h' tk hk c o hc e=>by
     refine hk c o (kAf hc) (by rw[hz1];simp;omega) ?_;rw[e2];exact Heap.get?_push_of_some _ (k1 c o e)
    obtain⟨ol,hol,hcl,nl,hdl⟩:=hl;obtain⟨ocls,odict,odata,oslots⟩:=ol;simp only at hcl hdl;subst hcl;subst hdl;have hol':=k1 _ _ hol;have q1:=PySem.F.sub_list_set;have q2:=PySem.F.sub_list_frozenset;have q3:(Value.type "list"==Value.type "dict")=false:=by decide
    have hl1:h1.IsList l items:=⟨_,hol',rfl,nl,rfl⟩;unfold Builtin.«set.__init__» noKeywords Builtin.Frozenset.updateFrom;generalize hPI:pyIter=PI
    wp_walk
    subst hPI;refine wpAny_pyIter_list hl1 (wpAny_bind (wpAny_runValue ?_));have W:=Walks.list (prog:=prog) (w:=w) hh3 h1.objs.size l hneI items;rw[len]at W;refine Ql (h0:=h0) W (show A.units+1+1+1+4<cLine by omega) s.heap.objs.size hSf (λc o e=>⟨kAf (Heap.lt_size (hm c o e)),λz=>kAf (Nat.lt_succ_of_lt (Heap.lt_size (hm c o e))) ((kB5.mp z).trans hz1)⟩) (λi v hv=>hi.get (by rw[kAw];exact hv)) kz 0 _ [] rfl (kAt _) ⟨⟨_,Heap.get?_push_size _ rfl,rfl,rfl⟩,hl1.push _⟩ (λc o e=>Heap.get?_push_of_some _ (k1 c o (hm c o e))) ⟨[],#[],0,_,Heap.get?_push_of_some _ hS,ST.Qc _ _ _,rfl,List.nodup_nil,List.Perm.refl _,rfl,rfl⟩ hs λh' tk hk hS'=>?_;refine wpAny_pure ?_;show wpAny _ _ (ret Value.none) _ _ _;exact wpAny_pure ⟨rfl,h',tk,rfl,hS',fin rfl h' tk hk⟩
   ·cases r₂ with
    |error e=>exact hr₂
    |ok fl₂=>
     cases fl₂ with
     |ret r=>
      obtain⟨rfl,h',tk,rfl,hS',hk'⟩:=hr₂
      repeat (any_goals (first|assumption|wp_step))
      exact h _ _ hS' hk'
     |_=>exact hr₂.elim
  |_=>exact hr.elim
end
section
variable{prog:Program}{w:World}{A:Around}{E:Value→Shared→Prop}{s:Shared}
theorem zih{src:Source}{n:Nat}{Q:Nat→Shared→Prop}(hn:n≠0)(h:∀i d',i<n→Q i {s with drawn:=d'}):wpAny (model prog w) A (choose src n) Q E s:=λΓ p hΓ=>by
 unfold choose;rw[Sem.wp_choose];exact⟨hn,h _ _ (Nat.mod_lt _ (Nat.pos_of_ne_zero hn))⟩
theorem N7{α:Type}:∀(n:Nat)(xs:List α)(s:Shared){Q:List α→Shared→Prop},xs.length=n→(∀ys d',ys.Perm xs→Q ys {s with drawn:=d'})→wpAny (model prog w) A (drawOrder n xs) Q E s
 |0,xs,s,Q,hl,h=>by
  unfold drawOrder;have:xs=[]:=List.length_eq_zero_iff.mp hl;subst this;exact wpAny_pure (h [] s.drawn (List.Perm.refl _))
 |n+1,[],s,Q,hl,h=>by cases hl
 |n+1,x::r,s,Q,hl,h=>by
  unfold drawOrder;refine wpAny_bind (zih (by simp) λi d' hi=>?_);rw[kB2 hi];dsimp only;refine wpAny_bind (N7 n ((x::r).eraseIdx i) _ (by rw[List.length_eraseIdx_of_lt hi,hl];rfl) λys d2 hp=>?_);exact wpAny_pure (h _ d2 ((hp.cons _).trans (t7 hi)))
end
def tm(h:Heap)(a:Addr)(es:Array (Int×Value))(ep:Nat)(t:SetTable):Prop:=h.get? a=some {cls:=.type "set",dict:=none,data:=.set es ep t}
def DrIt(h:Heap)(I T a:Addr)(i n ep:Nat):Prop:=h.get? I=some {cls:=.type "set_iterator",data:=.fields #[.ref T,rawInt i,.ref a,rawInt n,rawInt ep]}
def F8(h:Heap)(T:Addr)(ys:List Nat):Prop:=h.get? T=some {cls:=.type "tuple",data:=.seq (ys.map λ(i:Nat)=>rawInt i).toArray}
section
variable{prog:Program}{w:World}{A:Around}{E:Value→Shared→Prop}{s:Shared}{a I T:Addr}{es:Array (Int×Value)}{ep i:Nat}{t:SetTable}{ys:List Nat}
theorem DrIt.ty{n:Nat}(h:DrIt s.heap I T a i n ep):s.TypeIs (.ref I) "set_iterator":=⟨_,h,rfl⟩
theorem Wv{Q:Option Value→Shared→Prop}(hf:t.fits es.size=true)(ho:tm s.heap a es ep t)(hT:F8 s.heap T ys)(hit:DrIt s.heap I T a i es.size ep){p:Nat}{e:Int×Value}(hp:ys[i]?=some p)(he:es[p]?=some e)
  (hQ:∀h',DrIt h' I T a (i+1) es.size ep→Heap.SameBut I s.heap h'→Q (some e.2) {s with heap:=h'}):wpAny (model prog w) A (pyNext (.ref I)) Q E s:=by
 unfold pyNext;refine wpAny_bind (wpAny_attempt (wpAny_callSpecial?_slot (name:=Str.ofString "__next__") hit.ty ft (wpAny_call_entry ft hit.ty ou ?_ (ot _))));unfold Builtin.«set_iterator.__next__»;refine wpAny_bind (wpAny_pure ?_);refine wpAny_bind (wpAny_fieldsOf hit rfl ?_);dsimp only[rawInt];refine wpAny_bind (wpAny_setEntries_of ho rfl hf ?_);rw[if_neg (by simp)];refine wpAny_bind (wpAny_seqItems hT rfl ?_);dsimp only;have e1:((ys.map λ(i:Nat)=>rawInt i).toArray)[((i:Nat):Int).toNat]?=some (Value.int ((p:Nat):Int) 0):=by
  rw[Int.toNat_natCast,List.getElem?_toArray,kAs,hp];rfl
 rw[e1];dsimp only;refine wpAny_bind ?_;unfold setNextDrawn;refine wpAny_bind (wpAny_setState_of ho rfl hf ?_);dsimp only;rw[if_neg (by simp),Int.toNat_natCast,he];dsimp only;refine wpAny_pure ?_;have hit0:s.heap.get? I=some {cls:=.type "set_iterator",data:=.fields #[.ref T,rawInt (i:Nat),.ref a,rawInt (es.size:Nat),rawInt (ep:Nat)]}:=hit;refine wpAny_bind (wpAny_setField hit0 rfl (by simp) ?_);have g2:=Heap.get?_update_self (Obj.mapFields (·.setIfInBounds 1 (Value.int ((i:Int)+1) 0))) hit0 rfl;refine wpAny_pure ⟨e.2,rfl,wpAny_pure (hQ _ ?_ (Heap.SameBut.update ..))⟩;unfold DrIt;rw[g2];rfl
theorem zbt{Q:Option Value→Shared→Prop}(hh:A.handled=none)(hf:t.fits es.size=true)(ho:tm s.heap a es ep t)(hT:F8 s.heap T ys)(hl:ys.length=es.size)(hit:DrIt s.heap I T a es.size es.size ep)
  (hQ:∀h',Heap.ExtBut I s.heap h'→Q none {s with heap:=h'}):wpAny (model prog w) A (pyNext (.ref I)) Q E s:=by
 unfold pyNext;refine wpAny_bind (wpAny_attempt (wpAny_callSpecial?_slot (name:=Str.ofString "__next__") hit.ty ft (wpAny_call_entry ft hit.ty ou ?_ (ot _))));unfold Builtin.«set_iterator.__next__»;refine wpAny_bind (wpAny_pure ?_);refine wpAny_bind (wpAny_fieldsOf hit rfl ?_);dsimp only[rawInt];refine wpAny_bind (wpAny_setEntries_of ho rfl hf ?_);rw[if_neg (by simp)];refine wpAny_bind (wpAny_seqItems hT rfl ?_);dsimp only;have e1:((ys.map λ(i:Nat)=>rawInt i).toArray)[((es.size:Nat):Int).toNat]?=none:=by
  rw[Int.toNat_natCast,List.getElem?_toArray,kAs,kBh (by omega)];rfl
 rw[e1];dsimp only;have hit0:s.heap.get? I=some {cls:=.type "set_iterator",data:=.fields #[.ref T,rawInt (es.size:Nat),.ref a,rawInt (es.size:Nat),rawInt (ep:Nat)]}:=hit;refine wpAny_bind (wpAny_setField hit0 rfl (by simp) ?_);have g1:=Heap.get?_update_self (Obj.mapFields (·.setIfInBounds 0 (Value.int 0 0))) hit0 rfl;refine wpAny_bind (wpAny_setField g1 rfl (by simp[Obj.mapFields]) ?_);show wpAny _ _ (newExc (.type "StopIteration") []>>=raiseNew) _ _ _;refine wpAny_bind ?_;simp only[newExc,newTuple];refine wpAny_bind (wpAny_newObj_type ?_ (by size_fits));refine wpAny_bind (m:=firstArgMember _ _) (wpAny_of_eq (a:=Value.none) (by first|rfl|(simp only[firstArgMember];rfl)) ?_);refine wpAny_newObj_type ?_ (by size_fits);simp only[raiseNew];refine wpAny_bind (wpAny_handled ?_);rw[show A.in1.handled=none from hh];refine wpAny_bind (wpAny_pure (wpAny_throw ?_));refine wpAny_bind (wpAny_isInstance (T:="StopIteration") (b:=true) ⟨_,Heap.get?_push_size _ rfl,rfl⟩ isSubtype_stop ?_);exact wpAny_pure (hQ _ ((((Heap.SameBut.update ..).trans (Heap.SameBut.update ..)).extBut.push _).push _))
theorem V3(hh:A.handled=none)(hf:t.fits es.size=true)(hp:ys.Perm (kA5 es.size))(hne:a≠I)(hnT:T≠I):Walks prog w A I [I,a,T] [I] es.size (λi v=>∃p e,ys[i]?=some p∧es[p]?=some e∧v=e.2) (λi h=>DrIt h I T a i es.size ep∧tm h a es ep t∧F8 h T ys) where
 sub:=λb hb=>by simp at hb;simp[hb]
 frame:=λ_ _ _ st hk=>⟨hk I (by simp) _ st.1,hk a (by simp) _ st.2.1,hk T (by simp) _ st.2.2⟩
 item:=λi s Q E hi st hQ=>by
  have hl:ys.length=es.size:=by rw[hp.length_eq,kB9]
  have hy:ys[i]?=some (ys[i]'(by omega)):=kB2 _;have hb:ys[i]'(by omega)<es.size:=kB1.mp (hp.mem_iff.mp (List.getElem_mem _));have he:es[ys[i]'(by omega)]?=some (es[ys[i]'(by omega)]'hb):=kAz _;exact Wv hf st.2.1 st.2.2 st.1 hy he λh' hit' hs'=>hQ _ h' s.toks ⟨_,_,hy,he,rfl⟩ ⟨hit',(hs'.2 a hne).trans st.2.1,(hs'.2 T hnT).trans st.2.2⟩ λb o hb e=>hs'.extBut b o (λh=>hb (by simp[h])) e
 done:=λs Q E st hQ=>zbt hh hf st.2.1 st.2.2 (by rw[hp.length_eq,kB9]) st.1 λh' he'=>hQ h' s.toks λb o hb e=>he' b o (λh=>hb (by simp[h])) e
 self:=λi s Q E st hQ=>by
  refine wpAny_pyIter_slot st.1.ty vy (wpAny_call_entry vy st.1.ty Bs ?_ (Br _));show wpAny _ _ (ret (.ref I)) _ _ s;exact wpAny_pure ⟨_,rfl,"set_iterator",_,st.1.ty,ft.lookup,hQ⟩
end
structure NotDr(w:World)(es:Array (Int×Value))(t:SetTable):Prop where
 fits:t.fits es.size=true
 rise:ST.Ris t.place
 led:t.led=Hw w
 pl:w.params.followText "set-order"=true∨(!t.plain && decide (es.size>1))=false
theorem NotDr.size{w:World}{es:Array (Int×Value)}{t:SetTable}(N:NotDr w es t):t.place.size=es.size:=by
 have:=N.fits;unfold SetTable.fits at this;rw[kA1]at this;simpa using this.1
theorem NotDr.walk{w:World}{es:Array (Int×Value)}{t:SetTable}(N:NotDr w es t):SetTable.below t.place 0=0∧∀i,i<es.size→SetTable.below t.place (t.place.getD i 0+1)=i+1:=by
 have at_:∀i,i<t.place.size→t.place[i]?=some (t.place.getD i 0):=λi hi=>by
  rw[kAz hi];simp[Array.getD,hi]
 refine⟨?_,λi hi=>?_⟩
 ·obtain⟨b1,b2,b3⟩:=ST.uu (j:=0) N.rise;refine Classical.byContradiction λz=>?_;have:=b2 0 _ (by omega) (at_ 0 (by omega));omega
 ·rw[←N.size]at hi;obtain⟨b1,b2,b3⟩:=ST.uu (j:=t.place.getD i 0+1) N.rise;rcases Nat.lt_trichotomy (SetTable.below t.place (t.place.getD i 0+1)) (i+1)with z|z|z
  ·have:=b3 i _ (by omega) (at_ i hi);omega
  ·exact z
  ·have h1:=b2 (i+1) _ z (at_ (i+1) (by omega));have h2:=N.rise.lt (Nat.lt_succ_self i) (at_ i hi) (at_ (i+1) (by omega));omega
noncomputable def jq(w:World)(t:SetTable)(i:Nat):Nat:=if w.params.followText "set-order" then 0 else if i=0 then 0 else t.place.getD (i - 1) 0+1
section
variable{prog:Program}{w:World}{A:Around}{E:Value→Shared→Prop}{s:Shared}{a I:Addr}{es:Array (Int×Value)}{ep i:Nat}{t:SetTable}
theorem Nl{i:Nat}{Q:Option (Value×Nat)→Shared→Prop}(N:NotDr w es t)(ho:tm s.heap a es ep t)(hi:i≤es.size)
  (h:Q (((mj w a ep es)[i]?).map λe=>(e.2,jq w t (i+1))) s):wpAny (model prog w) A (setNext a (jq w t i) i ep) Q E s:=by
 have hf:t.fits es.size=true:=N.fits;unfold setNext;refine wpAny_bind (wpAny_setState_of ho rfl hf ?_);dsimp only;unfold setsByText;refine wpAny_bind (wpAny_bind (wpAny_askSetting (wpAny_pure ?_)));have hb0:(model prog w).w.params.followText "set-order"=w.params.followText "set-order":=rfl;cases bt:w.params.followText "set-order" with
 |true=>
  have e0:mj w a ep es=pickOrder (w.params.setOrder a ep) es:=by unfold mj;rw[if_pos bt]
  have e1:∀i,jq w t i=0:=λi=>by unfold jq;rw[if_pos bt]
  rw[e0,e1]at h;rw[e1];have e2:(⟨(model prog w).prog,(model prog w).w.params⟩:Setting).params.followText "set-order"=true:=bt;rw[e2];simp only[if_true,bne_self_eq_false,kA9,if_false];refine wpAny_bind ?_;unfold setWalk;refine wpAny_bind (wpAny_setState_of ho rfl hf ?_);dsimp only;unfold setsByText;refine wpAny_bind (wpAny_bind (wpAny_askSetting (wpAny_pure ?_)));rw[e2];simp only[if_true];refine wpAny_bind (wpAny_askSetting (wpAny_pure ?_));exact wpAny_pure h
 |false=>
  have e0:mj w a ep es=es:=by unfold mj;rw[if_neg (by rw[bt];decide)]
  have e1:∀i,jq w t i=if i=0 then 0 else t.place.getD (i - 1) 0+1:=λi=>by unfold jq;rw[if_neg (by rw[bt];decide)]
  have e2:(⟨(model prog w).prog,(model prog w).w.params⟩:Setting).params.followText "set-order"=false:=bt;have e3:Hw w=true:=by unfold Hw;rw[bt];rfl
  have bl:SetTable.below t.place (jq w t i)=i:=by
   obtain⟨b1,b2⟩:=N.walk;rw[e1]
   by_cases z:i=0
   ·rw[if_pos z,z];exact b1
   ·rw[if_neg z,b2 (i - 1) (by omega)];omega
  rw[e0]at h;rw[e2];simp only[kA9,if_false];refine wpAny_ite_split (λz=>?_) λ_=>?_
  ·have z':(!t.plain && decide (es.size>1))=true:=z;rcases N.pl with y|y
   ·rw[bt]at y;cases y
   ·rw[y]at z';cases z'
  ·refine wpAny_bind ?_;have e4:(!t.led && !es.isEmpty)=false:=by
    have:t.led=true:=N.led.trans e3;rw[this];rfl
   wp_delta
   rw[e4];simp only[kA9,if_false];refine wpAny_pure (wpAny_pure ?_);rw[bl];cases hc:es[i]? with
   |none=>
    rw[hc]at h;exact h
   |some e=>
    rw[hc]at h;have hlt:i<t.place.size:=by
     have:=(kBe.mp hc).1;have:=N.size;omega
    rw[kAz hlt];have:jq w t (i+1)=t.place[i]+1:=by
     rw[e1,if_neg (by omega)];simp[Array.getD,hlt]
    rw[this]at h;exact h
theorem Yd{Q:Option Value→Shared→Prop}(N:NotDr w es t)(ho:tm s.heap a es ep t)(hit:SetIt s.heap I a (jq w t i) i es.size ep){e:Int×Value}(he:(mj w a ep es)[i]?=some e)
  (hQ:∀h',SetIt h' I a (jq w t (i+1)) (i+1) es.size ep→Heap.SameBut I s.heap h'→Q (some e.2) {s with heap:=h'}):wpAny (model prog w) A (pyNext (.ref I)) Q E s:=by
 have hf:t.fits es.size=true:=N.fits;have hi:i≤es.size:=by
  have h1:=(kBe.mp he).1;have h2:=(lg w a ep es).length_eq;rw[kAb,kAb]at h2;omega
 unfold pyNext;refine wpAny_bind (wpAny_attempt (wpAny_callSpecial?_slot (name:=Str.ofString "__next__") hit.ty ft (wpAny_call_entry ft hit.ty ou ?_ (ot _))));unfold Builtin.«set_iterator.__next__»;refine wpAny_bind (wpAny_pure ?_);refine wpAny_bind (wpAny_fieldsOf hit rfl ?_);dsimp only[rawInt];refine wpAny_bind (wpAny_setEntries_of ho rfl hf ?_);rw[if_neg (by simp)];refine wpAny_bind (Nl (prog:=prog) N ho hi ?_);rw[show((ep:Int).toNat)=ep from Int.toNat_natCast ep,he];dsimp only[Option.map];have hit0:s.heap.get? I=some {cls:=.type "set_iterator",data:=.fields #[rawInt (jq w t i:Nat),rawInt (i:Nat),.ref a,rawInt (es.size:Nat),rawInt (ep:Nat)]}:=hit;refine wpAny_bind (wpAny_setField hit0 rfl (by simp) ?_);have g1:=Heap.get?_update_self (Obj.mapFields (·.setIfInBounds 0 (Value.int ((jq w t (i+1):Nat):Int) 0))) hit0 rfl;refine wpAny_bind (wpAny_setField g1 rfl (by simp[Obj.mapFields]) ?_);have g2:=Heap.get?_update_self (Obj.mapFields (·.setIfInBounds 1 (Value.int ((i:Int)+1) 0))) g1 rfl;refine wpAny_pure ⟨e.2,rfl,wpAny_pure (hQ _ ?_ ((Heap.SameBut.update ..).trans (Heap.SameBut.update ..)))⟩;unfold SetIt;rw[g2];rfl
theorem zc9{Q:Option Value→Shared→Prop}(hh:A.handled=none)(N:NotDr w es t)(ho:tm s.heap a es ep t)(hit:SetIt s.heap I a (jq w t es.size) es.size es.size ep)
  (hQ:∀h',Heap.ExtBut I s.heap h'→Q none {s with heap:=h'}):wpAny (model prog w) A (pyNext (.ref I)) Q E s:=by
 have hf:t.fits es.size=true:=N.fits;have he:(mj w a ep es)[es.size]?=none:=by
  have h2:=(lg w a ep es).length_eq;rw[kAb,kAb]at h2;rw[←h2];simp
 unfold pyNext;refine wpAny_bind (wpAny_attempt (wpAny_callSpecial?_slot (name:=Str.ofString "__next__") hit.ty ft (wpAny_call_entry ft hit.ty ou ?_ (ot _))));unfold Builtin.«set_iterator.__next__»;refine wpAny_bind (wpAny_pure ?_);refine wpAny_bind (wpAny_fieldsOf hit rfl ?_);dsimp only[rawInt];refine wpAny_bind (wpAny_setEntries_of ho rfl hf ?_);rw[if_neg (by simp)];refine wpAny_bind (Nl (prog:=prog) N ho (kA0 _) ?_);rw[show((ep:Int).toNat)=ep from Int.toNat_natCast ep,he];dsimp only[Option.map];have hit0:s.heap.get? I=some {cls:=.type "set_iterator",data:=.fields #[rawInt (jq w t es.size:Nat),rawInt (es.size:Nat),.ref a,rawInt (es.size:Nat),rawInt (ep:Nat)]}:=hit;refine wpAny_bind (wpAny_setField hit0 rfl (by simp) ?_);show wpAny _ _ (newExc (.type "StopIteration") []>>=raiseNew) _ _ _;refine wpAny_bind ?_;simp only[newExc,newTuple];refine wpAny_bind (wpAny_newObj_type ?_ (by size_fits));refine wpAny_bind (m:=firstArgMember _ _) (wpAny_of_eq (a:=Value.none) (by first|rfl|(simp only[firstArgMember];rfl)) ?_);refine wpAny_newObj_type ?_ (by size_fits);simp only[raiseNew];refine wpAny_bind (wpAny_handled ?_);rw[show A.in1.handled=none from hh];refine wpAny_bind (wpAny_pure (wpAny_throw ?_));refine wpAny_bind (wpAny_isInstance (T:="StopIteration") (b:=true) ⟨_,Heap.get?_push_size _ rfl,rfl⟩ isSubtype_stop ?_);exact wpAny_pure (hQ _ (((Heap.SameBut.update ..).extBut.push _).push _))
theorem Ye{Q:Value→Shared→Prop}(N:NotDr w es t)(ho:tm s.heap a es ep t)
  (hQ:Q (.ref s.heap.objs.size) {s with heap:=s.heap.push {cls:=.type "set_iterator",data:=.fields #[rawInt (0:Nat),rawInt (0:Nat),.ref a,rawInt (es.size:Nat),rawInt (ep:Nat)]}}):wpAny (model prog w) A (pyIter (.ref a)) Q E s:=by
 have hT:s.TypeIs (.ref a) "set":=⟨_,ho,rfl⟩;have hf:t.fits es.size=true:=N.fits;refine wpAny_pyIter_slot hT PySem.F.slot_set_iter (wpAny_call_entry PySem.F.slot_set_iter hT Bp ?_ (PySem.F.args_set_iter_1 _));unfold Builtin.«frozenset.__iter__» Builtin.Frozenset.slot0 slotArgs;simp only[List.isEmpty_nil,kAv,kA9,↓reduceIte,bind_assoc,List.length_nil,bne_self_eq_false];unfold Builtin.Frozenset.addrOf Builtin.Frozenset.sizeOf;refine wpAny_bind (wpAny_pure ?_)
 try dsimp only
 refine wpAny_bind (wpAny_pure ?_);refine wpAny_bind (wpAny_bind (wpAny_setEntries_of ho rfl hf (wpAny_pure ?_)));refine wpAny_bind ?_;unfold setDrawn;refine wpAny_bind (wpAny_setState_of ho rfl hf ?_);dsimp only;unfold setsByText;refine wpAny_bind (wpAny_bind (wpAny_askSetting (wpAny_pure (wpAny_pure ?_))));refine wpAny_ite_split (λz=>?_) λ_=>?_
 ·exfalso;rw[kA1]at z;have z':(!t.plain && decide (es.size>1))=true:=z.2;have z1:(!(w.params.followText "set-order"))=true:=z.1;rcases N.pl with y|y
  ·rw[y]at z1;cases z1
  ·rw[y]at z';cases z'
 ·refine wpAny_bind (wpAny_pure (wpAny_bind (wpAny_setEpoch_of ho rfl hf ?_)));refine wpAny_bind (wpAny_newObj_type (wpAny_pure ⟨_,rfl,"set_iterator",_,⟨_,Heap.get?_push_size _ rfl,rfl⟩,ft.lookup,hQ⟩) (by size_fits))
theorem V4(hh:A.handled=none)(N:NotDr w es t)(hne:a≠I):Walks prog w A I [I,a] [I] es.size (λi v=>∃e,(mj w a ep es)[i]?=some e∧v=e.2) (λi h=>SetIt h I a (jq w t i) i es.size ep∧tm h a es ep t) where
 sub:=λb hb=>by simp at hb;simp[hb]
 frame:=λ_ _ _ st hk=>⟨hk I (by simp) _ st.1,hk a (by simp) _ st.2⟩
 item:=λi s Q E hi st hQ=>by
  have h2:=(lg w a ep es).length_eq;rw[kAb,kAb]at h2;have he:(mj w a ep es)[i]?=some ((mj w a ep es)[i]'(by omega)):=kAz _;exact Yd N st.2 st.1 he λh' hit' hs'=>hQ _ h' s.toks ⟨_,he,rfl⟩ ⟨hit',(hs'.2 a hne).trans st.2⟩ λb o hb e=>hs'.extBut b o (λh=>hb (by simp[h])) e
 done:=λs Q E st hQ=>zc9 hh N st.2 st.1 λh' he'=>hQ h' s.toks λb o hb e=>he' b o (λh=>hb (by simp[h])) e
 self:=λi s Q E st hQ=>by
  refine wpAny_pyIter_slot st.1.ty vy (wpAny_call_entry vy st.1.ty Bs ?_ (Br _));show wpAny _ _ (ret (.ref I)) _ _ s;exact wpAny_pure ⟨_,rfl,"set_iterator",_,st.1.ty,ft.lookup,hQ⟩
theorem Ww{Q:Value→Shared→Prop}(hf:t.fits es.size=true)(bt:w.params.followText "set-order"=false)(hd:(!t.plain && decide (es.size>1))=true)(few:es.size≤76)(ho:tm s.heap a es ep t)
  (hQ:∀(ys:List Nat) d' h',ys.Perm (kA5 es.size)→h'=(s.heap.push {cls:=.type "tuple",data:=.seq (ys.map λ(i:Nat)=>rawInt i).toArray}).push {cls:=.type "set_iterator",data:=.fields #[.ref s.heap.objs.size,rawInt (0:Nat),.ref a,rawInt (es.size:Nat),rawInt (ep:Nat)]}→Q (.ref (s.heap.objs.size+1)) {s with heap:=h',drawn:=d'}):wpAny (model prog w) A (pyIter (.ref a)) Q E s:=by
 have hT:s.TypeIs (.ref a) "set":=⟨_,ho,rfl⟩;refine wpAny_pyIter_slot hT PySem.F.slot_set_iter (wpAny_call_entry PySem.F.slot_set_iter hT Bp ?_ (PySem.F.args_set_iter_1 _));unfold Builtin.«frozenset.__iter__» Builtin.Frozenset.slot0 slotArgs;simp only[List.isEmpty_nil,kAv,kA9,↓reduceIte,bind_assoc,List.length_nil,bne_self_eq_false];unfold Builtin.Frozenset.addrOf Builtin.Frozenset.sizeOf;refine wpAny_bind (wpAny_pure ?_)
 try dsimp only
 refine wpAny_bind (wpAny_pure ?_);refine wpAny_bind (wpAny_bind (wpAny_setEntries_of ho rfl hf (wpAny_pure ?_)));refine wpAny_bind ?_;unfold setDrawn;refine wpAny_bind (wpAny_setState_of ho rfl hf ?_);dsimp only;unfold setsByText;refine wpAny_bind (wpAny_bind (wpAny_askSetting (wpAny_pure (wpAny_pure ?_))));refine wpAny_ite_split (λ_=>?_) λz=>?_
 ·refine wpAny_bind (N7 es.size _ _ (kB9) λys d' hp=>?_);have hl:ys.length≤76:=by rw[hp.length_eq,kB9];exact few
  refine wpAny_bind (wpAny_newTuple ?_ (by rw[kA3,sizeLine_eq];omega));have ho1:tm (s.heap.push {cls:=.type "tuple",data:=.seq (ys.map λ(i:Nat)=>rawInt i).toArray}) a es ep t:=Heap.get?_push_of_some _ ho;refine wpAny_bind (wpAny_setEpoch_of ho1 rfl hf ?_);refine wpAny_bind (wpAny_newObj_type (wpAny_pure ⟨_,rfl,"set_iterator",_,⟨_,Heap.get?_push_size _ rfl,rfl⟩,ft.lookup,?_⟩) (by size_fits));rw[Heap.size_push];exact hQ ys d' _ hp rfl
 ·exfalso;refine z ?_;rw[kA1];exact⟨by show(!(w.params.followText "set-order"))=true;rw[bt];rfl,hd⟩
end
section
variable{prog:Program}{w:World}{A:Around}{E:Value→Shared→Prop}{s:Shared}{a L:Addr}{es:Array (Int×Value)}{ep:Nat}{t:SetTable}
noncomputable abbrev za6(ys:List Nat)(es:Array (Int×Value)):Nat→Value→Prop:=λi v=>∃p e,ys[i]?=some p∧es[p]?=some e∧v=e.2
theorem Oh{R:Result→Shared→Prop}(hh:A.handled=none)(hf:t.fits es.size=true)(bt:w.params.followText "set-order"=false)(hd:(!t.plain && decide (es.size>1))=true)(few:es.size≤76)(ho:tm s.heap a es ep t)(hne:L≠a)(res:Value)(c0:Nat)
  (hL:s.heap.get? L=some {cls:=.type "list",data:=.seq #[] c0})
  (hR:∀ys d' h' tk acc c',List.Perm ys (kA5 es.size)→(∀b o,b≠L→s.heap.get? b=some o→h'.get? b=some o)→h'.get? L=some {cls:=.type "list",dict:=none,data:=.seq acc c',slots:=#[]}→ItemsOf (za6 ys es) acc es.size→R (.ok (.ret res)) {s with heap:=h',toks:=tk,drawn:=d'}):
  wpAny (model prog w) A.in1 (Builtin.List.listExtendWith (.ref L) (.ref a) res)
   (λfin s1=>match fin with|.done f=>R (.ok f) s1|.again c1=>c1.quiet=true∧codeAny (model prog w) A c1 R s1) (λe s1=>R (.error e) s1) s:=by
 have ltL:=Heap.lt_size hL;have lta:=Heap.lt_size (show s.heap.get? a=some _ from ho);have zn:es.size≤sizeLine:=by rw[sizeLine_eq];omega
 unfold Builtin.List.listExtendWith;refine wpAny_bind (wpAny_typeOf (T:="set") ⟨_,ho,rfl⟩ ?_);have n1:Builtin.List.listSameRef (.ref L) (.ref a)=false:=by simp[Builtin.List.listSameRef,hne]
 have n2:(Value.type "set"==Value.type "list")=false:=by decide
 have n3:(Value.type "set"==Value.type "tuple")=false:=by decide
 simp only[n1,n2,n3,Bool.or_false,kA9,if_false];refine wpAny_bind (Ww hf bt hd few ho λys d' h1 hp e1=>?_);have up:∀b o,s.heap.get? b=some o→h1.get? b=some o:=λb o e=>by
  rw[e1];exact Heap.get?_push_of_some _ (Heap.get?_push_of_some _ e)
 have hT1:F8 h1 s.heap.objs.size ys:=by
  rw[e1];exact Heap.get?_push_of_some _ (Heap.get?_push_size _ rfl)
 have hI1:DrIt h1 (s.heap.objs.size+1) s.heap.objs.size a 0 es.size ep:=by
  rw[e1];have:((s.heap.push {cls:=.type "tuple",data:=.seq (ys.map λ(i:Nat)=>rawInt i).toArray}).push {cls:=.type "set_iterator",data:=.fields #[.ref s.heap.objs.size,rawInt (0:Nat),.ref a,rawInt (es.size:Nat),rawInt (ep:Nat)]}).get? (s.heap.push {cls:=.type "tuple",data:=.seq (ys.map λ(i:Nat)=>rawInt i).toArray}).objs.size=some {cls:=.type "set_iterator",data:=.fields #[.ref s.heap.objs.size,rawInt (0:Nat),.ref a,rawInt (es.size:Nat),rawInt (ep:Nat)]}:=Heap.get?_push_size _ rfl;rw[Heap.size_push]at this;exact this
 have ho1:tm h1 a es ep t:=up _ _ ho;have hL1:=up _ _ hL;have W:=V3 (prog:=prog) (w:=w) (A:=A.in1) (ep:=ep) (t:=t) (a:=a) (I:=s.heap.objs.size+1) (T:=s.heap.objs.size) (by simpa using hh) hf hp (kAf (Nat.lt_succ_of_lt lta)) (kAf (Nat.lt_succ_self _));have nf:L∉[s.heap.objs.size+1,a,s.heap.objs.size]:=by
  simp only[kA6,kB3,or_false,not_or];exact⟨kAf (Nat.lt_succ_of_lt ltL),hne,kAf ltL⟩
 have run:∀(h2:Heap)(c1 tk:Nat),(DrIt h2 (s.heap.objs.size+1) s.heap.objs.size a 0 es.size ep∧tm h2 a es ep t∧F8 h2 s.heap.objs.size ys)→(∀b o,b≠L→s.heap.get? b=some o→h2.get? b=some o)→h2.get? L=some {cls:=.type "list",data:=.seq #[] c1}→
   codeAny (model prog w) A (.builtin "list.extend.loop" ⟨[.ref L,.ref (s.heap.objs.size+1),res],[]⟩) R {s with heap:=h2,toks:=tk,drawn:=d'}:=by
  intro h2 c1 tk st kp g;refine codeAny_extend_loopS W.toS zn L nf res es.size 0 _ #[] c1 rfl (kAt _) st g (ItemsOf.nil _) λs3 acc c3 mv g3 ia=>?_;rw[Moved.eq_with mv];refine hR ys d' s3.heap s3.toks acc c3 hp (λb o nb e=>mv.heap b o (λz=>?_) (kp b o nb e)) g3 ia;rcases kA6.mp z with z|z
  ·exact nb z
  ·have:=Heap.lt_size e;rw[kB5.mp z]at this;exact kAx _ (Nat.lt_of_succ_lt this)
 refine wpAny_bind (wpAny_holding (Jc ⟨_,(show h1.get? a=some _ from ho1),rfl⟩ ?_));refine wpAny_ite_split (λ_=>?_) (λ_=>wpAny_pure ⟨plainId_quiet PySem.F.plain_extend_loop _,run _ c0 _ ⟨hI1,ho1,hT1⟩ (λb o _ e=>up b o e) hL1⟩);refine wpAny_bind (wpAny_rule ?_);refine wpAny_bind ?_;show wpAny _ _ (updateSeq L (·.push .none)>>=λ_=>updateSeq L (·.pop)) _ _ _;refine wpAny_bind (wpAny_updateSeq hL1 rfl ?_);have hL2:=Heap.get?_update_self (Obj.mapSeq (·.push Value.none)) hL1 rfl;refine wpAny_updateSeq (hz:=by seq_fits) hL2 rfl ?_;have hL3:=Heap.get?_update_self (Obj.mapSeq (·.pop)) hL2 rfl;have oth:∀b o,b≠L→h1.get? b=some o→((h1.update L (Obj.mapSeq (·.push Value.none))).update L (Obj.mapSeq (·.pop))).get? b=some o:=λb o nb e=>by
  rw[Heap.get?_update_other _ _ (Ne.symm nb),Heap.get?_update_other _ _ (Ne.symm nb)];exact e
 refine wpAny_pure ⟨plainId_quiet PySem.F.plain_extend_loop _,run _ _ _ ⟨oth _ _ (λz=>nf (by simp[z])) hI1,oth _ _ (Ne.symm hne) ho1,oth _ _ (λz=>nf (by simp[z])) hT1⟩ (λb o nb e=>oth b o nb (up b o e)) hL3⟩
end
section
variable{prog:Program}{w:World}{A:Around}{E:Value→Shared→Prop}{s:Shared}{a L:Addr}{es:Array (Int×Value)}{ep:Nat}{t:SetTable}
theorem Ka{R:List Value→Shared→Prop}(hh:A.handled=none)(hf:t.fits es.size=true)(bt:w.params.followText "set-order"=false)(hd:(!t.plain && decide (es.size>1))=true)(few:es.size≤76)(ho:tm s.heap a es ep t)
  (hR:∀ys d' h' tk acc,List.Perm ys (kA5 es.size)→(∀b o,s.heap.get? b=some o→h'.get? b=some o)→ItemsOf (za6 ys es) acc es.size→R acc.toList {s with heap:=h',toks:=tk,drawn:=d'}):wpAny (model prog w) A (collect (.ref a)) R E s:=by
 have lta:=Heap.lt_size (show s.heap.get? a=some _ from ho);unfold collect;refine wpAny_bind (wpAny_runValue (codeAny_builtin PyProof.Rows.entry_proto_collect' ?_));rw[Around.under_plainId PySem.F.plain_proto_collect _];show wpAny _ A.in1 (newList []>>=λl=>again (.builtin "list.__iadd__" ⟨[l,.ref a],[]⟩)) _ _ s;refine wpAny_bind (wpAny_newObj_type ?_);refine wpAny_pure ⟨plainId_quiet PySem.F.plain_list_iadd _,codeAny_builtin PyProof.Rows.entry_list_iadd' ?_⟩;rw[Around.under_plainId PySem.F.plain_list_iadd _];generalize eh:s.heap.push {cls:=.type "list",data:=.seq ([]:List Value).toArray}=h1;have gL:h1.get? s.heap.objs.size=some {cls:=.type "list",data:=.seq #[]}:=by rw[←eh];exact Heap.get?_push_size _ rfl
 have up:∀b o,s.heap.get? b=some o→h1.get? b=some o:=λb o e=>by rw[←eh];exact Heap.get?_push_of_some _ e
 have key:=Oh (prog:=prog) (w:=w) (A:=A) (s:={s with heap:=h1}) (L:=s.heap.objs.size) (a:=a)
  (R:=λq s1=>∃ys d' h' tk acc c',q=.ok (.ret (.ref s.heap.objs.size))∧s1={s with heap:=h',toks:=tk,drawn:=d'}∧List.Perm ys (kA5 es.size)∧(∀b o,s.heap.get? b=some o→h'.get? b=some o)∧h'.get? s.heap.objs.size=some {cls:=.type "list",dict:=none,data:=.seq acc c',slots:=#[]}∧ItemsOf (za6 ys es) acc es.size)
  hh hf bt hd few (up _ _ ho) (Nat.ne_of_gt lta) (.ref s.heap.objs.size) 0 gL λys d' h' tk acc c' hp hk g ia=>⟨ys,d',h',tk,acc,c',rfl,rfl,hp,λb o e=>hk b o (kAf (Heap.lt_size e)) (up b o e),g,ia⟩
 show wpAny _ A.in1 (Builtin.List.listExtendWith (.ref s.heap.objs.size) (.ref a) (.ref s.heap.objs.size)) _ _ _;refine wpAny_mono key (λfin s1 x=>?_) λe s1 x=>?_
 ·cases fin with
  |done f=>
   obtain⟨ys,d',h',tk,acc,c',e,rfl,hp,hk,g,ia⟩:=x;cases e;show wpAny _ A (load s.heap.objs.size>>=_) _ _ _;refine wpAny_bind (wpAny_load g ?_);exact wpAny_pure (hR ys d' h' tk acc hp hk ia)
  |again c1=>
   refine⟨x.1,codeAny_mono x.2 λq s2 y=>?_⟩;obtain⟨ys,d',h',tk,acc,c',rfl,rfl,hp,hk,g,ia⟩:=y;show wpAny _ A (load s.heap.objs.size>>=_) _ _ _;refine wpAny_bind (wpAny_load g ?_);exact wpAny_pure (hR ys d' h' tk acc hp hk ia)
 ·obtain⟨ys,d',h',tk,acc,c',e,_⟩:=x;cases e
theorem zem(N:NotDr w es t):PySem.W.KdlSrc prog w "set" a a es.size (λi v=>∃e,(mj w a ep es)[i]?=some e∧v=e.2) (λh=>tm h a es ep t) where
 type:=λ_ hm=>⟨_,hm,rfl⟩
 there:=λ_ hm=>⟨Heap.lt_size (show Heap.get? _ a=some _ from hm),Heap.lt_size (show Heap.get? _ a=some _ from hm)⟩
 keep:=λ_ _ hm hk=>hk a (.inl rfl) _ hm
 notList:=by decide
 notTuple:=by decide
 hint:=λ_ _ _ _ hm hq=>Jc ⟨_,hm,rfl⟩ hq
 iter:=λA s hh hm=>⟨_,_,(λ_ _ hq=>Ye N hm hq),V4 hh N (kAf (Heap.lt_size (show Heap.get? _ a=some _ from hm))),⟨by
  have:jq w t 0=0:=by unfold jq;split<;>rfl
  rw[this];exact Heap.get?_push_size _ rfl,Heap.get?_push_of_some _ hm⟩⟩
end
section
variable{prog:Program}{w:World}{A:Around}{E:Value→Shared→Prop}{s:Shared}{a:Addr}
theorem Rn{h:Heap}{l l':List (Int×Value)}(p:l.Perm l'):∀{ks:List az},ElsK prog w h l ks→∃ks',ks'.Perm ks∧ElsK prog w h l' ks':=by
 induction p with
 |nil=>intro ks q;exact⟨ks,List.Perm.refl _,q⟩
 |cons x p ih=>
  intro ks ⟨k,r,e,h1,h2⟩;subst e;obtain⟨r',q1,q2⟩:=ih h2;exact⟨k::r',q1.cons k,k,r',rfl,h1,q2⟩
 |swap x y l=>
  intro ks ⟨k,r,e,h1,k2,r2,e2,h2,h3⟩;subst e;subst e2;exact⟨k2::k::r2,List.Perm.swap _ _ _,k2,k::r2,rfl,h2,k,r2,rfl,h1,h3⟩
 |trans p1 p2 ih1 ih2=>
  intro ks q;obtain⟨k1,q1,q2⟩:=ih1 q;obtain⟨k2,q3,q4⟩:=ih2 q2;exact⟨k2,q3.trans q1,q4⟩
theorem G9{h:Heap}:∀{l:List (Int×Value)}{ks:List az},ElsK prog w h l ks→KeysIn prog w h (l.map (·.2)) ks
 |[],ks,e=>e
 |_::_,_,⟨k,r,e,⟨_,b,e2,e3⟩,h2⟩=>⟨k,r,b,e,e2,e3,G9 h2⟩
theorem Jb{h0:Heap}{T:List az}{R:List Value→Shared→Prop}(hh:A.handled=none)(S:N9 prog w h0 s.heap a T)(few:T.length≤76)
  (hR:∀d' h' tk vs kz,(∀b o,s.heap.get? b=some o→h'.get? b=some o)→List.Perm kz T→KeysIn prog w h0 vs kz→R vs {s with heap:=h',toks:=tk,drawn:=d'}):wpAny (model prog w) A (collect (.ref a)) R E s:=by
 obtain⟨ks,es,ep,t,g,so,el,nd,pm,le,pl⟩:=S;have ln:es.size=T.length:=by rw[←pm.length_eq,←el.len,kAb]
 have hf:t.fits es.size=true:=by
  obtain⟨h1,h2⟩:=so.toTOk.fits;unfold SetTable.fits;rw[kA1];exact⟨by rw[h1];simp,decide_eq_true h2⟩
 have zn:es.size≤sizeLine:=by rw[sizeLine_eq];omega
 have fin:∀(l:List (Int×Value)),l.Perm es.toList→∃kz,List.Perm kz T∧KeysIn prog w h0 (l.map (·.2)) kz:=λl hp=>by
  obtain⟨ks',q1,q2⟩:=Rn hp.symm el;exact⟨ks',q1.trans pm,G9 q2⟩
 by_cases dr:w.params.followText "set-order"=false∧(!t.plain && decide (es.size>1))=true
 ·refine Ka hh hf dr.1 dr.2 (by omega) g λys d' h' tk acc hp hk ia=>?_;have ob:∀i∈ys,i<es.toList.length:=λi hi=>by
   have:=kB1.mp (hp.mem_iff.mp hi);rw[kAb];exact this
  have yl:ys.length=es.size:=by rw[hp.length_eq,kB9]
  have ew:acc.toList=(ys.map λi=>es.toList.getD i (0,.none)).map (·.2):=by
   refine List.ext_getElem? λi=>?_
   by_cases hi:i<acc.size
   ·have hi':acc.toList[i]?=some acc[i]:=by rw[kAw];exact kAz hi
    obtain⟨p,e,e1,e2,e3⟩:=ia.2 i acc[i] (kAz hi);rw[hi',kAs,kAs,e1,e3];rw[←kAw]at e2;simp only[Option.map_some,kB6,e2,Option.getD_some]
   ·rw[kBh (by rw[kAb];omega),kBh (by rw[kA3,kA3,yl,←ia.1];omega)]
  obtain⟨kz,q1,q2⟩:=fin _ (ui (order:=ys) (d:=(0,.none)) (by rw[kAb];exact hp));rw[ew];exact hR d' h' tk _ kz hk q1 q2
 ·have N:NotDr w es t:=⟨hf,so.rise,le,by
   cases bt:w.params.followText "set-order" with
   |true=>exact .inl rfl
   |false=>
    cases e:(!t.plain && decide (es.size>1))with
    |false=>exact .inr rfl
    |true=>exact absurd ⟨bt,e⟩ dr⟩
  refine PySem.W.kdu_collect (zem (ep:=ep) N) hh g zn λh' tk acc hk hacc=>?_;have wl:=(lg w a ep es).length_eq;have ew:acc.toList=(mj w a ep es).toList.map (·.2):=by
   refine List.ext_getElem? λi=>?_
   by_cases hi:i<acc.size
   ·have hi':acc.toList[i]?=some acc[i]:=by rw[kAw];exact kAz hi
    obtain⟨e,e1,e2⟩:=hacc.2 i acc[i] (kAz hi);rw[hi',kAs,kAw,e1,e2];rfl
   ·rw[kBh (by rw[kAb];omega),kBh (by rw[kA3,wl,kAb,←hacc.1];omega)]
  obtain⟨kz,q1,q2⟩:=fin _ (lg w a ep es);rw[ew];exact hR s.drawn h' tk _ kz hk q1 q2
end
noncomputable def Bd(x:Option HO)(o:Obj):Obj:=match x with
 |some (.tup _)=>o
 |_=>{o with data:=.freed}
theorem Pr{x:Option HO}{o:Obj}(h:∀vs,x≠some (.tup vs)):(Bd x o).data=.freed:=by
 unfold Bd;split
 ·rename_i vs;exact absurd rfl (h vs)
 ·rfl
noncomputable def Ei(H:Hp)(h:Heap):Heap:={h with objs:=h.objs.mapIdx λi o=>Bd (H i) o}
theorem Se{h:Heap}{b:Addr}{o:Obj}(e:h.objs[b]?=some o)(hd:o.data≠.freed):h.get? b=some o:=by
 unfold Heap.get?;rw[e];obtain⟨c,d,dt,sl⟩:=o;cases dt<;>first|rfl|exact absurd rfl hd
theorem Sf{h:Heap}{b:Addr}{o:Obj}(e:h.get? b=some o):h.objs[b]?=some o∧o.data≠.freed:=by
 unfold Heap.get? at e;cases ho:h.objs[b]? with
 |none=>rw[ho]at e;cases e
 |some ob=>
  rw[ho]at e;obtain⟨c,d,dt,sl⟩:=ob;cases dt<;>first|(cases e;exact⟨rfl,λz=>nomatch z⟩)|cases e
theorem Wr{H:Hp}{h:Heap}{b:Addr}{o:Obj}{vs:List V}(e:h.get? b=some o)(hb:H b=some (.tup vs)):(Ei H h).get? b=some o:=by
 obtain⟨e1,e2⟩:=Sf e;refine Se ?_ e2;show(h.objs.mapIdx λi o=>Bd (H i) o)[b]?=some o;rw[Array.getElem?_mapIdx,e1];show some (Bd (H b) o)=some o;rw[hb];rfl
theorem Ad{H:Hp}{h:Heap}{b:Addr}{o:Obj}(e:(Ei H h).get? b=some o):h.get? b=some o∧∃vs,H b=some (.tup vs):=by
 obtain⟨e1,e2⟩:=Sf e;have e1':(h.objs.mapIdx λi o=>Bd (H i) o)[b]?=some o:=e1;rw[Array.getElem?_mapIdx]at e1';cases ho:h.objs[b]? with
 |none=>rw[ho]at e1';cases e1'
 |some ob=>
  rw[ho]at e1';have e3:Bd (H b) ob=o:=kAg.inj e1'
  by_cases c:∃vs,H b=some (.tup vs)
  ·obtain⟨vs,hb⟩:=c;rw[hb]at e3;have e4:ob=o:=e3;subst e4;exact⟨Se ho e2,vs,hb⟩
  ·have:=Pr (x:=H b) (o:=ob) λvs z=>c ⟨vs,z⟩;rw[e3]at this;exact absurd this e2
section
variable{P:Program}{w:World}{G H:Hp}{h:Heap}{K:KA}
noncomputable def Ly(H:Hp):Hp:=gT (λ_=>none) H
theorem W3(ok:HOk P w H h):HOk P w (Ly H) (Ei H h):=by
 intro a o e
 by_cases c:∃vs,H a=some (.tup vs)
 ·obtain⟨vs,hb⟩:=c;rw[show Ly H a=some (.tup vs)from wz hb]at e;cases e;obtain⟨z,its,r,ob,e1,e2⟩:=(show ObjOk P w H h a (.tup vs)from ok a _ hb);exact⟨z,its,r,ob,Wr e1 hb,e2⟩
 ·rw[show Ly H a=none from Ep λvs z=>c ⟨vs,z⟩]at e;cases e
theorem Xe(ok:HOk P w H h){k:az}{b:Addr}(q:TkAt H k b):cx P w (Ei H h) k b:=Ao (W3 ok) (q.mono λb xs e=>wz e)
theorem Ux{x:V}{b:Addr}(r:RelV x (.ref b)):x=.ref b:=by
 cases x<;>first|(cases r;rfl)|(obtain⟨_,z⟩:=r;cases z)|cases r
theorem Mz{k:fo}{x:V}{v:Value}(e:(bq P w).is k v=true)(r:RelV x v):x=kV k:=by
 rcases cq e with ⟨i,t,rfl,rfl⟩|⟨y,t,rfl,rfl⟩
 ·cases x<;>first|(obtain⟨_,z⟩:=r;cases z;rfl)|(obtain⟨_,z⟩:=r;cases z)|cases r
 ·cases x<;>first|(obtain⟨_,z⟩:=r;cases z;rfl)|(obtain⟨_,z⟩:=r;cases z)|cases r
theorem An:∀{ks:List fo}{us:List Value}{xs:List V},ItemsAre (bq P w) ks us→Vals xs us→xs=ks.map kV
 |_,_,_,.nil,r=>by cases r;rfl
 |_,_,_,.cons h1 t1,r=>by
  cases r with
  |cons h2 t2=>rw[Mz h1 h2,An t1 t2,kA4]
theorem Vv(ok:HOk P w H h){ks:List fo}{b:Addr}(q:IsTupleKey (bq P w) (Ei H h) ks b):H b=some (.tup (ks.map kV)):=by
 obtain⟨o,items,n,e,hc,hd,hi⟩:=q;obtain⟨e1,vs,hb⟩:=Ad e;obtain⟨_,its,r,ob,e2,hc2,n2,hd2⟩:=(show ObjOk P w H h b (.tup vs)from ok b _ hb);rw[e1]at e2;cases e2;rw[hd]at hd2;cases hd2;rw[hb,An (by simpa using hi) r]
theorem Il(ok:HOk P w H h):∀{ks:az}{vs:List V}{us:List Value},NItems P w (Ei H h) ks us→Vals vs us→NkL H ks vs
 |[],vs,us,e,r=>by rw[show us=[]from e]at r;cases r;rfl
 |k::ks,vs,us,⟨v,t,e,q,e2⟩,r=>by
  subst e;cases r with
  |cons h1 t1=>
   refine⟨_,_,rfl,?_,Il ok e2 t1⟩;cases k with
   |inl k=>exact Mz q h1
   |inr ys=>obtain⟨b,rfl,q⟩:=q;exact⟨b,Ux h1,Vv ok q⟩
theorem Sz(ok:HOk P w H h){ks:az}{b:Addr}(q:cx P w (Ei H h) ks b):TkAt H ks b:=by
 obtain⟨o,items,n,e,hc,hd,hi⟩:=q;obtain⟨e1,vs,hb⟩:=Ad e;obtain⟨_,its,r,ob,e2,hc2,n2,hd2⟩:=(show ObjOk P w H h b (.tup vs)from ok b _ hb);rw[e1]at e2;cases e2;rw[hd]at hd2;cases hd2;exact⟨vs,hb,Il ok (by simpa using hi) r⟩
theorem As{h0:Heap}(hp:∀k b,cx P w h0 k b→TkAt H k b):∀{us:List Value}{kz:List az},KeysIn P w h0 us kz→∃vs,Vals vs us∧DenL K (gT G H) (kz.map kT) vs
 |[],kz,e=>by rw[show kz=[]from e];exact⟨[],.nil,rfl⟩
 |_::_,_,⟨k,r,b,e1,e2,q,t⟩=>by
  subst e1 e2;obtain⟨vs,h1,h2⟩:=As hp t;exact⟨.ref b::vs,.cons rfl h1,⟨_,_,rfl,zbs (hp k b q),h2⟩⟩
noncomputable def KzV(H:Hp):List V→List az→Prop
 |[],kz=>kz=[]
 |v::vs,kz=>∃k r b,kz=k::r∧v=.ref b∧TkAt H k b∧KzV H vs r
theorem Dl(ok:HOk P w H h):∀{vs:List V}{us:List Value}{kz:List az},KzV H vs kz→Vals vs us→KeysIn P w (Ei H h) us kz
 |[],us,kz,e,r=>by cases r;exact e
 |v::vs,us,kz,⟨k,r',b,e1,e2,q,t⟩,r=>by
  subst e1 e2;cases r with
  |cons h1 t1=>exact⟨k,r',b,rfl,h1,Xe ok q,Dl ok t t1⟩
noncomputable def mn:List D→Option (List az)
 |[]=>some []
 |d::ds=>match jh d,mn ds with
  |some k,some r=>some (k::r)
  |_,_=>none
theorem zal(sg:Same G H):∀{ds:List D}{vs:List V}{kz:List az},DenL K G ds vs→mn ds=some kz→KzV H vs kz
 |[],vs,kz,dl,e=>by cases e;rw[show vs=[]from dl];rfl
 |d::ds,vs,kz,⟨v,vr,e1,dv,dr⟩,e=>by
  subst e1;unfold mn at e;cases h1:jh d with
  |none=>rw[h1]at e;cases e
  |some k=>
   cases h2:mn ds with
   |none=>rw[h1,h2]at e;cases e
   |some r=>
    rw[h1,h2]at e;cases e;cases d with
    |tup es=>
     obtain⟨b,ws,rfl,hb,dw⟩:=dv;exact⟨k,r,b,rfl,rfl,TkAt.mono (λb xs z=>sg b _ z) ⟨ws,hb,Ae dw h1⟩,zal sg dr h2⟩
    |_=>cases h1
noncomputable def oo(d:D):Option D:=match d with
 |.lst ds=>(mn ds).bind λkz=>if(mw kz).length≤76 then(ko ((mw kz).map kT)).map .lst else none
 |_=>none
noncomputable def om(d:D):Option D:=oo d
end
section
variable{X:Cx}
def zfm(X:Cx)(H0:Hp)(p:Addr)(T:List az)(h:Heap):Prop:=∃h0,N9 X.prog X.w h0 h p T∧∀k b,cx X.prog X.w h0 k b→TkAt H0 k b
noncomputable def W0(X:Cx)(H0:Hp)(p:Addr)(T:List az):HO:=.ext (zfm X H0 p T)
noncomputable def Us(X:Cx):List V→Hp→VK→Prop:=λxs H Q=>∃a vs kz,xs=[.ref a]∧SqL X.K H a vs∧KzV H vs kz∧(mw kz).length≤76∧∀p,H p=none→Q (.ref p) (upd H p (W0 X H p (mw kz)))
theorem J6(hc:X.calm=true)(hu:X.A.units+12<cLine):CallR X (.type "set") (Us X):=by
 intro pins s σ H xs us Q I r q;obtain⟨a,vs,kz,rfl,sq,kv,sm,q⟩:=q;obtain⟨u,rfl,ru⟩:=we r;cases ru;obtain⟨its,rv,pl,_⟩:=I.list sq;refine Od (h0:=Ei H s.heap) hu (I.ok.hd hc) pl.isList (by simpa using Dl I.hok kv rv) (λc o e=>(Ad e).1) sm λh' tk hS hk=>?_;refine⟨.ref s.heap.objs.size,_,I.laid (a:=s.heap.objs.size) (o:=W0 X H s.heap.objs.size (mw kz)) (t':=tk) (λb o e=>hk b o (Heap.lt_size e) e) (kA0 _) ?_,rfl,q _ (I.hok.fresh (kA0 _))⟩;refine⟨⟨_,hS,λk b z=>Sz I.hok z⟩,?_,λh1 h2 ⟨h0,x,y⟩ k=>⟨h0,?_,y⟩⟩
 ·obtain⟨ks,es,ep,t,g,_⟩:=hS;exact⟨_,g⟩
 ·obtain⟨ks,es,ep,t,g,z⟩:=x;exact⟨ks,es,ep,t,k _ g,z⟩
noncomputable def Ld(X:Cx):List V→Hp→VK→Prop:=λxs H Q=>∃p T H0 G ds',xs=[.ref p]∧H p=some (W0 X H0 p T)∧(∀b ys,H0 b=some (.tup ys)→H b=some (.tup ys))∧Same G H∧T.length≤76∧ko (T.map kT)=some ds'∧∀q vs',H q=none→DenL (kx X) (gT G H) ds' vs'→Q (.ref q) (upd H q (.lst vs'))
theorem Gk(hu:X.A.units+5<cLine)(hc:X.calm=true):CallR X (.builtin "sorted") (Ld X):=by
 intro pins s σ H xs us Q I r q;obtain⟨p,T,H0,G,ds',rfl,hp,ht,sg,few,es,q⟩:=q;obtain⟨u,rfl,ru⟩:=we r;cases ru;obtain⟨⟨h0,hS,hk0⟩,_,_⟩:=I.hok p _ hp;refine Jk (G:=gT G H) hu I (Ru sg).gh (λQ' E' hq=>?_) q;refine Jb (I.ok.hd hc) hS few λd' h' tk vs kz k1 pm ki=>?_;obtain⟨ys,rx,dl⟩:=As (K:=kx X) (G:=G) (H:=H) (λk b z=>(hk0 k b z).mono ht) ki;exact hq d' h' tk vs ys (kz.map kT) k1 rx dl (Lk ((pm.map kT).symm) es)
end
section
variable{X:Cx}{B:Hp}{E:EK}{e:Expr}{g:En→Res}{pos p pos' p':Pos}
theorem Ll{H G:Hp}{dx d:D}{x:V}{Q:VK}(sg:Same G H)(ax:Arg (kx X) G H dx x)(ed:oo dx=some d)(q:∀v G' H',Ext G H G' H'→Den (kx X) G' d v→Q v H'):
  Us X [x] H λx H1=>Ld X [x] H1 Q:=by
 cases dx with
 |lst ds=>
  have ed1:((mn ds).bind λkz=>if(mw kz).length≤76 then(ko ((mw kz).map kT)).map D.lst else none)=some d:=ed;cases hk:mn ds with
  |none=>rw[hk]at ed1;cases ed1
  |some kz=>
   rw[hk]at ed1;have ed2:(if(mw kz).length≤76 then(ko ((mw kz).map kT)).map D.lst else none)=some d:=ed1
   by_cases few:(mw kz).length≤76
   ·rw[if_pos few]at ed2;cases e2:ko ((mw kz).map kT)with
    |none=>rw[e2]at ed2;cases ed2
    |some ds'=>
     rw[e2]at ed2;cases ed2;obtain⟨a,vs,rfl,sq,dl⟩:=ax.lst sg;refine⟨a,vs,kz,rfl,sq,zal sg dl hk,few,λp hp=>?_⟩;have x1:=Ext.own sg (W0 X H p (mw kz)) hp;refine⟨p,mw kz,H,G,ds',rfl,cb,λb ys e=>?_,x1.gh,few,e2,λq' vs' hq' d'=>?_⟩
     ·rw[bp (cn e hp)];exact e
     ·have x2:=Ru x1.gh;exact q _ _ _ (x1.trans (x2.trans (Ext.new x2.gh (.lst vs') hq'))) (pq x2.gh hq' d')
   ·rw[if_neg few]at ed2;cases ed2
 |_=>cases ed
theorem Pz(hu:X.A.units+12<cLine)(hc:X.calm=true)(hg:Gl X "sorted")(hm:X.mg "sorted"=none)(hg':Gl X "set")(hm':X.mg "set"=none)(ha:iz X B E e g)(he:starEach [e] X.env=(false,eval e X.env)::starEach [] X.env):
  ff X B E (.Call (.Name "sorted" p) [.Call (.Name "set" p') [e] [] pos'] [] pos) (g1 oo g):=
 PE.imp (qr (Gk (by omega) hc) hg hm PyProof.Rows.boot_sorted (mf (m7 (J6 hc hu) hg' hm' PyProof.Rows.boot_set (jx ha kc he) (by decide) (by decide) he rfl) Bc rfl) (by decide) (by decide) rfl rfl) λσ H Q q=>
  cb1 (rr:=λxs H Q=>Us X xs H λx H1=>Ld X [x] H1 Q) (λG H x dx d sg ax ed Q q=>Ll sg ax ed q) q
end
end Pu
end
section
namespace Pu
open PySem PySem.Spec PyProof.Rows L2 PySem.SeqAt PySem.W
def B64(p:Array Nat):Prop:=∀i,At p i<64
section
variable{prog:Program}{w:World}{A:Around}{E:Value→Shared→Prop}{s:Shared}{κ:SortKind}{item:Nat→Keyed}{cmp:Nat→Nat→Bool}{p:Array Nat}{pend:Array (Nat×Nat×Nat)}{g:Nat}
theorem B64.bub(hp:B64 p)(h0:0<p.size)(i d:Nat):B64 (bubble p i d):=λj=>by
 by_cases hj:j<(bubble p i d).size
 ·rw[zr hj];have:(bubble p i d)[j]∈p.toList:=(Array.perm_iff_toList_perm.mp (bubble_perm p i d)).mem_iff.mp (by simp);obtain⟨k,hk,e⟩:=List.mem_iff_getElem.mp this;have:=hp k;rw[zr (by simpa using hk)]at this;rw[←e];simpa using this
 ·unfold At;rw[Array.getD,dif_neg hj];omega
end
structure ExtB(k:Addr)(G H G' H':Hp):Prop where
 gg:Same G G'
 hh:∀b o,b≠k→H b=some o→H' b=some o
 gh:Same G' H'
 fr:∀a o,a≠k→H a=some o→G a=none→nfz o=true→G' a=none
theorem ExtB.trans{k:Addr}{G H G1 H1 G2 H2:Hp}(a:ExtB k G H G1 H1)(b:ExtB k G1 H1 G2 H2):ExtB k G H G2 H2:=
 ⟨a.gg.trans b.gg,λc o n e=>b.hh c o n (a.hh c o n e),b.gh,λc o n e q z=>b.fr c o n (a.hh c o n e) (a.fr c o n e q z) z⟩
end Pu
end
section
namespace Pu
open PySem PySem.Spec PyProof.Rows L2
section
variable{prog:Program}{w:World}{A:Around}{E:Value→Shared→Prop}{s:Shared}
structure ZAt(h:Heap)(z TI TO i1 i2 l1 l2 k:Nat)(f0:Value):Prop where
 hz:IsZip h z TI TO f0
 hI:IsPair h TI (.ref i1) (.ref i2)
 hO:∃a b,IsPair h TO a b
 h1:IsTupIter h i1 l1 k
 h2:IsTupIter h i2 l2 k
end
theorem ZAt.at{h h':Heap}{z TI TO i1 i2 l1 l2 k:Nat}{f0:Value}(Z:ZAt h z TI TO i1 i2 l1 l2 k f0)(e:∀b∈[z,TI,TO,i1,i2],∀o,h.get? b=some o→h'.get? b=some o):ZAt h' z TI TO i1 i2 l1 l2 k f0:=
 ⟨e z (by simp) _ Z.hz,e TI (by simp) _ Z.hI,let ⟨a,b,q⟩:=Z.hO;⟨a,b,e TO (by simp) _ q⟩,let ⟨o,q,r⟩:=Z.h1;⟨o,e i1 (by simp) o q,r⟩,let ⟨o,q,r⟩:=Z.h2;⟨o,e i2 (by simp) o q,r⟩⟩
theorem ZAt.there{h:Heap}{z TI TO i1 i2 l1 l2 k:Nat}{f0:Value}(Z:ZAt h z TI TO i1 i2 l1 l2 k f0):∀b∈[z,TI,TO,i1,i2],∃o,h.get? b=some o∧∀v,o.data≠.cell v:=λb hb=>by
 obtain⟨hz,hI,⟨a,c,hO⟩,⟨o1,q1,_,d1⟩,⟨o2,q2,_,d2⟩⟩:=Z;have:b=z∨b=TI∨b=TO∨b=i1∨b=i2:=by simpa using hb
 rcases this with rfl|rfl|rfl|rfl|rfl
 ·exact⟨_,hz,λv z=>by have z':Data.fields _=Data.cell v:=z;cases z'⟩
 ·exact⟨_,hI,λv z=>by have z':Data.seq _ _=Data.cell v:=z;cases z'⟩
 ·exact⟨_,hO,λv z=>by have z':Data.seq _ _=Data.cell v:=z;cases z'⟩
 ·exact⟨_,q1,λv z=>by rw[d1]at z;cases z⟩
 ·exact⟨_,q2,λv z=>by rw[d2]at z;cases z⟩
noncomputable def Qy:Operator→Option (D→D→Option D)
 |.Add=>some cu
 |.Sub=>some s9
 |.Mult=>some g7
 |.Mod=>some nh
 |.FloorDiv=>some um
 |.Pow=>some Nq
 |_=>none
theorem zdh{X:Cx}{B:Hp}{E:EK}{a b:Expr}{g h:En→Res}{pos:Pos}{op:Operator}{f:D→D→Option D}(hf:Qy op=some f)(ha:iz X B E a g)(hb:iz X B E b h):ff X B E (.BinOp a op b pos) (g2 f g h):=by
 cases op<;>cases hf
 ·exact zde ha hb
 ·exact zdu ha hb
 ·exact zdo ha hb
 ·exact zdn ha hb
 ·exact zds ha hb
 ·exact Ys ha hb
noncomputable def U7:List Bool→List ((En→Res)×(En→Res))→En→ResL
 |[],[]=>bx
 |m::ms,p::ps=>ae (if m then p.1 else p.2) (U7 ms ps)
 |_,_=>zby
theorem Nv{ev:Ev}{C:SC}:∀{ms:List Bool}{es:List Expr},U7 ms (es.map λe=>(ju ev C e,ev C e))=Hg ev C ms es
 |[],[]=>rfl
 |[],_::_=>rfl
 |_::_,[]=>rfl
 |m::ms,e::es=>by
  show ae (if m then ju ev C e else ev C e) (U7 ms (es.map λe=>(ju ev C e,ev C e)))=ae (if m then ju ev C e else ev C e) (Hg ev C ms es);rw[Nv]
noncomputable def Ak(T:GT)(i:Nat)(ps:List ((En→Res)×(En→Res))):En→Res:=λδ=>match af i δ with
 | .ok (.fn y) => (match T.fns y with
  |some s=>dq s.f (U7 s.ms ps) δ
  |none=>.st)
 |_=>.st
noncomputable def Ke(T:GT)(ev:Ev)(C:SC)(i:Nat)(args:List Expr):En→Res:=Ak T i (args.map λe=>(ju ev C e,ev C e))
section
variable{T:GT}{ev tv:Ev}{X:Cx}{C:SC}{B:Hp}{E:XK}{pos p:Pos}{x:Str}{e a:Expr}{es:List Expr}
theorem Q2(h:fw T ev)(O:XOk X C T E){i:Nat}(hs:slot C x=some i)(hn:(e::es).all gi=true):ff X B (ek (kx X) E) (.Call (.Name x p) (e::es) [] pos) (Ke T ev C i (e::es)):=by
 intro pins s σ H Q I ⟨G,δ,R,q⟩;unfold Ke Ak at q;cases ea:af i δ with
 |er c=>rw[ea]at q;exact q.elim
 |st=>rw[ea]at q;exact q.elim
 |ok d=>
  rw[ea]at q;cases d with
  |fn y=>
   dsimp only at q;cases ef:T.fns y with
   |none=>rw[ef]at q;exact q.elim
   |some sp=>
    rw[ef]at q;dsimp only at q;rw[Nv]at q;obtain⟨k,f,fd,ps,hr,hm,hk,hb,F⟩:=O.fns y sp ef;obtain⟨v,q1,q2⟩:=R.arg ea;have ev':v=.ref f:=by rw[q2.fn];show V.ref (yz X.mg y)=_;rw[o8 hm]
    subst ev';have hn':=hn;rw[kAm,kA1]at hn';refine wpAny_Call_Name_kw (gx (O.var hs pins s σ H (λv H1=>v=.ref f∧H1=H) I ⟨_,q1,rfl,rfl⟩) λu s1 ⟨v,H1,I1,r1,e1,e2⟩=>?_);subst e1 e2;cases r1;refine PySem.W.callWith_K (h₀:=X.base) I.ok.mod.kin hk (gx (se (B:=B) (E:=E) h O (ms:=sp.ms) hn pos pins s1 σ H1 (λvs H2=>Lo (kx X) sp.ms sp.f vs H2 Q E) I1 ⟨G,δ,R,(Q1 q).mono λds _ q vs G1 H2 e1 al=>
     ⟨al.length.2,R.gb.same (R.bh.trans e1.hh),G1,ds,e1.gh,al,(q.ext e1).mono λd _ q v G' H' e2 dn=>q v G' H' (e1.trans e2) dn⟩⟩) λus s2 ⟨vs,H2,I2,r,q2⟩=>⟨I2.kIn,?_⟩) (bj hn'.1) (kq hn'.2)
    exact Lg (dvs:=[]) F hr hb .nil O.goes I2 r (by rw[kB0];exact q2)
  |_=>exact q.elim
end
noncomputable def bi1(x:Str):Option (D→Option D):=
 if x="len" then some cy else if x="list" then some fi else if x="tuple" then some j4 else if x="int" then some Uq else if x="all" then some sv else none
section
variable{X:Cx}{B:Hp}{E:EK}{e a b:Expr}{es:List Expr}{g h:En→Res}{pos p:Pos}{x:Str}
theorem zbk{C:SC}{T:GT}{f:D→Option D}{E':XK}(O:XOk X C T E')(hf:bi1 x=some f)(hg:Gl X x)(hn:gi e=true)(ha:iz X B E e g):ff X B E (.Call (.Name x p) [e] [] pos) (g1 f g):=by
 unfold bi1 at hf
 by_cases h1:x="len"
 ·rw[if_pos h1]at hf;cases hf;subst h1;exact zdl hg (O.bl _ (by decide)) ha (bj hn) rfl
 rw[if_neg h1]at hf
 by_cases h1:x="list"
 ·rw[if_pos h1]at hf;cases hf;subst h1;exact M9 (Bb O.calm hg (O.bl _ (by decide)) ha hn) Ow
 rw[if_neg h1]at hf
 by_cases h1:x="tuple"
 ·rw[if_pos h1]at hf;cases hf;subst h1;exact Um hg (O.bl _ (by decide)) ha (bj hn) rfl
 rw[if_neg h1]at hf
 by_cases h1:x="int"
 ·rw[if_pos h1]at hf;cases hf;subst h1;exact Yv hg (O.bl _ (by decide)) ha (bj hn) rfl
 rw[if_neg h1]at hf
 by_cases h1:x="all"
 ·rw[if_pos h1]at hf;cases hf;subst h1;exact zdf O.calm hg (O.bl _ (by decide)) ha (bj hn)
 rw[if_neg h1]at hf;cases hf
noncomputable def M0(x:Str):Option String:=
 if x="int" then some "int" else if x="bool" then some "bool" else if x="str" then some "str" else if x="list" then some "list" else if x="tuple" then some "tuple" else none
theorem Xg{C:SC}{T:GT}{y:Str}{c:String}{p2:Pos}{E':XK}(O:XOk X C T E')(hf:M0 y=some c)(hg:Gl X "isinstance")(hg2:Gl X y)(hn:gi e=true)(ha:iz X B E e g):ff X B E (.Call (.Name "isinstance" p) [e,.Name y p2] [] pos) (g1 (cc c) g):=by
 have he:starEach [e,.Name y p2] X.env=(false,eval e X.env)::starEach [.Name y p2] X.env:=bj hn;unfold M0 at hf
 by_cases h1:y="int"
 ·rw[if_pos h1]at hf;cases hf;subst h1;exact Bg Xh hg (O.bl _ (by decide)) hg2 (O.bl _ (by decide)) PyProof.Rows.boot_int ha (by decide) (by decide) he rfl rfl
 rw[if_neg h1]at hf
 by_cases h1:y="bool"
 ·rw[if_pos h1]at hf;cases hf;subst h1;exact Bg S0 hg (O.bl _ (by decide)) hg2 (O.bl _ (by decide)) PyProof.Rows.boot_bool ha (by decide) (by decide) he rfl rfl
 rw[if_neg h1]at hf
 by_cases h1:y="str"
 ·rw[if_pos h1]at hf;cases hf;subst h1;exact Bg Xi hg (O.bl _ (by decide)) hg2 (O.bl _ (by decide)) PyProof.Rows.boot_str ha (by decide) (by decide) he rfl rfl
 rw[if_neg h1]at hf
 by_cases h1:y="list"
 ·rw[if_pos h1]at hf;cases hf;subst h1;exact Bg S3 hg (O.bl _ (by decide)) hg2 (O.bl _ (by decide)) PyProof.Rows.boot_list ha (by decide) (by decide) he rfl rfl
 rw[if_neg h1]at hf
 by_cases h1:y="tuple"
 ·rw[if_pos h1]at hf;cases hf;subst h1;exact Bg O5 hg (O.bl _ (by decide)) hg2 (O.bl _ (by decide)) PyProof.Rows.boot_tuple ha (by decide) (by decide) he rfl rfl
 rw[if_neg h1]at hf;cases hf
end
noncomputable def Fw(C:SC)(n:Str)(a:Expr):Option Expr:=match a with
 |.Call (.Name y _) [e] [] _=>if decide (y=n) && decide (slot C y=none) && o6 C y && gi e then some e else none
 |_=>none
noncomputable def Lp(ev:Ev)(C:SC)(x:Str)(args:List Expr):En→Res:=match args with
 | [a] => (match Fw C "set" a with
  |some e=>if x="sorted" then g1 om (ju ev C e)else ja
  | none => (match bi1 x with
    |some f=>if gi a then g1 f (ju ev C a)else ja
    |none=>ja))
 | [a, .Name y _] => if x = "isinstance" then (match M0 y with
   |some c=>if gi a && o6 C y then g1 (cc c) (ju ev C a)else ja
   |none=>ja)else ja
 |_=>ja
noncomputable def nq(T:GT)(ev:Ev)(C:SC)(x:Str)(args:List Expr):En→Res:=match slot C x with
 | some i => (match args with
  |[]=>ja
  |e::es=>if(e::es).all gi then Ke T ev C i (e::es)else ja)
 | none => if o6 C x then (match T.fns x with
  | some s => (match args with
   |[]=>if s.ms=[]then(λ_=>s.f [])else ja
   |e::es=>if(e::es).all gi then dq s.f (Hg ev C s.ms (e::es))else ja)
  |none=>Lp ev C x args)else ja
section
variable{T:GT}{ev tv:Ev}{X:Cx}{C:SC}{B:Hp}{E:XK}{pos p:Pos}{x:Str}{e a:Expr}{es:List Expr}
theorem Qa{n:Str}(O:XOk X C T E)(h:Fw C n a=some e):∃p pos,a=.Call (.Name n p) [e] [] pos∧Gl X n∧gi e=true:=by
 unfold Fw at h;split at h
 ·rename_i y p e' pos;split at h
  ·rename_i c;cases h;simp only[kA1,decide_eq_true_eq]at c;obtain⟨⟨⟨rfl,_⟩,h3⟩,h4⟩:=c;exact⟨p,pos,rfl,(O.gl h3).1,h4⟩
  ·cases h
 ·cases h
theorem zfq(h:fw T ev)(O:XOk X C T E)(hg:Gl X x){args:List Expr}:ff X B (ek (kx X) E) (.Call (.Name x p) args [] pos) (Lp ev C x args):=by
 unfold Lp;split
 ·rename_i a;cases hs:Fw C "set" a with
  |some e=>
   dsimp only;obtain⟨p2,pos2,rfl,hg2,hn⟩:=Qa O hs
   by_cases h1:x="sorted"
   ·subst h1;rw[if_pos rfl];exact Pz (by have:=O.units;omega) O.calm hg (O.bl _ (by decide)) hg2 (O.bl _ (by decide)) (di h O e) (bj hn)
   ·rw[if_neg h1];exact dh
  |none=>
   dsimp only;cases hf:bi1 x with
   |none=>exact dh
   |some f=>
    dsimp only
    by_cases hn:gi a=true
    ·rw[if_pos hn];exact zbk O hf hg hn (di h O a)
    ·rw[if_neg hn];exact dh
 ·rename_i a y p2
  by_cases hx:x="isinstance"
  ·subst hx;rw[if_pos rfl];cases hf:M0 y with
   |none=>exact dh
   |some c=>
    dsimp only
    by_cases hn:(gi a && o6 C y)=true
    ·rw[if_pos hn];rw[kA1]at hn;exact Xg O hf hg (O.gl hn.2).1 hn.1 (di h O a)
    ·rw[if_neg hn];exact dh
  ·rw[if_neg hx];exact dh
 ·exact dh
theorem Wm(h:fw T ev)(O:XOk X C T E){args:List Expr}:ff X B (ek (kx X) E) (.Call (.Name x p) args [] pos) (nq T ev C x args):=by
 unfold nq;cases hs:slot C x with
 |some i=>
  cases args with
  |nil=>exact dh
  |cons e es=>
   dsimp only
   by_cases hn:(e::es).all gi=true
   ·rw[if_pos hn];exact Q2 h O hs hn
   ·rw[if_neg hn];exact dh
 |none=>
  dsimp only
  by_cases hg:o6 C x=true
  ·rw[if_pos hg];obtain⟨g1,g2⟩:=O.gl hg;cases ef:T.fns x with
   |none=>exact zfq h O g1
   |some s=>
    obtain⟨k,f,fd,ps,hr,hm,hk,hb,F⟩:=O.fns x s ef;cases args with
    |nil=>
     dsimp only
     by_cases hms:s.ms=[]
     ·rw[if_pos hms];rw[hms]at F;exact Ui F hr g1 hm hk hb O.goes g2
     ·rw[if_neg hms];exact dh
    |cons e es=>
     dsimp only
     by_cases hn:(e::es).all gi=true
     ·rw[if_pos hn];have hn':=hn;rw[kAm,kA1]at hn';exact Yr F hr g1 hm hk hb O.goes (se h O hn) g2 (bj hn'.1) (kq hn'.2)
     ·rw[if_neg hn];exact dh
  ·rw[if_neg hg];exact dh
end
noncomputable def ri(C:SC)(x:Str):Bool:=decide (x="range") && decide (slot C x=none) && o6 C x
noncomputable def Fz(ev:Ev)(C:SC)(iter:Expr):En→ResL:=match iter with
 |.Call (.Name x _) [a] [] _=>if ri C x && gi a then iq (Hg ev C [true] [a])else ie (ju ev C iter)
 |_=>ie (ju ev C iter)
noncomputable def zbx(ev:Ev)(C:SC)(e:Expr):En→Res:=match e with
 | .Name x _ => (match slot C x with
  |some i=>gBo i
  |none=>ev C e)
 |_=>ev C e
noncomputable def Vi(ev:Ev)(C:SC)(iter:Expr):En→ResL:=match iter with
 |.Call (.Name x _) [a] [] _=>if ri C x && gi a then iq (Hg ev C [true] [a])else ie (zbx ev C iter)
 |_=>ie (zbx ev C iter)
section
variable{T:GT}{ev tv:Ev}{X:Cx}{C:SC}{B:Hp}{E:XK}{pos p:Pos}{x:Str}{e a tg:Expr}{es:List Expr}
theorem Z9(h:fw T ev)(O:XOk X C T E)(e:Expr):BoE X B (ek (kx X) E) e (zbx ev C e):=by
 have d:BoE X B (ek (kx X) E) e (ev C e):=zfs (h X C B E e O);cases e with
 |Name x p=>
  show BoE X B _ _ (match slot C x with
   |some i=>gBo i
   |none=>ev C (.Name x p))
  cases es:slot C x with
  |none=>exact d
  |some i=>exact zbp i (O.var es)
 |_=>exact d
theorem I8(O:XOk X C T E){x:Str}(h:ri C x=true):x="range"∧Gl X "range"∧X.mg "range"=none:=by
 unfold ri at h;simp only[kA1,decide_eq_true_eq]at h;obtain⟨⟨h1,h2⟩,h3⟩:=h;subst h1;exact⟨rfl,(O.gl h3).1,O.bl _ (by decide)⟩
theorem zkb(h:fw T ev)(O:XOk X C T E)(e:Expr):PuI X B (ek (kx X) E) tg e (Vi ev C e):=by
 unfold Vi;split
 ·rename_i x _ a _
  by_cases hc:(ri C x && gi a)=true
  ·rw[if_pos hc];rw[kA1]at hc;obtain⟨rfl,g1,g2⟩:=I8 O hc.1;exact Ni g1 g2 (se h O (by rw[kAm,hc.2];rfl)) (bj hc.2)
  ·rw[if_neg hc];exact T4 (Z9 h O _)
 ·exact T4 (Z9 h O _)
noncomputable def Lq(ev:Ev)(C:SC)(tg iter:Expr):En→ResL:=Vi ev C iter
theorem zf7(h:fw T ev)(O:XOk X C T E)(e:Expr):PuI X B (ek (kx X) E) tg e (Lq ev C tg e):=by
 exact zkb h O e
theorem zah(h:fw T ev)(O:XOk X C T E)(e:Expr):N8 X B (ek (kx X) E) tg e (Fz ev C e):=by
 unfold Fz;split
 ·rename_i x _ a _
  by_cases hc:(ri C x && gi a)=true
  ·rw[if_pos hc];rw[kA1]at hc;obtain⟨rfl,g1,g2⟩:=I8 O hc.1;exact zc7 (Ni g1 g2 (se h O (by rw[kAm,hc.2];rfl)) (bj hc.2))
  ·rw[if_neg hc];exact Nk (di h O _)
 ·exact Nk (di h O _)
end
noncomputable def Nx(ev:Ev)(C:SC)(o:Expr)(m:Str)(args:List Expr):En→Res:=match args with
 |[a]=>if xc o && gi a then(if m="index" then gM j0 (ju ev C o) (ju ev C a)else ja)else ja
 |[a,b]=>if xc o && gi a && gi b then(if m="get" then u9 (ju ev C o) (ju ev C a) (ev C b)else ja)else ja
 |_=>ja
theorem zkf{T:GT}{ev:Ev}{X:Cx}{C:SC}{B:Hp}{E:XK}(h:fw T ev)(O:XOk X C T E){o:Expr}{m:Str}{ap cp:Pos}{args:List Expr}(hl:(ap.endLine==cp.line)=true):ff X B (ek (kx X) E) (.Call (.Attribute o m ap) args [] cp) (Nx ev C o m args):=by
 unfold Nx;split
 ·rename_i a
  by_cases hc:(xc o && gi a)=true
  ·rw[if_pos hc];rw[kA1]at hc
   by_cases hm:m="index"
   ·subst hm;rw[if_pos rfl];exact Uk O.units (di h O o) (di h O a) hc.1 hc.2 hl
   ·rw[if_neg hm];exact dh
  ·rw[if_neg hc];exact dh
 ·rename_i a b
  by_cases hc:(xc o && gi a && gi b)=true
  ·rw[if_pos hc];rw[kA1,kA1]at hc;obtain⟨⟨h1,h2⟩,h3⟩:=hc
   by_cases hm:m="get"
   ·subst hm;rw[if_pos rfl];have hu:X.A.units+5<cLine:=by have:=O.units;omega
    exact Yt hu (di h O o) (di h O a) (h X C B E b O) ⟨yh h1,by rw[q8 (by rw[kAm,kAm,h2,h3];rfl)];rfl,hl,Jl h2 h3⟩
   ·rw[if_neg hm];exact dh
  ·rw[if_neg hc];exact dh
 ·exact dh
noncomputable def kr(ev tv:Ev)(C:SC)(elt:Expr)(gens:List Comprehension)(scope:Scope):En→Res:=match gens with
 | [⟨.Name x _, iter, ifs, 0⟩] => if wt C scope [x] && md iter then (match slots C (fq scope.names) with
  | some ix => (match ifs with
   |[]=>gp (Fz ev C iter) ix (gC (.bl true)) (ev (t5 C scope [x]) elt)
   |[c]=>gp (Fz ev C iter) ix (tv (t5 C scope [x]) c) (ev (t5 C scope [x]) elt)
   |_=>ja)
  |none=>ja)else ja
 |_=>ja
inductive CompV(X:Cx)(B:Hp)(E:EK)(elt:Expr)(gens:List Comprehension)(scope:Scope)(G:En→Res):Prop
 |st (h:G=ja)
 |ok {tg iter:Expr} {ifs:List Expr} {xs M:List Str} {ix:List Nat} {td:D→Option (List D)} {t g:En→Res} {r:En→ResL} {f:En→D→Option (Option D)} (eg:gens=[⟨tg,iter,ifs,0⟩]) (eG:G=t9 r f)
  (st:X.Ok→∃cl,CompOk X scope cl xs M ix∧BlockOk X B E scope cl xs M tg td elt ifs t g) (hF:∀δ,F9 td (lx ix δ) t g (f δ)) (hi:N8 X B E tg iter r) (hs:∀x,foldedSetIterable iter X.env x=pure x)
section
variable{T:GT}{ev tv:Ev}{X:Cx}{C:SC}{B:Hp}{E:XK}{pos p:Pos}{elt:Expr}
theorem zab(h:fw T ev)(ht:B6 T tv)(O:XOk X C T E){gens:List Comprehension}{scope:Scope}:CompV X B (ek (kx X) E) elt gens scope (kr ev tv C elt gens scope):=by
 unfold kr;split
 ·rename_i x px iter ifs
  by_cases hc:(wt C scope [x] && md iter)=true
  ·rw[if_pos hc];rw[kA1]at hc;obtain⟨hc,hset⟩:=hc;cases hx:slots C (fq scope.names)with
   |none=>exact .st rfl
   |some ix=>
    dsimp only;cases ifs with
    |nil=>
     refine .ok (tg:=.Name x px) (td:=td1) (ifs:=[]) (xs:=[x]) (M:=fq scope.names) (ix:=ix) (t:=gC (.bl true)) (g:=ev (t5 C scope [x]) elt) rfl rfl (λok=>?_) (λδ=>Vy) (zah h O iter) (ug hset);obtain⟨cl,O2⟩:=xy O ok hc hx;exact⟨cl,O2,Nz O2,.inl ⟨rfl,rfl⟩,λCc s₀ H₀ ex pn=>h _ _ B E0 elt (Ac O hc Cc s₀ H₀ ex pn)⟩
    |cons c r=>
     cases r with
     |nil=>
      refine .ok (tg:=.Name x px) (td:=td1) (ifs:=[c]) (xs:=[x]) (M:=fq scope.names) (ix:=ix) (t:=tv (t5 C scope [x]) c) (g:=ev (t5 C scope [x]) elt) rfl rfl (λok=>?_) (λδ=>Vy) (zah h O iter) (ug hset);obtain⟨cl,O2⟩:=xy O ok hc hx;exact⟨cl,O2,Nz O2,.inr ⟨c,rfl,λCc s₀ H₀ ex pn=>ht _ _ B E0 c (Ac O hc Cc s₀ H₀ ex pn)⟩,λCc s₀ H₀ ex pn=>h _ _ B E0 elt (Ac O hc Cc s₀ H₀ ex pn)⟩
     |cons _ _=>exact .st rfl
  ·rw[if_neg hc];exact .st rfl
 ·exact .st rfl
theorem Aa(h:fw T ev)(ht:B6 T tv)(O:XOk X C T E){gens:List Comprehension}{scope:Scope}:L8 X B (ek (kx X) E) (.ListComp elt gens scope pos) (kr ev tv C elt gens scope)∧IsL (kr ev tv C elt gens scope):=by
 cases zab (B:=B) (elt:=elt) (gens:=gens) (scope:=scope) h ht O with
 |st e=>rw[e];exact⟨zgl,λδ d h=>by cases h⟩
 |ok eg eG st hF hi hs=>
  rw[eG];subst eg;refine⟨λpins s σ H Q I q=>?_,Ov⟩;obtain⟨cl,O2,Bk⟩:=st I.ok;exact X9 O2 O.calm Bk hF hi hs pins s σ H Q I q
end
end Pu
end
section
namespace Pu
open PySem PySem.Spec PyProof.Rows L2 HT
section
variable{prog:Program}{w:World}{A:Around}{E:Value→Shared→Prop}{s:Shared}
theorem Cf{t sl:Addr}{items:Array Value}{vl vu:Value}{lo hi:Option Int}{Q:Value→Shared→Prop}(ht:IsTup s.heap t items)(hs:s.heap.IsSliceOf sl vl vu .none)(pl:IsPart vl lo)(pu:IsPart vu hi)
  (hw:HT.iw items.size 0 lo=0∧HT.iw items.size items.size hi=items.size)(h:Q (.ref t) s):wpAny (model prog w) A (getItem (.ref t) (.ref sl)) Q E s:=by
 obtain⟨os,hos,hcs,hds⟩:=id hs;have hTs:s.TypeIs (.ref sl) "slice":=⟨os,hos,hcs⟩;unfold getItem
 try with_reducible refine wpAny_holding ?_
 first|refine wpAny_bind (wpAny_pure ?_)|skip
 refine wpAny_bind (wpAny_sequenceKey ht.typeIs (by decide) ?_);refine wpAny_bind (wpAny_callSpecial?_slot (name:=Str.ofString "__getitem__") ht.typeIs PyProof.Rows.slot_tuple_getitem (wpAny_call_entry PyProof.Rows.slot_tuple_getitem ht.typeIs entry_tuple_getitem ?_ (args_tuple_getitem _ _)));show wpAny _ _ (Builtin.Tuple.tupleItemsOf (.ref t)>>=_) _ _ s;refine wpAny_bind (tupleItemsOf_ ht ?_);refine wpAny_bind (wpAny_typeOf hTs ?_);rw[if_pos (by decide)];refine wpAny_bind (HT.nj hs pl pu ?_);show wpAny _ _ (if(((HT.iw items.size 0 lo:Nat):Int)==0 && (1:Int)==1 && (HT.iw items.size items.size hi - HT.iw items.size 0 lo)==items.size)=true then _ else _) _ _ s;rw[if_pos (by rw[hw.1,hw.2];simp)];unfold Builtin.Tuple.tupleIsExact;refine wpAny_bind (wpAny_bind (wpAny_typeOf ht.typeIs (wpAny_pure ?_)));rw[if_pos (by decide)];exact wpAny_bind (wpAny_rule (wpAny_pure ⟨_,rfl,wpAny_pure h⟩))
end
section
variable{X:Cx}
noncomputable def zko(K:PySem.W.Frag):V→Option Int→Option Int→Hp→VK→Prop:=λx lo hi H Q=>∃a xs,x=.ref a∧SqT K H a xs∧(HT.iw xs.length 0 lo=0∧HT.iw xs.length xs.length hi=xs.length)∧Q (.ref a) H
theorem Vb:SlR X (zko X.K):=by
 intro pins s σ H x v vl vu lo hi sl Q I rx hs pl pu h;obtain⟨a,xs,rfl,hx,hw,q⟩:=h;cases rx;obtain⟨its,r,ht,hz⟩:=I.tuple hx;have hlen:its.toArray.size=xs.length:=by rw[kAe];exact r.length.symm
 exact⟨"tuple",_,PyProof.Rows.slot_tuple_getitem.lookup,ht.typeIs,Cf ht hs pl pu (by rw[hlen];exact hw) ⟨.ref a,H,I,rfl,q⟩⟩
end
end Pu
end
section
namespace Pu
open PySem PySem.Spec PyProof.Rows L2
theorem Cu(its:List Value):slicePick its.toArray none none (some (-1))=its.reverse.toArray:=by
 unfold slicePick;have e:sliceRange (sliceBounds none none (some (-1)) its.toArray.size).1 (sliceBounds none none (some (-1)) its.toArray.size).2.1 (sliceBounds none none (some (-1)) its.toArray.size).2.2=(kA5 its.length).map λk=>its.length - 1 - k:=by
  unfold sliceBounds sliceRange;simp only[Option.getD_some,show¬((-1:Int)>0) by decide,if_false,kAe];have hc:((if((its.length:Int) - 1> -1)then((its.length:Int) - 1 - -1 - -1 - 1) / (- -1)else 0)).toNat=its.length:=by
   by_cases hn:(its.length:Int) - 1> -1
   ·rw[if_pos hn,show(- -1:Int)=1 from by decide,Int.ediv_one];omega
   ·rw[if_neg hn];omega
  rw[hc];refine List.map_congr_left λk hk=>?_;have:=kB1.mp hk;omega
 rw[e]
 congr 1
 rw[List.filterMap_map];refine List.ext_getElem? λi=>?_;have key:∀n,n≤its.length→(kA5 n).filterMap ((λx=>its.toArray[x]?) ∘ λk=>its.length - 1 - k)=(its.reverse).take n:=by
  intro n;induction n with
  |zero=>intro _;simp
  |succ n ih=>
   intro h;rw[List.range_succ,List.filterMap_append,ih (by omega),List.take_succ_eq_append_getElem (by rw[List.length_reverse];omega)]
   congr 1
   have:its.length - 1 - n<its.length:=by omega
   simp[this]
 rw[key _ (kA0 _),List.take_of_length_le (by simp)]
theorem Jv:∀{xs:List V}{us:List Value},Vals xs us→Vals xs.reverse us.reverse
 |_,_,.nil=>.nil
 |_,_,.cons h t=>by
  rw[List.reverse_cons,List.reverse_cons];exact(Jv t).append (.cons h .nil)
theorem Gv{K:KA}{G:Hp}:∀{ds:List D}{vs:List V},DenL K G ds vs→DenL K G ds.reverse vs.reverse
 |[],vs,e=>by rw[show vs=[]from e];rfl
 |d::ds,_,⟨v,vr,e,h1,h2⟩=>by
  subst e;rw[List.reverse_cons,List.reverse_cons];exact(Gv h2).append ⟨v,[],rfl,h1,rfl⟩
section
variable{X:Cx}{e st:Expr}{te:TE}{ts:TO}{pos p2:Pos}
theorem zc3(he:PE X e te)(hs:PO X (some st) ts):PE X (.Subscript e (.Slice none none (some st) p2) pos) (λσ H Q=>te σ H λx H1=>ts σ H1 λo H2=>o=some (-1)∧∃a xs,x=.ref a∧SqL X.K H2 a xs∧∀p,H2 p=none→Q (.ref p) (upd H2 p (.lst xs.reverse))):=by
 intro pins s σ H Q I h;refine Subscript_ (gx (he pins s σ H _ I h) λv s1 ⟨x,H1,I1,r1,q1⟩=>?_);refine wpAny_Slice ?_;rw[evalPart_none];refine wpAny_pure (wpAny_pure (gx (hs pins s1 σ H1 _ I1 q1) λvs s3 ⟨o,H3,I3,ps,q3⟩=>?_));obtain⟨rfl,a,xs,rfl,sq,q⟩:=q3;cases r1;have I4:Inv X pins σ H3 {s3 with heap:=s3.heap.push {cls:=.type "slice",data:=.fields #[.none,.none,vs]}}:=I3.kept (t':=s3.toks) λb ob q=>Heap.get?_push_of_some _ q;obtain⟨its,r,ht,hz⟩:=I4.list sq;have hlen:=r.length;show wpAny (model X.prog X.w) X.A (subscriptTail e (.Slice none none (some st) p2) (.ref a) (.ref s3.heap.objs.size)) (EP X pins σ Q) X.xe {s3 with heap:=s3.heap.push {cls:=.type "slice",data:=.fields #[.none,.none,vs]}};refine tail_any (ops:=[.ref a,.ref s3.heap.objs.size]) ht.isList.typeIs slot_list_getitem.lookup ?_ (by with_unfolding_all rfl);refine wpAny_getItem_list_slice ht.isList (Heap.IsSliceOf.new ..) .none .none ps (by simp) ?_ (by rw[kAe]<;>omega);rw[Cu];refine⟨.ref _,_,I4.laid (t':=s3.toks) (o:=.lst xs.reverse) (λb ob q=>Heap.get?_push_of_some _ q) (kA0 _) ?_,rfl,q _ (I4.hok.fresh (kA0 _))⟩;exact⟨by rw[List.length_reverse];exact hz,_,0,Jv r,Heap.get?_push_size _ rfl⟩
end
noncomputable def zg2:D→Option D
 |.lst xs=>some (.lst xs.reverse)
 |_=>none
noncomputable def lq(xs:List D)(lo hi:Option Int):List D:=(xs.drop (HT.iw xs.length 0 lo)).take (HT.iw xs.length xs.length hi - HT.iw xs.length 0 lo)
noncomputable def oj(d:D)(lo hi:Option Int):Option D:=match d with
 |.lst xs=>some (.lst (lq xs lo hi))
 |.tup xs=>some (.tup (lq xs lo hi))
 |_=>none
noncomputable def Dd(ev:Ev)(C:SC)(o:Option Expr)(δ:En):Option (Option Int):=match o with
 |none=>some none
 | some e => (match ev C e δ with
  |.ok (.int i)=>some (some i)
  |_=>none)
noncomputable def gPt(o:Option (En→Res))(δ:En):Option (Option Int):=match o with
 |none=>some none
 | some g => (match g δ with
  |.ok (.int i)=>some (some i)
  |_=>none)
noncomputable def V8(g:En→Res)(lo hi:Option (En→Res)):En→Res:=λδ=>(g δ).bind λd=>match gPt lo δ,gPt hi δ with
 |some l,some h=>Res.of (oj d l h)
 |_,_=>.st
noncomputable def Kg(ev:Ev)(C:SC)(a:Expr)(lo hi:Option Expr):En→Res:=V8 (ju ev C a) (lo.map (ev C)) (hi.map (ev C))
theorem Sa{ev:Ev}{C:SC}{o:Option Expr}{δ:En}:gPt (o.map (ev C)) δ=Dd ev C o δ:=by cases o<;>rfl
theorem DenL.cut{K:KA}{G:Hp}{ds:List D}{vs:List V}(dl:DenL K G ds vs)(lo hi:Option Int):DenL K G (lq ds lo hi) (yq vs lo hi):=by
 unfold lq yq;rw[dl.length];exact(dl.drop _).take _
section
variable{T:GT}{ev tv:Ev}{X:Cx}{C:SC}{B:Hp}{E:XK}{pos p:Pos}{a:Expr}
theorem Fk(h:fw T ev)(O:XOk X C T E){o:Option Expr}:∃t:TO,PO X o t∧∀G δ σ H l (Q:Option Int→Hp→Prop),EnvR (kx X) B G H σ δ→Dd ev C o δ=some l→(∀G' H',Ext G H G' H'→Q l H')→t σ H Q:=by
 cases o with
 |none=>
  refine⟨_,Yf,λG δ σ H l Q R e q=>?_⟩;cases e;exact q G H (Ext.refl R.gh)
 |some e=>
  refine⟨_,Yg (h X C B E0 e O.none),λG δ σ H l Q R ee q=>?_⟩;unfold Dd at ee;dsimp only at ee;cases eg:ev C e δ with
  |ok d=>
   rw[eg]at ee;cases d with
   |int i=>
    cases ee;refine⟨G,δ,R,?_⟩;rw[eg];exact λv G' H' x dn=>⟨i,dn,q G' H' x⟩
   |_=>cases ee
  |er c=>rw[eg]at ee;cases ee
  |st=>rw[eg]at ee;cases ee
theorem Vc(h:fw T ev)(O:XOk X C T E){lo hi:Option Expr}{p2:Pos}:ff X B (ek (kx X) E) (.Subscript a (.Slice lo hi none p2) pos) (Kg ev C a lo hi):=by
 obtain⟨tl,hl,ql⟩:=Fk (B:=B) h O (o:=lo);obtain⟨th,hh,qh⟩:=Fk (B:=B) h O (o:=hi);refine PE.imp (T2 (SlR.or Zf (SlR.or zej Vb)) (di (B:=B) (E:=E) h O a) hl hh) λσ H Q ⟨G,δ,R,q⟩=>⟨G,δ,R,(ResP.bind q).mono λd _ q v G1 H1 e1 av=>?_⟩;rw[Sa,Sa]at q;cases el:Dd ev C lo δ with
 |none=>rw[el]at q;exact q.elim
 |some l=>
  cases eh:Dd ev C hi δ with
  |none=>rw[el,eh]at q;exact q.elim
  |some hh=>
   rw[el,eh]at q;obtain⟨d',ed,q⟩:=ResP.of q;refine ql G1 δ σ H1 l _ (R.ext e1) el λG2 H2 e2=>qh G2 δ σ H2 hh _ (R.ext (e1.trans e2)) eh λG3 H3 e3=>?_;have e13:=(e1.trans e2).trans e3;have av':=(av.ext e2).ext e3;unfold oj at ed;split at ed
   ·rename_i xs;cases ed;obtain⟨l',vs,rfl,sq,dl⟩:=av'.lst e3.gh;exact .inl ⟨l',vs,rfl,sq,λp hp=>q _ (upd G3 p (.lst (yq vs l hh))) _ (e13.trans (Ext.new e3.gh _ hp)) (pq e3.gh hp (dl.cut l hh))⟩
   ·rename_i xs;cases ed;rcases av' with ⟨l',vs,rfl,s2,dl⟩|⟨_,_,_,z,_⟩|⟨_,_,_,z,_⟩
    case inr.inl=>cases z
    case inr.inr=>cases z
    have sq:SqT (kx X) H3 l' vs:=.inl (.inl (e3.gh _ _ s2))
    by_cases hw:HT.iw vs.length 0 l=0∧HT.iw vs.length vs.length hh=vs.length
    ·have ec:yq vs l hh=vs:=by unfold yq;rw[hw.1,hw.2,List.drop_zero,Nat.sub_zero,List.take_length]
     have dc:=dl.cut l hh;rw[ec]at dc;exact .inr (.inr ⟨l',vs,rfl,sq,hw,q _ G3 H3 e13 ⟨l',vs,rfl,s2,dc⟩⟩)
    ·refine .inr ((.inl ⟨l',vs,rfl,sq,hw,λp hp=>q _ (upd G3 p (.tup (yq vs l hh))) _ (e13.trans (Ext.new e3.gh _ hp)) (pv e3.gh hp (dl.cut l hh))⟩))
   ·cases ed
end
noncomputable def gRv(g k:En→Res):En→Res:=λδ=>(g δ).bind λd=>match k δ with
 |.ok (.int i)=>if i=-1 then Res.of (zg2 d)else .st
 |_=>.st
section
variable{T:GT}{ev tv:Ev}{X:Cx}{C:SC}{B:Hp}{E:XK}{pos p:Pos}{a st:Expr}
theorem zd5(h:fw T ev)(O:XOk X C T E){p2:Pos}:ff X B (ek (kx X) E) (.Subscript a (.Slice none none (some st) p2) pos) (gRv (ju ev C a) (ev C st)):=by
 obtain⟨tl,hl,ql⟩:=Fk (B:=B) h O (o:=some st);refine PE.imp (zc3 (di (B:=B) (E:=E) h O a) hl) λσ H Q ⟨G,δ,R,q⟩=>⟨G,δ,R,(ResP.bind q).mono λd _ q v G1 H1 e1 av=>?_⟩;cases ek:ev C st δ with
 |ok k=>
  rw[ek]at q;cases k with
  |int i=>
   dsimp only at q
   by_cases hi:i=-1
   ·rw[if_pos hi]at q;subst hi;obtain⟨d',ed,q⟩:=ResP.of q;refine ql G1 δ σ H1 (some (-1)) _ (R.ext e1) (by unfold Dd;dsimp only;rw[ek]) λG2 H2 e2=>⟨rfl,?_⟩;cases d with
    |lst xs=>
     cases ed;obtain⟨l',vs,rfl,sq,dl⟩:=(av.ext e2).lst e2.gh;exact⟨l',vs,rfl,sq,λp hp=>q _ (upd G2 p (.lst vs.reverse)) _ ((e1.trans e2).trans (Ext.new e2.gh _ hp)) (pq e2.gh hp (Gv dl))⟩
    |_=>cases ed
   ·rw[if_neg hi]at q;exact q.elim
  |_=>exact q.elim
 |er c=>rw[ek]at q;exact q.elim
 |st=>rw[ek]at q;exact q.elim
end
noncomputable def My:Operator→Bool
 |.Mult=>true
 |_=>false
noncomputable def Fy(ev:Ev)(C:SC)(a:Expr)(op:Operator)(b:Expr):En→Res:=match a with
 | .List es _ => if My op && es.all gi then Sd (iy (o3 ev C es)) (ju ev C b) else (match Qy op with
  |some f=>g2 f (ju ev C a) (ju ev C b)
  |none=>ja)
 | a => (match Qy op with
  |some f=>g2 f (ju ev C a) (ju ev C b)
  |none=>ja)
theorem zbm{T:GT}{ev:Ev}{X:Cx}{C:SC}{B:Hp}{E:XK}{pos:Pos}(h:fw T ev)(O:XOk X C T E){a b:Expr}{op:Operator}:ff X B (ek (kx X) E) (.BinOp a op b pos) (Fy ev C a op b):=by
 have gen:ff X B (ek (kx X) E) (.BinOp a op b pos) (match Qy op with
  |some f=>g2 f (ju ev C a) (ju ev C b)
  |none=>ja):=by
  cases hf:Qy op with
  |none=>exact dh
  |some f=>exact zdh hf (di h O a) (di h O b)
 unfold Fy;split
 ·rename_i es _
  by_cases hc:(My op && es.all gi)=true
  ·rw[if_pos hc];rw[kA1]at hc;have:op=.Mult:=by cases op<;>first|rfl|(cases hc.1)
   subst this;exact M9 (Ts (Fj mx (n4 h O hc.2)) Es (di h O b)) W7
  ·rw[if_neg hc];exact gen
 ·exact gen
noncomputable def zav(T:GT)(ev tv:Ev)(C:SC)(e:Expr):En→Res:=match e with
 | .Constant c _ _ => (match c with
  |.none=>gC .non
  |.bool b=>gC (.bl b)
  |.int i=>gC (.int i)
  |.str x=>gC (.str x)
  |_=>ja)
 |.Name x _=>Bw T C x
 |.BinOp a op b _=>Fy ev C a op b
 | .UnaryOp op a _ => (match op with
  |.Not=>jr (ev C a)
  |.USub=>g1 Dt (ju ev C a)
  |_=>ja)
 | .BoolOp op vs _ => (match op with
  |.And=>Hh (ev C) vs
  |.Or=>R9 (ev C) vs)
 |.IfExp c a b _=>gIf (tv C c) (ev C a) (ev C b)
 |.Compare l ops rs _=>v8 ev C l ops rs
 |.Tuple es _ _=>if es.all gi then ir (o3 ev C es)else ja
 |.List es _=>if es.all gi then iy (o3 ev C es)else ja
 | .Subscript a i _ => (match i with
  |.Slice lo hi none _=>Kg ev C a lo hi
  |.Slice none none (some st) _=>gRv (ju ev C a) (ev C st)
  |i=>if uj i then g2 bz (ju ev C a) (ju ev C i)else ja)
 |.ListComp elt gens scope _=>kr ev tv C elt gens scope
 | .Dict ks vs _ => (match ks, vs with
  |[],[]=>gC (.dct false [])
  |_,_=>ja)
 | .Call f args kws cp => (match f, kws with
  |.Name x _,[]=>nq T ev C x args
  |.Attribute o m ap,[]=>if ap.endLine==cp.line then Nx ev C o m args else ja
  |_,_=>ja)
 |_=>ja
noncomputable def o5(g:En→Res):En→Res:=g1 (λd=>bD (F5 d)) g
noncomputable def zaw(T:GT)(ev tv:Ev)(C:SC)(e:Expr):En→Res:=match e with
 | .UnaryOp op a _ => (match op with
  |.Not=>jr (tv C a)
  |_=>g1 (λd=>bD (F5 d)) (ju ev C e))
 | .BoolOp op vs _ => (match op with
  |.And=>Hh (tv C) vs
  |.Or=>R9 (tv C) vs)
 |.Compare l ops rs _=>v8 ev C l ops rs
 |e=>if Fm e then g1 (λd=>bD (F5 d)) (ju ev C e)else ja
section
variable{T:GT}{ev tv:Ev}
theorem Vh(h:fw T ev)(ht:B6 T tv):fw T (zav T ev tv):=by
 intro X C B E e O;cases e with
 |Constant c k p=>
  cases c with
  |none=>exact zdq
  |bool b=>exact zgs
  |int i=>exact zdk
  |str x=>exact zdt
  |_=>exact dh
 |Name x p=>exact Xp O
 |BinOp a op b p=>
  exact zbm h O
 |UnaryOp op a p=>
  cases op with
  |Not=>exact zdr (h X C B E a O)
  |USub=>exact zdp (di h O a)
  |_=>exact dh
 |BoolOp op vs p=>
  cases op with
  |And=>exact Ma λe=>h X C B E e O
  |Or=>exact Tn λe=>h X C B E e O
 |IfExp c a b p=>exact zgu (ht X C B E c O) (h X C B E a O) (h X C B E b O)
 |Compare l ops rs p=>exact(Ra h O).1
 |Tuple es k p=>
  show ff X B _ _ (if es.all gi then ir (o3 ev C es)else ja)
  by_cases hn:es.all gi=true
  ·rw[if_pos hn];exact zdv mx (n4 h O hn)
  ·rw[if_neg hn];exact dh
 |List es p=>
  show ff X B _ _ (if es.all gi then iy (o3 ev C es)else ja)
  by_cases hn:es.all gi=true
  ·rw[if_pos hn];exact zdm mx (n4 h O hn)
  ·rw[if_neg hn];exact dh
 |Subscript a i p=>
  show ff X B _ _ (match i with
   |.Slice lo hi none _=>Kg ev C a lo hi
   |.Slice none none (some st) _=>gRv (ju ev C a) (ev C st)
   |i=>if uj i then g2 bz (ju ev C a) (ju ev C i)else ja)
  split
  ·exact Vc h O
  ·exact zd5 h O
  ·skip
   by_cases hp:uj i=true
   ·rw[if_pos hp];exact zgv (by have:=O.units;omega) (di h O a) (di h O i) (Pw hp)
   ·rw[if_neg hp];exact dh
 |Dict ks vs p=>
  cases ks with
  |nil=>
   cases vs with
   |nil=>exact zgt
   |cons _ _=>exact dh
  |cons _ _=>exact dh
 |ListComp elt gens scope p=>exact M9 (Aa h ht O).1 (Aa (X:=X) (B:=B) (E:=E) (pos:=p) h ht O).2
 |Call f args kws p=>
  show ff X B _ _ (match f,kws with
   |.Name x _,[]=>nq T ev C x args
   |.Attribute o m ap,[]=>if ap.endLine==p.line then Nx ev C o m args else ja
   |_,_=>ja)
  split
  ·exact Wm h O
  ·rename_i o m ap
   by_cases hl:(ap.endLine==p.line)=true
   ·rw[if_pos hl];exact zkf h O hl
   ·rw[if_neg hl];exact dh
  ·exact dh
 |_=>exact dh
theorem Vk(h:fw T ev)(ht:B6 T tv):B6 T (zaw T ev tv):=by
 intro X C B E e O;have pl:∀{e:Expr},B5 X B (ek (kx X) E) e (if Fm e then g1 (λd=>bD (F5 d)) (ju ev C e)else ja):=λ{e}=>by
  by_cases hp:Fm e=true
  ·rw[if_pos hp];exact Ug (di h O e) (Dq hp)
  ·rw[if_neg hp];exact yj
 cases e with
 |UnaryOp op a p=>
  cases op with
  |Not=>exact Yq (ht X C B E a O)
  |_=>exact Ug (di h O _) (Dq rfl)
 |BoolOp op vs p=>
  cases op with
  |And=>exact zgq (Mb λe=>ht X C B E e O)
  |Or=>exact zgq (To λe=>ht X C B E e O)
 |Compare l ops rs p=>exact(Ra h O).2
 |_=>exact pl
end
noncomputable def gP(T:GT):Nat→Bool→Ev
 |0,_=>λ_ _=>ja
 |n+1,false=>zav T (gP T n false) (gP T n true)
 |n+1,true=>zaw T (gP T n false) (gP T n true)
theorem va(T:GT):∀n,fw T (gP T n false)∧B6 T (gP T n true)
 |0=>⟨λ_ _ _ _ _ _=>dh,λ_ _ _ _ _ _=>yj⟩
 |n+1=>⟨Vh (va T n).1 (va T n).2,Vk (va T n).1 (va T n).2⟩
noncomputable def frz(i:Nat)(δ:En):En:=match δ[i]? with
 |some (.ow ds)=>δ.set i (.pu (.lst ds))
 |some (.od t kvs)=>δ.set i (.pu (.dct t kvs))
 |_=>δ
noncomputable def frzs(is:List Nat)(δ:En):En:=is.foldl (λδ i=>frz i δ) δ
section
variable{K:KA}{B G0 G H:Hp}{σ:St}{δ:En}
theorem SlOk.gmono{G':Hp}(e:Same G G'){s:Sl}{o:Option V}(h:SlOk K B G H s o):SlOk K B G' H s o:=by
 cases s with
 |no=>trivial
 |pu d=>obtain⟨v,h1,h2⟩:=h;exact⟨v,h1,h2.mono e⟩
 |bo d=>obtain⟨v,h1,h2⟩:=h;exact⟨v,h1,zfn e h2⟩
 |ow ds=>obtain⟨a,vs,h1,h2,h3⟩:=h;exact⟨a,vs,h1,h2,h3.mono e⟩
 |od t kvs=>
  cases t with
  |false=>obtain⟨a,vs,h1,h2,h3⟩:=h;exact⟨a,vs,h1,h2,h3.mono e⟩
  |true=>obtain⟨a,vs,h1,h2,h3⟩:=h;exact⟨a,vs,h1,h2,h3.mono e⟩
theorem Ext.frzO{a:Addr}{o:HO}(e:Ext G0 B G H)(bn:B a=none)(gn:G a=none)(h:H a=some o):Ext G0 B (upd G a o) H:=by
 refine⟨e.gg.trans (fb gn _),e.hh,λb u q=>?_,λb u q g z=>?_⟩
 ·by_cases z:b=a
  ·subst z;rw[cb]at q;rw[h];exact q
  ·rw[bp z]at q;exact e.gh b u q
 ·rw[bp (cn q bn)];exact e.fr b u q g z
theorem EnvR.frzAt(R:EnvR K B G H σ δ){i:Nat}{s:Sl}{a:Addr}{o:HO}{d:D}(hi:δ[i]?=some s)(ho:s.own=true)(hs:σ[i]?=some (some (V.ref a)))(ha:H a=some o)(hd:Den K (upd G a o) d (.ref a)):
  EnvR K B (upd G a o) H σ (δ.set i (.pu d)):=by
 obtain⟨gn,bn⟩:=R.own i s a hi ho hs;have hl:i<δ.length:=(kAh.mp hi).1;have sm:Same G (upd G a o):=fb gn _;refine⟨R.bh,λb u q=>?_,by rw[kAp];exact R.len,λj t q=>?_,λj t b q1 q2 q3=>?_,λj k t u b q1 q2 q3 q4 q5 q6=>?_,R.gb⟩
 ·by_cases z:b=a
  ·subst z;rw[cb]at q;rw[ha];exact q
  ·rw[bp z]at q;exact R.gh b u q
 ·by_cases z:i=j
  ·subst z;rw[kAd hl]at q;cases q;exact⟨_,hs,_,rfl,hd⟩
  ·rw[kAa z]at q;obtain⟨o',z1,z2⟩:=R.sl j t q;exact⟨o',z1,z2.gmono sm⟩
 ·by_cases z:i=j
  ·subst z;rw[kAd hl]at q1;cases q1;cases q2
  ·rw[kAa z]at q1;obtain⟨g,b'⟩:=R.own j t b q1 q2 q3;refine⟨?_,b'⟩;have nb:b≠a:=by
    rintro rfl
    exact z (R.dis i j _ _ b hi q1 ho q2 hs q3)
   rw[bp nb];exact g
 ·have hj:i≠j:=by
   rintro rfl
   rw[kAd hl]at q1;cases q1;cases q3
  have hk:i≠k:=by
   rintro rfl
   rw[kAd hl]at q2;cases q2;cases q4
  rw[kAa hj]at q1;rw[kAa hk]at q2;exact R.dis j k t u b q1 q2 q3 q4 q5 q6
theorem EnvR.frz(R:EnvR K B G H σ δ)(e:Ext G0 B G H)(i:Nat):∃G',Same G G'∧EnvR K B G' H σ (frz i δ)∧Ext G0 B G' H:=by
 unfold Pu.frz;cases ed:δ[i]? with
 |none=>exact⟨G,Same.refl G,R,e⟩
 |some s=>
  cases s with
  |ow ds=>
   obtain⟨a,vs,q1,q2,q3,gn,bn⟩:=R.owAt ed;exact⟨_,fb gn _,R.frzAt ed rfl q1 q2 ⟨a,vs,rfl,SqL.of cb,q3.mono (fb gn _)⟩,e.frzO bn gn q2⟩
  |od t kvs=>
   obtain⟨o,q1,q2⟩:=R.sl i _ ed;cases t with
   |false=>
    obtain⟨a,es,rfl,q3,q4⟩:=q2;obtain⟨gn,bn⟩:=R.own i _ a ed rfl q1;exact⟨_,fb gn _,R.frzAt ed rfl q1 q3 ⟨a,rfl,.inl ⟨rfl,es,cb,q4.mono (fb gn _)⟩⟩,e.frzO bn gn q3⟩
   |true=>
    obtain⟨a,es,rfl,q3,q4⟩:=q2;obtain⟨gn,bn⟩:=R.own i _ a ed rfl q1;exact⟨_,fb gn _,R.frzAt ed rfl q1 q3 ⟨a,rfl,.inr ⟨rfl,es,cb,q4.mono (fb gn _)⟩⟩,e.frzO bn gn q3⟩
  |no=>exact⟨G,Same.refl G,R,e⟩
  |pu _=>exact⟨G,Same.refl G,R,e⟩
  |bo _=>exact⟨G,Same.refl G,R,e⟩
theorem EnvR.frzs:∀(is:List Nat){G:Hp}{δ:En},EnvR K B G H σ δ→Ext G0 B G H→∃G',Same G G'∧EnvR K B G' H σ (frzs is δ)∧Ext G0 B G' H
 |[],G,δ,R,e=>⟨G,Same.refl G,R,e⟩
 |i::is,G,δ,R,e=>by
  obtain⟨G1,s1,R1,e1⟩:=R.frz e i;obtain⟨G2,s2,R2,e2⟩:=EnvR.frzs is R1 e1;exact⟨G2,s1.trans s2,R2,e2⟩
end
section
variable{X:Cx}{G0 B:Hp}{E:EK}{st:Stmt}{F:En→Out}
theorem zhj(is:List Nat)(h:lu X G0 B E st F):lu X G0 B E st (λδ=>F (frzs is δ)):=PS.imp h λD σ H ⟨G,δ,R,e,q⟩=>by
 obtain⟨G',s,R',e'⟩:=EnvR.frzs is R e;exact⟨G',_,R',e',OutP.same s q⟩
end
section
variable{X:Cx}{G0 B:Hp}{E:EK}{scope:Scope}{cl:List (Str×Addr)}{xs:List Str}{y:Str}{M:List Str}{ix:List Nat}{elt iter tg:Expr}{ifs:List Expr}{pos pos' lpos:Pos}{r:En→ResL}{t g:En→Res}{i:Nat}{td:D→Option (List D)}{f:En→D→Option (Option D)}
theorem zed(O:CompOk X scope cl xs M ix)(hc:X.calm=true)(Bk:BlockOk X B E scope cl xs M tg td elt ifs t g)(hF:∀δ,F9 td (lx ix δ) t g (f δ))(hi:N8 X B E tg iter r)(hN:X.N.Nodup)(hy:X.N[i]?=some y)(hl:L2.V6 X.env.scope y)(hf:X.fn y=true)
  (hs:∀x,foldedSetIterable iter X.env x=pure x)(hsw:swapsWith (.ListComp elt [⟨tg,iter,ifs,0⟩] scope lpos) (some (.Name y pos')) pos.line X.env=pure true):
  lu X G0 B E (.Assign [.Name y pos'] (.ListComp elt [⟨tg,iter,ifs,0⟩] scope lpos) pos) (q0 i (t9 r f)):=by
 intro pins s σ H D I ⟨G,δ,R,ex,q⟩;have q:=mi ex q;rw[exec_Assign_Name_used _ _ _ _ hsw,arm_evalThenUse_ListComp];refine wpAny_bind (wpAny_standAt ?_);refine wpAny_bind (wpAny_bind ?_);refine wpAny_comprehension_free (use:=some (assign (.Name y pos') X.env)) (Q:=λ_ s'=>wpAny (model X.prog X.w) X.A (pure PUnit.unit:Sem PUnit) (λ_ s'=>wpAny (model X.prog X.w) X.A (pure Flow.next:Sem Flow) (SP X pins D) X.xe s') X.xe s') rfl hs (si O.clos) O.kind O.names ?_;refine wpAny_mono (hi pins s σ H (λJ H1=>∃G1 ds ys,Ext G H G1 H1∧D4 (kx X) J ds (λG2 H2=>Ext G1 H1 G2 H2)∧ds.length≤sizeLine∧jk (f δ) ds=some ys∧OutP (kx X) G0 B E G (.nx (δ.set i (.ow ys))) D) I
  ⟨G,δ,R,(zaa q).mono λds _ ⟨hl,ys,ey,q⟩ J G1 H1 e1 ok=>⟨G1,ds,ys,e1,ok,hl,ey,q⟩⟩) (λv s1 h1=>wpAny_mono h1 (λitv s2 h2=>?_) λ_ _ e=>e) λ_ _ e=>e
 obtain⟨it,fp,tn,J,H1,rfl,I1,T,st,hfp,G1,ds,ys,e1,ok,hl',ey,q⟩:=h2;refine Gs (RR:=λacc C=>compPost (model X.prog X.w) X.A X.xe (some (assign (.Name y pos') X.env)) (λ_ s'=>wpAny (model X.prog X.w) X.A (pure PUnit.unit:Sem PUnit) (λ_ s'=>wpAny (model X.prog X.w) X.A (pure Flow.next:Sem Flow) (SP X pins D) X.xe s') X.xe s') acc C) O hc Bk I1 T st hfp (R.ext e1) ok hl' (hF δ) ey ?_;intro s3 H3 G3 vs m I3 hm hC e3 g3 h3 dl;have hsz:s2.heap.objs.size≤s2.heap.objs.size+1:=Nat.le_succ _;have ltL:X.env.locals<s2.heap.objs.size:=I1.lt;have ltc:∀y c,X.env.cells.lookup y=some c→c<s2.heap.objs.size:=λy c e=>by
  obtain⟨v',q'⟩:=I1.cell y c e;exact q'.lt
 refine wpAny_assign_Name (xq (v:=.ref s2.heap.objs.size) I3 hN hy hl rfl (λs4 I4 ⟨a,hsb,ha⟩=>?_) (.inl hf));have la:a<s2.heap.objs.size:=by
  rcases ha with z|z
  ·rw[z];exact ltL
  ·exact ltc _ _ z
 have na:s2.heap.objs.size+1≠a:=(rm la).symm;refine⟨m,hm.sameBut hsb na,λh' hs'=>wpAny_pure (wpAny_pure ⟨σ.set i (some (V.ref s2.heap.objs.size)),H3,?_,?_⟩)⟩
 ·refine I4.turned (t':=s4.toks) (it:=s2.heap.objs.size+1) (λb o hb e=>hs'.extBut b o hb e) hC ?_ (.inr (kAn I1.sz hsz)) ?_ ?_
  ·exact(rm ltL).symm
  ·intro z c hc';exact rm (ltc z c hc')
  ·intro p hp z;exact absurd (kAo (Heap.lt_size (I1.pin p hp).1) (kAn hsz (Nat.le_of_eq z.symm))) (kAx _)
 ·exact q _ G3 H3 (e1.trans e3).gg (R.setO (e1.trans e3) (eu e1.hh (I1.hok.fresh (kA0 _))) g3 h3 dl) (ex.trans (e1.trans e3))
end
noncomputable def B1(c:En→Res)(F:En→Out):Nat→En→Out
 |0,_=>.st
 |n+1,δ=>(c δ).then λd=>match d with
  | .bl true => (match F δ with
   |.nx δ'=>B1 c F n δ'
   |.ct δ'=>B1 c F n δ'
   |.bk δ'=>.nx δ'
   |o=>o)
  |.bl false=>.nx δ
  |_=>.st
noncomputable def za3:Nat:=1000000
noncomputable def sWh(c:En→Res)(F:En→Out):En→Out:=B1 c F za3
section
variable{X:Cx}{G0 B:Hp}{E:EK}{c:Expr}{ss:List Stmt}{g:En→Res}{F:En→Out}{pos:Pos}
theorem Ze(hp:PassesOwn (model X.prog X.w) X.A X.env X.xe)(hc:B5 X B E c g)(hb:ur X G0 B E ss F):lu X G0 B E (.While c ss [] pos) (sWh g F):=
 PS.imp (Ud hp hc hb) λD σ H ⟨G,δ,R,e,q⟩=>by
  refine⟨λm σ H=>∃G δ,EnvR (kx X) B G H σ δ∧Ext G0 B G H∧OutP (kx X) G0 B E G (B1 g F m δ) D,⟨za3,G,δ,R,e,q⟩,λm σ H ⟨G,δ,R,e,q⟩=>⟨G,δ,R,?_⟩⟩;cases m with
  |zero=>exact q.elim
  |succ m=>
   refine(mi e q).mono λd _ q=>?_;cases d with
   |bl b=>
    refine⟨b,rfl,λG1 H1 e1=>?_⟩;cases b with
    |false=>
     rw[if_neg kB7];exact q σ G1 H1 e1.gg (R.ext e1) (e.trans e1)
    |true=>
     rw[if_pos rfl];refine⟨λσ' H'=>∃m',m'<m+1∧∃G δ,EnvR (kx X) B G H' σ' δ∧Ext G0 B G H'∧OutP (kx X) G0 B E G (B1 g F m' δ) D,λσ' H' z=>z,G1,δ,R.ext e1,e.trans e1,?_⟩;dsimp only at q;cases ef:F δ with
     |nx δ'=>
      rw[ef]at q;exact λσ' G' H' s R' e'=>⟨m,Nat.lt_succ_self m,G',δ',R',e',OutP.same (e1.gg.trans s) q⟩
     |ct δ'=>
      rw[ef]at q;exact λσ' G' H' s R' e'=>⟨m,Nat.lt_succ_self m,G',δ',R',e',OutP.same (e1.gg.trans s) q⟩
     |bk δ'=>
      rw[ef]at q;exact λσ' G' H' s R' e'=>q σ' G' H' (e1.gg.trans s) R' e'
     |rt d=>rw[ef]at q;exact q
     |er c=>rw[ef]at q;exact q
     |st=>rw[ef]at q;exact q
   |_=>exact q.elim
end
structure SOk(X:Cx)(C:SC)(T:GT)(E:XK):Prop extends XOk X C T E where
 fn:∀x,x∉rk→X.fn x=true
 pass:PassesOwn (model X.prog X.w) X.A X.env X.xe
 stk:X.stack=X.env::X.outer
 frm:X.env.frame=some X.env.locals
 ex0:X.ex=[]
noncomputable def jw(C:SC)(x:Str):Option Nat:=if Hl C.sc x && mq x && decide (x∉rk)then Sv x C.N 0 else none
theorem qc{C:SC}{x:Str}{i:Nat}(h:jw C x=some i):C.N[i]?=some x∧Hl C.sc x=true∧x∉rk:=by
 unfold jw at h
 by_cases e:(Hl C.sc x && mq x && decide (x∉rk))=true
 ·rw[if_pos e]at h;rw[kA1,kA1]at e;obtain⟨_,q⟩:=Ew h;exact⟨by simpa using q,e.1.1,of_decide_eq_true e.2⟩
 ·rw[if_neg e]at h;cases h
section
variable{X:Cx}{C:SC}{T:GT}{x:Str}{i:Nat}{pos:Pos}
theorem SOk.tg(O:SOk X C T E)(h:jw C x=some i):PG X (.Name x pos) (p5 i):=by
 obtain⟨h1,h2,h3⟩:=qc h;exact Nh (by rw[O.n];exact O.nd) (by rw[O.n];exact h1) (by rw[O.s];exact p8 h2) (.inl (O.fn x h3))
theorem SOk.st(O:SOk X C T E)(h:jw C x=some i){e:Expr}{te:TE}{pos':Pos}(he:PE X e te)(hs:swapsWith e (some (.Name x pos')) pos.line X.env=pure false):PS X (.Assign [.Name x pos'] e pos) (Lr te (p5 i)):=by
 obtain⟨h1,h2,h3⟩:=qc h;exact Lc (by rw[O.n];exact O.nd) (by rw[O.n];exact h1) (by rw[O.s];exact p8 h2) he hs (.inl (O.fn x h3))
end
noncomputable def Bj:List Nat→List D→En→Option En
 |[],[],δ=>some δ
 |i::is,d::ds,δ=>Bj is ds (δ.set i (.pu d))
 |_,_,_=>none
noncomputable def ox(C:SC):List Expr→Option (List Nat)
 |[]=>some []
 |e::r=>match e with
  | .Name x _ => (match jw C x, ox C r with
   |some i,some is=>some (i::is)
   |_,_=>none)
  |_=>none
noncomputable def zag(is:List Nat):D→En→Option En:=λd δ=>match d with
 |.tup ds=>Bj is ds δ
 |_=>none
theorem Bl:∀{is:List Nat}{ds:List D}{δ δ':En},Bj is ds δ=some δ'→ds.length=is.length
 |[],[],_,_,_=>rfl
 |[],_::_,_,_,h=>by cases h
 |_::_,[],_,_,h=>by cases h
 |i::is,d::ds,δ,δ',h=>by
  have:=Bl (is:=is) (ds:=ds) h;rw[kA7,kA7,this]
section
variable{X:Cx}{C:SC}{T:GT}{B:Hp}
theorem Ij(O:SOk X C T E):∀{es:List Expr}{is:List Nat},ox C es=some is→(∃t:Z6,PGs X es t∧∀{G H:Hp}{σ:St}{δ δ':En}{ds:List D}{vs:List V}{Q:St→Hp→Prop},EnvR (kx X) B G H σ δ→DenL (kx X) G ds vs→Bj is ds δ=some δ'→
  (∀σ',EnvR (kx X) B G H σ' δ'→Q σ' H)→t vs σ H Q)∧(assignEach es X.env).length=is.length∧(assignEach es X.env).findIdx? (·.1)=none
 |[],is,h=>by
  cases h;refine⟨⟨_,Yc,λ{G H σ δ δ' ds vs Q} R dl e q=>?_⟩,rfl,rfl⟩;cases ds with
  |nil=>
   cases e;exact⟨dl,q σ R⟩
  |cons _ _=>cases e
 |e::r,is,h=>by
  unfold ox at h;cases e with
  |Name x p=>
   dsimp only at h;cases e1:jw C x with
   |none=>rw[e1]at h;cases h
   |some i=>
    cases e2:ox C r with
    |none=>rw[e1,e2]at h;cases h
    |some is'=>
     rw[e1,e2]at h;cases h;obtain⟨⟨t,p1,p2⟩,p3,p4⟩:=Ij O e2;refine⟨⟨_,T3 (O.tg e1) p1 rfl,λ{G H σ δ δ' ds vs Q} R dl e q=>?_⟩,?_,?_⟩
     ·cases ds with
      |nil=>cases e
      |cons d ds=>
       obtain⟨v,vr,rfl,dv,dr⟩:=dl;exact⟨v,vr,rfl,p2 (R.set dv) dr e q⟩
     ·show(assignEach r X.env).length+1=is'.length+1;rw[p3]
     ·show List.findIdx? _ ((false,_)::assignEach r X.env)=none;rw[List.findIdx?_cons];simp[p4]
  |_=>cases h
theorem zeu(O:SOk X C T E){es:List Expr}{is:List Nat}{k:Nat}{p:Pos}(h:ox C es=some is):∃gl,TgOk X B (.Tuple es k p) gl (zag is):=by
 obtain⟨⟨t,p1,p2⟩,p3,p4⟩:=Ij (B:=B) O h;refine⟨_,zc6 O.calm p1 p3 p4,λ{G H σ δ δ' d v Q} R dn e q=>?_⟩;cases d with
 |tup ds=>
  obtain⟨a,vs,rfl,sq,dl⟩:=dn;have hl:=Bl (show Bj is ds δ=some δ' from e);exact⟨a,vs,rfl,SqT.of (R.gh _ _ sq),by rw[←dl.length,hl],p2 R dl e q⟩
 |_=>cases e
end
noncomputable def Vq(C:SC)(tg:Expr):Option (D→En→Option En):=match tg with
 |.Name x _=>(jw C x).map g8
 |.Tuple es _ _=>(ox C es).map zag
 |_=>none
theorem Zo{X:Cx}{C:SC}{T:GT}{B:Hp}(O:SOk X C T E){tg:Expr}{f:D→En→Option En}(h:Vq C tg=some f):∃gl,TgOk X B tg gl f:=by
 unfold Vq at h;split at h
 ·rename_i x p;cases e:jw C x with
  |none=>rw[e]at h;cases h
  |some i=>rw[e]at h;cases h;exact⟨_,Zp (O.tg e)⟩
 ·rename_i es k p;cases e:ox C es with
  |none=>rw[e]at h;cases h
  |some is=>rw[e]at h;cases h;exact zeu O e
 ·cases h
section
variable{X:Cx}{G0 B:Hp}{E:EK}{e a k:Expr}{g h:En→Res}{pos:Pos}{st:Stmt}{F F':En→Out}
noncomputable def U0(g:En→Res):En→Out:=λδ=>(g δ).then λ_=>.nx δ
theorem zeb(ha:ff X B E e g)(hs:swapsWith e none pos.line X.env=pure false):lu X G0 B E (.Expr e pos) (U0 g):=PS.imp (zc ha hs) λD σ H ⟨G,δ,R,ex,q⟩=>
 ⟨G,δ,R,(mi ex q).mono λd _ q v G' H' e1 dn=>q σ G' H' e1.gg (R.ext e1) (ex.trans e1)⟩
noncomputable def zau:En→Out:=λ_=>.rt .non
theorem zec:lu X G0 B E (.Return none pos) zau:=PS.imp Yl λD σ H ⟨G,δ,R,ex,q⟩=>q .non G H ex rfl
theorem Dw{o i:Expr}{p:Pos}{env:Env}{n:Nat}:swapsWith a (some (.Subscript o i p)) n env=pure false:=by
 cases a<;>rfl
noncomputable def Y8(i:Nat)(f:Int→Int→Int)(g:En→Res):En→Out:=λδ=>match δ[i]? with
 |some (.pu (.int m))=>(g δ).then λd=>match d with
  |.int n=>.nx (δ.set i (.pu (.int (f m n))))
  |_=>.st
 |_=>.st
theorem zhg{i:Nat}{x:Str}{pos':Pos}{op:Operator}{f:Int→Int→Int}(hf:PS X (.AugAssign (.Name x pos') op a pos) (zhp i (tPu (kx X) B E g) (ipI f))):lu X G0 B E (.AugAssign (.Name x pos') op a pos) (Y8 i f g):=
 PS.imp hf λD σ H ⟨G,δ,R,ex,q⟩=>by
  unfold Y8 at q;cases ed:δ[i]? with
  |none=>rw[ed]at q;exact q.elim
  |some sl=>
   rw[ed]at q;cases sl with
   |pu d=>
    cases d with
    |int m=>
     dsimp only at q;obtain⟨v,q1,q2⟩:=R.var ed;refine⟨v,q1,G,δ,R,(mi ex q).mono λd _ q y G1 H1 e1 dn=>?_⟩;cases d with
     |int n=>exact⟨m,n,q2,dn,q _ G1 H1 e1.gg ((R.ext e1).set rfl) (ex.trans e1)⟩
     |_=>exact q.elim
    |_=>exact q.elim
   |_=>exact q.elim
end
section
variable{T:GT}{ev:Ev}{X:Cx}{C:SC}{G0 B:Hp}{E:XK}
noncomputable def jt(c:Str)(r:En→ResL):En→Out:=λδ=>match r δ with
 |.ok _=>.er c
 |.er c'=>.er c'
 |.st=>.st
theorem Zb{x:Str}{np cpos pos:Pos}{e:Expr}{es:List Expr}(h:fw T ev)(O:XOk X C T E)(hx:T.xs.exc x=true)(hg:o6 C x=true)(hn:(e::es).all gi=true)(hl:(e::es).length≤1000):
  lu X G0 B (ek (kx X) E) (.Raise (some (.Call (.Name x np) (e::es) [] cpos)) none pos) (jt x (o3 ev C (e::es))):=by
 obtain⟨Cc,bm,nid,hm,hxx,HB⟩:=O.exc x hx;obtain⟨g1,g2⟩:=O.gl hg;have hn':=hn;rw[kAm,kA1]at hn';refine PS.imp (Ua O.calm g1 hm hxx HB O.goes (n4 (B:=B) h O hn) g2 (bj hn'.1) (kq hn'.2)) λD σ H ⟨G,δ,R,ex,q⟩=>⟨G,δ,R,?_⟩;unfold jt at q;cases er:o3 ev C (e::es) δ with
 |ok ds=>
  rw[er]at q;intro vs G' H' e1 al;refine⟨?_,?_⟩
  ·have:=al.length.2;rw[kA3]at this;rw[this];exact kAn hl (by decide)
  ·have z:=q G' H' (ex.trans e1);have z':E (.ref (yz X.mg x)) none H':=z;rw[o8 hm]at z';exact z'
 |er c=>rw[er]at q;exact λG' H' e1=>q G' H' (ex.trans e1)
 |st=>rw[er]at q;exact q
theorem EnvR.setNo{K:KA}{G H:Hp}{σ:St}{δ:En}{i:Nat}(R:EnvR K B G H σ δ):EnvR K B G H (σ.set i none) (δ.set i .no) where
 bh:=R.bh
 gb:=R.gb
 gh:=R.gh
 len:=by rw[kAp,kAp];exact R.len
 sl:=λj s q=>by
  by_cases z:i=j
  ·subst z;have hl:i<δ.length:=by
    have:=(kAh.mp q).1;rwa [kAp]at this
   rw[kAd hl]at q;cases q;exact⟨none,kAd (by rw[R.len];exact hl),trivial⟩
  ·rw[kAa z]at q⊢;exact R.sl j s q
 own:=λj s a q1 q2 q3=>by
  by_cases z:i=j
  ·subst z;have hl:i<δ.length:=by
    have:=(kAh.mp q1).1;rwa [kAp]at this
   rw[kAd hl]at q1;cases q1;cases q2
  ·rw[kAa z]at q1 q3;exact R.own j s a q1 q2 q3
 dis:=λj k s t a q1 q2 q3 q4 q5 q6=>by
  have key:∀(m:Nat)(u:Sl),(δ.set i .no)[m]?=some u→u.own=true→i≠m:=λm u w1 w2 z=>by
   subst z;have hl:i<δ.length:=by
    have:=(kAh.mp w1).1;rwa [kAp]at this
   rw[kAd hl]at w1;cases w1;cases w2
  have k1:=key j s q1 q3;have k2:=key k t q2 q4;rw[kAa k1]at q1 q5;rw[kAa k2]at q2 q6;exact R.dis j k s t a q1 q2 q3 q4 q5 q6
noncomputable def Fu(f:List D→Res)(r:En→ResL)(k:Str→En→Out):En→Out:=λδ=>match r δ with
 | .ok ds => (match f ds with
  |.ok _=>.nx δ
  |.er c=>k c δ
  |.st=>.st)
 |_=>.st
noncomputable def Oz(T:GT)(y:Str)(j:Nat)(i:Int)(c:Str)(δ:En):Out:=if T.xs.sub c y then(match δ[j]? with
 |some (.pu (.int z))=>.nx (δ.set j (.pu (.int (z+i))))
 |_=>.st)else .st
noncomputable def Dg(T:GT)(y:Str)(j n:Nat)(c:Str)(δ:En):Out:=if T.xs.sub c y && T.xs.ve c then(match δ[j]? with
 |some (.pu (.int z))=>.nx ((δ.set j (.pu (.int (z+1)))).set n .no)
 |_=>.st)else .st
theorem Mj{K:KA}{G:Hp}{z:Int}{v:V}(h:Den K G (.int z) v):v=.int z:=h
theorem zeg{x y r:Str}{j:Nat}{i:Int}{s:FS}{p yp cpos epos hpos pos rp rp2 bpos apos ipos:Pos}{kd}{e:Expr}{es:List Expr}(h:fw T ev)(O:SOk X C T E)(hf:T.fns x=some s)(hg:o6 C x=true)(hn:(e::es).all gi=true)(hgy:o6 C y=true)(hyb:∃Cy,X.mg y=some (.ref Cy))
  (hj:jw C r=some j)(hjs:slot C r=some j)(hnc:i8 (.Call (.Name x p) (e::es) [] cpos)=true):
  lu X G0 B (ek (kx X) E) (.Try [.Expr (.Call (.Name x p) (e::es) [] cpos) epos] [.ExceptHandler (some (.Name y yp)) none [.Assign [.Name r rp] (.BinOp (.Name r rp2) .Add (.Constant (.int i) kd ipos) bpos) apos] hpos] [] [] pos) (Fu s.f (Hg ev C s.ms (e::es)) (Oz T y j i)):=by
 obtain⟨k,f,fd,ps,hr,hm,hk,hb,F⟩:=O.fns x s hf;obtain⟨g1,g2⟩:=O.gl hg;obtain⟨gy1,gy2⟩:=O.gl hgy;obtain⟨Cy,hmy⟩:=hyb;have hn':=hn;rw[kAm,kA1]at hn';have hu:∀a,PSs (X.marked a).nox [.Assign [.Name r rp] (.BinOp (.Name r rp2) .Add (.Constant (.int i) kd ipos) bpos) apos] (λD σ H=>∃z,σ[j]?=some (some (.int z))∧D.nx (σ.set j (some (.int (z+i)))) H):=λa=>by
  obtain⟨l1,l2,l3⟩:=qc hj;obtain⟨h1,h2,h3⟩:=ro hjs;have P:=Lc (X:=(X.marked a).nox) (pos:=apos) (pos':=rp) (i:=j) (x:=r) (by show X.N.Nodup;rw[O.n];exact O.nd) (by show X.N[j]?=_;rw[O.n];exact l1) (by show L2.V6 X.env.scope r;rw[O.s];exact p8 l2)
   (Ng (pos:=bpos) K5 (Fl (pos:=rp2) (i:=j) (by show X.N[j]?=_;rw[O.n];exact h1) (by show Vis X.env.scope r;rw[O.s];exact L5 h2) (qp h3) (vo h3)) (T1 (i:=i) (j:=kd) (pos:=ipos))) rfl (.inl (O.fn r l3))
  refine zd λpins s σ H D I hq=>?_;obtain⟨z,a2,q⟩:=hq;exact P pins s σ H D I ⟨_,a2,_,_,rfl,rfl,q⟩
 refine PS.imp (Ym F hr g1 hm hk hb (se (B:=B) h O.toXOk.nox (ms:=s.ms) hn) O.stk O.frm O.ex0 gy1 hmy hu (fe hnc) g2 gy2 (bj hn'.1) (kq hn'.2)) λD σ H ⟨G,δ,R,ex,q⟩=>⟨G,δ,R,?_⟩;unfold Fu at q;cases er:Hg ev C s.ms (e::es) δ with
 |er c=>rw[er]at q;exact q.elim
 |st=>rw[er]at q;exact q.elim
 |ok ds=>
  rw[er]at q;intro vs G1 H1 e1 al;refine⟨al.length.2,R.gb.same (R.bh.trans e1.hh),G1,ds,e1.gh,al,?_⟩;dsimp only at q;cases ef:s.f ds with
  |ok d=>
   rw[ef]at q;exact λv G' H' e2 _=>q σ G' H' (e1.trans e2).gg (R.ext (e1.trans e2)) (ex.trans (e1.trans e2))
  |st=>rw[ef]at q;exact q.elim
  |er c=>
   rw[ef]at q;intro G' H' e2;have q:OutP (kx X) G0 B (ek (kx X) E) G (Oz T y j i c δ) D:=q;unfold Oz at q
   by_cases hs:T.xs.sub c y=true
   ·rw[if_pos hs]at q;obtain⟨Cy',hmy',hex⟩:=O.sub c y hs;rw[hmy]at hmy';cases hmy';refine⟨hex,?_⟩;cases ed:δ[j]? with
    |none=>rw[ed]at q;exact q.elim
    |some sl=>
     rw[ed]at q;cases sl with
     |pu d=>
      cases d with
      |int z=>
       obtain⟨v,v1,v2⟩:=R.var ed;have v2:=Mj v2;subst v2;exact⟨z,v1,q _ G' H' (e1.trans e2).gg ((R.ext (e1.trans e2)).set rfl) (ex.trans (e1.trans e2))⟩
      |_=>exact q.elim
     |_=>exact q.elim
   ·rw[if_neg hs]at q;exact q.elim
theorem Wl:bootBuiltins "ValueError"=some (.type "ValueError"):=by decide+kernel
theorem Zd{x y r n:Str}{j m:Nat}{s:FS}{p yp cpos epos hpos pos rp rp2 ip isp np tp icpos ccpos bpos apos:Pos}{e:Expr}{es:List Expr}(h:fw T ev)(O:SOk X C T E)(hf:T.fns x=some s)(hg:o6 C x=true)(hn:(e::es).all gi=true)(hgy:o6 C y=true)(hyb:∃Cy,X.mg y=some (.ref Cy))
  (hjs:slot C r=some j)(hms:slot C n=some m)(hjl:C.sc.names.lookup r=some .local)(hml:C.sc.names.lookup n=some .local)(hne:m≠j)(hnc:i8 (.Call (.Name x p) (e::es) [] cpos)=true)(i1:o6 C "int"=true)(i2:o6 C "isinstance"=true)(i3:o6 C "ValueError"=true):
  lu X G0 B (ek (kx X) E) (.Try [.Expr (.Call (.Name x p) (e::es) [] cpos) epos] [.ExceptHandler (some (.Name y yp)) (some n) [.Assign [.Name r rp] (.BinOp (.Name r rp2) .Add (.Call (.Name "int" ip) [.Call (.Name "isinstance" isp) [.Name n np,.Name "ValueError" tp] [] icpos] [] ccpos) bpos) apos] hpos] [] [] pos) (Fu s.f (Hg ev C s.ms (e::es)) (Dg T y j m)):=by
 obtain⟨k,f,fd,ps,hr,hm,hk,hb,F⟩:=O.fns x s hf;obtain⟨g1,g2⟩:=O.gl hg;obtain⟨gy1,gy2⟩:=O.gl hgy;obtain⟨Cy,hmy⟩:=hyb;have hn':=hn;rw[kAm,kA1]at hn';obtain⟨j1,j2,j3⟩:=ro hjs;obtain⟨m1,m2,m3⟩:=ro hms;have bl:=O.bl;have P:=Uc (T:="ValueError") (xT:="ValueError") (i:=m) (j:=j) (p:=p) (yp:=yp) (epos:=epos) (hpos:=hpos) (pos:=pos) (rp:=rp) (rp2:=rp2) (ip:=ip) (isp:=isp) (np:=np) (tp:=tp) (icpos:=icpos) (ccpos:=ccpos) (bpos:=bpos) (apos:=apos) F hr g1 hm hk hb (se (B:=B) h O.toXOk.nox (ms:=s.ms) hn) O.stk O.frm O.ex0 gy1 hmy hne
  (by rw[O.n];exact O.nd) (by rw[O.n];exact m1) (by rw[O.n];exact j1) (by rw[O.s];exact hml) (by rw[O.s];exact hjl) (qp m3) (vo m3) (qp j3) (vo j3)
  (O.gl i1).1 (bl _ (by decide+kernel)) (O.gl i2).1 (bl _ (by decide+kernel)) (O.gl i3).1 (bl _ (by decide+kernel)) Wl (by decide+kernel) (by decide+kernel) (fe hnc) g2 gy2 (bj hn'.1) (kq hn'.2)
 unfold zb0 at P;refine PS.imp P λD σ H ⟨G,δ,R,ex,q⟩=>⟨G,δ,R,?_⟩;unfold Fu at q;cases er:Hg ev C s.ms (e::es) δ with
 |er c=>rw[er]at q;exact q.elim
 |st=>rw[er]at q;exact q.elim
 |ok ds=>
  rw[er]at q;intro vs G1 H1 e1 al;refine⟨al.length.2,R.gb.same (R.bh.trans e1.hh),G1,ds,e1.gh,al,?_⟩;dsimp only at q;cases ef:s.f ds with
  |ok d=>
   rw[ef]at q;exact λv G' H' e2 _=>q σ G' H' (e1.trans e2).gg (R.ext (e1.trans e2)) (ex.trans (e1.trans e2))
  |st=>rw[ef]at q;exact q.elim
  |er c=>
   rw[ef]at q;intro G' H' e2;have q:OutP (kx X) G0 B (ek (kx X) E) G (Dg T y j m c δ) D:=q;unfold Dg at q
   by_cases hs:(T.xs.sub c y && T.xs.ve c)=true
   ·rw[if_pos hs]at q;rw[kA1]at hs;obtain⟨Cy',hmy',hex⟩:=O.sub c y hs.1;rw[hmy]at hmy';cases hmy';refine⟨hex,O.ve c hs.2,rfl,?_⟩;cases ed:δ[j]? with
    |none=>rw[ed]at q;exact q.elim
    |some sl=>
     rw[ed]at q;cases sl with
     |pu d=>
      cases d with
      |int z=>
       obtain⟨v,v1,v2⟩:=R.var ed;have v2:=Mj v2;subst v2;exact⟨z,v1,q _ G' H' (e1.trans e2).gg (EnvR.setNo (EnvR.set (i:=j) (d:=.int (z+1)) (v:=.int (z+1)) (R.ext (e1.trans e2)) (show Den (kx X) G' (.int (z+1)) (.int (z+1))from rfl))) (ex.trans (e1.trans e2))⟩
      |_=>exact q.elim
     |_=>exact q.elim
   ·rw[if_neg hs]at q;exact q.elim
noncomputable def one{α:Type}:List α→Option α
 |[a]=>some a
 |_=>none
theorem xf{α:Type}{l:List α}{a:α}(h:one l=some a):l=[a]:=by
 match l,h with
 |[b],h=>cases h;rfl
noncomputable def C6:Expr→Option (Expr×List Expr×List Keyword×Pos)
 |.Call f a k p=>some (f,a,k,p)
 |_=>none
theorem ph{e f:Expr}{a:List Expr}{k:List Keyword}{p:Pos}(h:C6 e=some (f,a,k,p)):e=.Call f a k p:=by
 cases e<;>first|(cases h;rfl)|cases h
noncomputable def qj:Expr→Option (Str×Pos)
 |.Name x p=>some (x,p)
 |_=>none
theorem ig{e:Expr}{x:Str}{p:Pos}(h:qj e=some (x,p)):e=.Name x p:=by
 cases e<;>first|(cases h;rfl)|cases h
noncomputable def Ut:Stmt→Option (Option Expr×Option Expr×Pos)
 |.Raise e c p=>some (e,c,p)
 |_=>none
theorem P5{st:Stmt}{e c:Option Expr}{p:Pos}(h:Ut st=some (e,c,p)):st=.Raise e c p:=by
 cases st<;>first|(cases h;rfl)|cases h
noncomputable def Fp(st:Stmt):Option (Str×Expr×List Expr):=(Ut st).bind λq=>q.1.bind λw=>(C6 w).bind λc=>(qj c.1).bind λx=>match c.2.1,c.2.2.1,q.2.1 with
 |e::es,[],none=>some (x.1,e,es)
 |_,_,_=>none
theorem P4{st:Stmt}{x:Str}{e:Expr}{es:List Expr}(h:Fp st=some (x,e,es)):∃np cpos pos,st=.Raise (some (.Call (.Name x np) (e::es) [] cpos)) none pos:=by
 unfold Fp at h;simp only[kBb]at h;obtain⟨⟨q1,q2,q3⟩,h1,w,h0,⟨c1,c2,c3,c4⟩,h2,⟨y1,y2⟩,h3,h4⟩:=h;dsimp only at h0 h2 h3 h4;split at h4
 ·cases h4;exact⟨_,_,_,by rw[P5 h1,h0,ph h2,ig h3]⟩
 ·cases h4
noncomputable def nt(T:GT)(ev:Ev)(C:SC)(st:Stmt):En→Out:=match Fp st with
 |some (x,e,es)=>if T.xs.exc x && o6 C x && (e::es).all gi && decide ((e::es).length≤1000)then jt x (o3 ev C (e::es))else lh
 |none=>lh
theorem Uu(h:fw T ev)(O:XOk X C T E){st:Stmt}:lu X G0 B (ek (kx X) E) st (nt T ev C st):=by
 unfold nt;cases hp:Fp st with
 |none=>exact gu
 |some t=>
  obtain⟨x,e,es⟩:=t;obtain⟨np,cpos,pos,rfl⟩:=P4 hp;dsimp only
  by_cases hc:(T.xs.exc x && o6 C x && (e::es).all gi && decide ((e::es).length≤1000))=true
  ·rw[if_pos hc];simp only[kA1]at hc;exact Zb h O hc.1.1.1 hc.1.1.2 hc.1.2 (of_decide_eq_true hc.2)
  ·rw[if_neg hc];exact gu
structure TryC where
 c:Expr
 x:Str
 e:Expr
 es:List Expr
 y:Str
 r:Str
noncomputable def zex:Stmt→Option (List Stmt×List ExceptHandler×List Stmt×List Stmt×Pos)
 |.Try b h o f p=>some (b,h,o,f,p)
 |_=>none
theorem N4{st:Stmt}{b:List Stmt}{h:List ExceptHandler}{o f:List Stmt}{p:Pos}(e:zex st=some (b,h,o,f,p)):st=.Try b h o f p:=by
 cases st<;>first|(cases e;rfl)|cases e
noncomputable def zae:Stmt→Option (Expr×Pos)
 |.Expr e p=>some (e,p)
 |_=>none
theorem Rt{st:Stmt}{e:Expr}{p:Pos}(h:zae st=some (e,p)):st=.Expr e p:=by
 cases st<;>first|(cases h;rfl)|cases h
noncomputable def zfo:Stmt→Option (List Expr×Expr×Pos)
 |.Assign t v p=>some (t,v,p)
 |_=>none
theorem Wf{st:Stmt}{t:List Expr}{v:Expr}{p:Pos}(h:zfo st=some (t,v,p)):st=.Assign t v p:=by
 cases st<;>first|(cases h;rfl)|cases h
noncomputable def zfr:Expr→Option (Expr×Operator×Expr×Pos)
 |.BinOp l o r p=>some (l,o,r,p)
 |_=>none
theorem Wi{e l r:Expr}{o:Operator}{p:Pos}(h:zfr e=some (l,o,r,p)):e=.BinOp l o r p:=by
 cases e<;>first|(cases h;rfl)|cases h
noncomputable def zai:Operator→Bool
 |.Add=>true
 |_=>false
theorem Sk{o:Operator}(h:zai o=true):o=.Add:=by
 cases o<;>first|rfl|cases h
noncomputable def Rc:Expr→Option (Const×Nat×Pos)
 |.Constant c k p=>some (c,k,p)
 |_=>none
theorem Oe{e:Expr}{c:Const}{k:Nat}{p:Pos}(h:Rc e=some (c,k,p)):e=.Constant c k p:=by
 cases e<;>first|(cases h;rfl)|cases h
noncomputable def zf4:Const→Option Int
 |.int i=>some i
 |_=>none
theorem W5{c:Const}{i:Int}(h:zf4 c=some i):c=.int i:=by
 cases c<;>first|(cases h;rfl)|cases h
noncomputable def Qz(st:Stmt):Option (Str×Pos×Expr×List Expr×Pos×Pos):=(zae st).bind λq=>(C6 q.1).bind λc=>(qj c.1).bind λx=>match c.2.1,c.2.2.1 with
 |e::es,[]=>some (x.1,x.2,e,es,c.2.2.2,q.2)
 |_,_=>none
theorem Q0{st:Stmt}{x:Str}{xp cp ep:Pos}{e:Expr}{es:List Expr}(h:Qz st=some (x,xp,e,es,cp,ep)):st=.Expr (.Call (.Name x xp) (e::es) [] cp) ep:=by
 unfold Qz at h;simp only[kBb]at h;obtain⟨⟨q1,q2⟩,h1,⟨c1,c2,c3,c4⟩,h2,⟨y1,y2⟩,h3,h4⟩:=h;dsimp only at h2 h3 h4;split at h4
 ·cases h4;rw[Rt h1,ph h2,ig h3]
 ·cases h4
noncomputable def zbh(st:Stmt):Option (Str×Pos×Str×Pos×Expr×Pos×Pos):=(zfo st).bind λq=>(one q.1).bind λt=>(qj t).bind λr=>(zfr q.2.1).bind λb=>(qj b.1).bind λr2=>
 if zai b.2.1 then some (r.1,r.2,r2.1,r2.2,b.2.2.1,b.2.2.2,q.2.2)else none
theorem We{st:Stmt}{r r2:Str}{rp rp2 bpos apos:Pos}{v:Expr}(h:zbh st=some (r,rp,r2,rp2,v,bpos,apos)):st=.Assign [.Name r rp] (.BinOp (.Name r2 rp2) .Add v bpos) apos:=by
 unfold zbh at h;simp only[kBb]at h;obtain⟨⟨q1,q2,q3⟩,h1,t,h2,⟨r',rp'⟩,h3,⟨b1,b2,b3,b4⟩,h4,⟨r2',rp2'⟩,h5,h6⟩:=h;dsimp only at h2 h3 h4 h5 h6;split at h6
 ·rename_i ha;cases h6;rw[Wf h1,xf h2,ig h3,Wi h4,ig h5,Sk ha]
 ·cases h6
structure TryQ where
 x:Str
 xp:Pos
 e:Expr
 es:List Expr
 cp:Pos
 ep:Pos
 y:Str
 yp:Pos
 n:Option Str
 r:Str
 rp:Pos
 r2:Str
 rp2:Pos
 v:Expr
 bpos:Pos
 apos:Pos
 hpos:Pos
 pos:Pos
noncomputable def Hj:ExceptHandler→Option Expr×Option Str×List Stmt×Pos
 |.ExceptHandler t n b p=>(t,n,b,p)
noncomputable def Zr(st:Stmt):Option TryQ:=(zex st).bind λq=>(one q.1).bind λb=>(one q.2.1).bind λh=>(Qz b).bind λc=>(Hj h).1.bind λt=>(qj t).bind λy=>(one (Hj h).2.2.1).bind λs=>(zbh s).bind λa=>
 if q.2.2.1.isEmpty && q.2.2.2.1.isEmpty then some ⟨c.1,c.2.1,c.2.2.1,c.2.2.2.1,c.2.2.2.2.1,c.2.2.2.2.2,y.1,y.2,(Hj h).2.1,a.1,a.2.1,a.2.2.1,a.2.2.2.1,a.2.2.2.2.1,a.2.2.2.2.2.1,a.2.2.2.2.2.2,(Hj h).2.2.2,q.2.2.2.2⟩else none
theorem N2{st:Stmt}{q:TryQ}(h:Zr st=some q):st=.Try [.Expr (.Call (.Name q.x q.xp) (q.e::q.es) [] q.cp) q.ep] [.ExceptHandler (some (.Name q.y q.yp)) q.n [.Assign [.Name q.r q.rp] (.BinOp (.Name q.r2 q.rp2) .Add q.v q.bpos) q.apos] q.hpos] [] [] q.pos:=by
 unfold Zr at h;simp only[kBb]at h;obtain⟨⟨q1,q2,q3,q4,q5⟩,h1,b,h2,hh,h3,⟨c1,c2,c3,c4,c5,c6⟩,h4,t,h5,⟨y1,y2⟩,h6,s,h7,⟨a1,a2,a3,a4,a5,a6,a7⟩,h8,h9⟩:=h;obtain⟨t0,n0,b0,p0⟩:=hh;dsimp only[Hj]at h2 h3 h5 h6 h7 h8 h9;split at h9
 ·rename_i he;rw[kA1]at he;cases h9;rw[N4 h1,xf h2,xf h3,Q0 h4,h5,ig h6,xf h7,We h8,List.isEmpty_iff.mp he.1,List.isEmpty_iff.mp he.2]
 ·cases h9
noncomputable def N0(st:Stmt):Option (TryC×Int):=(Zr st).bind λq=>(Rc q.v).bind λc=>(zf4 c.1).bind λi=>
 if q.n=none∧q.r=q.r2 then some (⟨.Call (.Name q.x q.xp) (q.e::q.es) [] q.cp,q.x,q.e,q.es,q.y,q.r⟩,i)else none
theorem Vr{st:Stmt}{t:TryC}{i:Int}(h:N0 st=some (t,i)):∃(xp cp ep yp rp rp2 ipos bpos apos hpos pos:Pos) (kd:_),t.c=.Call (.Name t.x xp) (t.e::t.es) [] cp∧st=.Try [.Expr (.Call (.Name t.x xp) (t.e::t.es) [] cp) ep] [.ExceptHandler (some (.Name t.y yp)) none [.Assign [.Name t.r rp] (.BinOp (.Name t.r rp2) .Add (.Constant (.int i) kd ipos) bpos) apos] hpos] [] [] pos:=by
 unfold N0 at h;simp only[kBb]at h;obtain⟨q,h1,⟨c1,c2,c3⟩,h2,j,h3,h4⟩:=h;dsimp only at h3;split at h4
 ·rename_i hr;cases h4;obtain⟨x,xp,e,es,cp,ep,y,yp,n,r,rp,r2,rp2,v,bpos,apos,hpos,pos⟩:=q;dsimp only at hr h2 h1;obtain⟨g1,g2⟩:=hr;subst g1 g2;have hq:=N2 h1;dsimp only at hq;rw[Oe h2,W5 h3]at hq;exact⟨_,_,_,_,_,_,_,_,_,_,_,_,rfl,hq⟩
 ·cases h4
noncomputable def zb3(v:Expr)(n:Str):Option (Pos×Pos×Pos×Pos×Pos×Pos):=(C6 v).bind λc=>(qj c.1).bind λa=>(one c.2.1).bind λw=>(C6 w).bind λd=>(qj d.1).bind λb=>match d.2.1 with
 |[u,t]=>(qj u).bind λn2=>(qj t).bind λt2=>if c.2.2.1.isEmpty && d.2.2.1.isEmpty && decide (a.1="int") && decide (b.1="isinstance") && decide (n2.1=n) && decide (t2.1="ValueError")then some (a.2,b.2,n2.2,t2.2,d.2.2.2,c.2.2.2)else none
 |_=>none
theorem W6{v:Expr}{n:Str}{ip isp np tp icpos ccpos:Pos}(h:zb3 v n=some (ip,isp,np,tp,icpos,ccpos)):v=.Call (.Name "int" ip) [.Call (.Name "isinstance" isp) [.Name n np,.Name "ValueError" tp] [] icpos] [] ccpos:=by
 unfold zb3 at h;simp only[kBb]at h;obtain⟨⟨c1,c2,c3,c4⟩,h1,⟨a1,a2⟩,h2,w,h3,⟨d1,d2,d3,d4⟩,h4,⟨b1,b2⟩,h5,h6⟩:=h;dsimp only at h2 h3 h5 h6;split at h6
 ·rename_i u t;simp only[kBb]at h6;obtain⟨⟨n1,n2⟩,h7,⟨t1,t2⟩,h8,h9⟩:=h6;dsimp only at h9;split at h9
  ·rename_i hc;simp only[kA1,decide_eq_true_eq]at hc;obtain⟨⟨⟨⟨⟨g1,g2⟩,g3⟩,g4⟩,g5⟩,g6⟩:=hc;cases h9;rw[ph h1,ig h2,xf h3,ph h4,ig h5,ig h7,ig h8,List.isEmpty_iff.mp g1,List.isEmpty_iff.mp g2,g3,g4,g5,g6]
  ·cases h9
 ·cases h6
noncomputable def N1(st:Stmt):Option (TryC×Str):=(Zr st).bind λq=>q.n.bind λn=>(zb3 q.v n).bind λ_=>
 if q.r=q.r2 then some (⟨.Call (.Name q.x q.xp) (q.e::q.es) [] q.cp,q.x,q.e,q.es,q.y,q.r⟩,n)else none
theorem Vs{st:Stmt}{t:TryC}{n:Str}(h:N1 st=some (t,n)):∃(xp cp ep yp rp rp2 ip isp np tp icpos ccpos bpos apos hpos pos:Pos),t.c=.Call (.Name t.x xp) (t.e::t.es) [] cp∧st=.Try [.Expr (.Call (.Name t.x xp) (t.e::t.es) [] cp) ep] [.ExceptHandler (some (.Name t.y yp)) (some n) [.Assign [.Name t.r rp] (.BinOp (.Name t.r rp2) .Add (.Call (.Name "int" ip) [.Call (.Name "isinstance" isp) [.Name n np,.Name "ValueError" tp] [] icpos] [] ccpos) bpos) apos] hpos] [] [] pos:=by
 unfold N1 at h;simp only[kBb]at h;obtain⟨q,h1,m,h2,⟨ip,isp,np,tp,icpos,ccpos⟩,h3,h4⟩:=h;split at h4
 ·rename_i hr;cases h4;obtain⟨x,xp,e,es,cp,ep,y,yp,n',r,rp,r2,rp2,v,bpos,apos,hpos,pos⟩:=q;dsimp only at hr h2 h3 h1;subst hr;have hq:=N2 h1;dsimp only at hq;rw[W6 h3,h2]at hq;exact⟨_,_,_,_,_,_,_,_,_,_,_,_,_,_,_,_,rfl,hq⟩
 ·cases h4
noncomputable def zhd:Stmt→Option (Option Expr×Pos)
 |.Return o p=>some (o,p)
 |_=>none
theorem Y7{st:Stmt}{o:Option Expr}{p:Pos}(h:zhd st=some (o,p)):st=.Return o p:=by
 cases st<;>first|(cases h;rfl)|cases h
noncomputable def zd4(st:Stmt):Option (Str×Pos×Expr×List Expr×Pos×Pos):=(zhd st).bind λq=>q.1.bind λw=>(C6 w).bind λc=>(qj c.1).bind λx=>match c.2.1,c.2.2.1 with
 |e::es,[]=>some (x.1,x.2,e,es,c.2.2.2,q.2)
 |_,_=>none
theorem Y6{st:Stmt}{x:Str}{xp cp ep:Pos}{e:Expr}{es:List Expr}(h:zd4 st=some (x,xp,e,es,cp,ep)):st=.Return (some (.Call (.Name x xp) (e::es) [] cp)) ep:=by
 unfold zd4 at h;simp only[kBb]at h;obtain⟨⟨q1,q2⟩,h1,w,h0,⟨c1,c2,c3,c4⟩,h2,⟨y1,y2⟩,h3,h4⟩:=h;dsimp only at h0 h2 h3 h4;split at h4
 ·cases h4;rw[Y7 h1,h0,ph h2,ig h3]
 ·cases h4
noncomputable def N3(st:Stmt):Option (Str×Expr×List Expr):=(zex st).bind λq=>(one q.1).bind λb=>(zd4 b).bind λc=>if !q.2.1.isEmpty && q.2.2.1.isEmpty && q.2.2.2.1.isEmpty then some (c.1,c.2.2.1,c.2.2.2.1)else none
theorem Vt{st:Stmt}{x:Str}{e:Expr}{es:List Expr}(h:N3 st=some (x,e,es)):∃(xp cp ep pos:Pos) (h₀:ExceptHandler) (hs:List ExceptHandler),st=.Try [.Return (some (.Call (.Name x xp) (e::es) [] cp)) ep] (h₀::hs) [] [] pos:=by
 unfold N3 at h;simp only[kBb]at h;obtain⟨⟨q1,q2,q3,q4,q5⟩,h1,b,h2,⟨c1,c2,c3,c4,c5,c6⟩,h3,h4⟩:=h;dsimp only at h2 h4;split at h4
 ·rename_i he;simp only[kA1]at he;cases h4;cases q2 with
  |nil=>cases he.1.1
  |cons h₀ hs=>
   refine⟨c2,c5,c6,q5,h₀,hs,?_⟩;rw[N4 h1,xf h2,Y6 h3,List.isEmpty_iff.mp he.1.2,List.isEmpty_iff.mp he.2]
 ·cases h4
noncomputable def U2(f:List D→Res)(r:En→ResL):En→Out:=λδ=>match r δ with
 | .ok ds => (match f ds with
  |.ok d=>.rt d
  |_=>.st)
 |_=>.st
theorem zeh{x:Str}{s:FS}{p cpos epos pos:Pos}{e:Expr}{es:List Expr}{h₀:ExceptHandler}{hs:List ExceptHandler}(h:fw T ev)(O:SOk X C T E)(hf:T.fns x=some s)(hg:o6 C x=true)(hn:(e::es).all gi=true):
  lu X G0 B (ek (kx X) E) (.Try [.Return (some (.Call (.Name x p) (e::es) [] cpos)) epos] (h₀::hs) [] [] pos) (U2 s.f (Hg ev C s.ms (e::es))):=by
 obtain⟨k,f,fd,ps,hr,hm,hk,hb,F⟩:=O.fns x s hf;obtain⟨g1,g2⟩:=O.gl hg;have hn':=hn;rw[kAm,kA1]at hn';refine PS.imp (Yn F hr g1 hm hk hb (se (B:=B) h O.toXOk.nox (ms:=s.ms) hn) g2 (bj hn'.1) (kq hn'.2)) λD σ H ⟨G,δ,R,ex,q⟩=>⟨G,δ,R,?_⟩;unfold U2 at q;cases er:Hg ev C s.ms (e::es) δ with
 |er c=>rw[er]at q;exact q.elim
 |st=>rw[er]at q;exact q.elim
 |ok ds=>
  rw[er]at q;intro vs G1 H1 e1 al;refine⟨al.length.2,R.gb.same (R.bh.trans e1.hh),G1,ds,e1.gh,al,?_⟩;dsimp only at q;cases ef:s.f ds with
  |ok d=>
   rw[ef]at q;exact λv G' H' e2 dn=>q v G' H' (ex.trans (e1.trans e2)) dn
  |st=>rw[ef]at q;exact q.elim
  |er c=>rw[ef]at q;exact q.elim
noncomputable def Dx(T:GT)(C:SC)(t:TryC):Bool:=o6 C t.x && (t.e::t.es).all gi && o6 C t.y && T.xs.exc t.y && i8 t.c
noncomputable def F3(T:GT)(ev:Ev)(C:SC)(st:Stmt):En→Out:=match N0 st with
 | some (t, i) => (match T.fns t.x, jw C t.r, slot C t.r with
  |some s,some j,some j'=>if Dx T C t && decide (j=j')then Fu s.f (Hg ev C s.ms (t.e::t.es)) (Oz T t.y j i)else lh
  |_,_,_=>lh)
 | none => (match N1 st with
  | some (t, n) => (match T.fns t.x, slot C t.r, slot C n with
   |some s,some j,some m=>if Dx T C t && decide (m≠j) && decide (C.sc.names.lookup t.r=some .local) && decide (C.sc.names.lookup n=some .local) && o6 C "int" && o6 C "isinstance" && o6 C "ValueError" then Fu s.f (Hg ev C s.ms (t.e::t.es)) (Dg T t.y j m)else lh
   |_,_,_=>lh)
  | none => (match N3 st with
   | some (x, e, es) => (match T.fns x with
    |some s=>if o6 C x && (e::es).all gi then U2 s.f (Hg ev C s.ms (e::es))else lh
    |none=>lh)
   |none=>lh))
theorem zey(h:fw T ev)(O:SOk X C T E){st:Stmt}:lu X G0 B (ek (kx X) E) st (F3 T ev C st):=by
 have key:∀t,Dx T C t=true→o6 C t.x=true∧(t.e::t.es).all gi=true∧o6 C t.y=true∧(∃Cy,X.mg t.y=some (.ref Cy))∧i8 t.c=true:=λt ht=>by
  unfold Dx at ht;simp only[kA1]at ht;obtain⟨Cc,_,_,hm,_⟩:=O.exc t.y ht.1.2;exact⟨ht.1.1.1.1,ht.1.1.1.2,ht.1.1.2,⟨Cc,hm⟩,ht.2⟩
 unfold F3;cases hp:N0 st with
 |some ti=>
  obtain⟨t,i⟩:=ti;obtain⟨xp,cp,ep,yp,rp,rp2,ipos,bpos,apos,hpos,pos,kd,hc,rfl⟩:=Vr hp;dsimp only;cases e1:T.fns t.x with
  |none=>exact gu
  |some s=>
   cases e2:jw C t.r with
   |none=>exact gu
   |some j=>
    cases e3:slot C t.r with
    |none=>exact gu
    |some j'=>
     dsimp only
     by_cases hk:(Dx T C t && decide (j=j'))=true
     ·rw[if_pos hk];rw[kA1]at hk;obtain⟨k1,k2,k3,k4,k5⟩:=key t hk.1;have hj:=of_decide_eq_true hk.2;subst hj;rw[hc]at k5;exact zeg h O e1 k1 k2 k3 k4 e2 e3 k5
     ·rw[if_neg hk];exact gu
 |none=>
  dsimp only;cases ha:N1 st with
  |none=>
   dsimp only;cases hr:N3 st with
   |none=>exact gu
   |some t=>
    obtain⟨x,e,es⟩:=t;obtain⟨xp,cp,ep,pos,h₀,hs,rfl⟩:=Vt hr;dsimp only;cases e1:T.fns x with
    |none=>exact gu
    |some s=>
     dsimp only
     by_cases hk:(o6 C x && (e::es).all gi)=true
     ·rw[if_pos hk];rw[kA1]at hk;exact zeh h O e1 hk.1 hk.2
     ·rw[if_neg hk];exact gu
  |some tn=>
   obtain⟨t,n⟩:=tn;obtain⟨xp,cp,ep,yp,rp,rp2,ip,isp,np,tp,icpos,ccpos,bpos,apos,hpos,pos,hc,rfl⟩:=Vs ha;dsimp only;cases e1:T.fns t.x with
   |none=>exact gu
   |some s=>
    cases e2:slot C t.r with
    |none=>exact gu
    |some j=>
     cases e3:slot C n with
     |none=>exact gu
     |some m=>
      dsimp only
      by_cases hk:(Dx T C t && decide (m≠j) && decide (C.sc.names.lookup t.r=some .local) && decide (C.sc.names.lookup n=some .local) && o6 C "int" && o6 C "isinstance" && o6 C "ValueError")=true
      ·rw[if_pos hk];simp only[kA1]at hk;obtain⟨⟨⟨⟨⟨⟨a1,a2⟩,a3⟩,a4⟩,a5⟩,a6⟩,a7⟩:=hk;obtain⟨k1,k2,k3,k4,k5⟩:=key t a1;rw[hc]at k5;exact Zd h O e1 k1 k2 k3 k4 e2 e3 (of_decide_eq_true a3) (of_decide_eq_true a4) (of_decide_eq_true a2) k5 a5 a6 a7
      ·rw[if_neg hk];exact gu
end
section
variable{T:GT}{ev:Ev}{X:Cx}{C:SC}{G0 B:Hp}{E:XK}
structure HQ where
 y:Str
 yp:Pos
 r:Str
 rp:Pos
 c:Const
 kd:Nat
 cp:Pos
 ap:Pos
 hp:Pos
noncomputable def HQ.st(h:HQ):ExceptHandler:=.ExceptHandler (some (.Name h.y h.yp)) none [.Assign [.Name h.r h.rp] (.Constant h.c h.kd h.cp) h.ap] h.hp
end
mutual
noncomputable def Kb:Nat→GT→Expr→List Str
 |0,_,_=>[]
 |n+1,T,e=>match e with
  |.Name x _=>[x]
  |.IfExp c a b _=>Ag n T c++Kb n T a++Kb n T b
  |.BoolOp _ vs _=>vs.flatMap (Kb n T)
  |e=>Ag n T e
noncomputable def Ag:Nat→GT→Expr→List Str
 |0,_,_=>[]
 |n+1,T,e=>match e with
  |.BinOp a _ b _=>Ag n T a++Ag n T b
  |.UnaryOp _ a _=>Ag n T a
  |.BoolOp _ vs _=>vs.flatMap (Ag n T)
  |.IfExp c a b _=>Ag n T c++Kb n T a++Kb n T b
  |.Compare l _ rs _=>Ag n T l++rs.flatMap (Ag n T)
  |.Tuple es _ _=>es.flatMap (Kb n T)
  |.List es _=>es.flatMap (Kb n T)
  |.Subscript a i _=>Ag n T a++Ag n T i
  |.ListComp elt gens _ _=>Kb n T elt++gens.flatMap λg=>Ag n T g.iter++g.ifs.flatMap (Ag n T)
  | .Call (.Name f _) args _ _ => (match T.fns f with
   |some s=>(s.ms.zip args).flatMap λp=>if p.1 then Ag n T p.2 else Kb n T p.2
   |none=>args.flatMap (Ag n T))
  |.Call (.Attribute o _ _) args _ _=>Ag n T o++args.flatMap (Kb n T)
  |_=>[]
end
noncomputable def dvS(T:GT)(st:Stmt):List Str:=match st with
 |.Return (some e) _=>Kb 30 T e
 |.Assign [.Name _ _] e _=>Kb 30 T e
 |.Assign [.Subscript _ k _] e _=>Kb 30 T e++Ag 30 T k
 |.AugAssign _ _ e _=>Ag 30 T e
 |.Expr (.Call (.Attribute (.Name _ _) m _) args _ _) _=>if m="extend" then args.flatMap (Ag 30 T)else args.flatMap (Kb 30 T)
 |.Expr e _=>Ag 30 T e
 |.If c _ _ _=>Ag 30 T c
 |.For _ iter _ _ _=>Kb 30 T iter
 |.Try [.Expr e _] _ _ _ _=>Ag 30 T e
 |.Try [.Assign [.Name _ _] e _] _ _ _ _=>Ag 30 T e
 |_=>[]
noncomputable def Zg(C:SC)(xs:List Str):List Nat:=xs.filterMap (slot C)
noncomputable def Hk(T:GT)(C:SC)(x y:Str):Bool:=decide (x=y) && decide (slot C x=none) && o6 C x && (T.fns x).isNone
theorem Mx{T:GT}{C:SC}{X:Cx}(O:XOk X C T E){x y:Str}(h:Hk T C x y=true):x=y∧Gl X x:=by
 unfold Hk at h;simp only[kA1,decide_eq_true_eq]at h;exact⟨h.1.1.1,(O.gl h.1.2).1⟩
noncomputable def zcw(T:GT)(ev:Ev)(C:SC)(x:Str)(a:Expr):Option (En→Res):=if decide (slot C x=none) && o6 C x && T.own x && gi a then(match T.fns x with
 |some s=>some (dq s.f (Hg ev C s.ms [a]))
 |none=>none)else none
noncomputable def Jn(T:GT)(ev:Ev)(C:SC)(e:Expr):Option (En→Res):=match e with
 |.List es _=>if es.all gi then some (iy (o3 ev C es))else none
 |.Call (.Name x _) [a] [] _=>if Hk T C x "list" then(if gi a then some (g1 fi (ju ev C a))else none)else zcw T ev C x a
 |.BinOp (.List es _) op b _=>if My op && es.all gi then some (Sd (iy (o3 ev C es)) (ju ev C b))else none
 |_=>none
noncomputable def jj(ev:Ev)(C:SC)(e:Expr):Option (En→ResE):=match e with
 |.Call (.Attribute (.Name x _) m ap) [k,v] [] cp=>if m="setdefault" && gi k && gi v && (ap.endLine==cp.line)then(slot C x).map λi=>jz i (ju ev C k) (ev C v)else none
 |_=>none
noncomputable def Jm(ev tv:Ev)(C:SC)(e:Expr):Option (En→ResE):=match e with
 | .IfExp c a b _ => (match jj ev C a, jj ev C b with
  |some f,none=>some (R8 (tv C c) f (Sb (ev C b)))
  |none,some f=>some (R8 (tv C c) (Sb (ev C a)) f)
  |some f,some f'=>some (R8 (tv C c) f f')
  |none,none=>none)
 |e=>jj ev C e
noncomputable def xo(ev:Ev)(C:SC)(e:Expr):Option (En→ResE):=match e with
 | .Compare l [op] [r] _ => (match jj ev C l, Eg op with
  |some f,some p=>if md r then some (ya p f (ju ev C r))else none
  |_,_=>none)
 |_=>none
section
variable{T:GT}{ev tv:Ev}{X:Cx}{C:SC}{G0 B:Hp}{E:XK}
theorem Ai(h:fw T ev)(O:XOk X C T E){e:Expr}{f:En→ResE}(hf:jj ev C e=some f):V5 X G0 B (ek (kx X) E) e f:=by
 unfold jj at hf;split at hf
 ·rename_i x p m ap k v cp
  by_cases hc:(decide (m="setdefault") && gi k && gi v && (ap.endLine==cp.line))=true
  ·rw[if_pos hc]at hf;simp only[kA1,decide_eq_true_eq]at hc;obtain⟨⟨⟨rfl,h2⟩,h3⟩,h4⟩:=hc;cases hs:slot C x with
   |none=>rw[hs]at hf;cases hf
   |some i=>
    rw[hs]at hf;cases hf;dsimp only;exact Ol (O.var hs) (di h O k) (h X C B E v O) h2 h3 h4
  ·rw[if_neg hc]at hf;cases hf
 ·cases hf
theorem zj9(h:fw T ev)(ht:B6 T tv)(O:XOk X C T E){e:Expr}{f:En→ResE}(hf:Jm ev tv C e=some f):V5 X G0 B (ek (kx X) E) e f:=by
 unfold Jm at hf;split at hf
 ·rename_i c a b p;cases h1:jj ev C a with
  |none=>
   cases h2:jj ev C b with
   |none=>rw[h1,h2]at hf;cases hf
   |some f'=>rw[h1,h2]at hf;cases hf;exact Rm (ht X C B E c O) (Mm (h X C B E a O)) (Ai h O h2)
  |some f'=>
   cases h2:jj ev C b with
   |none=>rw[h1,h2]at hf;cases hf;exact Rm (ht X C B E c O) (Ai h O h1) (Mm (h X C B E b O))
   |some f''=>rw[h1,h2]at hf;cases hf;exact Rm (ht X C B E c O) (Ai h O h1) (Ai h O h2)
 ·exact Ai h O hf
theorem zfz(h:fw T ev)(O:XOk X C T E){e:Expr}{f:En→ResE}(hf:xo ev C e=some f):EfT X G0 B (ek (kx X) E) e f:=by
 unfold xo at hf;split at hf
 ·rename_i l op r p;cases h1:jj ev C l with
  |none=>rw[h1]at hf;cases hf
  |some f'=>
   cases h2:Eg op with
   |none=>rw[h1,h2]at hf;cases hf
   |some q=>
    rw[h1,h2]at hf;dsimp only at hf
    by_cases hs:md r=true
    ·rw[if_pos hs]at hf;cases hf;obtain⟨rr,g1,g2,g3⟩:=y6 (X:=X) h2 O.units;exact zbu g1 g2 g3 (Ai h O h1) (di h O r) (me hs)
    ·rw[if_neg hs]at hf;cases hf
 ·cases hf
end
noncomputable def zh(T:GT)(ev tv:Ev)(C:SC)(x:Str)(e:Expr):En→Out:=match jw C x with
 |none=>lh
 | some i => (match e with
  | .Dict ks vs _ => (match ks, vs with
   |[],[]=>if C.td.contains x then U1 i else Ja i
   |_,_=>lh)
  |.ListComp elt gens scope _=>q0 i (kr ev tv C elt gens scope)
  | e => (match Jn T ev C e with
   |some g=>if i8 e then q0 i g else lh
   | none => if i8 e then (match Jm ev tv C e with
    |some f=>Nt i f
    |none=>ni i (ev C e))else lh))
noncomputable def F0(ev:Ev)(C:SC)(x m:Str)(args:List Expr):En→Out:=match slot C x,args with
 |some i,[a]=>if m="append" then(if gi a then Lh i (ev C a)else lh)
  else if m="extend" then(if gi a then P7 i (ju ev C a)else lh)
  else lh
 |_,_=>lh
noncomputable def fz(is:List Nat)(F:En→Out):En→Out:=λδ=>F (frzs is δ)
noncomputable def zkc(i:Nat)(δ:En):Bool:=match δ[i]? with
 |some (.ow _)=>true
 |_=>false
noncomputable def zd8(i:Nat)(gk gv:En→Res):En→Out:=Du i gk gv
noncomputable abbrev Bv:=SC→List Stmt→En→Out
noncomputable def Vj(T:GT)(ev tv:Ev)(bv:Bv)(C:SC)(st:Stmt):En→Out:=match st with
 | .Return o _ => (match o with
  |some e=>fm (ev C e)
  |none=>zau)
 | .Assign tgs e _ => (match tgs with
  |[.Name x _]=>zh T ev tv C x e
  | [.Subscript (.Name x _) k _] => (match slot C x with
   |some i=>if uj k then(if C.td.contains x then Fq i (ju ev C k) (ev C e)else Du i (ju ev C k) (ev C e))else lh
   |none=>lh)
  |_=>lh)
 | .AugAssign tg op e _ => (match tg, op with
  | .Name x _, .Add => (match jw C x with
   |some i=>Y8 i (λa b=>a+b) (ev C e)
   |none=>lh)
  |_,_=>lh)
 | .Expr e _ => (match e with
  |.Constant (.str _) _ _=>Nr
  | .Call (.Attribute (.Name x xp) m ap) args kws cp => (match kws with
   |[]=>if ap.endLine==cp.line then(match jj ev C (.Call (.Attribute (.Name x xp) m ap) args [] cp)with
    |some f=>Fs f
    |none=>F0 ev C x m args)else lh
   |_=>lh)
  |e=>if i8 e then U0 (ev C e)else lh)
 | .If c a b _ => (match xo ev C c with
  |some f=>yx f (bv C a) (bv C b)
  |none=>xn (tv C c) (bv C a) (bv C b))
 | .For tg iter body els _ => (match els, Vq C tg with
  |[],some f=>if md iter then xm f (Lq ev C tg iter) (bv C body)else lh
  |_,_=>lh)
 | .While c body els _ => (match els with
  |[]=>sWh (tv C c) (bv C body)
  |_=>lh)
 |.Raise exc cause rp=>nt T ev C (.Raise exc cause rp)
 |.Try body hs els fin tp=>F3 T ev C (.Try body hs els fin tp)
 |_=>lh
noncomputable def Ny(T:GT)(ev tv:Ev)(bv:Bv)(C:SC)(st:Stmt):En→Out:=fz (Zg C (dvS T st)) (Vj T ev tv bv C st)
noncomputable def Fv(f:Stmt→En→Out):List Stmt→En→Out
 |[]=>jm
 |[s]=>f s
 |s::r=>d5 (f s) (Fv f r)
def za5(T:GT)(bv:Bv):Prop:=∀X C G0 B (E:XK) ss,SOk X C T E→ur X G0 B (ek (kx X) E) ss (bv C ss)
section
variable{T:GT}{ev tv:Ev}{bv:Bv}{X:Cx}{C:SC}{G0 B:Hp}{E:XK}{pos pos':Pos}
theorem Ya(h:fw T ev)(O:XOk X C T E){x:Str}{a:Expr}{g:En→Res}{p:Pos}(hg:zcw T ev C x a=some g):L8 X B (ek (kx X) E) (.Call (.Name x p) [a] [] pos) g:=by
 unfold zcw at hg
 by_cases hc:(decide (slot C x=none) && o6 C x && T.own x && gi a)=true
 ·rw[if_pos hc]at hg;simp only[kA1,decide_eq_true_eq]at hc;obtain⟨⟨⟨h1,h2⟩,h3⟩,h4⟩:=hc;cases ef:T.fns x with
  |none=>rw[ef]at hg;cases hg
  |some s=>
   rw[ef]at hg;cases hg;obtain⟨k,f,fd,ps,hr,hm,hk,hb,F⟩:=O.own x s h3 ef;obtain⟨q1,q2⟩:=O.gl h2;exact X8 F hr q1 hm hk hb O.goes (se h O (by rw[kAm,h4];rfl)) q2 (bj h4) rfl
 ·rw[if_neg hc]at hg;cases hg
theorem zgk(h:fw T ev)(O:XOk X C T E){e:Expr}{g:En→Res}(hg:Jn T ev C e=some g):L8 X B (ek (kx X) E) e g:=by
 unfold Jn at hg;split at hg
 ·rename_i es _
  by_cases hn:es.all gi=true
  ·rw[if_pos hn]at hg;cases hg;exact Fj mx (n4 h O hn)
  ·rw[if_neg hn]at hg;cases hg
 ·rename_i x p a pos
  by_cases hb:Hk T C x "list"=true
  ·rw[if_pos hb]at hg;obtain⟨rfl,hgl⟩:=Mx O hb
   by_cases hn:gi a=true
   ·rw[if_pos hn]at hg;cases hg;exact Bb O.calm hgl (O.bl _ (by decide)) (di h O a) hn
   ·rw[if_neg hn]at hg;cases hg
  ·rw[if_neg hb]at hg;exact Ya h O hg
 ·rename_i es p op b pos
  by_cases hc:(My op && es.all gi)=true
  ·rw[if_pos hc]at hg;cases hg;rw[kA1]at hc;have:op=.Mult:=by cases op<;>first|rfl|(cases hc.1)
   subst this;exact Ts (Fj mx (n4 h O hc.2)) Es (di h O b)
  ·rw[if_neg hc]at hg;cases hg
 ·cases hg
theorem zbi(h:fw T ev)(ht:B6 T tv)(O:SOk X C T E){x:Str}{e:Expr}:lu X G0 B (ek (kx X) E) (.Assign [.Name x pos'] e pos) (zh T ev tv C x e):=by
 unfold zh;cases hs:jw C x with
 |none=>exact gu
 |some i=>
  dsimp only;have gen:lu X G0 B (ek (kx X) E) (.Assign [.Name x pos'] e pos) (match Jn T ev C e with
   |some g=>if i8 e then q0 i g else lh
   | none => if i8 e then (match Jm ev tv C e with
    |some f=>Nt i f
    |none=>ni i (ev C e))else lh):=by
   cases ho:Jn T ev C e with
   |none=>
    dsimp only
    by_cases hn:i8 e=true
    ·rw[if_pos hn];cases hf:Jm ev tv C e with
     |none=>
      have he:=h X C B E e O.toXOk;exact zhm he (O.st hs he (fe hn))
     |some f=>
      have he:V5 X G0 B (ek (kx X) E) e f:=zj9 h ht O.toXOk hf;exact zef (O.st hs he (fe hn))
    ·rw[if_neg hn];exact gu
   |some g=>
    dsimp only
    by_cases hn:i8 e=true
    ·rw[if_pos hn];have he:L8 X B (ek (kx X) E) e g:=zgk h O.toXOk ho;exact U5 he (O.st hs he (fe hn))
    ·rw[if_neg hn];exact gu
  cases e with
  |Dict ks vs p=>
   cases ks with
   |nil=>
    cases vs with
    |nil=>
     dsimp only
     by_cases ht:C.td.contains x=true
     ·rw[if_pos ht];exact Zc (O.st hs Tz (fe rfl))
     ·rw[if_neg ht];exact zee (O.st hs Ir (fe rfl))
    |cons _ _=>exact gu
   |cons _ _=>exact gu
  |ListComp elt gens scope lp=>
   have hw:=Aa (X:=X) (B:=B) (E:=E) (pos:=lp) (elt:=elt) (gens:=gens) (scope:=scope) h ht O.toXOk;have sw:∃b,swapsWith (.ListComp elt gens scope lp) (some (.Name x pos')) pos.line X.env=pure b:=⟨_,rfl⟩;obtain⟨b,sw⟩:=sw;cases b with
   |false=>exact U5 hw.1 (O.st hs hw.1 sw)
   |true=>
    show lu X G0 B _ _ (q0 i (kr ev tv C elt gens scope));obtain⟨l1,l2,l3⟩:=qc hs;have hy:X.N[i]?=some x:=by rw[O.n];exact l1
    have hl:L2.V6 X.env.scope x:=by rw[O.s];exact p8 l2
    have hN:X.N.Nodup:=by rw[O.n];exact O.nd
    clear hw;cases zab (B:=B) (elt:=elt) (gens:=gens) (scope:=scope) h ht O.toXOk with
    |st e=>rw[e];exact λpins s σ H D I ⟨G,δ,R,ex,q⟩=>q.elim
    |ok eg eG st hF hi hs=>
     rw[eG];subst eg;intro pins s σ H D I q;obtain⟨cl,O2,Bk⟩:=st I.ok;exact zed O2 O.calm Bk hF hi hN hy hl (O.fn x l3) hs sw pins s σ H D I q
  |_=>exact gen
theorem Mp{a:Expr}{env:Env}{cpos:Pos}(hn:gi a=true):((backTo cpos (starEach [a] env)).all (λx=> !x.1) && (backToKw cpos (keywordEach [] env)).all (λx=>x.1.isSome)
   && decide (([a]:List Expr).length+([]:List Keyword).length+(if([]:List Keyword).isEmpty then 0 else 1)<30))=true:=by
 rw[q8 (by rw[kAm,hn];rfl)];rfl
theorem zga(h:fw T ev)(O:SOk X C T E){x m:Str}{p ap cp:Pos}{args:List Expr}(hl:(ap.endLine==cp.line)=true):lu X G0 B (ek (kx X) E) (.Expr (.Call (.Attribute (.Name x p) m ap) args [] cp) pos) (F0 ev C x m args):=by
 unfold F0;split
 ·rename_i i a hs
  by_cases hm:m="append"
  ·subst hm;rw[if_pos rfl]
   by_cases hn:gi a=true
   ·rw[if_pos hn];exact U3 (O.var hs) (h X C B E a O.toXOk) rfl (Mp hn) hl (bj hn) rfl rfl
   ·rw[if_neg hn];exact gu
  ·rw[if_neg hm]
   by_cases hm:m="extend"
   ·subst hm;rw[if_pos rfl]
    by_cases hn:gi a=true
    ·rw[if_pos hn];exact U4 (O.var hs) (di h O.toXOk a) rfl (Mp hn) hl (bj hn) rfl rfl
    ·rw[if_neg hn];exact gu
   ·rw[if_neg hm];exact gu
 ·exact gu
theorem zhe(h:fw T ev)(ht:B6 T tv)(hb:za5 T bv)(O:SOk X C T E){st:Stmt}:lu X G0 B (ek (kx X) E) st (Vj T ev tv bv C st):=by
 have hu:X.A.units+5<cLine:=by have:=O.units;omega
 cases st with
 |Return o p=>
  cases o with
  |none=>exact zec
  |some e=>exact zhl (h X C B E e O.toXOk)
 |Assign tgs e p=>
  show lu X G0 B _ _ (match tgs with
   |[.Name x _]=>zh T ev tv C x e
   | [.Subscript (.Name x _) k _] => (match slot C x with
    |some i=>if uj k then(if C.td.contains x then Fq i (ju ev C k) (ev C e)else Du i (ju ev C k) (ev C e))else lh
    |none=>lh)
   |_=>lh)
  split
  ·exact zbi h ht O
  ·rename_i x _ k _;cases hs:slot C x with
   |none=>exact gu
   |some i=>
    dsimp only
    by_cases hp:uj k=true
    ·rw[if_pos hp]
     by_cases htd:C.td.contains x=true
     ·rw[if_pos htd];exact Y9 hu (O.var hs) (di h O.toXOk k) (h X C B E e O.toXOk) Dw
     rw[if_neg htd];exact zea hu (O.var hs) (di h O.toXOk k) (h X C B E e O.toXOk) Dw
    ·rw[if_neg hp];exact gu
  ·exact gu
 |AugAssign tg op e p=>
  show lu X G0 B _ _ (match tg,op with
   | .Name x _, .Add => (match jw C x with
    |some i=>Y8 i (λa b=>a+b) (ev C e)
    |none=>lh)
   |_,_=>lh)
  split
  ·rename_i x _;cases hs:jw C x with
   |none=>exact gu
   |some i=>
    obtain⟨l1,l2,l3⟩:=qc hs;exact zhg (zda (by rw[O.n];exact O.nd) (by rw[O.n];exact l1) (by rw[O.s];exact p8 l2) (h X C B E e O.toXOk) zb2 (.inl (O.fn x l3)))
  ·exact gu
 |Expr e p=>
  show lu X G0 B _ _ (match e with
   |.Constant (.str _) _ _=>Nr
   | .Call (.Attribute (.Name x xp) m ap) args kws cp => (match kws with
    |[]=>if ap.endLine==cp.line then(match jj ev C (.Call (.Attribute (.Name x xp) m ap) args [] cp)with
     |some f=>Fs f
     |none=>F0 ev C x m args)else lh
    |_=>lh)
   |e=>if i8 e then U0 (ev C e)else lh)
  split
  ·exact zhh
  ·rename_i x _ m ap args kws cp;cases kws with
   |nil=>
    dsimp only
    by_cases hl:(ap.endLine==cp.line)=true
    ·rw[if_pos hl];cases hf:jj ev C _ with
     |none=>exact zga h O hl
     |some f=>exact Za (Ai h O.toXOk hf) rfl
    ·rw[if_neg hl];exact gu
   |cons _ _=>exact gu
  ·by_cases hn:i8 e=true
   ·rw[if_pos hn];exact zeb (h X C B E e O.toXOk) (fe hn)
   ·rw[if_neg hn];exact gu
 |If c a b p=>
  show lu X G0 B _ _ (match xo ev C c with
   |some f=>yx f (bv C a) (bv C b)
   |none=>xn (tv C c) (bv C a) (bv C b))
  cases hf:xo ev C c with
  |none=>exact zkp (ht X C B E c O.toXOk) (hb X C G0 B E a O) (hb X C G0 B E b O)
  |some f=>exact zhk (zfz h O.toXOk hf) (hb X C G0 B E a O) (hb X C G0 B E b O)
 |For tg iter body els p=>
  show lu X G0 B _ _ (match els,Vq C tg with
   |[],some f=>if md iter then xm f (Lq ev C tg iter) (bv C body)else lh
   |_,_=>lh)
  cases els with
  |cons _ _=>exact gu
  |nil=>
   cases hf:Vq C tg with
   |none=>exact gu
   |some f=>
    dsimp only
    by_cases hn:md iter=true
    ·rw[if_pos hn];obtain⟨gl,G⟩:=Zo (B:=B) O hf;exact zhi O.pass O.calm (zf7 h O.toXOk iter) G (hb X C G0 B E body O) (ug hn)
    ·rw[if_neg hn];exact gu
 |While c body els p=>
  cases els with
  |cons _ _=>exact gu
  |nil=>exact Ze O.pass (ht X C B E c O.toXOk) (hb X C G0 B E body O)
 |Raise exc cause p=>exact Uu h O.toXOk
 |Try body hs els fin p=>exact zey h O
 |_=>exact gu
theorem Jo(h:fw T ev)(ht:B6 T tv)(hb:za5 T bv)(O:SOk X C T E){st:Stmt}:lu X G0 B (ek (kx X) E) st (Ny T ev tv bv C st):=zhj _ (zhe h ht hb O)
theorem U8{f:Stmt→En→Out}{E:EK}(h:∀st,lu X G0 B E st (f st)):∀{ss:List Stmt},ur X G0 B E ss (Fv f ss)
 |[]=>zen
 |[s]=>zeo (h s)
 |s::t::r=>Zk (h s) (U8 h (ss:=t::r))
end
noncomputable def x8:Nat:=40
noncomputable def gB(T:GT):Nat→Bv
 |0=>λ_ _=>lh
 |n+1=>λC ss=>Fv (Ny T (gP T x8 false) (gP T x8 true) (gB T n) C) ss
theorem zhn{X:Cx}{G0 B:Hp}{E:EK}{ss:List Stmt}:ur X G0 B E ss lh:=λpins s σ H D I ⟨G,δ,R,x,q⟩=>q.elim
theorem Mt(T:GT):∀n,za5 T (gB T n)
 |0=>λX C G0 B E ss O=>zhn
 |n+1=>λX C G0 B E ss O=>U8 λst=>Jo (va T x8).1 (va T x8).2 (Mt T n) O
structure TabIs(P:Program)(w:World)(K:PySem.W.Frag)(mg:Str→Option Value)(base:Heap)(T:GT)(k:Nat):Prop where
 fns:∀x s,T.fns x=some s→∃f fd ps,mg x=some (.ref f)∧kAc K (.ref f)=true∧Binds K fd ps []∧FnOk P w K mg base (wg P w) k f fd ps (Lo ⟨K,yz mg⟩ s.ms s.f)
 gstr:∀x y,T.gstr x=some y→∃t,mg x=some (.str y t)
 bl:∀x∈wk,mg x=none
 exc:∀x,T.xs.exc x=true→∃C bm newId,mg x=some (.ref C)∧PySem.W.excIn K C bm newId=true∧ExBase bm newId
 sub:∀c y,T.xs.sub c y=true→∃Cy,mg y=some (.ref Cy)∧PySem.W.exmOne K (.ref (yz mg c)) (.ref Cy)=some true
 ve:∀c,T.xs.ve c=true→PySem.W.kitCls K (.ref (yz mg c)) (.type "ValueError")=some true
 nsub:∀c y,T.xs.nsub c y=true→∃Cy,mg y=some (.ref Cy)∧PySem.W.exmOne K (.ref (yz mg c)) (.ref Cy)=some false
 lams:∀e fs ds d,T.lam e fs ds=.ok d→Qr P w K mg base k e fs ds d
 own:∀x s,T.own x=true→T.fns x=some s→∃f fd ps,mg x=some (.ref f)∧kAc K (.ref f)=true∧Binds K fd ps []∧FnOk P w K mg base (wg P w) k f fd ps (Zj ⟨K,yz mg⟩ s.ms s.f)
theorem Room.u65{k:Nat}{A:Around}(r:Room k A):A.units+65<cLine:=by have:=r.un;omega
theorem TabIs.xok{X:Cx}{T:GT}{k:Nat}{C:SC}{E:XK}(t:TabIs X.prog X.w X.K X.mg X.base T k)(hr:Room k X.A)(n:X.N=C.N)(s:X.env.scope=C.sc)(nd:C.N.Nodup)(calm:X.calm=true)(goes:j9 (wg X.prog X.w) X E)(lamc:C.lam=true→Qq X):XOk X C T E:=
 ⟨n,s,nd,calm,Room.u65 hr,λx s h=>by
  obtain⟨f,fd,ps,h1,h2,h3,h4⟩:=t.fns x s h;exact⟨k,f,fd,ps,hr,h1,h2,h3,h4⟩,t.gstr,t.bl,t.exc,t.sub,t.ve,t.nsub,goes,lamc,λe fs ds d h=>⟨k,hr,t.lams e fs ds d h⟩,λx s h h'=>by
  obtain⟨f,fd,ps,h1,h2,h3,h4⟩:=t.own x s h h';exact⟨k,f,fd,ps,hr,h1,h2,h3,h4⟩⟩
theorem DenF.len{K:KA}{G:Hp}:∀{fs:List (Str×D)}{vs:List (Str×V)},DenF K G fs vs→fs.length=vs.length∧fs.map (·.1)=vs.map (·.1)
 |[],_,h=>by rw[show _=[]from h];exact⟨rfl,rfl⟩
 |(n,d)::fs,_,⟨v,r,h1,_,h3⟩=>by
  subst h1;obtain⟨q1,q2⟩:=DenF.len h3;exact⟨by rw[kA7,kA7,q1],by rw[kA4,kA4,q2]⟩
theorem DenF.get{K:KA}{G:Hp}:∀{fs:List (Str×D)}{vs:List (Str×V)}{i:Nat}{p:Str×D},DenF K G fs vs→fs[i]?=some p→∃v,vs[i]?=some (p.1,v)∧Den K G p.2 v
 |[],_,_,_,_,e=>by simp at e
 |(n,d)::fs,_,0,p,⟨v,r,h1,h2,_⟩,e=>by
  subst h1;simp at e;subst e;exact⟨v,rfl,h2⟩
 |(n,d)::fs,_,i+1,p,⟨v,r,h1,_,h3⟩,e=>by
  subst h1;obtain⟨v',q1,q2⟩:=DenF.get (i:=i) h3 (by simpa using e);exact⟨v',by simpa using q1,q2⟩
structure DefR where
 x:Str
 st:Stmt
 ms:List Bool
 lm:Bool
noncomputable def xj(st:Stmt):List Str:=(ck st).args.map (·.arg)
noncomputable def Ax(ps:List Str):List (Str×NameKind)→List Str
 |[]=>[]
 |(n,k)::r=>if(k=.local∨k=.cell)∧n∉ps then n::Ax ps r else Ax ps r
noncomputable def xb(st:Stmt):List Str:=xj st++Ax (xj st) (ah st).names
noncomputable def wm(st:Stmt)(lm:Bool):SC:=⟨xb st,ah st,Lw 20 (ak st),lm⟩
noncomputable def gq(d:DefR):Bool:=
 decide ((ah d.st).kind=.function) && decide ((ah d.st).isCoroutine=false) && decide ((ah d.st).isGenerator=false) && decide ((xb d.st).Nodup) && decide ((xb d.st).take (xj d.st).length=xj d.st) &&
 ((xj d.st).all λx=>decide ((ah d.st).names.lookup x=some .local)||decide ((ah d.st).names.lookup x=some .cell)) && ((ah d.st).names.all λy=>decide (y.2≠.free)) && decide (d.ms.length=(xj d.st).length)
theorem qo{d:DefR}(h:gq d=true):FnScope (xb d.st) (xj d.st) (ah d.st)∧d.ms.length=(xj d.st).length:=by
 unfold gq at h;simp only[kA1,decide_eq_true_eq]at h;obtain⟨⟨⟨⟨⟨⟨⟨h1,h2⟩,h3⟩,h4⟩,h5⟩,h6⟩,h7⟩,h8⟩:=h;refine⟨⟨h1,h2,h3,h4,h5,λx hx=>?_,λy hy=>?_⟩,h8⟩
 ·have q:=List.all_eq_true.mp h6 x hx;rw[Bool.or_eq_true,decide_eq_true_eq,decide_eq_true_eq]at q;exact q
 ·exact of_decide_eq_true (List.all_eq_true.mp h7 y hy)
def d9(st:Stmt)(x:Str):Prop:=∀(kV doc pm:Value)(an:Option Addr)(cdv ct:Value)(us:List Value),us.length=(xj st).length→bindArgs (kAj x x (ck st) (ak st) (ah st) .none kV doc pm an cdv ct) ⟨us,[]⟩=pure ((xj st).zip us)
structure DefIn(K:PySem.W.Frag)(mg:Str→Option Value)(d:DefR):Prop where
 ok:gq d=true
 bd:d9 d.st d.x
 at_:∃f fd,mg d.x=some (.ref f)∧Fun K d.x d.x d.st f fd∧(d.lm=true→∃c P,fd.code=.ref c∧(c,P,d.x++".<locals>."++"<lambda>")∈Lu∧PySem.W.codeHdIn K c P=true)
theorem fx{K:PySem.W.Frag}{h:Heap}{mg:Str→Option Value}{d:DefR}(X:K.In h)(G:h.Ns mainGlobals mg)(ok:gq d=true)(bd:d9 d.st d.x){f:Addr}{oc kV doc pm cdv ct:Value}{od an:Option Addr}{osl:Array (Option Value)}
  (a:kA8 K mainGlobals d.x=some (some (.ref f)))(l:K.lookup f=some ⟨oc,od,.func (kAj d.x d.x (ck d.st) (ak d.st) (ah d.st) .none kV doc pm an cdv ct),osl⟩)(c:kAq K cdv d.x=true)(k:kAc K (.ref f)=true)(m:d.lm=true→∃c P,cdv=.ref c∧(c,P,d.x++".<locals>."++"<lambda>")∈Lu∧PySem.W.codeHdIn K c P=true):DefIn K mg d:=
 ⟨ok,bd,f,_,PySem.W.mg_of X G a,R6 l c k,m⟩
noncomputable def look(ds:List DefR)(x:Str):Option DefR:=match ds with
 |[]=>none
 |d::r=>if d.x=x then some d else look r x
theorem Ay{x:Str}{d:DefR}:∀{ds:List DefR},look ds x=some d→d∈ds∧d.x=x
 |[],h=>by cases h
 |e::r,h=>by
  unfold look at h
  by_cases z:e.x=x
  ·rw[if_pos z]at h;cases h;exact⟨kAk,z⟩
  ·rw[if_neg z]at h;obtain⟨q1,q2⟩:=Ay h;exact⟨kAl _ q1,q2⟩
noncomputable def g9:Nat:=20
noncomputable def ao(T:GT)(d:DefR):List D→Res:=fnD d.ms (xb d.st).length (gB T g9 (wm d.st d.lm) (ak d.st))
noncomputable def rh:Stmt→Bool
 |.If _ [.Raise _ _ _] [] _=>true
 |_=>false
noncomputable def K7(fn:Str→Bool)(C:SC):Stmt→Bool
 |.Return (some (.Call (.Name x _) [.Name _ _] [] _)) _=>decide (x="list") && decide (slot C x=none) && o6 C x && fn x
 |_=>false
noncomputable def Pp(fn:Str→Bool)(C:SC):List Stmt→Bool
 |[]=>false
 |[st]=>K7 fn C st
 |st::t::r=>rh st && Pp fn C (t::r)
section
variable{T:GT}{ev tv:Ev}{X:Cx}{C:SC}{G0 B:Hp}{E:XK}{ss:List Stmt}{F F1 F2:En→Out}
theorem M7{is:List Nat}(h:rq F):rq (fz is F):=λδ d=>h _ d
theorem zb:rq lh:=λδ d z=>nomatch z
theorem Tf:rq jm:=λδ d z=>nomatch z
theorem K1{st:Stmt}:rq (nt T ev C st):=by
 unfold nt;split
 ·split
  ·intro δ d z;unfold jt at z;split at z<;>cases z
  ·exact zb
 ·exact zb
theorem Xs{c:En→Res}(h1:rq F1)(h2:rq F2):rq (xn c F1 F2):=λδ d z=>by
 unfold xn Res.then at z;split at z
 ·dsimp only at z;split at z
  ·exact h1 _ _ z
  ·exact h2 _ _ z
  ·cases z
 ·cases z
 ·cases z
theorem Te{c:En→ResE}(h1:rq F1)(h2:rq F2):rq (yx c F1 F2):=λδ d z=>by
 unfold yx at z;split at z
 ·exact h1 _ _ z
 ·exact h2 _ _ z
 ·cases z
 ·cases z
 ·cases z
theorem E9{n:Nat}{st:Stmt}(h:rh st=true):rq (Ny T ev tv (gB T n) C st):=by
 unfold rh at h;split at h
 ·rename_i c a b p pos;refine M7 ?_;have r1:rq (gB T n C [.Raise a b p]):=by
   cases n with
   |zero=>exact zb
   |succ n=>exact M7 K1
  have r2:rq (gB T n C []):=by
   cases n with
   |zero=>exact zb
   |succ n=>exact Tf
  show rq (match xo ev C c with
   |some f=>yx f (gB T n C [.Raise a b p]) (gB T n C [])
   |none=>xn (tv C c) (gB T n C [.Raise a b p]) (gB T n C []))
  split
  ·exact Te r1 r2
  ·exact Xs r1 r2
 ·cases h
theorem Zl(is:List Nat){E:EK}(h:Z5 X G0 B E ss F):Z5 X G0 B E ss (fz is F):=PSs.imp h λD σ H ⟨G,δ,R,e,q⟩=>by
 obtain⟨G',s,R',e'⟩:=EnvR.frzs is R e;exact⟨G',_,R',e',q⟩
theorem Wz{n:Nat}{x a:Str}{p pa pos:Pos}(hb:Hk T C x "list"=true):gP T (n+1) false C (.Call (.Name x p) [.Name a pa] [] pos)=g1 fi (ju (gP T n false) C (.Name a pa)):=by
 unfold Hk at hb;simp only[kA1,decide_eq_true_eq]at hb;obtain⟨⟨⟨rfl,h2⟩,h3⟩,h4⟩:=hb;have h5:T.fns "list"=none:=Option.isNone_iff_eq_none.mp h4;show nq T (gP T n false) C "list" [.Name a pa]=_;unfold nq;rw[h2];dsimp only;rw[if_pos h3,h5];rfl
theorem zao{n:Nat}{fn:Str→Bool}(hf:∀x,fn x=true→T.fns x=none)(O:SOk X C T E):∀{ss:List Stmt},Pp fn C ss=true→Z5 X G0 B (ek (kx X) E) ss (Fv (Ny T (gP T x8 false) (gP T x8 true) (gB T n) C) ss)
 |[],h=>by cases h
 |[st],h=>by
  have h0:K7 fn C st=true:=h;unfold K7 at h0;split at h0
  ·rename_i x p a pa pos rp;have h':Hk T C x "list"=true:=by
    rw[kA1]at h0;unfold Hk;rw[kA1];exact⟨h0.1,by rw[hf x h0.2];rfl⟩
   refine Zl _ ?_;show Z5 X G0 B _ _ (fm (gP T (39+1) false C (.Call (.Name x p) [.Name a pa] [] pos)));rw[Wz h'];obtain⟨rfl,hgl⟩:=Mx O.toXOk h';exact Zm (Bb O.calm hgl (O.bl _ (by decide)) (di (va T 39).1 O.toXOk _) rfl)
  ·cases h0
 |st::t::r,h=>by
  have h':(rh st && Pp fn C (t::r))=true:=h;rw[kA1]at h';exact Vg (Jo (va T x8).1 (va T x8).2 (Mt T n) O) (E9 h'.1) (zao hf O h'.2)
end
noncomputable def ku(ds:List DefR)(gs:Str→Option Str)(xs:XT):Nat→GT
 |0=>⟨λ_=>none,gs,xs,λ_ _ _=>.st,λ_=>false⟩
 |n+1=>⟨λx=>match look ds x with
  |some d=>some ⟨d.ms,ao (ku ds gs xs n) d⟩
  |none=>none,gs,xs,λ_ _ _=>.st,λx=>match look ds x with
  |some d=>ows.contains x && Pp (λy=>(look ds y).isNone) (wm d.st d.lm) (ak d.st)
  |none=>false⟩
structure XsIn(K:PySem.W.Frag)(mg:Str→Option Value)(xs:XT):Prop where
 exc:∀x,xs.exc x=true→∃C bm newId,mg x=some (.ref C)∧PySem.W.excIn K C bm newId=true∧ExBase bm newId
 sub:∀c y,xs.sub c y=true→∃Cy,mg y=some (.ref Cy)∧PySem.W.exmOne K (.ref (yz mg c)) (.ref Cy)=some true
 ve:∀c,xs.ve c=true→PySem.W.kitCls K (.ref (yz mg c)) (.type "ValueError")=some true
 nsub:∀c y,xs.nsub c y=true→∃Cy,mg y=some (.ref Cy)∧PySem.W.exmOne K (.ref (yz mg c)) (.ref Cy)=some false
section
variable{P:Program}{w:World}{K:PySem.W.Frag}{mg:Str→Option Value}{base:Heap}{ds:List DefR}{gs:Str→Option Str}{xs:XT}
theorem Vn{x:Str}{d:DefR}(n:Nat)(h:look ds x=some d):(ku ds gs xs (n+1)).fns x=some ⟨d.ms,ao (ku ds gs xs n) d⟩:=by
 show(match look ds x with
  |some d=>some (FS.mk d.ms (ao (ku ds gs xs n) d))
  |none=>none)=_
 rw[h]
theorem R5{x:Str}:∀n:Nat,look ds x=none→(ku ds gs xs n).fns x=none
 |0,_=>rfl
 |n+1,h=>by
  show(match look ds x with
   |some d=>some (FS.mk d.ms (ao (ku ds gs xs n) d))
   |none=>none)=_
  rw[h]
def Bm(mg:Str→Option Value)(base:Heap):Prop:=∃bm o,mg "__builtins__"=some (.ref bm)∧bm≠builtinsNs∧bm≠mainGlobals∧base.get? bm=some o∧o.cls=.type "module"∧o.dict=some builtinsNs∧o.data=.plain
theorem ny{lo:Nat}:∀(names:List (Str×NameKind))(n:Nat)(acc:List (Str×Addr)),lo≤n→(∀p∈acc,lo≤p.2)→∀p∈cellsFrom n names acc,lo≤p.2
 |[],_,acc,_,h,p,hp=>h p hp
 |(nm,kd)::r,n,acc,hl,h,p,hp=>by
  unfold cellsFrom at hp;split at hp
  ·refine ny r (n+1) _ (Nat.le_succ_of_le hl) (λq hq=>?_) p hp;rcases kA6.mp hq with rfl|hq
   ·exact hl
   ·exact h q hq
  ·exact ny r n _ hl h p hp
theorem Ey{d:DefR}{fd:FuncData}{N:List Str}{f:Addr}{cdv:Value}{A:Around}{outer:List Env}{s:Shared}{H:Hp}{E:XK}(kb:K.In base)(bm:Bm mg base)(hc:fd.code=cdv)(hl:d.lm=true→∃c P,fd.code=.ref c∧(c,P,d.x++".<locals>."++"<lambda>")∈Lu∧PySem.W.codeHdIn K c P=true):
  (wm d.st d.lm).lam=true→Qq (t6 (wg P w) P w K mg base N d.x (ah d.st) f cdv A outer s H E):=λz=>by
 obtain⟨c,Pl,h1,h2,h3⟩:=hl z;refine⟨c,Pl,h2,hc.symm.trans h1,PySem.W.codeHd_of_K kb h3,bm,λy c hy=>?_,λy hy=>decide_eq_false λz=>z hy⟩;exact ny _ _ _ (Nat.le_succ _) (λp hp=>by simp at hp) _ (PySem.mem_of_lookup hy)
theorem Vo(kb:K.In base)(bm:Bm mg base)(hd:∀d∈ds,DefIn K mg d)(hs:∀x y,gs x=some y→∃t,mg x=some (.str y t))(hb:∀x∈wk,mg x=none)(hX:XsIn K mg xs):∀n,TabIs P w K mg base (ku ds gs xs n) n
 |0=>⟨λx s h=>(by cases h),hs,hb,hX.exc,hX.sub,hX.ve,hX.nsub,λe fs ds d h=>(by cases h),λx s h=>(by cases h)⟩
 |n+1=>by
  have ih:=Vo kb bm hd hs hb hX n;refine⟨λx s h=>?_,hs,hb,hX.exc,hX.sub,hX.ve,hX.nsub,λe fs ds' d h=>(by cases h),λx s h h'=>?_⟩
  rotate_left
  ·have h1 : (match look ds x with
    |some d=>ows.contains x && Pp (λy=>(look ds y).isNone) (wm d.st d.lm) (ak d.st)
    |none=>false)=true:=h
   have h2:(match look ds x with
    |some d=>some (FS.mk d.ms (ao (ku ds gs xs n) d))
    |none=>none)=some s:=h'
   cases e:look ds x with
   |none=>rw[e]at h2;cases h2
   |some d=>
    rw[e]at h1 h2;cases h2;obtain⟨m1,m2⟩:=Ay e;subst m2;obtain⟨ok,bd,f,fd,q1,F,hl⟩:=hd d m1;obtain⟨S,hm⟩:=qo ok;have h3:(ows.contains d.x && Pp (λy=>(look ds y).isNone) (wm d.st d.lm) (ak d.st))=true:=h1;rw[kA1]at h3;refine⟨f,fd,xj d.st,q1,F.kp,F.binds bd,zfy F S hm λcdv A outer s H G0 E hc hr=>?_⟩;exact zao (n:=19) (λy hy=>R5 n (Option.isNone_iff_eq_none.mp hy)) ⟨TabIs.xok (X:=t6 (wg P w) P w K mg base (xb d.st) d.x (ah d.st) f cdv A outer s H E) ih hr rfl rfl S.nd rfl xg (Ey kb bm hc hl),λy hy=>decide_eq_true hy,PassesOwn.leaving,rfl,rfl,rfl⟩ h3.2
  unfold ku at h;dsimp only at h;cases e:look ds x with
  |none=>rw[e]at h;cases h
  |some d=>
   rw[e]at h;cases h;obtain⟨m1,m2⟩:=Ay e;subst m2;obtain⟨ok,bd,f,fd,q1,F,hl⟩:=hd d m1;obtain⟨S,hm⟩:=qo ok;refine⟨f,fd,xj d.st,q1,F.kp,F.binds bd,R0 F S hm λcdv A outer s H G0 E hc hr=>?_⟩;exact Mt _ _ _ (wm d.st d.lm) G0 H E _ ⟨TabIs.xok (X:=t6 (wg P w) P w K mg base (xb d.st) d.x (ah d.st) f cdv A outer s H E) ih hr rfl rfl S.nd rfl xg (Ey kb bm hc hl),λy hy=>decide_eq_true hy,PassesOwn.leaving,rfl,rfl,rfl⟩
noncomputable def Nw(K:PySem.W.Frag):Sp:=λvs H Q _=>GOk H∧∃(a:Addr) (ns:List Int),vs=[.ref a]∧SqL K H a (ns.map V.int)∧ns.length≤63∧∀H',Q (.bl true) H'
theorem C9{K:KA}{G:Hp}:∀ns:List Int,DenL K G (ns.map D.int) (ns.map V.int)
 |[]=>rfl
 |n::ns=>⟨.int n,ns.map V.int,rfl,rfl,C9 ns⟩
theorem zcf{d:DefR}{f:Addr}{oc kV doc pm cdv ct:Value}{od an:Option Addr}{osl:Array (Option Value)}(ok:gq d=true)(nl:d.lm=false)
  (a:kA8 K mainGlobals d.x=some (some (.ref f)))(l:K.lookup f=some ⟨oc,od,.func (kAj d.x d.x (ck d.st) (ak d.st) (ah d.st) .none kV doc pm an cdv ct),osl⟩)(c:kAq K cdv d.x=true)(k:kAc K (.ref f)=true)
  (kb:K.In base) (bm:Bm mg base) (hd:∀d∈ds,DefIn K mg d) (hs:∀x y,gs x=some y→∃t,mg x=some (.str y t)) (hb:∀x∈wk,mg x=none) (hX:XsIn K mg xs) {n:Nat} {s:FS} (hl:(ku ds gs xs n).fns "law"=some s) (hm:s.ms=[false])
  (law:∀ns:List Int,ns.length≤63→s.f [.lst (ns.map D.int)]=.ok (.bl true)) (hx:look ds "law"=some d:=by rfl) (hp:xj d.st=[("_law_script":Str)]:=by rfl):
  FnOk P w K mg base CX0 n f (kAj d.x d.x (ck d.st) (ak d.st) (ah d.st) .none kV doc pm an cdv ct) ["_law_script"] (Nw K):=by
 cases n with
 |zero=>cases hl
 |succ n=>
  unfold ku at hl;dsimp only at hl;rw[hx]at hl;cases hl;obtain⟨S,hm'⟩:=qo ok;have F:=R0 (P:=P) (w:=w) (base:=base) (mg:=mg) (k:=n) (ms:=d.ms) (Fb:=gB (ku ds gs xs n) g9 (wm d.st d.lm) (ak d.st)) (R6 l c k) S hm' λcdv' A outer s H G0 E hc hr=>by
   exact Mt _ _ _ (wm d.st d.lm) G0 H E _ ⟨TabIs.xok (X:=t6 (wg P w) P w K mg base (xb d.st) d.x (ah d.st) f cdv' A outer s H E) (Vo kb bm hd hs hb hX n) hr rfl rfl S.nd rfl xg (Ey kb bm hc λz=>by rw[nl]at z;cases z),λy hy=>decide_eq_true hy,PassesOwn.leaving,rfl,rfl,rfl⟩
  rw[hp]at F;refine F.calm.imp λvs H Q E ⟨gb,a,ns,e,sq,hn,q⟩=>?_;subst e;have hm:d.ms=[false]:=hm;have e:ao (ku ds gs xs n) d [.lst (ns.map D.int)]=.ok (.bl true):=law ns hn;show Lo _ d.ms (ao (ku ds gs xs n) d) _ H Q E0;refine⟨by rw[hm];rfl,gb,H,[.lst (ns.map D.int)],Same.refl H,by rw[hm];exact⟨_,[],_,[],rfl,rfl,⟨a,_,rfl,sq,C9 ns⟩,rfl,rfl⟩,?_⟩;rw[e];intro v G' H' _ dn;rw[show v=.bl true from dn];exact q H'
end
noncomputable def yk(b:Addr):Option HO:=(Lu.find? λp=>p.2.1==b).map λp=>.tbl p.2.2
theorem By{b:Addr}{o:HO}(h:yk b=some o):∃p∈Lu,p.2.1=b∧o=.tbl p.2.2:=by
 unfold yk at h;cases e:Lu.find? λp=>p.2.1==b with
 |none=>rw[e]at h;cases h
 |some p=>
  rw[e]at h;cases h;exact⟨p,List.mem_of_find?_eq_some e,by simpa using List.find?_some e,rfl⟩
theorem Mq{α:Type}{f:α→Addr}:∀{l:List α}{p:α},(l.map f).Nodup→p∈l→l.find? (λq=>f q==f p)=some p
 |[],_,_,h=>by simp at h
 |a::r,p,nd,h=>by
  rw[kA4,List.nodup_cons]at nd;rw[List.find?_cons]
  by_cases e:f a=f p
  ·have hb:(f a==f p)=true:=by simpa using e
   rw[hb];rcases kA6.mp h with rfl|h
   ·rfl
   ·exact absurd (e▸List.mem_map_of_mem h) nd.1
  ·have hb:(f a==f p)=false:=by simpa using e
   rw[hb];rcases kA6.mp h with rfl|h
   ·exact absurd rfl e
   ·exact Mq nd.2 h
theorem Qe(nd:(Lu.map (·.2.1)).Nodup){p:Addr×Addr×Str}(hp:p∈Lu):yk p.2.1=some (.tbl p.2.2):=by
 unfold yk;rw[Mq (f:=λp:Addr×Addr×Str=>p.2.1) nd hp];rfl
def Qt(h:Heap):Prop:=∀p∈Lu,PySem.W.CodeHd h p.1 p.2.1∧h.get? p.2.1=some (PySem.W.tabObj #[])
theorem O6{P:Program}{w:World}{K:PySem.W.Frag}{mg mb:Str→Option Value}{k:Nat}{fa a:Addr}{fd:FuncData}{x:Str}{s₁:Shared}{vs:List Value}{ns:List Int}
  (KX:K.In s₁.heap)(nK:PySem.W.noTabs K=true)(nd:(Lu.map (·.2.1)).Nodup)(tb:Qt s₁.heap)(bm:Bm mg s₁.heap)(hns:s₁.heap.Ns mainGlobals mg)(hb:s₁.heap.Ns builtinsNs mb)(hbb:∀x:Str,x≠"__name__"→mb x=bootBuiltins x)(hlim:s₁.heap.NoLimit)(hg:s₁.gens=#[])
  (ha:s₁.heap.get? a=some {cls:=.type "list",data:=.seq vs.toArray}) (hi:IntsAre vs ns) (hl:ns.length≤sizeLine) (hl2:ns.length≤63) (hr:Room k callerA)
  (F:∀base:Heap,K.In base→base.Ns mainGlobals mg→Bm mg base→FnOk P w K mg base CX0 k fa fd [x] (Nw K)) (hbind:∀(s:Shared)(u:Value),BindsTo s fd ⟨[u],[]⟩ [(x,u)]):
  codeAny (model P w) callerA (.call (.ref fa) ⟨[.ref a],[]⟩) (λr s'=>r=.ok (.ret (.bool true))∧OldK s₁.heap s'.heap∧s'.os=s₁.os∧AllBare s'.gens) s₁:=by
 have rv:=D2 hi;have lenV:=hi.length;have tne:∀{b:Addr}{u:HO},yk b=some u→s₁.heap.get? b=some (PySem.W.tabObj #[]):=λ{b u} e=>by
  obtain⟨p,hp,rfl,_⟩:=By e;exact(tb p hp).2
 have core:∀S:Option HO,(S=none∨S=some (.frz {cls:=.type "list",data:=.seq vs.toArray} (.lst (ns.map V.int))))→(S≠none→K.lookup a=none)→SqL K (λb=>if b=a then S else yk b) a (ns.map V.int)→
   codeAny (model P w) callerA (.call (.ref fa) ⟨[.ref a],[]⟩) (λr s'=>r=.ok (.ret (.bool true))∧OldK s₁.heap s'.heap∧s'.os=s₁.os∧AllBare s'.gens) s₁:=by
  intro S hS hSK sq;generalize hH:(λb=>if b=a then S else yk b)=H at sq;have Ha:H a=S:=by rw[←hH];exact if_pos rfl
  have Hb:∀b,b≠a→H b=yk b:=λb hb=>by rw[←hH];exact if_neg hb
  have kind:∀{b:Addr}{u:HO},H b=some u→(b=a∧u=.frz {cls:=.type "list",data:=.seq vs.toArray} (.lst (ns.map V.int))∧K.lookup a=none)∨∃p∈Lu,p.2.1=b∧u=.tbl p.2.2:=λ{b u} e=>by
   by_cases z:b=a
   ·rw[z,Ha]at e;rcases hS with y|y
    ·rw[y]at e;cases e
    ·rw[y]at e;cases e;exact .inl ⟨z,rfl,hSK (by rw[y];simp)⟩
   ·rw[Hb b z]at e;exact .inr (By e)
  have hok:HOk P w H s₁.heap:=λb u e=>by
   rcases kind e with ⟨rfl,rfl,_⟩|⟨p,hp,rfl,rfl⟩
   ·exact⟨ha,by rw[kA3];exact hl,vs,_,rv,ha⟩
   ·exact⟨#[],(tb p hp).2,trivial⟩
  have base_of:∀{b:Addr}{o:Obj},s₁.heap.get? b=some o→H b=none→(Cg s₁.heap H).get? b=some o:=λe n=>Si e n;have free:∀{b:Addr}{o:Obj},s₁.heap.get? b=some o→(∀n,o.data≠.seq vs.toArray n)→o≠PySem.W.tabObj #[]→H b=none:=λ{b o} e h1 h2=>by
   cases q:H b with
   |none=>rfl
   |some u=>
    rcases kind q with ⟨rfl,_⟩|⟨p,hp,rfl,_⟩
    ·rw[ha]at e;cases e;exact absurd rfl (h1 _)
    ·rw[(tb p hp).2]at e;cases e;exact absurd rfl h2
  have nsK:∀{b:Addr}{m:Str→Option Value},s₁.heap.Ns b m→(Cg s₁.heap H).Ns b m:=λ{b m} ⟨o,es,ep,e,d,r⟩=>⟨o,es,ep,base_of e (free e (λn z=>by rw[d]at z;cases z) λz=>by rw[z]at d;cases d),d,r⟩;have hKb:K.In (Cg s₁.heap H):=λb o e=>base_of (KX b o e) (by
   cases q:H b with
   |none=>rfl
   |some u=>
    rcases kind q with ⟨rfl,_,z⟩|⟨p,hp,rfl,_⟩
    ·rw[z]at e;cases e
    ·have e2:=KX _ _ e;rw[(tb p hp).2]at e2;have h2:=List.all_eq_true.mp nK _ (PySem.W.mem_of_lookupK e);cases e2;exact absurd (show false=true from h2) kB7)
  have bmK:Bm mg (Cg s₁.heap H):=by
   obtain⟨m,o,b1,b2,b3,b4,b5,b6,b7⟩:=bm;exact⟨m,o,b1,b2,b3,base_of b4 (free b4 (λn z=>by rw[b7]at z;cases z) λz=>by rw[z]at b5;cases b5),b5,b6,b7⟩
  have hM:Mod K mg (Cg s₁.heap H):=⟨hKb,nsK hns,⟨mb,nsK hb,hbb⟩,let ⟨mc,h1,h2⟩:=hlim;⟨mc,nsK h1,h2⟩⟩;have e0:Env0 P w K mg (Cg s₁.heap H) callerA [] s₁ H:=⟨rfl,hM,λb o e=>Xv e,Nat.le_of_eq (Ot _ _),trivial,λb hb=>absurd (show b∈([]:List Addr)from hb) (by simp),hok,.of_eq hg⟩;have gb:GOk H:=λp hp=>by
   have:p.2.1≠a:=λz=>by
    have:=(tb p hp).2;rw[z,ha]at this;cases this
   rw[Hb _ this];exact Qe nd hp
  refine codeAny_mono ((F _ hKb (nsK hns) bmK).run callerA [] s₁ H ⟨[.ref a],[]⟩ [.ref a] [.ref a] (λv _=>v=.bl true) E0 hr e0 (hbind s₁ (.ref a)) (.cons rfl .nil) ⟨gb,a,ns,rfl,sq,hl2,λ_=>rfl⟩) λr s' h=>?_;cases r with
  |error e=>exact False.elim h
  |ok fl=>
   cases fl with
   |next=>exact False.elim h
   |brk=>exact False.elim h
   |cont=>exact False.elim h
   |ret u=>
    obtain⟨v,H',os,bare,un,hok',r',q⟩:=h;have q':v=.bl true:=q;subst q';obtain rfl:u=Value.bool true:=r';have keep:∀b o,s₁.heap.get? b=some o→(s'.heap.get? b=some o)∨∃p∈Lu,p.2.1=b∧∃ps,s'.heap.get? b=some (PySem.W.tabObj ps):=λb o e=>by
     cases q:H b with
     |none=>exact .inl (un.keep b o e q (by intro z;exact absurd (show b∈([]:List Addr)from z) (by simp)) (by simp))
     |some u=>
      rcases kind q with ⟨rfl,rfl,_⟩|⟨p,hp,rfl,rfl⟩
      ·obtain⟨e1,_⟩:=hok b _ q;obtain⟨e2,_⟩:=hok' b _ (un.frzs b _ _ q);rw[e]at e1;cases e1;exact .inl e2
      ·obtain⟨ps,e2,_⟩:=hok' _ _ (un.tbls _ _ q);exact .inr ⟨p,hp,rfl,ps,e2⟩
    refine⟨rfl,⟨λb o e=>?_,λb o e=>?_⟩,os,bare⟩
    ·rcases keep b o e with z|⟨p,hp,rfl,ps,z⟩
     ·exact .inl z
     ·obtain⟨c1,c2⟩:=tb p hp;rw[c2]at e;cases e;exact .inr (.inl ⟨(c1.tab c2).isCodeTable,rfl,#[],ps,rfl,by rw[Array.empty_append];exact z⟩)
    ·rcases keep b o e with z|⟨p,hp,rfl,ps,z⟩
     ·exact⟨_,z⟩
     ·exact⟨_,z⟩
 cases hk:K.lookup a with
 |some o=>
  have e:=KX a o hk;rw[ha]at e;cases e;exact core none (.inl rfl) (λz=>absurd rfl z) (.inr ⟨_,vs.toArray,_,hk,rfl,rfl,rfl,by rw[kAe,lenV];exact hl,by simpa using rv⟩)
 |none=>exact core _ (.inr rfl) (λ_=>hk) (.inl (.inr ⟨{cls:=.type "list",data:=.seq vs.toArray},if_pos rfl⟩))
theorem zig{l:PySem.W.OpenLaw}{k:Nat}{q:Program}{loose:List Str}{XP:(Str→Option Value)→Heap→Prop}{YP:World→Heap→Prop}{d:DefRec}{K:Params→PySem.W.Frag}(hn:l.most=some 63)(hdf:d.params.defaults=[])(hr:Room k callerA)(nd:(Lu.map (·.2.1)).Nodup)
  (hY:∀(w:World)(h:Heap),YP w h→(K w.params).In h)(nK:∀w:World,PySem.W.noTabs (K w.params)=true)
  (tb:∀(w:World)(h:Heap),YP w h→Qt h)
  (F:∀(w:World)(mg:Str→Option Value)(fa:Addr)(h:Heap),(K w.params).In h→h.Ns mainGlobals mg→mg d.name=some (.ref fa)→
   ∃fd:FuncData,(∀(s:Shared)(u:Value),BindsTo s fd ⟨[u],[]⟩ [("_law_script",u)])∧∀base:Heap,(K w.params).In base→base.Ns mainGlobals mg→Bm mg base→FnOk l.prog w (K w.params) mg base CX0 k fa fd ["_law_script"] (Nw (K w.params))):
  PySem.W.WalkO q loose XP YP l.row.toRowW d [] (λf vs=>PySem.call f vs):=by
 refine Att.Gg hn hdf λw s₀ s₁ mg mb fa o pm cd doc a vs ns G Y ho hd hcd hmg hobj hints hlen hg=>?_;have KX:=hY w _ Y;obtain⟨fd,hb,hF⟩:=F w mg fa _ KX G.T.g hmg;obtain⟨bm,ob,b1,b2,b3,b4,b5,b6⟩:=G.T.bmain;have bG:bm≠mainGlobals:=λz=>by
  obtain⟨o,es,ep,e,hd,_⟩:=G.T.g;rw[z,e]at b3;cases b3;rw[hd]at b6;cases b6
 exact O6 KX (nK w) nd (tb w _ Y) ⟨bm,ob,b1,b2,bG,b3,b4,b5,b6⟩ G.T.g G.T.b G.T.builtins G.T.nolimit hg hobj hints (kAn hlen (by decide)) hlen hr hF hb
end Pu
end
section
namespace LK
open PySem PySem.Spec PyProof.Rows L2 Pu
def F7(i:Nat):Stmt:=PySem.Challenge.pw_askbook_k01_books.main.body.getD i (.Pass ⟨0,0,0,0⟩)
def b8:DefR:=⟨"is_number",F7 5,[true],false⟩
def cm:DefR:=⟨"is_word",F7 6,[true],false⟩
def bc:DefR:=⟨"is_tuple_of",F7 7,[true,true,true,true],false⟩
def cf:DefR:=⟨"is_pair",F7 8,[true],false⟩
def cj:DefR:=⟨"is_fact",F7 9,[true],false⟩
def br:DefR:=⟨"are_rising",F7 10,[true],false⟩
def ag:DefR:=⟨"are_of_one_length",F7 11,[true],false⟩
def ai:DefR:=⟨"checked_book",F7 12,[true],false⟩
def bf:DefR:=⟨"_law_cell_at",F7 14,[true,true],false⟩
def ba:DefR:=⟨"_law_mixed",F7 15,[true,true,true],false⟩
def cg:DefR:=⟨"_law_book",F7 16,[true,true,true],false⟩
def bw:DefR:=⟨"_law_whole",F7 17,[true],false⟩
def b9:DefR:=⟨"_law_name",F7 18,[true],false⟩
def aq:DefR:=⟨"_law_is_book",F7 19,[true],false⟩
def aj:DefR:=⟨"_law_spoilt_fact",F7 20,[true,true],false⟩
def bu:DefR:=⟨"_law_spoilt",F7 21,[true,true],false⟩
def bb:DefR:=⟨"_law_refused",F7 22,[true],false⟩
def gz:DefR:=⟨"law",F7 23,[false],false⟩
def Wt:List DefR:=[b8,cm,bc,cf,cj,br,ag,ai,bf,ba,cg,bw,b9,aq,aj,bu,bb,gz]
def xs:XT:=⟨λx=>decide (x="AskError")||(decide (x="NoBook")||(false)),λc y=>(decide (c="AskError") && decide (y="AskError"))||((decide (c="NoBook") && decide (y="NoBook"))||((decide (c="NoBook") && decide (y="AskError"))||(false))),λc=>decide (c="AskError")||(decide (c="NoBook")||(false)),λc y=>false⟩
def gs(x:Str):Option Str:=if x="LETTERS" then some "abcdefghijklmnopqrstuvwxyz" else none
theorem Fd:gq b8=true:=by decide+kernel
theorem Eb:d9 b8.st b8.x:=λ_ _ _ _ _ _ us hl=>match us,hl with|[_],_=>rfl
theorem K4:gq cm=true:=by decide+kernel
theorem J3:d9 cm.st cm.x:=λ_ _ _ _ _ _ us hl=>match us,hl with|[_],_=>rfl
theorem A6:gq bc=true:=by decide+kernel
theorem zt:d9 bc.st bc.x:=λ_ _ _ _ _ _ us hl=>match us,hl with|[_,_,_,_],_=>rfl
theorem K3:gq cf=true:=by decide+kernel
theorem J1:d9 cf.st cf.x:=λ_ _ _ _ _ _ us hl=>match us,hl with|[_],_=>rfl
theorem K2:gq cj=true:=by decide+kernel
theorem J0:d9 cj.st cj.x:=λ_ _ _ _ _ _ us hl=>match us,hl with|[_],_=>rfl
theorem Cr:gq br=true:=by decide+kernel
theorem B8:d9 br.st br.x:=λ_ _ _ _ _ _ us hl=>match us,hl with|[_],_=>rfl
theorem qq:gq ag=true:=by decide+kernel
theorem pf:d9 ag.st ag.x:=λ_ _ _ _ _ _ us hl=>match us,hl with|[_],_=>rfl
theorem yw:gq ai=true:=by decide+kernel
theorem yo:d9 ai.st ai.x:=λ_ _ _ _ _ _ us hl=>match us,hl with|[_],_=>rfl
theorem A7:gq bf=true:=by decide+kernel
theorem zu:d9 bf.st bf.x:=λ_ _ _ _ _ _ us hl=>match us,hl with|[_,_],_=>rfl
theorem Fe:gq ba=true:=by decide+kernel
theorem Ec:d9 ba.st ba.x:=λ_ _ _ _ _ _ us hl=>match us,hl with|[_,_,_],_=>rfl
theorem Ip:gq cg=true:=by decide+kernel
theorem Gh:d9 cg.st cg.x:=λ_ _ _ _ _ _ us hl=>match us,hl with|[_,_,_],_=>rfl
theorem Ff:gq bw=true:=by decide+kernel
theorem Ed:d9 bw.st bw.x:=λ_ _ _ _ _ _ us hl=>match us,hl with|[_],_=>rfl
theorem Iq:gq b9=true:=by decide+kernel
theorem Gi:d9 b9.st b9.x:=λ_ _ _ _ _ _ us hl=>match us,hl with|[_],_=>rfl
theorem A8:gq aq=true:=by decide+kernel
theorem zw:d9 aq.st aq.x:=λ_ _ _ _ _ _ us hl=>match us,hl with|[_],_=>rfl
theorem uh:gq aj=true:=by decide+kernel
theorem tw:d9 aj.st aj.x:=λ_ _ _ _ _ _ us hl=>match us,hl with|[_,_],_=>rfl
theorem Cs:gq bu=true:=by decide+kernel
theorem B9:d9 bu.st bu.x:=λ_ _ _ _ _ _ us hl=>match us,hl with|[_,_],_=>rfl
theorem A9:gq bb=true:=by decide+kernel
theorem zx:d9 bb.st bb.x:=λ_ _ _ _ _ _ us hl=>match us,hl with|[_],_=>rfl
theorem Ti:gq gz=true:=by decide+kernel
theorem zbj:d9 gz.st gz.x:=λ_ _ _ _ _ _ us hl=>match us,hl with|[_],_=>rfl
noncomputable def tab(n:Nat):GT:=ku Wt gs xs n
noncomputable def veB:List Value:=[.type "ValueError",.type "Exception",.type "BaseException",.type "object"]
theorem V2:ExBase veB "ValueError.__new__":=⟨"ValueError",_,_,_,_,_,PySem.F.excBase_ValueError,by decide+kernel,PySem.F.excBase_ValueError⟩
end LK
end
section
namespace Pu
open PySem PySem.Spec PyProof.Rows L2
theorem i9{T:GT}{d:DefR}{F:En→Out}{k:Nat}{ms:List Bool}(h:gB T g9 (wm d.st d.lm) (ak d.st)=F)(hn:(xb d.st).length=k)(hm:d.ms=ms)(ds:List D):ao T d ds=jl (F (cz ms ds++kA2 (k - ds.length) .no)):=by
 unfold ao fnD;rw[h,hn,hm]
theorem Ft{tg:D→En→Option En}{r:En→ResL}{F:En→Out}{δ:En}{ds:List D}(h:r δ=.ok ds):xm tg r F δ=turns tg F ds δ:=by
 unfold xm;rw[h]
theorem uq{tg:D→En→Option En}{F:En→Out}{δ δ1:En}{d:D}{r:List D}(h:tg d δ=some δ1):turns tg F (d::r) δ=(match F δ1 with
  |.nx δ'=>turns tg F r δ'
  |.ct δ'=>turns tg F r δ'
  |.bk δ'=>.nx δ'
  |.rt d=>.rt d
  |.er c=>.er c
  |.st=>.st):=by
 show(match tg d δ with
  |none=>Out.st
  |some δ1=>match F δ1 with
   |.nx δ'=>turns tg F r δ'
   |.ct δ'=>turns tg F r δ'
   |.bk δ'=>.nx δ'
   |.rt d=>.rt d
   |.er c=>.er c
   |.st=>.st)=_
 rw[h]
theorem C8{f:D→Option (Option D)}{g:D→Option D}:∀{ds:List D},(∀d∈ds,f d=some (g d))→jk f ds=some (ds.filterMap g)
 |[],_=>rfl
 |d::r,h=>by
  unfold jk;rw[h d kAk];dsimp only;rw[C8 λd hd=>h d (kAl _ hd),List.filterMap_cons];cases g d<;>rfl
theorem R7{r:En→ResL}{ix:List Nat}{t g:En→Res}{δ:En}{ds:List D}{h:D→Option D}(hr:r δ=.ok ds)(hl:ds.length≤sizeLine)(hf:∀d∈ds,yn ix t g δ d=some (h d)):gp r ix t g δ=.ok (.lst (ds.filterMap h)):=by
 unfold gp;rw[hr];dsimp only;rw[if_pos hl,C8 hf]
theorem Vz{ix:List Nat}{g:En→Res}{δ:En}{d y:D}(h:g (ik ix δ (.pu d))=.ok y):yn ix (gC (.bl true)) g δ d=some (some y):=by
 unfold yn gC;dsimp only;rw[h]
theorem Zu{ix:List Nat}{t g:En→Res}{δ:En}{d y:D}{b:Bool}(ht:t (ik ix δ (.pu d))=.ok (.bl b))(h:b=true→g (ik ix δ (.pu d))=.ok y):yn ix t g δ d=some (if b then some y else none):=by
 unfold yn;rw[ht];cases b with
 |true=>dsimp only;rw[h rfl];rfl
 |false=>rfl
section
variable(δ:En)(d e:D)(i j:Nat)(g h k c:En→Res)(F F':En→Out)(r:En→ResL)(f:D→Option D)(f2 f3:D→D→Option D)
@[simp] theorem za1(ms:List Bool):cz ms []=[]:=by cases ms<;>rfl
@[simp] theorem zfc(ms:List Bool)(ds:List D):cz (true::ms) (d::ds)=.bo d::cz ms ds:=rfl
@[simp] theorem zfb(ms:List Bool)(ds:List D):cz (false::ms) (d::ds)=.pu d::cz ms ds:=rfl
@[simp] theorem tj:d5 F F' δ=match F δ with
 |.nx δ'=>F' δ'
 |o=>o:=rfl
@[simp] theorem Jr:jm δ=.nx δ:=rfl
@[simp] theorem zk8:Nr δ=.nx δ:=rfl
@[simp] theorem zmr:lh δ=.st:=rfl
@[simp] theorem zlx:ja δ=.st:=rfl
@[simp] theorem zic:fm g δ=(g δ).then .rt:=rfl
@[simp] theorem Jq:xn c F F' δ=(c δ).then λd=>match d with
 |.bl true=>F δ
 |.bl false=>F' δ
 |_=>.st:=rfl
@[simp] theorem zl2:ni i g δ=(g δ).then λd=>.nx (δ.set i (.pu d)):=rfl
@[simp] theorem zla:q0 i g δ=(g δ).then λd=>match d with
 |.lst ds=>.nx (δ.set i (.ow ds))
 |_=>.st:=rfl
@[simp] theorem zk9:Ja i δ=.nx (δ.set i (.od false [])):=rfl
@[simp] theorem zjv:zd9 i g δ=(g δ).then λd=>match d with
 |.dct false kvs=>.nx (δ.set i (.od false kvs))
 |_=>.st:=rfl
@[simp] theorem j8(f:D→Out):(Res.ok d).then f=f d:=rfl
@[simp] theorem zfh(f:D→Out):Res.st.then f=.st:=rfl
@[simp] theorem zfg(f:D→Out)(c:Str):(Res.er c).then f=.er c:=rfl
@[simp] theorem Dz(f:D→Res):(Res.ok d).bind f=f d:=rfl
@[simp] theorem zfa(f:D→Res):Res.st.bind f=.st:=rfl
@[simp] theorem ze9(f:D→Res)(c:Str):(Res.er c).bind f=.er c:=rfl
@[simp] theorem D1:Res.of (some d)=.ok d:=rfl
@[simp] theorem zff:Res.of none=.st:=rfl
@[simp] theorem zia:jl (.rt d)=.ok d:=rfl
@[simp] theorem zh9:jl (.nx δ)=.ok .non:=rfl
@[simp] theorem zib:jl .st=.st:=rfl
@[simp] theorem zh8(c:Str):jl (.er c)=.er c:=rfl
@[simp] theorem zl6:iu i δ=match δ[i]? with
 |some (.pu d)=>.ok d
 |_=>.st:=rfl
@[simp] theorem zh2:af i δ=match δ[i]? with
 |some (.pu d)=>.ok d
 |some (.bo d)=>.ok d
 |some (.ow ds)=>.ok (.lst ds)
 |some (.od t kvs)=>.ok (.dct t kvs)
 |_=>.st:=rfl
@[simp] theorem zmi:gBo i δ=match δ[i]? with
 |some (.pu d)=>.ok d
 |some (.bo d)=>.ok d
 |_=>.st:=rfl
@[simp] theorem v_c:gC d δ=.ok d:=rfl
@[simp] theorem zml:g1 f g δ=(g δ).bind λx=>Res.of (f x):=rfl
@[simp] theorem zh4:g2 f2 g h δ=(g δ).bind λx=>(h δ).bind λy=>Res.of (f2 x y):=rfl
@[simp] theorem zlw:gIf c g h δ=(c δ).bind λd=>match d with
 |.bl true=>g δ
 |.bl false=>h δ
 |_=>.st:=rfl
@[simp] theorem zl1:jr c δ=(c δ).bind λd=>match d with
 |.bl b=>.ok (.bl !b)
 |_=>.st:=rfl
@[simp] theorem zlr:u7 g h δ=(g δ).bind λd=>match d with
 |.bl true=>h δ
 |.bl false=>.ok (.bl false)
 |_=>.st:=rfl
@[simp] theorem zh7:B3 g h δ=(g δ).bind λd=>match d with
 |.bl true=>.ok (.bl true)
 |.bl false=>h δ
 |_=>.st:=rfl
@[simp] theorem zl4:o5 g δ=(g δ).bind λx=>Res.of (bD (F5 x)):=rfl
@[simp] theorem zid(b:Bool):bD (F5 (.bl b))=some (.bl b):=rfl
@[simp] theorem ziy:t8 f2 f3 g h k δ=(g δ).bind λx=>(h δ).bind λy=>(Res.of (f2 x y)).bind λz=>match z with
 |.bl true=>(k δ).bind λw=>Res.of (f3 y w)
 |.bl false=>.ok (.bl false)
 |_=>.st:=rfl
@[simp] theorem zk6:ae g r δ=match g δ with
 | .ok d => (match r δ with
  |.ok ds=>.ok (d::ds)
  |.er c=>.er c
  |.st=>.st)
 |.er c=>.er c
 |.st=>.st:=rfl
@[simp] theorem zk7:bx δ=.ok []:=rfl
@[simp] theorem zk5(fn:List D→Res):dq fn r δ=match r δ with
 |.ok ds=>fn ds
 |.er c=>.er c
 |.st=>.st:=rfl
@[simp] theorem zlz:iy r δ=match r δ with
 |.ok ds=>if ds.length≤16777216 then .ok (.lst ds)else .st
 |.er c=>.er c
 |.st=>.st:=rfl
@[simp] theorem zl5:ir r δ=match r δ with
 |.ok ds=>if ds.length≤16777216 then .ok (.tup ds)else .st
 |.er c=>.er c
 |.st=>.st:=rfl
@[simp] theorem zlb:ie g δ=match g δ with
 | .ok d => (match D3 d with
  |some ds=>.ok ds
  |none=>.st)
 |.er c=>.er c
 |.st=>.st:=rfl
@[simp] theorem zie(ds:List D):D3 (.lst ds)=some ds:=rfl
@[simp] theorem zif(ds:List D):D3 (.tup ds)=some ds:=rfl
@[simp] theorem zh3:fz [] F δ=F δ:=rfl
@[simp] theorem zmk(is:List Nat):fz (i::is) F δ=fz is F (frz i δ):=rfl
@[simp] theorem zlv:frz i δ=match δ[i]? with
 |some (.ow ds)=>δ.set i (.pu (.lst ds))
 |some (.od t kvs)=>δ.set i (.pu (.dct t kvs))
 |_=>δ:=rfl
@[simp] theorem zh5:g8 i d δ=some (δ.set i (.pu d)):=rfl
@[simp] theorem zls:Lh i g δ=match δ[i]? with
 |some (.ow ds)=>(g δ).then λd=>if ds.length<16777216 then .nx (δ.set i (.ow (ds++[d])))else .st
 |_=>.st:=rfl
@[simp] theorem zlu:P7 i g δ=match δ[i]? with
 |some (.ow ds)=>(g δ).then λd=>match ua d with
  |some es=>if ds.length+es.length≤16777216 then .nx (δ.set i (.ow (ds++es)))else .st
  |none=>.st
 |_=>.st:=rfl
@[simp] theorem zfd(ds:List D):ua (.lst ds)=some ds:=rfl
@[simp] theorem zfe(ds:List D):ua (.tup ds)=some ds:=rfl
@[simp] theorem zjt(ds:List D):cy (.lst ds)=some (.int ds.length):=rfl
@[simp] theorem zju(ds:List D):cy (.tup ds)=some (.int ds.length):=rfl
@[simp] theorem zmq(a b:Int):qz (.int a) (.int b)=some (.bl (decide (a<b))):=rfl
@[simp] theorem zmp(a b:Int):qu (.int a) (.int b)=some (.bl (decide (a≤b))):=rfl
@[simp] theorem zmo(a b:Int):Fo (.int a) (.int b)=some (.bl (decide (b<a))):=rfl
@[simp] theorem zmn(a b:Int):zg0 (.int a) (.int b)=some (.bl (decide (b≤a))):=rfl
@[simp] theorem zlt(a b:Int):js (.int a) (.int b)=some (.bl (a==b)):=rfl
@[simp] theorem zl0(a b:Int):mr (.int a) (.int b)=some (.bl (!(a==b))):=rfl
@[simp] theorem zh1(a b:Int):cu (.int a) (.int b)=some (.int (a+b)):=rfl
@[simp] theorem zl3(a b:Int):s9 (.int a) (.int b)=some (.int (a - b)):=rfl
@[simp] theorem zly:Ds d .non=some (.bl (Hm d)):=rfl
@[simp] theorem zh6:m9 d .non=some (.bl (!Hm d)):=rfl
@[simp] theorem Qm(ds:List D):j4 (.lst ds)=some (.tup ds):=rfl
@[simp] theorem zfi(ds:List D):j4 (.tup ds)=some (.tup ds):=rfl
@[simp] theorem zmm:gM f2 g h δ=(g δ).bind λx=>match x with
 |.lst xs=>(h δ).bind λy=>Res.of (f2 (.lst xs) y)
 |_=>.st:=rfl
@[simp] theorem zjl(x:Str):cc "str" (.str x)=some (.bl true):=by kernel_rfl
@[simp] theorem zji(x:Int):cc "str" (.int x)=some (.bl false):=by kernel_rfl
@[simp] theorem zjh(x:Bool):cc "str" (.bl x)=some (.bl false):=by kernel_rfl
@[simp] theorem zjk:cc "str" .non=some (.bl false):=by kernel_rfl
@[simp] theorem zjm(x:List D):cc "str" (.tup x)=some (.bl false):=by kernel_rfl
@[simp] theorem zjj(x:List D):cc "str" (.lst x)=some (.bl false):=by kernel_rfl
@[simp] theorem zi9(x:Str):cc "int" (.str x)=some (.bl false):=by kernel_rfl
@[simp] theorem zi6(x:Int):cc "int" (.int x)=some (.bl true):=by kernel_rfl
@[simp] theorem zi5(x:Bool):cc "int" (.bl x)=some (.bl true):=by kernel_rfl
@[simp] theorem zi8:cc "int" .non=some (.bl false):=by kernel_rfl
@[simp] theorem zja(x:List D):cc "int" (.tup x)=some (.bl false):=by kernel_rfl
@[simp] theorem zi7(x:List D):cc "int" (.lst x)=some (.bl false):=by kernel_rfl
@[simp] theorem zi3(x:Str):cc "bool" (.str x)=some (.bl false):=by kernel_rfl
@[simp] theorem zi1(x:Int):cc "bool" (.int x)=some (.bl false):=by kernel_rfl
@[simp] theorem zi0(x:Bool):cc "bool" (.bl x)=some (.bl true):=by kernel_rfl
@[simp] theorem zi2:cc "bool" .non=some (.bl false):=by kernel_rfl
@[simp] theorem zi4(x:List D):cc "bool" (.tup x)=some (.bl false):=by kernel_rfl
@[simp] theorem ziz(x:List D):cc "bool" (.lst x)=some (.bl false):=by kernel_rfl
@[simp] theorem Z0(x:Str):cc "tuple" (.str x)=some (.bl false):=by kernel_rfl
@[simp] theorem Zx(x:Int):cc "tuple" (.int x)=some (.bl false):=by kernel_rfl
@[simp] theorem Zw(x:Bool):cc "tuple" (.bl x)=some (.bl false):=by kernel_rfl
@[simp] theorem Zz:cc "tuple" .non=some (.bl false):=by kernel_rfl
@[simp] theorem zjn(x:List D):cc "tuple" (.tup x)=some (.bl true):=by kernel_rfl
@[simp] theorem Zy(x:List D):cc "tuple" (.lst x)=some (.bl false):=by kernel_rfl
@[simp] theorem zjf(x:Str):cc "list" (.str x)=some (.bl false):=by kernel_rfl
@[simp] theorem zjc(x:Int):cc "list" (.int x)=some (.bl false):=by kernel_rfl
@[simp] theorem zjb(x:Bool):cc "list" (.bl x)=some (.bl false):=by kernel_rfl
@[simp] theorem zje:cc "list" .non=some (.bl false):=by kernel_rfl
@[simp] theorem zjg(x:List D):cc "list" (.tup x)=some (.bl false):=by kernel_rfl
@[simp] theorem zjd(x:List D):cc "list" (.lst x)=some (.bl true):=by kernel_rfl
@[simp] theorem zjo(a b:D):bz (.tup [a,b]) (.int 0)=some a:=rfl
@[simp] theorem zjp(a b:D):bz (.tup [a,b]) (.int 1)=some b:=rfl
@[simp] theorem zjq(a b c:D):bz (.tup [a,b,c]) (.int 0)=some a:=rfl
@[simp] theorem zjr(a b c:D):bz (.tup [a,b,c]) (.int 1)=some b:=rfl
@[simp] theorem zjs(a b c:D):bz (.tup [a,b,c]) (.int 2)=some c:=rfl
def Qs(d:D):Prop:=∃p,dj d=some p∧PyData.canLay0 p=true∧p.depth≤8
theorem zg(i:Int):Qs (.int i):=⟨.int i,rfl,rfl,kAt _⟩
theorem Zh{x:Str}(h:PyData.strOk x=true):Qs (.str x):=⟨.str x,rfl,h,kAt _⟩
def zbc(ds:List D):Prop:=∃ps,e8 ds=some ps∧PyData.canLayAll0 ps=true∧PyData.depthAll ps≤8
theorem zek:∀{ds:List D},(∀d∈ds,Qs d)→zbc ds
 |[],_=>⟨[],rfl,rfl,kAt _⟩
 |d::r,h=>by
  obtain⟨p,e1,e2,e3⟩:=h d kAk;obtain⟨ps,f1,f2,f3⟩:=zek (ds:=r) λd hd=>h d (kAl _ hd);refine⟨p::ps,by unfold e8;rw[e1,f1],?_,Nat.max_le.mpr ⟨e3,f3⟩⟩;show(PyData.canLay0 p && PyData.canLayAll0 ps)=true;rw[e2,f2];rfl
theorem Bq{p:PyData}(h1:PyData.canLay0 p=true)(h2:p.depth≤63):SeqAt.shaped p=true:=by
 unfold SeqAt.shaped;rw[h1,decide_eq_true (by omega)];rfl
theorem Rq{d e:D}{p q:PyData}(h1:dj d=some p)(h2:dj e=some q)(a1:PyData.canLay0 p=true)(a2:p.depth≤63)(b1:PyData.canLay0 q=true)(b2:q.depth≤63):Qn d e=some (PyData.eqv p q):=by
 unfold Qn;rw[h1,h2];dsimp only;rw[Bq a1 a2,Bq b1 b2];rfl
theorem Mo{ds:List D}(h:zbc ds):js (.lst ds) (.lst [])=some (.bl ds.isEmpty)∧mr (.lst ds) (.lst [])=some (.bl (!ds.isEmpty)):=by
 obtain⟨ps,e1,e2,e3⟩:=h;have q:Qn (.lst ds) (.lst [])=some (PyData.eqv (.list ps) (.list [])):=Rq (by unfold dj;rw[e1]) rfl e2 (show PyData.depthAll ps+1≤63 by omega) rfl (show 0+1≤63 by omega);have e:PyData.eqv (.list ps) (.list [])=ds.isEmpty:=by
  cases ds with
  |nil=>cases e1;rfl
  |cons d r=>
   unfold e8 at e1;cases h1:dj d with
   |none=>rw[h1]at e1;cases e1
   |some p=>
    cases h2:e8 r with
    |none=>rw[h1,h2]at e1;cases e1
    |some ps'=>rw[h1,h2]at e1;cases e1;rfl
 unfold js mr;rw[q,e];exact⟨rfl,rfl⟩
theorem wb(a b:Int)(h:0<b):nh (.int a) (.int b)=some (.int (a % b)):=if_pos h
theorem D0(a b:Int)(h:(-(2 ^ 64)<a∧a<2 ^ 64)∨(-(2 ^ 64)<b∧b<2 ^ 64)):g7 (.int a) (.int b)=some (.int (a * b)):=if_pos h
theorem V1(a b:Int)(h:0<b∧b<1073741824):um (.int a) (.int b)=some (.int (a / b)):=if_pos h
theorem wc(hr:r δ=.ok [.int j'])(h:-(2 ^ 62)≤j'∧j'<2 ^ 62):iq r δ=.ok (gr 0 j'.toNat):=by
 unfold iq;rw[hr];exact if_pos h
end
end Pu
end
section
namespace LK
open PySem PySem.Spec PyProof.Rows L2 Pu
noncomputable def o9(n:Nat):En→Out:=(fm (u7 (g1 (cc "int") (af 0)) (jr (g1 (cc "bool") (af 0)))))
theorem H9(n:Nat):gB (tab (n+1)) g9 (wm b8.st b8.lm) (ak b8.st)=o9 n:=by kernel_rfl
theorem Ig:(xb b8.st).length=1:=by decide+kernel
theorem Gz(n:Nat)(ds:List D):ao (tab (n+1)) b8 ds=jl (o9 n (cz [true] ds++kA2 (1 - ds.length) .no)):=i9 (H9 n) Ig rfl ds
noncomputable def je(n:Nat):En→Out:=(fm (u7 (g1 (cc "str") (af 0)) (u7 (t8 qu qu (gC (.int 1)) (g1 cy (af 0)) (gC (.int 8))) (g1 sv (gp (ie (af 0)) [] (gC (.bl true)) (g2 Y0 (af 0) (gC (.str "abcdefghijklmnopqrstuvwxyz"))))))))
theorem Pe(n:Nat):gB (tab (n+1)) g9 (wm cm.st cm.lm) (ak cm.st)=je n:=by kernel_rfl
theorem Pj:(xb cm.st).length=1:=by decide+kernel
theorem j6(n:Nat)(ds:List D):ao (tab (n+1)) cm ds=jl (je n (cz [true] ds++kA2 (1 - ds.length) .no)):=i9 (Pe n) Pj rfl ds
noncomputable def df(n:Nat):En→Out:=(d5 (xn (B3 (jr (o5 (g1 (cc "tuple") (af 0)))) (jr (t8 qu qu (af 1) (g1 cy (af 0)) (af 2)))) (fm (gC (.bl false))) jm)
 (fm (g1 sv (gp (ie (af 0)) [3] (gC (.bl true)) (Ak (tab (n+1)) 1 [((af 0),(iu 0))])))))
theorem Ci(n:Nat):gB (tab (n+1)) g9 (wm bc.st bc.lm) (ak bc.st)=df n:=by kernel_rfl
theorem Cn:(xb bc.st).length=4:=by decide+kernel
theorem Cb(n:Nat)(ds:List D):ao (tab (n+1)) bc ds=jl (df n (cz [true,true,true,true] ds++kA2 (4 - ds.length) .no)):=i9 (Ci n) Cn rfl ds
noncomputable def gy(n:Nat):En→Out:=(fm (u7 (g1 (cc "tuple") (af 0)) (g2 js (g1 cy (af 0)) (gC (.int 2)))))
theorem Pd(n:Nat):gB (tab (n+1)) g9 (wm cf.st cf.lm) (ak cf.st)=gy n:=by kernel_rfl
theorem Ph:(xb cf.st).length=1:=by decide+kernel
theorem Oj(n:Nat)(ds:List D):ao (tab (n+1)) cf ds=jl (gy n (cz [true] ds++kA2 (1 - ds.length) .no)):=i9 (Pd n) Ph rfl ds
noncomputable def j5(n:Nat):En→Out:=(fm (u7 (dq (ao (tab n) cf) (ae (af 0) bx)) (u7 (dq (ao (tab n) cm) (ae (g2 bz (af 0) (gC (.int 0))) bx)) (dq (ao (tab n) bc) (ae (g2 bz (af 0) (gC (.int 1))) (ae (gC (.int 1)) (ae (gC (.int 4)) (ae (gC (.fn "is_number")) bx))))))))
theorem Pc(n:Nat):gB (tab (n+1)) g9 (wm cj.st cj.lm) (ak cj.st)=j5 n:=by kernel_rfl
theorem Pg:(xb cj.st).length=1:=by decide+kernel
theorem Oi(n:Nat)(ds:List D):ao (tab (n+1)) cj ds=jl (j5 n (cz [true] ds++kA2 (1 - ds.length) .no)):=i9 (Pc n) Pg rfl ds
noncomputable def nu(n:Nat):En→Out:=(fm (g1 sv (gp (iq (ae (g2 s9 (g1 cy (af 0)) (gC (.int 1))) bx)) [0] (gC (.bl true)) (g2 qz (g2 bz (af 1) (af 0)) (g2 bz (af 1) (g2 cu (af 0) (gC (.int 1))))))))
theorem E5(n:Nat):gB (tab (n+1)) g9 (wm br.st br.lm) (ak br.st)=nu n:=by kernel_rfl
theorem E7:(xb br.st).length=1:=by decide+kernel
theorem Ek(n:Nat)(ds:List D):ao (tab (n+1)) br ds=jl (nu n (cz [true] ds++kA2 (1 - ds.length) .no)):=i9 (E5 n) E7 rfl ds
noncomputable def fh(n:Nat):En→Out:=(d5 (Ja 1)
 (d5 (fz [0] (xm (g8 2) (ie (gBo 0)) (yx (ya mr (jz 1 (g2 bz (af 2) (gC (.int 0))) (g1 cy (g2 bz (af 2) (gC (.int 1))))) (g1 cy (g2 bz (af 2) (gC (.int 1))))) (fm (gC (.bl false))) jm)))
 (fm (gC (.bl true)))))
theorem r9(n:Nat):gB (tab (n+1)) g9 (wm ag.st ag.lm) (ak ag.st)=fh n:=by kernel_rfl
theorem sd:(xb ag.st).length=3:=by decide+kernel
theorem r8(n:Nat)(ds:List D):ao (tab (n+1)) ag ds=jl (fh n (cz [true] ds++kA2 (3 - ds.length) .no)):=i9 (r9 n) sd rfl ds
noncomputable def e9(n:Nat):En→Out:=(d5 (xn (B3 (jr (o5 (g1 (cc "list") (af 0)))) (jr (o5 (g1 sv (gp (ie (af 0)) [] (gC (.bl true)) (dq (ao (tab n) cj) (ae (af 0) bx))))))) (jt "NoBook" (ae (gC (.str "a book is a list of facts")) bx)) jm)
 (d5 (xn (jr (o5 (dq (ao (tab n) br) (ae (af 0) bx)))) (jt "NoBook" (ae (gC (.str "the facts of a book are rising, none twice")) bx)) jm)
 (d5 (xn (jr (o5 (dq (ao (tab n) ag) (ae (af 0) bx)))) (jt "NoBook" (ae (gC (.str "facts of one name have equally many values")) bx)) jm)
 (fm (g1 fi (af 0))))))
theorem A0(n:Nat):gB (tab (n+1)) g9 (wm ai.st ai.lm) (ak ai.st)=e9 n:=by kernel_rfl
theorem A2:(xb ai.st).length=1:=by decide+kernel
theorem kf(n:Nat)(ds:List D):ao (tab (n+1)) ai ds=jl (e9 n (cz [true] ds++kA2 (1 - ds.length) .no)):=i9 (A0 n) A2 rfl ds
noncomputable def ib(n:Nat):En→Out:=(d5 (xn (g2 qz (af 1) (g1 cy (af 0))) (fm (g2 bz (af 0) (af 1))) jm)
 (d5 (xn (g2 js (af 0) (iy bx)) (fm (gC (.int 0))) jm)
 (fm (g2 cu (g2 g7 (g2 bz (af 0) (g2 nh (af 1) (g1 cy (af 0)))) (gC (.int 31))) (af 1)))))
theorem Cj(n:Nat):gB (tab (n+1)) g9 (wm bf.st bf.lm) (ak bf.st)=ib n:=by kernel_rfl
theorem Co:(xb bf.st).length=2:=by decide+kernel
theorem Cd(n:Nat)(ds:List D):ao (tab (n+1)) bf ds=jl (ib n (cz [true,true] ds++kA2 (2 - ds.length) .no)):=i9 (Cj n) Co rfl ds
noncomputable def pb(n:Nat):En→Out:=(d5 (ni 3 (g2 nh (g2 g7 (g2 cu (g2 cu (dq (ao (tab n) bf) (ae (af 0) (ae (af 1) bx))) (g2 g7 (gC (.int 7919)) (af 1))) (gC (.int 1))) (gC (.int 48271))) (gC (.int 2147483647))))
 (fm (g2 nh (g2 nh (g2 cu (g2 cu (g2 g7 (af 3) (af 3)) (g2 g7 (gC (.int 7)) (af 3))) (af 1)) (gC (.int 2147483629))) (af 2))))
theorem Ia(n:Nat):gB (tab (n+1)) g9 (wm ba.st ba.lm) (ak ba.st)=pb n:=by kernel_rfl
theorem Ih:(xb ba.st).length=4:=by decide+kernel
theorem G7(n:Nat)(ds:List D):ao (tab (n+1)) ba ds=jl (pb n (cz [true,true,true] ds++kA2 (4 - ds.length) .no)):=i9 (Ia n) Ih rfl ds
noncomputable def tu(n:Nat):En→Out:=(d5 (q0 3 (iy bx))
 (d5 (xm (g8 4) (iq (ae (dq (ao (tab n) ba) (ae (af 0) (ae (af 1) (ae (g2 cu (af 2) (gC (.int 1))) bx)))) bx)) (d5 (ni 5 (g2 bz (iy (ae (gC (.str "r")) (ae (gC (.str "s")) (ae (gC (.str "t")) bx)))) (dq (ao (tab n) ba) (ae (af 0) (ae (g2 cu (g2 cu (af 1) (gC (.int 1))) (g2 g7 (gC (.int 4)) (af 4))) (ae (gC (.int 3)) bx))))))
 (d5 (fz [5] (ni 6 (g2 cu (gM j0 (iy (ae (gC (.str "t")) (ae (gC (.str "r")) (ae (gC (.str "s")) bx)))) (af 5)) (gC (.int 1)))))
 (fz [5] (Lh 3 (ir (ae (iu 5) (ae (g1 j4 (gp (iq (ae (af 6) bx)) [1,4,0] (gC (.bl true)) (g2 s9 (dq (ao (tab n) ba) (ae (af 3) (ae (g2 cu (g2 cu (g2 cu (af 1) (gC (.int 2))) (g2 g7 (gC (.int 4)) (af 2))) (af 0)) (ae (gC (.int 4)) bx)))) (gC (.int 1))))) bx))))))))
 (fm (g1 om (af 3)))))
theorem Kt(n:Nat):gB (tab (n+1)) g9 (wm cg.st cg.lm) (ak cg.st)=tu n:=by kernel_rfl
theorem Kx:(xb cg.st).length=7:=by decide+kernel
theorem Kc(n:Nat)(ds:List D):ao (tab (n+1)) cg ds=jl (tu n (cz [true,true,true] ds++kA2 (7 - ds.length) .no)):=i9 (Kt n) Kx rfl ds
noncomputable def pd(n:Nat):En→Out:=(fm (u7 (g1 (cc "int") (af 0)) (jr (g1 (cc "bool") (af 0)))))
theorem Ib(n:Nat):gB (tab (n+1)) g9 (wm bw.st bw.lm) (ak bw.st)=pd n:=by kernel_rfl
theorem Ii:(xb bw.st).length=1:=by decide+kernel
theorem G8(n:Nat)(ds:List D):ao (tab (n+1)) bw ds=jl (pd n (cz [true] ds++kA2 (1 - ds.length) .no)):=i9 (Ib n) Ii rfl ds
noncomputable def ij(n:Nat):En→Out:=(d5 (xn (B3 (jr (o5 (g1 (cc "str") (af 0)))) (B3 (g2 qz (g1 cy (af 0)) (gC (.int 1))) (g2 Fo (g1 cy (af 0)) (gC (.int 8))))) (fm (gC (.bl false))) jm)
 (fm (g2 js (gp (ie (af 0)) [] (g2 ze (af 0) (gC (.str "abcdefghijklmnopqrstuvwxyz"))) (iu 0)) (iy bx))))
theorem Ku(n:Nat):gB (tab (n+1)) g9 (wm b9.st b9.lm) (ak b9.st)=ij n:=by kernel_rfl
theorem Ky:(xb b9.st).length=1:=by decide+kernel
theorem jf(n:Nat)(ds:List D):ao (tab (n+1)) b9 ds=jl (ij n (cz [true] ds++kA2 (1 - ds.length) .no)):=i9 (Ku n) Ky rfl ds
noncomputable def ic(n:Nat):En→Out:=(d5 (xn (jr (o5 (g1 (cc "list") (af 0)))) (fm (gC (.bl false))) jm)
 (d5 (Ja 1)
 (d5 (xm (g8 2) (iq (ae (g1 cy (af 0)) bx)) (d5 (ni 3 (g2 bz (af 0) (af 2)))
 (d5 (xn (B3 (jr (o5 (g1 (cc "tuple") (af 3)))) (B3 (g2 mr (g1 cy (af 3)) (gC (.int 2))) (B3 (jr (o5 (dq (ao (tab n) b9) (ae (g2 bz (af 3) (gC (.int 0))) bx)))) (jr (o5 (g1 (cc "tuple") (g2 bz (af 3) (gC (.int 1))))))))) (fm (gC (.bl false))) jm)
 (d5 (xn (B3 (g2 qz (g1 cy (g2 bz (af 3) (gC (.int 1)))) (gC (.int 1))) (B3 (g2 Fo (g1 cy (g2 bz (af 3) (gC (.int 1)))) (gC (.int 4))) (g2 mr (gp (ie (g2 bz (af 3) (gC (.int 1)))) [] (jr (o5 (dq (ao (tab n) bw) (ae (af 0) bx)))) (iu 0)) (iy bx)))) (fm (gC (.bl false))) jm)
 (d5 (xn (B3 (u7 (g2 Fo (af 2) (gC (.int 0))) (g2 qu (af 3) (g2 bz (af 0) (g2 s9 (af 2) (gC (.int 1)))))) (g2 mr (u9 (af 1) (g2 bz (af 3) (gC (.int 0))) (g1 cy (g2 bz (af 3) (gC (.int 1))))) (g1 cy (g2 bz (af 3) (gC (.int 1)))))) (fm (gC (.bl false))) jm)
 (zd8 1 (g2 bz (af 3) (gC (.int 0))) (g1 cy (g2 bz (af 3) (gC (.int 1))))))))))
 (fm (gC (.bl true))))))
theorem Ck(n:Nat):gB (tab (n+1)) g9 (wm aq.st aq.lm) (ak aq.st)=ic n:=by kernel_rfl
theorem Cp:(xb aq.st).length=4:=by decide+kernel
theorem sj(n:Nat)(ds:List D):ao (tab (n+1)) aq ds=jl (ic n (cz [true] ds++kA2 (4 - ds.length) .no)):=i9 (Ck n) Cp rfl ds
noncomputable def i4(n:Nat):En→Out:=(d5 (ni 2 (g2 bz (af 0) (gC (.int 0))))
 (d5 (ni 3 (g2 bz (af 0) (gC (.int 1))))
 (d5 (fz [2,3,2,2,3,2,2,2] (q0 4 (iy (ae (iy (ae (iu 2) (ae (iu 3) bx))) (ae (ir (ae (iu 2) bx)) (ae (ir (ae (iu 2) (ae (iu 3) (ae (gC (.int 0)) bx)))) (ae (ir (ae (iu 2) (ae (g1 fi (af 3)) bx))) (ae (ir (ae (iu 2) (ae (ir bx) bx))) (ae (ir (ae (iu 2) (ae (g2 g7 (ir (ae (gC (.int 1)) bx)) (gC (.int 5))) bx))) bx)))))))))
 (d5 (fz [3,3,3,3,3] (P7 4 (iy (ae (ir (ae (gC (.str "R")) (ae (iu 3) bx))) (ae (ir (ae (gC (.str "r1")) (ae (iu 3) bx))) (ae (ir (ae (g2 g7 (gC (.str "r")) (gC (.int 9))) (ae (iu 3) bx))) (ae (ir (ae (gC (.str "")) (ae (iu 3) bx))) (ae (ir (ae (gC (.int 3)) (ae (iu 3) bx))) bx))))))))
 (d5 (fz [2,2,2,3] (P7 4 (iy (ae (ir (ae (iu 2) (ae (g2 cu (af 3) (ir (ae (gC (.int 1)) bx))) bx))) (ae (ir (ae (iu 2) (ae (g2 cu (ir (ae (gC (.bl true)) bx)) (V8 (af 3) (some (gC (.int 1))) none)) bx))) (ae (ir (ae (iu 2) (ae (g2 cu (ir (ae (gC (.str "1")) bx)) (V8 (af 3) (some (gC (.int 1))) none)) bx))) (ae (ir (ae (g2 g7 (gC (.str "r")) (gC (.int 8))) (ae (iu 3) bx))) bx)))))))
 (fm (g2 bz (af 4) (g2 nh (af 1) (gC (.int 15))))))))))
theorem vk(n:Nat):gB (tab (n+1)) g9 (wm aj.st aj.lm) (ak aj.st)=i4 n:=by kernel_rfl
theorem vn:(xb aj.st).length=5:=by decide+kernel
theorem uy(n:Nat)(ds:List D):ao (tab (n+1)) aj ds=jl (i4 n (cz [true,true] ds++kA2 (5 - ds.length) .no)):=i9 (vk n) vn rfl ds
noncomputable def nv(n:Nat):En→Out:=(d5 (ni 2 (g2 nh (af 1) (gC (.int 5))))
 (d5 (xn (g2 js (af 2) (gC (.int 0))) (fm (g2 bz (iy (ae (g1 j4 (af 0)) (ae (gC .non) (ae (gC (.dct false [])) (ae (gC (.str "r")) bx))))) (g2 nh (g2 um (af 1) (gC (.int 5))) (gC (.int 4))))) jm)
 (d5 (xn (g2 js (af 2) (gC (.int 1))) (fm (gRv (af 0) (g1 Dt (gC (.int 1))))) jm)
 (d5 (xn (B3 (g2 js (af 2) (gC (.int 2))) (g2 js (af 0) (iy bx))) (fm (g2 cu (g2 cu (af 0) (V8 (af 0) (some (g1 Dt (gC (.int 1)))) none)) (V8 (iy (ae (ir (ae (gC (.str "zz")) (ae (ir (ae (gC (.int 1)) bx)) bx))) bx)) none (some (g2 nh (g2 um (af 1) (gC (.int 5))) (gC (.int 2))))))) jm)
 (d5 (ni 3 (g2 nh (g2 um (af 1) (gC (.int 5))) (g1 cy (af 0))))
 (fm (g2 cu (g2 cu (V8 (af 0) none (some (iu 3))) (iy (ae (dq (ao (tab n) aj) (ae (g2 bz (af 0) (af 3)) (ae (g2 um (af 1) (gC (.int 60))) bx))) bx))) (V8 (af 0) (some (g2 cu (af 3) (gC (.int 1)))) none))))))))
theorem E6(n:Nat):gB (tab (n+1)) g9 (wm bu.st bu.lm) (ak bu.st)=nv n:=by kernel_rfl
theorem E8:(xb bu.st).length=4:=by decide+kernel
theorem El(n:Nat)(ds:List D):ao (tab (n+1)) bu ds=jl (nv n (cz [true,true] ds++kA2 (4 - ds.length) .no)):=i9 (E6 n) E8 rfl ds
noncomputable def mm(n:Nat):En→Out:=(d5 (ni 1 (gC (.int 0)))
 (d5 (Fu (ao (tab n) ai) (ae (af 0) bx) (Oz (tab (n+1)) "NoBook" 1 1))
 (d5 (Fu (ao (tab n) ai) (ae (af 0) bx) (Dg (tab (n+1)) "AskError" 1 2))
 (fm (g2 js (af 1) (gC (.int 2)))))))
theorem Cm(n:Nat):gB (tab (n+1)) g9 (wm bb.st bb.lm) (ak bb.st)=mm n:=by kernel_rfl
theorem Cq:(xb bb.st).length=3:=by decide+kernel
theorem Ce(n:Nat)(ds:List D):ao (tab (n+1)) bb ds=jl (mm n (cz [true] ds++kA2 (3 - ds.length) .no)):=i9 (Cm n) Cq rfl ds
noncomputable def Cz(n:Nat):En→Out:=(d5 (ni 1 (dq (ao (tab n) cg) (ae (af 0) (ae (gC (.int 0)) (ae (gC (.int 9)) bx)))))
 (d5 (xn (g2 Fo (dq (ao (tab n) ba) (ae (af 0) (ae (gC (.int 60)) (ae (gC (.int 3)) bx)))) (gC (.int 0))) (ni 1 (dq (ao (tab n) bu) (ae (af 1) (ae (dq (ao (tab n) ba) (ae (af 0) (ae (gC (.int 61)) (ae (g2 Nq (gC (.int 10)) (gC (.int 6))) bx)))) bx)))) jm)
 (d5 (xn (jr (o5 (dq (ao (tab n) aq) (ae (af 1) bx)))) (fm (dq (ao (tab n) bb) (ae (af 1) bx))) jm)
 (d5 (q0 2 (g1 fi (af 1)))
 (d5 (q0 3 (dq (ao (tab n) ai) (ae (af 1) bx)))
 (d5 (xn (g2 mr (af 3) (af 2)) (fm (gC (.bl false))) jm)
 (d5 (Lh 3 (gC (.int 0)))
 (fm (g2 js (af 1) (af 2))))))))))
theorem zf9(n:Nat):gB (tab (n+1)) g9 (wm gz.st gz.lm) (ak gz.st)=Cz n:=by kernel_rfl
theorem zgc:(xb gz.st).length=4:=by decide+kernel
theorem zfw(n:Nat)(ds:List D):ao (tab (n+1)) gz ds=jl (Cz n (cz [false] ds++kA2 (4 - ds.length) .no)):=i9 (zf9 n) zgc rfl ds
end LK
end
section
namespace LK
open PySem PySem.Spec PyProof.Rows Pu
noncomputable abbrev Nu(ns:List Int):D:=.lst (ns.map D.int)
noncomputable def Q8(ns:List Int)(k:Int):Int:=if k<ns.length then(ns[k.toNat]?).getD 0 else if ns=[]then 0 else(ns[(k % ns.length).toNat]?).getD 0 * 31+k
theorem uo:∀ns:List Int,e8 (ns.map D.int)=some (ns.map PyData.int)
 |[]=>rfl
 |n::ns=>by show(match dj (.int n)with|some p=>(match e8 (ns.map D.int)with|some ps=>some (p::ps)|none=>none)|none=>none)=_;rw[uo ns];rfl
theorem gj:∀ns:List Int,PyData.canLayAll0 (ns.map PyData.int)=true
 |[]=>rfl
 |n::ns=>by show(PyData.canLay0 (.int n) && PyData.canLayAll0 (ns.map PyData.int))=true;rw[gj ns];rfl
theorem Af:∀ns:List Int,PyData.depthAll (ns.map PyData.int)≤1
 |[]=>by decide
 |n::ns=>by
  show max (PyData.depth (.int n)) (PyData.depthAll (ns.map PyData.int))≤1;have:=Af ns;have h:PyData.depth (.int n)≤1:=kAt _;omega
theorem Jd(ns:List Int):SeqAt.shaped (.list (ns.map PyData.int))=true:=by
 unfold SeqAt.shaped;have h1:PyData.canLay0 (.list (ns.map PyData.int))=true:=gj ns;have h2:PyData.depth (.list (ns.map PyData.int))≤2:=by
  have:=Af ns;show PyData.depthAll (ns.map PyData.int)+1≤2;omega
 rw[h1];simp only[Bool.true_and,decide_eq_true_eq];omega
theorem Rp(ns:List Int):js (Nu ns) (.lst [])=some (.bl (decide (ns=[]))):=by
 unfold js Qn Nu;have e1:dj (.lst (ns.map D.int))=some (.list (ns.map PyData.int)):=by unfold dj;rw[uo]
 have e2:dj (.lst [])=some (.list []):=rfl;rw[e1,e2];dsimp only;rw[Jd,show SeqAt.shaped (.list [])=true from by decide];cases ns<;>rfl
theorem Sw(ns:List Int)(k:Int)(h0:0≤k)(h1:k<ns.length):bz (Nu ns) (.int k)=some (.int ((ns[k.toNat]?).getD 0)):=by
 show L2.atI (ns.map D.int) k=_;have hk:k=((k.toNat:Nat):Int):=by omega
 have hl:k.toNat<ns.length:=by omega
 rw[hk];refine(L2.y0 (j:=k.toNat) (v:=D.int ((ns[k.toNat]?).getD 0)) ?_).trans (by rw[←hk]);rw[kAs,kB2 hl];rfl
theorem Wo(n:Nat)(ns:List Int)(k:Int)(hk:0≤k):ao (tab (n+1)) bf [Nu ns,.int k]=.ok (.int (Q8 ns k)):=by
 rw[Cd];unfold Q8
 by_cases h1:k<ns.length
 ·have e1:=Sw ns k hk h1;simp[ib,h1,e1]
 ·by_cases h2:ns=[]
  ·subst h2;have e2:=Rp [];have h3:¬k<0:=by omega
   simp[ib,h3,e2]
  ·have hp:0<ns.length:=by cases ns<;>simp_all
   have hm1:0≤k % (ns.length:Int):=Int.emod_nonneg _ (by omega);have hm2:k % (ns.length:Int)<ns.length:=Int.emod_lt_of_pos _ (by omega);have e1:=Sw ns (k % ns.length) hm1 hm2;have e2:=Rp ns;have e3:=wb k ns.length (by omega);have e4:=λa=>D0 a 31 (.inr (by decide));simp[ib,h1,h2,e1,e2,e3,e4]
noncomputable def ue(ns:List Int)(k m:Int):Int:=
 let x:=(Q8 ns k+7919 * k+1) * 48271 % 2147483647
 (x * x+7 * x+k) % 2147483629 % m
theorem qi(n:Nat)(ns:List Int)(k m:Int)(hk:0≤k)(hm:0<m):ao (tab (n+2)) ba [Nu ns,.int k,.int m]=.ok (.int (ue ns k m)):=by
 rw[G7];have e0:=Wo n ns k hk;have e1:=D0 7919 k (.inl (by decide));have e2:=λa=>D0 a 48271 (.inr (by decide));have e3:=λa=>wb a 2147483647 (by decide);have e4:=λa=>wb a 2147483629 (by decide);have e5:=λa=>wb a m hm;have e6:=λa=>D0 7 a (.inl (by decide));have e7:∀a:Int,g7 (.int (a % 2147483647)) (.int (a % 2147483647))=some (.int (a % 2147483647 * (a % 2147483647))):=λa=>D0 _ _ (.inl (by omega));simp[pb,e0,e1,e2,e3,e4,e5,e6,e7,ue]
theorem og(ns:List Int)(k m:Int)(hm:0<m):0≤ue ns k m∧ue ns k m<m:=⟨Int.emod_nonneg _ (by omega),Int.emod_lt_of_pos _ hm⟩
theorem u3{h:Pu.D→Option Pu.D}{f:Nat→Pu.D}:∀(l:List Nat),(∀j∈l,h (.int (0+(j:Int)))=some (f j))→(l.map λ(i:Nat)=>Pu.D.int (0+(i:Int))).filterMap h=l.map f
 |[],_=>rfl
 |a::l,hf=>by
  rw[kA4,List.filterMap_cons,hf a kAk];dsimp only;rw[u3 l λj hj=>hf j (kAl _ hj),kA4]
theorem oz{h:Pu.D→Option Pu.D}{f:Nat→Pu.D}(n:Nat)(hf:∀j:Nat,j<n→h (.int (0+(j:Int)))=some (f j)):(gr 0 n).filterMap h=(kA5 n).map f:=
 u3 _ λj hj=>hf j (kB1.mp hj)
theorem Le(n:Nat):(gr 0 n).length=n:=by unfold gr;simp
theorem Kv{n:Nat}{d:Pu.D}(h:d∈gr 0 n):∃j:Nat,j<n∧d=.int (0+(j:Int)):=by
 unfold gr at h;obtain⟨j,hj,e⟩:=kAr.mp h;exact⟨j,kB1.mp hj,e.symm⟩
theorem Ab{r:En→ResL}{ix:List Nat}{g:En→Res}{δ:En}{m:Nat}{f:Nat→Pu.D}(hr:r δ=.ok (gr 0 m))(hm:m≤16777216)(hf:∀j:Nat,j<m→g (ik ix δ (.pu (.int (0+(j:Int)))))=.ok (f j)):
  gp r ix (gC (.bl true)) g δ=.ok (.lst ((kA5 m).map f)):=by
 let h:Pu.D→Option Pu.D:=λd=>match d with
  |.int k=>some (f k.toNat)
  |_=>none
 have:=R7 (r:=r) (ix:=ix) (t:=gC (.bl true)) (g:=g) (δ:=δ) (h:=h) hr (by rw[Le];exact hm) λd hd=>by
  obtain⟨j,hj,rfl⟩:=Kv hd;rw[Vz (hf j hj)];show some (some (f j))=some (some (f (0+(j:Int)).toNat));have:(0+(j:Int)).toNat=j:=by omega
  rw[this]
 rw[this,oz m (f:=f)];intro j hj;show some (f (0+(j:Int)).toNat)=some (f j);have:(0+(j:Int)).toNat=j:=by omega
 rw[this]
noncomputable abbrev Fc:=Str×List Int
noncomputable def fD(f:Fc):Pu.D:=.tup [.str f.1,.tup (f.2.map Pu.D.int)]
noncomputable def fK(f:Fc):L2.az:=[.inl (.inr f.1),.inr (f.2.map Sum.inl)]
theorem zaj(f:Fc):kT (fK f)=fD f:=by
 show Pu.D.tup [.str f.1,.tup ((f.2.map Sum.inl).map kD)]=_;rw[List.map_map];rfl
theorem xa(f:Fc):jh (fD f)=some (fK f):=by rw[←zaj];exact rj _
theorem Rv{f g:Fc}(h:fK f=fK g):f=g:=by
 obtain⟨x,a⟩:=f;obtain⟨y,b⟩:=g;unfold fK at h;simp only[List.cons.injEq,Sum.inl.injEq,Sum.inr.injEq,and_true]at h;obtain⟨h1,h2⟩:=h;have:a=b:=by
  clear h1;induction a generalizing b with
  |nil=>cases b with
   |nil=>rfl
   |cons _ _=>cases h2
  |cons i r ih=>cases b with
   |nil=>cases h2
   |cons j t=>
    rw[kA4,kA4]at h2;injection h2 with z1 z2
    rw[Sum.inl.inj z1,ih t z2]
 rw[h1,this]
noncomputable def tq(F:List Fc):List Fc→List Fc
 |[]=>F
 |f::r=>tq (if f∈F then F else F++[f]) r
theorem zp:∀(l F:List Fc),F.Nodup→(tq F l).Nodup
 |[],F,h=>h
 |f::l,F,h=>by
  unfold tq;refine zp l _ ?_;split
  ·exact h
  ·rename_i hf;refine List.nodup_append.mpr ⟨h,by simp,λa ha b hb=>?_⟩;rw[kB5.mp hb];exact λz=>hf (z▸ha)
theorem Gb:∀(l F:List Fc),(tq F l).length≤F.length+l.length
 |[],F=>by simp[tq]
 |f::l,F=>by
  unfold tq;have:=Gb l (if f∈F then F else F++[f]);split at this
  ·simp;rename_i h;rw[if_pos h];omega
  ·rename_i h;rw[if_neg h];simp at this⊢;omega
theorem Gc:∀(l F:List Fc),(∀f∈F,PyData.strOk f.1=true)→(∀f∈l,PyData.strOk f.1=true)→∀f∈tq F l,PyData.strOk f.1=true
 |[],F,h,_=>h
 |g::l,F,h,k=>by
  unfold tq;refine Gc l _ ?_ λf hf=>k f (kAl _ hf);split
  ·exact h
  ·intro f hf;rcases kB4.mp hf with hf|hf
   ·exact h f hf
   ·rw[kB5.mp hf];exact k g kAk
theorem Ro{x y:Str}{c d:List Int}(h:uz x c=uz y d):x=y∧c=d:=by
 have l1:=u0 x.cps.toList y.cps.toList c d;have l2:=u0 y.cps.toList x.cps.toList d c;have n1:¬(x.cps.toList.map Int.ofNat++(-1)::c<y.cps.toList.map Int.ofNat++(-1)::d):=λz=>by
  have h':x.cps.toList.map Int.ofNat++(-1)::c=y.cps.toList.map Int.ofNat++(-1)::d:=h;rw[h']at z;exact List.lt_irrefl _ z
 have n2:¬(y.cps.toList.map Int.ofNat++(-1)::d<x.cps.toList.map Int.ofNat++(-1)::c):=λz=>by
  have h':x.cps.toList.map Int.ofNat++(-1)::c=y.cps.toList.map Int.ofNat++(-1)::d:=h;rw[h']at z;exact List.lt_irrefl _ z
 have m1:=λz=>n1 (l1.mpr z);have m2:=λz=>n2 (l2.mpr z);have ex:x.cps.toList=y.cps.toList:=by
  by_cases q:x.cps.toList=y.cps.toList
  ·exact q
  ·exact absurd (.inl (Std.lt_of_le_of_ne (λz=>m1 (.inl z)) (Ne.symm q))) m2
 refine⟨F4 ex,?_⟩
 by_cases q:c=d
 ·exact q
 ·exact absurd (.inr ⟨ex.symm,Std.lt_of_le_of_ne (λz=>m1 (.inr ⟨ex,z⟩)) (Ne.symm q)⟩) m2
theorem Hq:∀{F:List Fc},(∀f∈F,PyData.strOk f.1=true)→jc (F.map fD)=some (F.map λf=>uz f.1 f.2)
 |[],_=>rfl
 |f::F,h=>by
  have iL:∀l:List Int,p7 (l.map Pu.D.int)=some l:=λl=>by
   induction l with
   |nil=>rfl
   |cons i r ih=>rw[kA4,p7,ih];rfl
  have e:Ko (fD f)=some (uz f.1 f.2):=by
   show(if PyData.strOk f.1 then(p7 (f.2.map Pu.D.int)).map (uz f.1)else none)=_;rw[if_pos (h f kAk),iL];rfl
  rw[kA4,jc,e,Hq λg hg=>h g (kAl _ hg)];rfl
theorem Gd:∀(l F:List Fc),∀f∈tq F l,f∈F∨f∈l
 |[],F,f,h=>.inl h
 |g::l,F,f,h=>by
  unfold tq at h;rcases Gd l _ f h with h|h
  ·split at h
   ·exact .inl h
   ·rcases kB4.mp h with h|h
    ·exact .inl h
    ·rw[kB5.mp h];exact .inr kAk
  ·exact .inr (kAl _ h)
theorem Bo:∀(l F:List Fc),(l.map fK).foldl L2.p6 (F.map fK)=(tq F l).map fK
 |[],F=>rfl
 |f::l,F=>by
  rw[kA4,List.foldl_cons];unfold tq;rw[←Bo l]
  congr 1
  unfold L2.p6;have e:L2.Er (F.map fK) (fK f)=decide (f∈F):=by
   by_cases h:f∈F
   ·rw[decide_eq_true h];exact L2.vc.mpr (kAr.mpr ⟨f,h,rfl⟩)
   ·rw[decide_eq_false h];cases q:L2.Er (F.map fK) (fK f)with
    |false=>rfl
    |true=>
     obtain⟨g,hg,e⟩:=kAr.mp (L2.vc.mp q);exact absurd (Rv e▸hg) h
  rw[e]
  by_cases h:f∈F
  ·rw[if_pos (decide_eq_true h),if_pos h]
  ·rw[if_neg (by simp[h]),if_neg h,List.map_append];rfl
theorem vg:∀F:List Fc,mn (F.map fD)=some (F.map fK)
 |[]=>rfl
 |f::F=>by rw[kA4,mn,xa,vg F];rfl
theorem zam:∀(l:List Pu.D)(F:List Fc),(∀d∈l,d∈F.map fD)→∃G:List Fc,l=G.map fD∧∀f∈G,f∈F
 |[],F,_=>⟨[],rfl,by intro f h;cases h⟩
 |d::l,F,h=>by
  obtain⟨f,hf,rfl⟩:=kAr.mp (h d kAk);obtain⟨G,rfl,hG⟩:=zam l F λd hd=>h d (kAl _ hd);refine⟨f::G,rfl,λg hg=>?_⟩;rcases kA6.mp hg with rfl|hg
  ·exact hf
  ·exact hG g hg
theorem Ji{F:List Fc}(nd:F.Nodup)(hw:∀f∈F,PyData.strOk f.1=true)(hl:F.length<64):∃G:List Fc,ko (F.map fD)=some (G.map fD)∧(∀f∈G,f∈F)∧G.length=F.length:=by
 unfold ko
 by_cases h2:(F.map fD).length<2
 ·rw[if_pos h2];exact⟨F,rfl,λf h=>h,rfl⟩
 ·rw[if_neg h2,if_pos (by rw[kA3];exact hl)];have ka:jv (F.map fD)=none:=by
   cases F with
   |nil=>simp at h2
   |cons f r=>rw[kA4];rfl
  have e:jg (F.map fD)=some (2,F.map λf=>uz f.1 f.2):=by
   unfold jg;rw[ka,Hq hw];rfl
  rw[e];dsimp only;have q:(F.map λf=>uz f.1 f.2).Nodup:=by
   rw[List.Nodup,List.pairwise_map];refine List.Pairwise.imp (λ{a b} hab he=>?_) nd;obtain⟨z1,z2⟩:=Ro he;exact hab (Prod.ext z1 z2)
  rw[if_pos q];have pm:=(ji ((F.map λf=>uz f.1 f.2).zip (F.map fD))).map (·.2);rw[List.map_snd_zip (by simp)]at pm;obtain⟨G,e1,e2⟩:=zam _ F λd hd=>pm.mem_iff.mp hd;refine⟨G,by rw[e1],e2,?_⟩;have:=pm.length_eq;rw[e1]at this;simpa using this
theorem Cv{F:List Fc}(hw:∀f∈F,PyData.strOk f.1=true)(hl:F.length<64):∃G:List Fc,om (.lst (F.map fD))=some (.lst (G.map fD))∧(∀f∈G,f∈F)∧G.length≤F.length:=by
 cases F with
 |nil=>exact⟨[],rfl,(λf h=>h),kA0 _⟩
 |cons f r=>
  rw[show om (.lst ((f::r).map fD))=oo (.lst ((f::r).map fD))from rfl];show∃G:List Fc,((mn ((f::r).map fD)).bind λkz=>if(L2.mw kz).length≤76 then(ko ((L2.mw kz).map kT)).map Pu.D.lst else none)=_∧_;rw[vg];show∃G:List Fc,(if(L2.mw ((f::r).map fK)).length≤76 then(ko ((L2.mw ((f::r).map fK)).map kT)).map Pu.D.lst else none)=_∧_;have es:L2.mw ((f::r).map fK)=(tq [] (f::r)).map fK:=Bo (f::r) [];have el:=Gb (f::r) [];rw[List.length_nil,Nat.zero_add]at el;have em:((tq [] (f::r)).map fK).map kT=(tq [] (f::r)).map fD:=by
   rw[List.map_map];exact List.map_congr_left λg _=>zaj g
  rw[es,if_pos (by rw[kA3];omega),em];obtain⟨G,g1,g2,g3⟩:=Ji (zp (f::r) [] List.nodup_nil) (Gc (f::r) [] (by intro f h;cases h) hw) (by omega);refine⟨G,by rw[g1];rfl,λg hg=>?_,by omega⟩;rcases Gd (f::r) [] g (g2 g hg)with h|h
  ·cases h
  ·exact h
end LK
end
section
namespace Pu
open PySem PySem.Spec PyProof.Rows
theorem Gp{α:Type}{f f':α→D}{F:D→Option (Option D)}{b:α→Bool}:∀(l:List α),(∀a∈l,F (f a)=some (if b a then some (f' a)else none))→jk F (l.map f)=some ((l.filter b).map f')
 |[],_=>rfl
 |a::l,h=>by
  rw[kA4];unfold jk;rw[h a kAk,Gp l λc hc=>h c (kAl _ hc),List.filter_cons];cases b a<;>rfl
theorem Mg{α:Type}{r:En→ResL}{ix:List Nat}{t g:En→Res}{δ:En}{l:List α}{f f':α→D}{b:α→Bool}(hr:r δ=.ok (l.map f))(hl:l.length≤16777216)(ht:∀a∈l,t (ik ix δ (.pu (f a)))=.ok (.bl (b a)))(hg:∀a∈l,g (ik ix δ (.pu (f a)))=.ok (f' a)):
  gp r ix t g δ=.ok (.lst ((l.filter b).map f')):=by
 unfold gp;rw[hr];dsimp only;rw[if_pos (by rw[kA3];exact hl),Gp (b:=b) (f':=f') l λa ha=>by
  rw[Zu (b:=b a) (y:=f' a) (ht a ha) λ_=>hg a ha]]
theorem Gq{α:Type}{r:En→ResL}{ix:List Nat}{t:En→Res}{δ:En}{l:List α}{f:α→D}{b:α→Bool}(hr:r δ=.ok (l.map f))(hl:l.length≤16777216)(ht:∀a∈l,t (ik ix δ (.pu (f a)))=.ok (.bl (b a))):
  gp r ix t (iu 0) δ=.ok (.lst ((l.filter b).map f)):=Mg hr hl ht λa _=>rfl
theorem Gr{α:Type}{r:En→ResL}{ix:List Nat}{g:En→Res}{δ:En}{l:List α}{f f':α→D}(hr:r δ=.ok (l.map f))(hl:l.length≤16777216)(hg:∀a∈l,g (ik ix δ (.pu (f a)))=.ok (f' a)):
  gp r ix (gC (.bl true)) g δ=.ok (.lst (l.map f')):=by
 have:=Mg (b:=λ_=>true) (t:=gC (.bl true)) hr hl (λ_ _=>rfl) hg;rwa [List.filter_eq_self.mpr (λ_ _=>rfl)]at this
theorem xw{α:Type}(b:α→Bool):∀l:List α,jy (l.map λa=>D.bl (b a))=some (l.map b)
 |[]=>rfl
 |a::l=>by
  show(jy (l.map λa=>D.bl (b a))).map (b a::·)=_;rw[xw b l];rfl
theorem D9{α:Type}(b:α→Bool)(l:List α):sv (.lst (l.map λa=>D.bl (b a)))=some (.bl (l.all b)):=by
 unfold sv;dsimp only;rw[xw];show some (D.bl ((l.map b).all id))=_;rw[List.all_map];rfl
end Pu
end
section
namespace LK
open PySem PySem.Spec PyProof.Rows Pu
noncomputable def Sg:List Str:=["r","s","t","zz","rrrrrrrr"]
noncomputable def bad:List Str:=["R","","r1","rrrrrrrrr","1"]
def Ga(x:Str):Prop:=x∈Sg∨x∈bad
noncomputable def okw(x:Str):Bool:=decide (x∈Sg)
theorem Z2(n:Nat){x:Str}(h:Ga x):ao (tab (n+1)) cm [.str x]=.ok (.bl (okw x)):=by
 rw[j6];unfold Ga Sg bad at h;simp only[kA6,kB3,or_false]at h;rcases h with (rfl|rfl|rfl|rfl|rfl)|(rfl|rfl|rfl|rfl|rfl)<;>kernel_rfl
theorem Xo(n:Nat){x:Str}(h:Ga x):ao (tab (n+1)) b9 [.str x]=.ok (.bl (okw x)):=by
 rw[jf];unfold Ga Sg bad at h;simp only[kA6,kB3,or_false]at h;rcases h with (rfl|rfl|rfl|rfl|rfl)|(rfl|rfl|rfl|rfl|rfl)<;>kernel_rfl
inductive T0:Pu.D→Prop where
 |str {x:Str} (h:Ga x):T0 (.str x)
 |int (i:Int):T0 (.int i)
 |bl (b:Bool):T0 (.bl b)
 |non:T0 .non
 |tup (ds:List Pu.D):T0 (.tup ds)
 |lst (ds:List Pu.D):T0 (.lst ds)
noncomputable def jd:Pu.D→Bool
 |.str x=>okw x
 |_=>false
noncomputable def gw:Pu.D→Bool
 |.int _=>true
 |_=>false
theorem Oy(n:Nat){d:Pu.D}(h:T0 d):ao (tab (n+1)) cm [d]=.ok (.bl (jd d)):=by
 cases h with
 |str h=>exact Z2 n h
 |int i=>rw[j6];simp[je,jd]
 |bl b=>rw[j6];simp[je,jd]
 |non=>rw[j6];simp[je,jd]
 |tup ds=>rw[j6];simp[je,jd]
 |lst ds=>rw[j6];simp[je,jd]
theorem S6(n:Nat){d:Pu.D}(h:T0 d):ao (tab (n+1)) b9 [d]=.ok (.bl (jd d)):=by
 cases h with
 |str h=>exact Xo n h
 |int i=>rw[jf];simp[ij,jd]
 |bl b=>rw[jf];simp[ij,jd]
 |non=>rw[jf];simp[ij,jd]
 |tup ds=>rw[jf];simp[ij,jd]
 |lst ds=>rw[jf];simp[ij,jd]
theorem Sq(n:Nat){d:Pu.D}(h:T0 d):ao (tab (n+1)) b8 [d]=.ok (.bl (gw d)):=by
 cases h<;>(rw[Gz];simp[o9,gw])
theorem Pb(n:Nat){d:Pu.D}(h:T0 d):ao (tab (n+1)) bw [d]=.ok (.bl (gw d)):=by
 cases h<;>(rw[G8];simp[pd,gw])
noncomputable def q9(lo hi:Int)(pB:Pu.D→Bool):Pu.D→Bool
 |.tup xs=>decide (lo≤(xs.length:Int)) && decide ((xs.length:Int)≤hi) && xs.all pB
 |_=>false
theorem Jp(n:Nat){d0:Pu.D}{lo hi:Int}{y:Str}{d:DefR}{pB:Pu.D→Bool}(hd:look Wt y=some d)(hms:d.ms=[true])(ht:T0 d0)(h:∀xs,d0=.tup xs→xs.length≤1000∧∀x∈xs,ao (tab n) d [x]=.ok (.bl (pB x))):
  ao (tab (n+1)) bc [d0,.int lo,.int hi,.fn y]=.ok (.bl (q9 lo hi pB d0)):=by
 rw[Cb];cases ht with
 |str h=>simp[df,q9]
 |int i=>simp[df,q9]
 |bl b=>simp[df,q9]
 |non=>simp[df,q9]
 |lst ds=>simp[df,q9]
 |tup xs=>
  obtain⟨hl,hx⟩:=h xs rfl;have hc:gp (ie (af 0)) [3] (gC (.bl true)) (Ak (tab (n+1)) 1 [((af 0),(iu 0))]) [.bo (.tup xs),.bo (.int lo),.bo (.int hi),.bo (.fn y)]=.ok (.lst (xs.map λx=>Pu.D.bl (pB x))):=
   Gr (f:=id) (by simp) (by omega) λx hx'=>by
    have ht:(tab (n+1)).fns y=some ⟨d.ms,ao (tab n) d⟩:=Vn n hd;unfold Ak;simp[ik,ht,hms,U7,hx x hx']
  have ha:=D9 pB xs
  by_cases h1:lo≤(xs.length:Int)
  ·by_cases h2:(xs.length:Int)≤hi
   ·simp -implicitDefEqProofs [df,q9,h1,h2,hc,ha]
   ·simp -implicitDefEqProofs [df,q9,h1,h2]
  ·simp -implicitDefEqProofs [df,q9,h1]
def TT(d:Pu.D):Prop:=T0 d∧∀ds,d=.tup ds→ds.length≤1000∧∀x∈ds,T0 x∧Qs x
def AT(d:Pu.D):Prop:=T0 d∧∀ds,d=.tup ds→∀x∈ds,TT x
noncomputable def i6:Pu.D→Bool
 |.tup [a,b]=>jd a && q9 1 4 gw b
 |_=>false
theorem Na(n:Nat){d:Pu.D}(h:T0 d):ao (tab (n+1)) cf [d]=.ok (.bl (match d with|.tup ds=>decide ((ds.length:Int)=2)|_=>false)):=by
 rw[Oj];cases h with
 |tup ds=>
  by_cases hl:(ds.length:Int)=2
  ·simp[gy,hl]
  ·simp[gy,hl]
 |str h=>simp[gy]
 |int i=>simp[gy]
 |bl b=>simp[gy]
 |non=>simp[gy]
 |lst ds=>simp[gy]
theorem T0.tup_or{d:Pu.D}(hd:T0 d):(∃ds,d=.tup ds)∨((∀ds,d≠.tup ds)∧cc "tuple" d=some (.bl false)):=by
 cases hd with
 |tup ds=>exact .inl ⟨ds,rfl⟩
 |str h=>exact .inr ⟨(λ_ z=>nomatch z),Z0 _⟩
 |int i=>exact .inr ⟨(λ_ z=>nomatch z),Zx _⟩
 |bl b=>exact .inr ⟨(λ_ z=>nomatch z),Zw _⟩
 |non=>exact .inr ⟨(λ_ z=>nomatch z),Zz⟩
 |lst ds=>exact .inr ⟨(λ_ z=>nomatch z),Zy _⟩
theorem Oo{d:Pu.D}(h:∀ds,d≠.tup ds):i6 d=false:=by
 cases d with
 |tup ds=>exact absurd rfl (h ds)
 |_=>rfl
theorem Tt(n:Nat){d:Pu.D}(h:T0 d)(hn:∀ds,d≠.tup ds):ao (tab (n+1)) cf [d]=.ok (.bl false):=by
 rw[Na n h];cases d with
 |tup ds=>exact absurd rfl (hn ds)
 |_=>rfl
theorem Ox(n:Nat){d:Pu.D}(h:AT d):ao (tab (n+4)) cj [d]=.ok (.bl (i6 d)):=by
 rw[Oi];have hp:=Na (n+2) h.1;rcases h.1.tup_or with ⟨ds,rfl⟩|⟨hn,_⟩
 ·skip
  by_cases hl:ds.length=2
  ·match ds,hl,h with
   |[a,b],_,h=>
    have ha:=h.2 _ rfl a (by simp);have hb:=h.2 _ rfl b (by simp);have e1:=Oy (n+2) ha.1;have e2:=Jp (n+2) (lo:=1) (hi:=4) (y:="is_number") (d:=b8) (pB:=gw) (by kernel_rfl) rfl hb.1 (λxs hx=>⟨(hb.2 xs hx).1,λx hx'=>Sq (n+1) ((hb.2 xs hx).2 x hx').1⟩);have e0:ao (tab (n+3)) cf [.tup [a,b]]=.ok (.bl true):=hp;cases hw:jd a
    ·rw[hw]at e1;simp -implicitDefEqProofs [j5,e0,e1,i6,hw]
    ·rw[hw]at e1;simp -implicitDefEqProofs [j5,e0,e1,e2,i6,hw]
  ·have hl':¬(ds.length:Int)=2:=by omega
   have e0:ao (tab (n+3)) cf [.tup ds]=.ok (.bl false):=by rw[hp];simp[hl']
   have hB:i6 (.tup ds)=false:=by
    match ds,hl with
    |[],_=>rfl
    |[_],_=>rfl
    |[_,_],hl=>exact absurd rfl hl
    |_::_::_::_,_=>rfl
   simp -implicitDefEqProofs [j5,e0,hB]
 ·have e0:=Tt (n+2) h.1 hn;simp -implicitDefEqProofs [j5,e0,Oo hn]
theorem Em{α:Type}(b:α→Bool)(l:List α):(l.filter b).isEmpty=l.all λx=> !b x:=by
 induction l with
 |nil=>rfl
 |cons a l ih=>
  rw[List.filter_cons,kAm];cases hb:b a
  ·simpa using ih
  ·simp
noncomputable def x9(f:Fc):List Int:=uz f.1 f.2
theorem yf:∀(k l:List Int),fy (k.map .int) (l.map .int)=some (!decide (l<k))
 |[],[]=>by simp[fy]
 |[],_::_=>by simp[fy]
 |_::_,[]=>by simp[fy]
 |i::k,j::l=>by
  rw[kA4,kA4,fy,yf k l,Wy];show some (if(i==j)=true then !decide (l<k)else decide (i≤j))=_
  congr 1
  by_cases h:i=j
  ·subst h;simp[kBa]
  ·have h1:(i==j)=false:=by simpa using h
   have h2:¬j=i:=λz=>h z.symm;rw[h1];simp only[kBa,h2,false_and,or_false,kA9,if_false]
   by_cases z:i≤j
   ·have:¬j<i:=by omega
    simp[z,this]
   ·have:j<i:=by omega
    simp[z,this]
theorem Zs(c d:List Int):fy [.tuple (c.map .int)] [.tuple (d.map .int)]=some (!decide (d<c)):=by
 have e1:S5 (.tuple (c.map .int)) (.tuple (d.map .int))=some (!decide (d<c)):=by rw[S5];exact yf c d
 have e2:PyData.eqv (.tuple (c.map .int)) (.tuple (d.map .int))=decide (c=d):=by rw[PyData.eqv];exact pz c d
 rw[fy,e1,e2];show some (if decide (c=d)=true then true else !decide (d<c))=_
 by_cases z:c=d
 ·subst z;simp[List.lt_irrefl]
 ·simp[z]
theorem Rw(f g:Fc):fy [.str f.1,.tuple (f.2.map .int)] [.str g.1,.tuple (g.2.map .int)]=some (!decide (x9 g<x9 f)):=by
 obtain⟨x,c⟩:=f;obtain⟨y,d⟩:=g;dsimp only;have ex:S5 (.str x) (.str y)=some (!decide (y.cps.toList<x.cps.toList)):=by rw[S5]
 rw[fy,Zs,ex];have e3:PyData.eqv (.str x) (.str y)=decide (x=y):=by rw[PyData.eqv];by_cases e:x=y<;>simp[e]
 rw[e3];show some (if decide (x=y)=true then !decide (d<c)else !decide (y.cps.toList<x.cps.toList))=_
 congr 1
 have q:decide (x9 (y,d)<x9 (x,c))=decide (y.cps.toList<x.cps.toList∨(y.cps.toList=x.cps.toList∧d<c)):=decide_eq_decide.mpr (u0 y.cps.toList x.cps.toList d c);rw[q]
 by_cases z:x=y
 ·subst z;simp[List.lt_irrefl]
 ·have z':y.cps.toList≠x.cps.toList:=λe=>z (F4 e.symm);simp[z,z']
theorem wa(f:Fc):dj (fD f)=some (.tuple [.str f.1,.tuple (f.2.map PyData.int)]):=by
 unfold fD;rw[dj,e8,e8,e8,dj,dj,uo]
theorem jn{f:Fc}(ok:PyData.strOk f.1=true):SeqAt.shaped (.tuple [.str f.1,.tuple (f.2.map PyData.int)])=true:=by
 obtain⟨h1,h2,_⟩:=vw (b:=2) (k:=x9 f) (xs:=[.str f.1,.tuple (f.2.map PyData.int)]) ⟨f.1,f.2,rfl,ok,rfl⟩;unfold SeqAt.shaped;rw[kA1];refine⟨?_,decide_eq_true ?_⟩
 ·rw[PyData.canLay0];exact h1
 ·rw[PyData.depth];omega
theorem Pa{f g:Fc}(hf:PyData.strOk f.1=true)(hg:PyData.strOk g.1=true):qz (fD f) (fD g)=some (.bl (decide (x9 f<x9 g))):=by
 unfold qz;rw[show zar (fD f) (fD g)=none from rfl];show(ltD (fD f) (fD g)).map Pu.D.bl=_;unfold ltD;rw[wa,wa];dsimp only;rw[jn hf,jn hg];have:=U9 (b:=2) (k:=x9 f) (l:=x9 g) (xs:=[.str f.1,.tuple (f.2.map PyData.int)]) (ys:=[.str g.1,.tuple (g.2.map PyData.int)]) ⟨f.1,f.2,rfl,hf,rfl⟩ ⟨g.1,g.2,rfl,hg,rfl⟩;rw[Bool.and_self,if_pos rfl,S7,this];rfl
theorem O8{f g:Fc}(hf:PyData.strOk f.1=true)(hg:PyData.strOk g.1=true):qu (fD f) (fD g)=some (.bl (!decide (x9 g<x9 f))):=by
 unfold qu;rw[show zg1 (fD f) (fD g)=none from rfl];show(leD (fD f) (fD g)).map Pu.D.bl=_;unfold leD;rw[wa,wa];dsimp only;rw[jn hf,jn hg,Bool.and_self,if_pos rfl,S5,Rw];rfl
noncomputable def f0:Fc:=("",[])
noncomputable def riseF:List Fc→Bool
 |[]=>true
 |[_]=>true
 |f::g::r=>decide (x9 f<x9 g) && riseF (g::r)
theorem Bi:∀F:List Fc,((kA5 (F.length - 1)).all λj=>decide (x9 (F.getD j f0)<x9 (F.getD (j+1) f0)))=riseF F
 |[]=>rfl
 |[_]=>rfl
 |f::g::r=>by
  have ih:=Bi (g::r);have e:(f::g::r).length - 1=(g::r).length - 1+1:=by simp
  rw[e,List.range_succ_eq_map,kAm,List.all_map];show(decide (x9 f<x9 g) && _)=_;unfold riseF;rw[←ih];rfl
theorem Hn{F:List Fc}{k:Nat}(h:k<F.length):bz (.lst (F.map fD)) (.int (k:Int))=some (fD (F.getD k f0)):=by
 show L2.atI (F.map fD) (k:Int)=_;refine L2.y0 ?_;rw[kAs,kB2 h];simp[h]
theorem P6(n:Nat){F:List Fc}(hw:∀f∈F,PyData.strOk f.1=true)(hl:F.length≤1000):ao (tab (n+1)) br [.lst (F.map fD)]=.ok (.bl (riseF F)):=by
 rw[Ek];have hc:gp (iq (ae (g2 s9 (g1 cy (af 0)) (gC (.int 1))) bx)) [0] (gC (.bl true)) (g2 qz (g2 bz (af 1) (af 0)) (g2 bz (af 1) (g2 cu (af 0) (gC (.int 1))))) [.bo (.lst (F.map fD))]=.ok (.lst ((kA5 (F.length - 1)).map λj=>Pu.D.bl (decide (x9 (F.getD j f0)<x9 (F.getD (j+1) f0))))):=by
  refine Ab (m:=F.length - 1) ?_ (by omega) λj hj=>?_
  ·have:((F.length:Int) - 1).toNat=F.length - 1:=by omega
   rw[←this];exact wc _ _ (j':=(F.length:Int) - 1) (by simp) (by omega)
  ·have e1:=Hn (F:=F) (k:=j) (by omega);have e2:=Hn (F:=F) (k:=j+1) (by omega);have e3:(0+(j:Int))+1=((j+1:Nat):Int):=by push_cast;omega
   have e4:(0+(j:Int))=((j:Nat):Int):=by omega
   have ok:∀k,k<F.length→PyData.strOk (F.getD k f0).1=true:=λk hk=>by
    have:F.getD k f0=F[k]:=by simp[hk]
    rw[this];exact hw _ (List.getElem_mem hk)
   have lt:=Pa (ok j (by omega)) (ok (j+1) (by omega));show(g2 qz (g2 bz (af 1) (af 0)) (g2 bz (af 1) (g2 cu (af 0) (gC (.int 1))))) [.pu (.int (0+(j:Int))),.bo (.lst (F.map fD))]=_;simp only[zh4,zh2,Pu.v_c,List.getElem?_cons_zero,List.getElem?_cons_succ,Dz,D1,zh1,e3];rw[e4,e1,e2];simp only[D1,Dz,lt]
 have ha:=D9 (λj=>decide (x9 (F.getD j f0)<x9 (F.getD (j+1) f0))) (kA5 (F.length - 1));rw[Bi]at ha;simp -implicitDefEqProofs [nu,hc,ha,-kB6]
theorem w8:∀{kvs:List (Pu.D×Pu.D)}{j:L2.fo},Oq kvs j=(de kvs j).isSome
 |[],_=>rfl
 |(k,d)::r,j=>by
  unfold de
  by_cases h:d7 k=some j
  ·rw[if_pos h];simp[Oq,h]
  ·rw[if_neg h,←w8];simp[Oq,h]
theorem rl:∀{kvs:List (Pu.D×Pu.D)}{j j':L2.fo}{v:Pu.D},de kvs j=none→de (kvs++[(kD j,v)]) j'=if j'=j then some v else de kvs j'
 |[],j,j',v,_=>by
  show(if d7 (kD j)=some j' then some v else none)=_;rw[p9]
  by_cases h:j'=j
  ·subst h;rw[if_pos rfl,if_pos rfl]
  ·rw[if_neg (λz=>h (kAg.inj z).symm),if_neg h];rfl
 |(k,d)::r,j,j',v,hn=>by
  unfold de at hn
  by_cases hk:d7 k=some j
  ·rw[if_pos hk]at hn;cases hn
  ·rw[if_neg hk]at hn;show(if d7 k=some j' then some d else de (r++[(kD j,v)]) j')=_;rw[rl hn]
   by_cases h:j'=j
   ·subst h;rw[if_neg hk,if_pos rfl,if_pos rfl]
   ·rw[if_neg h,if_neg h];rfl
theorem Yw{kvs:List (Pu.D×Pu.D)}{j:L2.fo}{v:Pu.D}(h:de kvs j=none):xk kvs j v=kvs++[(kD j,v)]:=by
 unfold xk;rw[w8,h];rfl
noncomputable def yt:En→Out:=(yx (ya mr (jz 1 (g2 bz (af 2) (gC (.int 0))) (g1 cy (g2 bz (af 2) (gC (.int 1))))) (g1 cy (g2 bz (af 2) (gC (.int 1))))) (fm (gC (.bl false))) jm)
noncomputable def Ba(kvs:List (Pu.D×Pu.D)):List Fc→Bool
 |[]=>true
 |a::r=>match de kvs (.inr a.1)with
  |some (.int k)=>if k=(a.2.length:Int)then Ba kvs r else false
  |some _=>false
  |none=>Ba (kvs++[(kD (.inr a.1),.int (a.2.length:Nat))]) r
def IntV(kvs:List (Pu.D×Pu.D)):Prop:=∀(x:Str) d,de kvs (.inr x)=some d→∃k:Int,d=.int k
theorem IntV.snoc{kvs:List (Pu.D×Pu.D)}{x:Str}{k:Int}(h:IntV kvs)(e:de kvs (.inr x)=none):IntV (kvs++[(kD (.inr x),.int k)]):=λy d hd=>by
 rw[rl e]at hd;split at hd
 ·cases hd;exact⟨_,rfl⟩
 ·exact h y d hd
theorem Tj(v0:Sl):∀(as:List Fc)(kvs:List (Pu.D×Pu.D))(v2:Sl),IntV kvs→kvs.length+as.length≤1000→
  (Ba kvs as=true∧∃kvs' w2,turns (g8 2) yt (as.map fD) [v0,.od false kvs,v2]=.nx [v0,.od false kvs',w2])∨(Ba kvs as=false∧turns (g8 2) yt (as.map fD) [v0,.od false kvs,v2]=.rt (.bl false)):=by
 intro as;induction as with
 |nil=>intro kvs v2 _ _;exact .inl ⟨rfl,kvs,v2,rfl⟩
 |cons a as ih=>
  intro kvs v2 hv hl;rw[kA7]at hl;rw[kA4,uq (δ1:=[v0,.od false kvs,.pu (fD a)]) rfl];have hlt:kvs.length<sizeLine:=by show _<16777216;omega
  unfold Ba;cases e:de kvs (.inr a.1)with
  |some d=>
   obtain⟨k,rfl⟩:=hv a.1 d e;have es:jz 1 (g2 bz (af 2) (gC (.int 0))) (g1 cy (g2 bz (af 2) (gC (.int 1)))) [v0,.od false kvs,.pu (fD a)]=.ok (.int k) [v0,.od false kvs,.pu (fD a)]:=by
    unfold jz;simp[fD,d7,hlt,e]
   dsimp only
   by_cases hk:k=(a.2.length:Int)
   ·rw[if_pos hk];have eb:yt [v0,.od false kvs,.pu (fD a)]=.nx [v0,.od false kvs,.pu (fD a)]:=by
     unfold yt yx ya;rw[es];simp[fD,Res.ef,hk]
    rw[eb];exact ih kvs (.pu (fD a)) hv (by omega)
   ·rw[if_neg hk];have hk':(k==(a.2.length:Int))=false:=beq_eq_false_iff_ne.mpr hk;have eb:yt [v0,.od false kvs,.pu (fD a)]=.rt (.bl false):=by
     unfold yt yx ya;rw[es];simp[fD,Res.ef,hk']
    rw[eb];exact .inr ⟨rfl,rfl⟩
  |none=>
   have es:jz 1 (g2 bz (af 2) (gC (.int 0))) (g1 cy (g2 bz (af 2) (gC (.int 1)))) [v0,.od false kvs,.pu (fD a)]=.ok (.int (a.2.length:Nat)) [v0,.od false (kvs++[(kD (.inr a.1),.int (a.2.length:Nat))]),.pu (fD a)]:=by
    unfold jz;simp[fD,d7,hlt,e,Yw e]
   have eb:yt [v0,.od false kvs,.pu (fD a)]=.nx [v0,.od false (kvs++[(kD (.inr a.1),.int (a.2.length:Nat))]),.pu (fD a)]:=by
    unfold yt yx ya;rw[es];simp[fD,Res.ef]
   rw[eb];exact ih _ (.pu (fD a)) (hv.snoc e) (by rw[kAi];simp;omega)
theorem Pm(n:Nat){as:List Fc}(hl:as.length≤900):ao (tab (n+1)) ag [.lst (as.map fD)]=.ok (.bl (Ba [] as)):=by
 rw[r8];have hs0:xm (g8 2) (ie (gBo 0)) yt [.bo (.lst (as.map fD)),.od false [],.no]=turns (g8 2) yt (as.map fD) [.bo (.lst (as.map fD)),.od false [],.no]:=Ft (by simp);rcases Tj (.bo (.lst (as.map fD))) as [] .no (by intro x d e;cases e) (by simp;omega)with ⟨h1,kvs,w2,e⟩|⟨h1,e⟩
 ·rw[e]at hs0;unfold yt at hs0;simp -implicitDefEqProofs [fh,hs0,h1]
 ·rw[e]at hs0;unfold yt at hs0;simp -implicitDefEqProofs [fh,hs0,h1]
theorem j7(k d:Pu.D)(r:List (Pu.D×Pu.D))(j:L2.fo):de ((k,d)::r) j=if d7 k=some j then some d else de r j:=rfl
theorem Hz(j j':L2.fo)(v:Pu.D):∀kvs:List (Pu.D×Pu.D),de (kvs.map λp=>if d7 p.1=some j then(p.1,v)else p) j'=if j'=j then(de kvs j).map (λ_=>v)else de kvs j'
 |[]=>by split<;>rfl
 |(k,d)::r=>by
  have ih:=Hz j j' v r;rw[kA4]
  by_cases hk:d7 k=some j
  ·rw[if_pos hk,j7,ih,j7,j7,if_pos hk]
   by_cases hj:j'=j
   ·subst hj;rw[if_pos hk,if_pos rfl];rfl
   ·rw[if_neg hj,if_neg hj,hk];have:¬(some j=some j'):=λz=>hj (kAg.inj z).symm;rw[if_neg this,if_neg this]
  ·rw[if_neg hk,j7,ih,j7,j7,if_neg hk]
   by_cases hj:j'=j
   ·subst hj;rw[if_neg hk,if_pos rfl,if_pos rfl]
   ·rw[if_neg hj,if_neg hj]
theorem Az(kvs:List (Pu.D×Pu.D))(j j':L2.fo)(v:Pu.D):de (xk kvs j v) j'=if j'=j then some v else de kvs j':=by
 unfold xk;rw[w8];cases e:de kvs j with
 |none=>
  rw[if_neg (by decide)];exact rl e
 |some d=>
  rw[if_pos (show(some d).isSome=true from rfl),Hz,e];rfl
noncomputable def o4(kvs:List (Pu.D×Pu.D))(a:Fc):Bool:=match de kvs (.inr a.1)with
 |none=>true
 |some (.int k)=>k==(a.2.length:Int)
 |some _=>false
noncomputable def uk(kvs:List (Pu.D×Pu.D))(a:Fc):List (Pu.D×Pu.D):=xk kvs (.inr a.1) (.int (a.2.length:Nat))
noncomputable def L3(p:Option Fc)(a:Fc):Bool:=match p with
 |none=>true
 |some q=>decide (x9 q<x9 a)
noncomputable def Au(p:Option Fc)(kvs:List (Pu.D×Pu.D)):List Fc→Bool
 |[]=>true
 |a::r=>L3 p a && o4 kvs a && Au (some a) (uk kvs a) r
theorem IntV.put{kvs:List (Pu.D×Pu.D)}(h:IntV kvs)(a:Fc):IntV (uk kvs a):=λy d hd=>by
 unfold uk at hd;rw[Az]at hd;split at hd
 ·cases hd;exact⟨_,rfl⟩
 ·exact h y d hd
noncomputable def tf(p:Option Fc):List Fc→Bool
 |[]=>true
 |a::r=>L3 p a && tf (some a) r
theorem Uy:∀F:List Fc,tf none F=riseF F
 |[]=>rfl
 |a::r=>by
  show(true && tf (some a) r)=_;rw[Bool.true_and];have key:∀(r:List Fc)(a:Fc),tf (some a) r=riseF (a::r):=by
   intro r;induction r with
   |nil=>intro a;rfl
   |cons b r ih=>intro a;show(decide (x9 a<x9 b) && tf (some b) r)=_;rw[ih b];rfl
  exact key r a
theorem Ez:∀(F:List Fc)(p:Option Fc)(kvs kvs':List (Pu.D×Pu.D)),IntV kvs→(∀x:Str,de kvs (.inr x)=de kvs' (.inr x))→Au p kvs F=(tf p F && Ba kvs' F)
 |[],_,_,_,_,_=>rfl
 |a::r,p,kvs,kvs',hv,hs=>by
  unfold Au tf Ba o4;rw[←hs a.1];cases e:de kvs (.inr a.1)with
  |none=>
   dsimp only;rw[Ez r (some a) (uk kvs a) (kvs'++[(kD (.inr a.1),.int (a.2.length:Nat))]) (hv.put a) (λx=>by
    unfold uk;rw[Az,rl (by rw[←hs];exact e)];split
    ·rfl
    ·exact hs x)]
   cases L3 p a<;>cases tf (some a) r<;>rfl
  |some d=>
   obtain⟨k,rfl⟩:=hv a.1 d e;dsimp only
   by_cases hk:k=(a.2.length:Int)
   ·rw[if_pos hk,Ez r (some a) (uk kvs a) kvs' (hv.put a) (λx=>by
     unfold uk;rw[Az];split
     ·rename_i hx;rw[hx,←hs,e,hk]
     ·exact hs x)]
    have:(k==(a.2.length:Int))=true:=by simpa using hk
    rw[this];cases L3 p a<;>cases tf (some a) r<;>rfl
   ·rw[if_neg hk];have:(k==(a.2.length:Int))=false:=beq_eq_false_iff_ne.mpr hk;rw[this];cases L3 p a<;>cases tf (some a) r<;>rfl
theorem Ht(F:List Fc):Au none [] F=(riseF F && Ba [] F):=by
 rw[Ez F none [] [] (by intro x d e;cases e) (λ_=>rfl),Uy]
def gf(f:Fc):Prop:=okw f.1=true∧1≤f.2.length∧f.2.length≤4
theorem B2:∀{ds:List Pu.D},ds.all gw=true→∃ns:List Int,ds=ns.map Pu.D.int
 |[],_=>⟨[],rfl⟩
 |d::r,h=>by
  rw[kAm,kA1]at h;obtain⟨ns,rfl⟩:=B2 h.2;cases d with
  |int z=>exact⟨z::ns,rfl⟩
  |_=>cases h.1
theorem Kj(ns:List Int):(ns.map Pu.D.int).all gw=true:=by
 rw[List.all_eq_true];intro d hd;obtain⟨z,_,rfl⟩:=kAr.mp hd;rfl
theorem Aj{d:Pu.D}(hb:i6 d=true):∃f:Fc,d=fD f∧gf f:=by
 unfold i6 at hb;split at hb
 ·rename_i a b;rw[kA1]at hb;obtain⟨h1,h2⟩:=hb;cases a with
  |str x=>
   cases b with
   |tup xs=>
    have h2':(decide ((1:Int)≤(xs.length:Int)) && decide ((xs.length:Int)≤4) && xs.all gw)=true:=h2;simp only[kA1,decide_eq_true_eq]at h2';obtain⟨ns,rfl⟩:=B2 h2'.2;rw[kA3]at h2';exact⟨(x,ns),rfl,h1,by show 1≤ns.length;omega,by show ns.length≤4;omega⟩
   |_=>cases h2
  |_=>cases h1
 ·cases hb
theorem zfx{f:Fc}(h:gf f):i6 (fD f)=true:=by
 obtain⟨h1,h2,h3⟩:=h;show(okw f.1 && (decide ((1:Int)≤((f.2.map Pu.D.int).length:Int)) && decide (((f.2.map Pu.D.int).length:Int)≤4) && (f.2.map Pu.D.int).all gw))=true;rw[kA3,h1,decide_eq_true (by omega),decide_eq_true (by omega),Kj];rfl
theorem zbv{f g:Fc}(h:fD f=fD g):f=g:=Rv (by
 have h1:=xa f;rw[h,xa]at h1;exact(kAg.inj h1).symm)
theorem Fg{x:Str}(h:okw x=true):Ga x:=.inl (of_decide_eq_true h)
theorem Dy{x:Str}(h:Ga x):PyData.strOk x=true:=by
 unfold Ga Sg bad at h;simp only[kA6,kB3,or_false]at h;rcases h with (rfl|rfl|rfl|rfl|rfl)|(rfl|rfl|rfl|rfl|rfl)<;>decide+kernel
theorem n5{f:Fc}(h:gf f):PyData.strOk f.1=true:=Dy (Fg h.1)
noncomputable def tA(n:Nat):En→Res:=(B3 (jr (o5 (g1 (cc "tuple") (af 3)))) (B3 (g2 mr (g1 cy (af 3)) (gC (.int 2))) (B3 (jr (o5 (dq (ao (tab n) b9) (ae (g2 bz (af 3) (gC (.int 0))) bx)))) (jr (o5 (g1 (cc "tuple") (g2 bz (af 3) (gC (.int 1)))))))))
noncomputable def tB(n:Nat):En→Res:=(B3 (g2 qz (g1 cy (g2 bz (af 3) (gC (.int 1)))) (gC (.int 1))) (B3 (g2 Fo (g1 cy (g2 bz (af 3) (gC (.int 1)))) (gC (.int 4))) (g2 mr (gp (ie (g2 bz (af 3) (gC (.int 1)))) [] (jr (o5 (dq (ao (tab n) bw) (ae (af 0) bx)))) (iu 0)) (iy bx))))
noncomputable def tC:En→Res:=(B3 (u7 (g2 Fo (af 2) (gC (.int 0))) (g2 qu (af 3) (g2 bz (af 0) (g2 s9 (af 2) (gC (.int 1)))))) (g2 mr (u9 (af 1) (g2 bz (af 3) (gC (.int 0))) (g1 cy (g2 bz (af 3) (gC (.int 1))))) (g1 cy (g2 bz (af 3) (gC (.int 1))))))
noncomputable def sP:En→Out:=(zd8 1 (g2 bz (af 3) (gC (.int 0))) (g1 cy (g2 bz (af 3) (gC (.int 1)))))
noncomputable def Xk(n:Nat):En→Out:=(d5 (ni 3 (g2 bz (af 0) (af 2)))
 (d5 (xn (tA n) (fm (gC (.bl false))) jm)
 (d5 (xn (tB n) (fm (gC (.bl false))) jm)
 (d5 (xn tC (fm (gC (.bl false))) jm)
 sP))))
noncomputable def kg:Pu.D→Bool
 |.tup [a,.tup _]=>jd a
 |_=>false
theorem zjw(n:Nat){d:Pu.D}(h:AT d)(v0 v1 v2:Sl):tA (n+1) [v0,v1,v2,.pu d]=.ok (.bl (!kg d)):=by
 unfold tA;rcases h.1.tup_or with ⟨ds,rfl⟩|⟨hn,hi⟩
 ·by_cases hl:ds.length=2
  ·match ds,hl,h with
   |[a,b],_,h=>
    have ha:=h.2 _ rfl a (by simp);have hb:=h.2 _ rfl b (by simp);have e1:=S6 n ha.1;rcases hb.1.tup_or with ⟨xs,rfl⟩|⟨bn,bi⟩
    ·cases hw:jd a
     ·rw[hw]at e1;simp -implicitDefEqProofs [e1,kg,hw]
     ·rw[hw]at e1;simp -implicitDefEqProofs [e1,kg,hw]
    ·have hh:kg (.tup [a,b])=false:=by
      cases b with
      |tup xs=>exact absurd rfl (bn xs)
      |_=>rfl
     cases hw:jd a
     ·rw[hw]at e1;simp -implicitDefEqProofs [e1,hh]
     ·rw[hw]at e1;simp -implicitDefEqProofs [e1,hh,bi]
  ·have hl':((ds.length:Int)==2)=false:=beq_eq_false_iff_ne.mpr (by omega);have hB:kg (.tup ds)=false:=by
    match ds,hl with
    |[],_=>rfl
    |[_],_=>rfl
    |[_,_],hl=>exact absurd rfl hl
    |_::b::_::_,_=>cases b<;>rfl
   simp -implicitDefEqProofs [hl',hB]
 ·have hB:kg d=false:=by
   cases d with
   |tup ds=>exact absurd rfl (hn ds)
   |_=>rfl
  simp -implicitDefEqProofs [hi,hB]
theorem zjx(n:Nat){a:Pu.D}{xs:List Pu.D}(h:AT (.tup [a,.tup xs]))(v0 v1 v2:Sl):tB (n+1) [v0,v1,v2,.pu (.tup [a,.tup xs])]=.ok (.bl (!q9 1 4 gw (.tup xs))):=by
 unfold tB;have hb:=h.2 _ rfl (.tup xs) (by simp);obtain⟨hxl,hx⟩:=hb.2 xs rfl
 by_cases h1:(xs.length:Int)<1
 ·have h1':¬(1:Int)≤(xs.length:Int):=by omega
  simp -implicitDefEqProofs [q9,h1,h1']
 ·by_cases h2:(4:Int)<(xs.length:Int)
  ·have h2':¬(xs.length:Int)≤4:=by omega
   simp -implicitDefEqProofs [q9,h1,h2,h2']
  ·have h1':(1:Int)≤(xs.length:Int):=by omega
   have h2':(xs.length:Int)≤4:=by omega
   have hc:gp (ie (g2 bz (af 3) (gC (.int 1)))) [] (jr (o5 (dq (ao (tab (n+1)) bw) (ae (af 0) bx)))) (iu 0) [v0,v1,v2,.pu (.tup [a,.tup xs])]=.ok (.lst ((xs.filter λx=> !gw x).map id)):=
    Gq (f:=id) (by simp) (by omega) λx hx'=>by
     have w1:=Pb n (hx x hx').1;simp -implicitDefEqProofs [ik,w1]
   have hs:zbc ((xs.filter λx=> !gw x).map id):=zek λd hd=>by
    rw[List.map_id]at hd;exact(hx d (List.mem_filter.mp hd).1).2
   have he:=(Mo hs).2;rw[List.map_id]at he;have hf:=Em (λx=> !gw x) xs;simp only[Bool.not_not]at hf;rw[hf]at he;simp only[List.map_id]at hc;simp -implicitDefEqProofs [q9,h1,h2,h1',h2',hc,he]
theorem y7{f:Fc}(h:gf f):AT (fD f):=by
 refine⟨.tup _,λds e x hx=>?_⟩;unfold fD at e;cases e;simp only[kA6,kB3,or_false]at hx;rcases hx with rfl|rfl
 ·exact⟨.str (Fg h.1),λds e=>by cases e⟩
 ·refine⟨.tup _,λds e=>?_⟩;cases e;have:=h.2.2;refine⟨by rw[kA3];omega,λx hx=>?_⟩;obtain⟨z,_,rfl⟩:=kAr.mp hx;exact⟨.int z,zg z⟩
theorem zj0{ts:List Pu.D}{f:Fc}(h:gf f){kvs:List (Pu.D×Pu.D)}(hv:IntV kvs){p:Option Fc}{k:Nat}(hp:(k=0∧p=none)∨∃j q,k=j+1∧p=some q∧PyData.strOk q.1=true∧bz (.lst ts) (.int (j:Int))=some (fD q)):
  tC [.bo (.lst ts),.od false kvs,.pu (.int (0+(k:Int))),.pu (fD f)]=.ok (.bl (!(L3 p f && o4 kvs f))):=by
 have ll:g1 cy (g2 bz (af 3) (gC (.int 1))) [.bo (.lst ts),.od false kvs,.pu (.int (0+(k:Int))),.pu (fD f)]=.ok (.int (f.2.length:Nat)):=by simp[fD]
 have gg:g2 mr (u9 (af 1) (g2 bz (af 3) (gC (.int 0))) (g1 cy (g2 bz (af 3) (gC (.int 1))))) (g1 cy (g2 bz (af 3) (gC (.int 1)))) [.bo (.lst ts),.od false kvs,.pu (.int (0+(k:Int))),.pu (fD f)]=.ok (.bl (!o4 kvs f)):=by
  have bg:∀z:Int,u9 (af 1) (g2 bz (af 3) (gC (.int 0))) (g1 cy (g2 bz (af 3) (gC (.int 1)))) [.bo (.lst ts),.od false kvs,.pu (.int (0+(k:Int))),.pu (fD f)]=.ok (.int z)→g2 mr (u9 (af 1) (g2 bz (af 3) (gC (.int 0))) (g1 cy (g2 bz (af 3) (gC (.int 1))))) (g1 cy (g2 bz (af 3) (gC (.int 1)))) [.bo (.lst ts),.od false kvs,.pu (.int (0+(k:Int))),.pu (fD f)]=.ok (.bl (!(z==(f.2.length:Int)))):=λz hz=>by
   rw[zh4,hz,ll];rfl
  unfold o4;cases e:de kvs (.inr f.1)with
  |none=>
   dsimp only;rw[bg (f.2.length:Nat) (by unfold u9;simp[fD,d7,e])];simp
  |some d=>
   obtain⟨z,rfl⟩:=hv f.1 d e;exact bg z (by unfold u9;simp[fD,d7,e])
 have aa:u7 (g2 Fo (af 2) (gC (.int 0))) (g2 qu (af 3) (g2 bz (af 0) (g2 s9 (af 2) (gC (.int 1))))) [.bo (.lst ts),.od false kvs,.pu (.int (0+(k:Int))),.pu (fD f)]=.ok (.bl (!L3 p f)):=by
  rcases hp with ⟨rfl,rfl⟩|⟨j,q,rfl,rfl,hq,hi⟩
  ·rfl
  ·have e1:(0:Int)<0+((j+1:Nat):Int):=by push_cast;omega
   have e2:(0+((j+1:Nat):Int)) - 1=(j:Int):=by push_cast;omega
   have le:=O8 (n5 h) hq;generalize (0+((j+1:Nat):Int))=z at e1 e2⊢;simp -implicitDefEqProofs [e1,e2,hi,le,L3]
 unfold tC;rw[zh7,aa,gg];cases L3 p f<;>cases o4 kvs f<;>rfl
theorem Os{d:Pu.D}(h:kg d=true):∃a xs,d=.tup [a,.tup xs]∧i6 d=q9 1 4 gw (.tup xs):=by
 unfold kg at h;split at h
 ·rename_i a xs;refine⟨a,xs,rfl,?_⟩;show(jd a && q9 1 4 gw (.tup xs))=_;rw[h,Bool.true_and]
 ·cases h
theorem Sh{d:Pu.D}(h:kg d=false):i6 d=false:=by
 cases hb:i6 d with
 |false=>rfl
 |true=>
  obtain⟨f,rfl,g,_⟩:=Aj hb;rw[show kg (fD f)=okw f.1 from rfl,g]at h;cases h
theorem zcg(n:Nat){ts:List Pu.D}{d:Pu.D}(hd:AT d){k:Nat}(hi:bz (.lst ts) (.int (0+(k:Int)))=some d){kvs:List (Pu.D×Pu.D)}(hv:IntV kvs)(hlt:kvs.length<16777216){p:Option Fc}(v3:Sl)
  (hp:(k=0∧p=none)∨∃j q,k=j+1∧p=some q∧PyData.strOk q.1=true∧bz (.lst ts) (.int (j:Int))=some (fD q)):
  (i6 d=false∧Xk (n+1) [.bo (.lst ts),.od false kvs,.pu (.int (0+(k:Int))),v3]=.rt (.bl false))∨
  ∃f,gf f∧d=fD f∧Xk (n+1) [.bo (.lst ts),.od false kvs,.pu (.int (0+(k:Int))),v3]=if(L3 p f && o4 kvs f)=true then .nx [.bo (.lst ts),.od false (uk kvs f),.pu (.int (0+(k:Int))),.pu d]else .rt (.bl false):=by
 have s3:ni 3 (g2 bz (af 0) (af 2)) [.bo (.lst ts),.od false kvs,.pu (.int (0+(k:Int))),v3]=.nx [.bo (.lst ts),.od false kvs,.pu (.int (0+(k:Int))),.pu d]:=by
  generalize (0+(k:Int))=z at hi⊢;simp -implicitDefEqProofs [hi]
 unfold Xk;rw[tj,s3];dsimp only;rw[tj,Jq,zjw n hd];cases hh:kg d with
 |false=>exact .inl ⟨Sh hh,rfl⟩
 |true=>
  obtain⟨a,xs,rfl,hf⟩:=Os hh;simp only[j8,kAv,Jr];rw[tj,Jq,zjx n hd];cases hb:q9 1 4 gw (.tup xs)with
  |false=>rw[hb]at hf;exact .inl ⟨hf,rfl⟩
  |true=>
   rw[hb]at hf;obtain⟨f,e,g⟩:=Aj hf;refine .inr ⟨f,g,e,?_⟩;rw[e];simp only[j8,kAv,Jr];rw[tj,Jq,zj0 g hv hp];cases hc:(L3 p f && o4 kvs f)with
   |false=>rfl
   |true=>
    have hsl:kvs.length<sizeLine:=hlt;simp only[j8,kAv,Jr,if_true];unfold sP uk;simp -implicitDefEqProofs [fD,zd8,zkc,Du,d7,hsl]
theorem Uo(kvs:List (Pu.D×Pu.D))(f:Fc):(uk kvs f).length≤kvs.length+1:=by
 unfold uk xk;split
 ·rw[kA3];omega
 ·rw[kAi];simp
noncomputable def ixs(k m:Nat):List Pu.D:=(List.range' k m).map λ(i:Nat)=>Pu.D.int (0+(i:Int))
theorem Sx(k m:Nat):ixs k (m+1)=.int (0+(k:Int))::ixs (k+1) m:=by unfold ixs;rw[List.range'_succ,kA4]
theorem Ob(n:Nat){ts:List Pu.D}:∀(ds pre:List Pu.D)(p:Option Fc)(kvs:List (Pu.D×Pu.D))(v2 v3:Sl),ts=pre++ds→(∀d∈ds,AT d)→
  ((pre.length=0∧p=none)∨∃j q,pre.length=j+1∧p=some q∧PyData.strOk q.1=true∧bz (.lst ts) (.int (j:Int))=some (fD q))→IntV kvs→kvs.length+ds.length≤3000→
  (∃F:List Fc,ds=F.map fD∧(∀f∈F,gf f)∧Au p kvs F=true∧∃kvs' w2 w3,turns (g8 2) (Xk (n+1)) (ixs pre.length ds.length) [.bo (.lst ts),.od false kvs,v2,v3]=.nx [.bo (.lst ts),.od false kvs',w2,w3])∨
  ((∀F:List Fc,ds=F.map fD→(∀f∈F,gf f)→Au p kvs F=false)∧turns (g8 2) (Xk (n+1)) (ixs pre.length ds.length) [.bo (.lst ts),.od false kvs,v2,v3]=.rt (.bl false)):=by
 intro ds;induction ds with
 |nil=>intro pre p kvs v2 v3 _ _ _ _ _;exact .inl ⟨[],rfl,(λf h=>by cases h),rfl,kvs,v2,v3,rfl⟩
 |cons d ds ih=>
  intro pre p kvs v2 v3 e hat hp hv hl;rw[kA7]at hl;have hi:bz (.lst ts) (.int (0+(pre.length:Int)))=some d:=by
   rw[Int.zero_add];show L2.atI ts (pre.length:Int)=_;refine L2.y0 ?_;rw[e];simp
  rw[kA7,Sx,uq (δ1:=[.bo (.lst ts),.od false kvs,.pu (.int (0+(pre.length:Int))),v3]) rfl];rcases zcg n (hat d kAk) hi hv (by omega) v3 hp with ⟨h1,h2⟩|⟨f,g,rfl,h2⟩
  ·rw[h2];refine .inr ⟨λF eF gF=>?_,rfl⟩;cases F with
   |nil=>cases eF
   |cons f F=>
    rw[kA4]at eF;injection eF with e1 e2
    rw[e1,zfx (gF f kAk)]at h1;cases h1
  ·rw[h2];have uniq:∀(F:List Fc),fD f::ds=F.map fD→∃F',F=f::F'∧ds=F'.map fD:=λF eF=>by
    cases F with
    |nil=>cases eF
    |cons g' F=>
     rw[kA4]at eF;injection eF with e1 e2
     rw[zbv e1];exact⟨F,rfl,e2⟩
   cases hc:(L3 p f && o4 kvs f)with
   |false=>
    refine .inr ⟨λF eF gF=>?_,rfl⟩;obtain⟨F',rfl,_⟩:=uniq F eF;show(L3 p f && o4 kvs f && Au (some f) (uk kvs f) F')=false;rw[hc];rfl
   |true=>
    rw[if_pos rfl];have pl:=Uo kvs f;have hi':bz (.lst ts) (.int (pre.length:Int))=some (fD f):=by rw[Int.zero_add]at hi;exact hi
    have len1:(pre++[fD f]).length=pre.length+1:=by simp
    have:=ih (pre++[fD f]) (some f) (uk kvs f) (.pu (.int (0+(pre.length:Int)))) (.pu (fD f)) (by rw[e];simp) (λd hd=>hat d (kAl _ hd)) (.inr ⟨pre.length,f,len1,rfl,n5 g,hi'⟩) (hv.put f) (by omega);rw[len1]at this;rcases this with ⟨F,rfl,gF,hw,kvs',w2,w3,h3⟩|⟨h3,h4⟩
    ·refine .inl ⟨f::F,rfl,λf' hf'=>?_,?_,kvs',w2,w3,h3⟩
     ·rcases kA6.mp hf' with rfl|hf'
      ·exact g
      ·exact gF f' hf'
     ·show(L3 p f && o4 kvs f && Au (some f) (uk kvs f) F)=true;rw[hc,hw];rfl
    ·refine .inr ⟨λF eF gF=>?_,h4⟩;obtain⟨F',rfl,e'⟩:=uniq F eF;show(L3 p f && o4 kvs f && Au (some f) (uk kvs f) F')=false;rw[hc,h3 F' e' λf' hf'=>gF f' (kAl _ hf')];rfl
theorem Kl(n:Nat){ts:List Pu.D}(hat:∀d∈ts,AT d)(hl:ts.length≤1000):
  (∃F:List Fc,ts=F.map fD∧(∀f∈F,gf f)∧Au none [] F=true∧ao (tab (n+2)) aq [.lst ts]=.ok (.bl true))∨((∀F:List Fc,ts=F.map fD→(∀f∈F,gf f)→Au none [] F=false)∧ao (tab (n+2)) aq [.lst ts]=.ok (.bl false)):=by
 rw[sj];have hr:xm (g8 2) (iq (ae (g1 cy (af 0)) bx)) (Xk (n+1)) [.bo (.lst ts),.od false [],.no,.no]=turns (g8 2) (Xk (n+1)) (ixs 0 ts.length) [.bo (.lst ts),.od false [],.no,.no]:=by
  rw[Ft (wc _ _ (j':=(ts.length:Int)) (by simp) (by omega))]
  congr 1
  unfold ixs gr;rw[Int.toNat_natCast,List.range_eq_range']
 rcases Ob n (ts:=ts) ts [] none [] .no .no rfl hat (.inl ⟨rfl,rfl⟩) (by intro x d e;cases e) (by simp;omega)with ⟨F,h1,h2,h3,kvs',w2,w3,h4⟩|⟨h1,h2⟩
 ·refine .inl ⟨F,h1,h2,h3,?_⟩;rw[List.length_nil]at h4;rw[h4]at hr;unfold Xk tA tB tC sP at hr;simp -implicitDefEqProofs [ic,hr]
 ·refine .inr ⟨h1,?_⟩;rw[List.length_nil]at h2;rw[h2]at hr;unfold Xk tA tB tC sP at hr;simp -implicitDefEqProofs [ic,hr]
theorem Hf:∀{ts:List Pu.D},ts.all i6=true→∃F:List Fc,ts=F.map fD∧∀f∈F,gf f
 |[],_=>⟨[],rfl,λf h=>by cases h⟩
 |d::r,h=>by
  rw[kAm,kA1]at h;obtain⟨f,rfl,g⟩:=Aj h.1;obtain⟨F,rfl,gF⟩:=Hf h.2;refine⟨f::F,rfl,λu hu=>?_⟩;rcases kA6.mp hu with rfl|hu
  ·exact g
  ·exact gF u hu
theorem Oa{F:List Fc}(h:∀f∈F,gf f):(F.map fD).all i6=true:=by
 rw[List.all_eq_true];intro d hd;obtain⟨f,hf,rfl⟩:=kAr.mp hd;exact zfx (h f hf)
theorem Gf(n:Nat){ts:List Pu.D}(hat:∀d∈ts,AT d)(hl:ts.length≤1000):∃bs,gp (ie (af 0)) [] (gC (.bl true)) (dq (ao (tab (n+4)) cj) (ae (af 0) bx)) [.bo (.lst ts)]=.ok (.lst bs)∧sv (.lst bs)=some (.bl (ts.all i6)):=by
 have hc:gp (ie (af 0)) [] (gC (.bl true)) (dq (ao (tab (n+4)) cj) (ae (af 0) bx)) [.bo (.lst ts)]=.ok (.lst (ts.map λd=>Pu.D.bl (i6 d))):=
  Gr (f:=id) (by simp) (by omega) λd hd=>by
   have e:=Ox n (hat d hd);simp -implicitDefEqProofs [ik,e]
 exact⟨_,hc,D9 i6 ts⟩
theorem sf(n:Nat){F:List Fc}(g:∀f∈F,gf f)(hl:F.length≤900):ao (tab (n+5)) ai [.lst (F.map fD)]=if(riseF F && Ba [] F)=true then .ok (.lst (F.map fD))else .er "NoBook":=by
 rw[kf];obtain⟨bs,e0,ea⟩:=Gf n (ts:=F.map fD) (λd hd=>by
  obtain⟨f,hf,rfl⟩:=kAr.mp hd;exact y7 (g f hf)) (by rw[kA3];omega)
 rw[Oa g]at ea;have e1:=P6 (n+3) (F:=F) (λf hf=>n5 (g f hf)) (by omega);have e2:=Pm (n+3) (as:=F) hl;generalize F.map fD=ts at *;cases h1:riseF F with
 |false=>rw[h1]at e1;simp -implicitDefEqProofs [e9,jt,e0,ea,e1]
 |true=>
  rw[h1]at e1;cases h2:Ba [] F with
  |false=>rw[h2]at e2;simp -implicitDefEqProofs [e9,jt,e0,ea,e1,e2]
  |true=>rw[h2]at e2;simp -implicitDefEqProofs [e9,jt,e0,ea,e1,e2,fi]
theorem Gn(n:Nat){ts:List Pu.D}(hat:∀d∈ts,AT d)(hl:ts.length≤1000)(hb:ts.all i6=false):ao (tab (n+5)) ai [.lst ts]=.er "NoBook":=by
 rw[kf];obtain⟨bs,e0,ea⟩:=Gf n hat hl;rw[hb]at ea;simp -implicitDefEqProofs [e9,jt,e0,ea]
noncomputable def Qp(n m:Nat)(t:Pu.D):Prop:=
 (ao (tab (n+2)) aq [t]=.ok (.bl true)∧ao (tab (m+5)) ai [t]=.ok t∧∃F:List Fc,t=.lst (F.map fD)∧F.length≤900∧∀f∈F,gf f)∨
 (ao (tab (n+2)) aq [t]=.ok (.bl false)∧ao (tab (m+5)) ai [t]=.er "NoBook")
theorem Wb(n m:Nat){ts:List Pu.D}(hat:∀d∈ts,AT d)(hl:ts.length≤900):Qp n m (.lst ts):=by
 rcases Kl n hat (by omega)with ⟨F,rfl,g,hw,h⟩|⟨hw,h⟩
 ·have hl':F.length≤900:=by rw[kA3]at hl;exact hl
  refine .inl ⟨h,?_,F,rfl,hl',g⟩;rw[sf m g hl',←Ht,hw,if_pos rfl]
 ·refine .inr ⟨h,?_⟩;cases hb:ts.all i6 with
  |false=>exact Gn m hat (by omega) hb
  |true=>
   obtain⟨F,rfl,g⟩:=Hf hb;rw[sf m g (by rw[kA3]at hl;exact hl),←Ht,hw F rfl g,if_neg (by decide)]
theorem Wc(n m:Nat){t:Pu.D}(hi:cc "list" t=some (.bl false)):Qp n m t:=by
 refine .inr ⟨?_,?_⟩
 ·rw[sj];simp -implicitDefEqProofs [ic,hi]
 ·rw[kf];simp -implicitDefEqProofs [e9,jt,hi]
noncomputable def Wg(r:Int):Str:=if r=0 then "r" else if r=1 then "s" else "t"
noncomputable def Wh(r:Int):Nat:=if r=0 then 2 else if r=1 then 3 else 1
noncomputable def dF(ns:List Int)(a k:Int):Fc:=(Wg (ue ns (a+1+4 * k) 3),(kA5 (Wh (ue ns (a+1+4 * k) 3))).map λ(j:Nat)=>ue ns (a+2+4 * k+(j:Int)) 4 - 1)
noncomputable def Wp(n:Nat):En→Res:=(gp (iq (ae (af 6) bx)) [1,4,0] (gC (.bl true)) (g2 s9 (dq (ao (tab n) ba) (ae (af 3) (ae (g2 cu (g2 cu (g2 cu (af 1) (gC (.int 2))) (g2 g7 (gC (.int 4)) (af 2))) (af 0)) (ae (gC (.int 4)) bx)))) (gC (.int 1))))
noncomputable def bkD(n:Nat):En→Out:=(d5 (ni 5 (g2 bz (iy (ae (gC (.str "r")) (ae (gC (.str "s")) (ae (gC (.str "t")) bx)))) (dq (ao (tab n) ba) (ae (af 0) (ae (g2 cu (g2 cu (af 1) (gC (.int 1))) (g2 g7 (gC (.int 4)) (af 4))) (ae (gC (.int 3)) bx))))))
 (d5 (fz [5] (ni 6 (g2 cu (gM j0 (iy (ae (gC (.str "t")) (ae (gC (.str "r")) (ae (gC (.str "s")) bx)))) (af 5)) (gC (.int 1)))))
 (fz [5] (Lh 3 (ir (ae (iu 5) (ae (g1 j4 (Wp n)) bx)))))))
theorem Ws(ns:List Int)(a k:Int):gf (dF ns a k):=by
 obtain⟨h0,h1⟩:=og ns (a+1+4 * k) 3 (by decide);unfold dF gf;dsimp only;rw[kA3,kB9];have:ue ns (a+1+4 * k) 3=0∨ue ns (a+1+4 * k) 3=1∨ue ns (a+1+4 * k) 3=2:=by omega
 rcases this with e|e|e<;>rw[e]<;>decide+kernel
theorem zbo(n:Nat)(ns:List Int)(a k:Int)(ha:0≤a)(hk:0≤k){F:List Fc}(hF:F.length≤1000)(v2 v5 v6:Sl):
  ∃w5 w6,bkD (n+2) [.bo (Nu ns),.bo (.int a),v2,.ow (F.map fD),.pu (.int k),v5,v6]=.nx [.bo (Nu ns),.bo (.int a),v2,.ow ((F++[dF ns a k]).map fD),.pu (.int k),w5,w6]:=by
 have e0:=qi n ns (a+1+4 * k) 3 (by omega) (by decide);obtain⟨h0,h1⟩:=og ns (a+1+4 * k) 3 (by decide);unfold dF;generalize ue ns (a+1+4 * k) 3=r at e0 h0 h1⊢;have em:=λz=>D0 4 z (.inl (by decide));have key:∀(m:Nat)(nm:Pu.D),m≤3→Wp (n+2) [.bo (Nu ns),.bo (.int a),v2,.ow (F.map fD),.pu (.int k),.pu nm,.pu (.int (m:Nat))]=.ok (.lst (((kA5 m).map λ(j:Nat)=>ue ns (a+2+4 * k+(j:Int)) 4 - 1).map Pu.D.int)):=λm nm hm=>by
  unfold Wp;rw[List.map_map];refine Ab (wc _ _ (j':=(m:Int)) (by simp) (by omega)) (by omega) λj hj=>?_;have e:=qi n ns (a+2+4 * k+(j:Int)) 4 (by omega) (by decide);simp[ik,em,e]
 have hlt:F.length<16777216:=by omega
 have:r=0∨r=1∨r=2:=by omega
 have x1:j0 (.lst [.str "t",.str "r",.str "s"]) (.str "r")=some (.int 1):=by kernel_rfl
 have x2:j0 (.lst [.str "t",.str "r",.str "s"]) (.str "s")=some (.int 2):=by kernel_rfl
 have x3:j0 (.lst [.str "t",.str "r",.str "s"]) (.str "t")=some (.int 0):=by kernel_rfl
 have y1:bz (.lst [.str "r",.str "s",.str "t"]) (.int 0)=some (.str "r"):=rfl;have y2:bz (.lst [.str "r",.str "s",.str "t"]) (.int 1)=some (.str "s"):=rfl;have y3:bz (.lst [.str "r",.str "s",.str "t"]) (.int 2)=some (.str "t"):=rfl;rcases this with rfl|rfl|rfl
 ·refine⟨.pu (.str "r"),.pu (.int 2),?_⟩;have k2:=key 2 (.str "r") (by decide);simp only[Int.cast_ofNat_Int]at k2;simp -implicitDefEqProofs [bkD,em,e0,x1,y1,k2,hlt,Wg,Wh,fD,-List.map_map]
 ·refine⟨.pu (.str "s"),.pu (.int 3),?_⟩;have k2:=key 3 (.str "s") (by decide);simp only[Int.cast_ofNat_Int]at k2;simp -implicitDefEqProofs [bkD,em,e0,x2,y2,k2,hlt,Wg,Wh,fD,-List.map_map]
 ·refine⟨.pu (.str "t"),.pu (.int 1),?_⟩;have k2:=key 1 (.str "t") (by decide);simp only[Int.cast_ofNat_Int]at k2;simp -implicitDefEqProofs [bkD,em,e0,x3,y3,k2,hlt,Wg,Wh,fD,-List.map_map]
theorem Md(n:Nat)(ns:List Int)(a:Int)(ha:0≤a)(v2:Sl):∀(l:List Int)(F:List Fc)(v4 v5 v6:Sl),(∀k∈l,0≤k)→F.length+l.length≤1000→
  ∃w4 w5 w6,turns (g8 4) (bkD (n+2)) (l.map Pu.D.int) [.bo (Nu ns),.bo (.int a),v2,.ow (F.map fD),v4,v5,v6]=.nx [.bo (Nu ns),.bo (.int a),v2,.ow ((F++l.map (dF ns a)).map fD),w4,w5,w6]
 |[],F,v4,v5,v6,_,_=>⟨v4,v5,v6,by simp[turns]⟩
 |k::l,F,v4,v5,v6,h,hl=>by
  rw[kA7]at hl;obtain⟨w5,w6,e⟩:=zbo n ns a k ha (h k kAk) (F:=F) (by omega) v2 v5 v6;obtain⟨u4,u5,u6,e2⟩:=Md n ns a ha v2 l (F++[dF ns a k]) (.pu (.int k)) w5 w6 (λj hj=>h j (kAl _ hj)) (by rw[kAi];simp;omega);refine⟨u4,u5,u6,?_⟩;rw[kA4,uq (δ1:=[.bo (Nu ns),.bo (.int a),v2,.ow (F.map fD),.pu (.int k),v5,v6]) rfl,e];dsimp only;rw[e2];simp
noncomputable def oq(m:Nat):List Int:=(kA5 m).map λ(i:Nat)=>0+(i:Int)
theorem Uv(m:Nat):gr 0 m=(oq m).map Pu.D.int:=by unfold gr oq;rw[List.map_map];rfl
theorem Wk(n:Nat)(ns:List Int):∃G:List Fc,(∀f∈G,gf f)∧G.length≤9∧ao (tab (n+3)) cg [Nu ns,.int 0,.int 9]=.ok (.lst (G.map fD)):=by
 rw[Kc];have e0:=qi n ns 0 10 (by decide) (by decide);obtain⟨r0,r1⟩:=og ns 0 10 (by decide);generalize ue ns 0 10=r at e0 r0 r1;obtain⟨w4,w5,w6,e1⟩:=Md n ns 0 (by decide) (.bo (.int 9)) (oq r.toNat) [] .no .no .no (λk hk=>by
  unfold oq at hk;obtain⟨j,_,rfl⟩:=kAr.mp hk;omega) (by simp[oq];omega)
 have gd:∀f∈(oq r.toNat).map (dF ns 0),gf f:=λf hf=>by
  obtain⟨k,_,rfl⟩:=kAr.mp hf;exact Ws ns 0 k
 have ln:((oq r.toNat).map (dF ns 0)).length≤9:=by simp[oq];omega
 rw[List.nil_append]at e1;generalize (oq r.toNat).map (dF ns 0)=F at e1 gd ln;obtain⟨G,q1,q2,q3⟩:=Cv (F:=F) (λf hf=>n5 (gd f hf)) (by omega);refine⟨G,λf hf=>gd f (q2 f hf),by omega,?_⟩;have hr:xm (g8 4) (iq (ae (dq (ao (tab (n+2)) ba) (ae (af 0) (ae (af 1) (ae (g2 cu (af 2) (gC (.int 1))) bx)))) bx)) (bkD (n+2)) [.bo (Nu ns),.bo (.int 0),.bo (.int 9),.ow [],.no,.no,.no]=.nx [.bo (Nu ns),.bo (.int 0),.bo (.int 9),.ow (F.map fD),w4,w5,w6]:=by
  rw[Ft (wc _ _ (j':=r) (by simp[e0]) (by omega)),Uv];exact e1
 unfold bkD Wp at hr;simp -implicitDefEqProofs [tu,hr,q1]
theorem vd{xs:List Pu.D}{k:Int}(h0:0≤k)(h1:k<xs.length):∃d,d∈xs∧bz (.lst xs) (.int k)=some d:=by
 have hl:k.toNat<xs.length:=by omega
 refine⟨xs[k.toNat],List.getElem_mem hl,?_⟩;show L2.atI xs k=_;have hk:((k.toNat:Nat):Int)=k:=by omega
 have e:=L2.y0 (kB2 hl);rwa [hk]at e
theorem zel(b:Bool):Qs (.bl b):=⟨.bool b,rfl,rfl,kAt _⟩
theorem B0{l:List Pu.D}(hl:l.length≤1000)(h:∀y∈l,T0 y∧Qs y):TT (.tup l):=⟨.tup _,λds e=>by cases e;exact⟨hl,h⟩⟩
theorem Jz{l:List Pu.D}(h:∀x∈l,TT x):AT (.tup l):=⟨.tup _,λds e x hx=>by cases e;exact h x hx⟩
theorem vm{xs:List Pu.D}{lo hi:Option Int}{x:Pu.D}(h:x∈lq xs lo hi):x∈xs:=List.mem_of_mem_drop (List.mem_of_mem_take h)
theorem uv(xs:List Pu.D)(lo hi:Option Int):(lq xs lo hi).length≤xs.length:=by
 unfold lq;rw[List.length_take,List.length_drop];omega
theorem L9{xs ys:List Pu.D}(h:xs.length+ys.length≤3000):cu (.tup xs) (.tup ys)=some (.tup (xs++ys)):=if_pos (show _≤16777216 by omega)
theorem Xn(d:Pu.D)(k:Nat)(h:2≤k)(h2:k≤100):g7 (.tup [d]) (.int (k:Int))=some (.tup (kA2 k [d]).flatten):=by
 have e:((k:Int)).toNat=k:=Int.toNat_natCast k;show(if[d]≠[]∧1≤(k:Int)∧(k:Int)<2 ^ 20∧[d].length * (k:Int).toNat≤16777216 then some (Pu.D.tup (kA2 (k:Int).toNat [d]).flatten)else none)=_;rw[if_pos ⟨by simp,by omega,by omega,by rw[e];simp;omega⟩,e]
theorem zk4{x:Str}(h:x∈bad):T0 (.str x)∧Qs (.str x):=⟨.str (.inr h),Zh (Dy (.inr h))⟩
theorem zci:g7 (.str "r") (.int 9)=some (.str "rrrrrrrrr"):=by kernel_rfl
theorem zch:g7 (.str "r") (.int 8)=some (.str "rrrrrrrr"):=by kernel_rfl
noncomputable def L15(nm:Str)(ts tl:List Pu.D):List Pu.D:=[.lst [.str nm,.tup ts],.tup [.str nm],.tup [.str nm,.tup ts,.int 0],.tup [.str nm,.lst ts],.tup [.str nm,.tup []],.tup [.str nm,.tup [.int 1,.int 1,.int 1,.int 1,.int 1]],.tup [.str "R",.tup ts],
 .tup [.str "r1",.tup ts],.tup [.str "rrrrrrrrr",.tup ts],.tup [.str "",.tup ts],.tup [.int 3,.tup ts],.tup [.str nm,.tup (ts++[.int 1])],.tup [.str nm,.tup (.bl true::tl)],.tup [.str nm,.tup (.str "1"::tl)],.tup [.str "rrrrrrrr",.tup ts]]
theorem za9{nm:Str}{ts tl:List Pu.D}(hn:okw nm=true)(ht:∀y∈ts,T0 y∧Qs y)(hl:ts.length≤900)(htl:∀y∈tl,y∈ts)(hll:tl.length≤ts.length):∀d∈L15 nm ts tl,AT d:=by
 have tn:TT (.str nm):=⟨.str (Fg hn),(λ_ e=>nomatch e)⟩;have tT:TT (.tup ts):=B0 (by omega) ht;have tl1:∀d,T0 d∧Qs d→TT (.tup (d::tl)):=λd hd=>B0 (by rw[kA7];omega) λy hy=>by
  rcases kA6.mp hy with rfl|hy
  ·exact hd
  ·exact ht y (htl y hy)
 have two:∀{x y:Pu.D},TT x→TT y→AT (.tup [x,y]):=λhx hy=>Jz λz hz=>by
  simp only[kA6,kB3,or_false]at hz;rcases hz with rfl|rfl
  ·exact hx
  ·exact hy
 intro d hd;unfold L15 at hd;simp only[kA6,kB3,or_false]at hd;rcases hd with rfl|rfl|rfl|rfl|rfl|rfl|rfl|rfl|rfl|rfl|rfl|rfl|rfl|rfl|rfl
 ·exact⟨.lst _,(λ_ e=>nomatch e)⟩
 ·exact Jz λz hz=>by rw[kB5.mp hz];exact tn
 ·refine Jz λz hz=>?_;simp only[kA6,kB3,or_false]at hz;rcases hz with rfl|rfl|rfl
  ·exact tn
  ·exact tT
  ·exact⟨.int 0,(λ_ e=>nomatch e)⟩
 ·exact two tn ⟨.lst _,(λ_ e=>nomatch e)⟩
 ·exact two tn (B0 (by simp) (by intro y hy;cases hy))
 ·exact two tn (B0 (by simp) λy hy=>by
  simp only[kA6,kB3,or_false,or_self]at hy;subst hy;exact⟨.int 1,zg 1⟩)
 ·exact two ⟨.str (.inr (by decide+kernel)),(λ_ e=>nomatch e)⟩ tT
 ·exact two ⟨.str (.inr (by decide+kernel)),(λ_ e=>nomatch e)⟩ tT
 ·exact two ⟨.str (.inr (by decide+kernel)),(λ_ e=>nomatch e)⟩ tT
 ·exact two ⟨.str (.inr (by decide+kernel)),(λ_ e=>nomatch e)⟩ tT
 ·exact two ⟨.int 3,(λ_ e=>nomatch e)⟩ tT
 ·refine two tn (B0 (by rw[kAi];simp;omega) λy hy=>?_);rcases kB4.mp hy with hy|hy
  ·exact ht y hy
  ·rw[kB5.mp hy];exact⟨.int 1,zg 1⟩
 ·exact two tn (tl1 _ ⟨.bl true,zel true⟩)
 ·exact two tn (tl1 _ (zk4 (by decide+kernel)))
 ·exact two ⟨.str (.inl (by decide+kernel)),(λ_ e=>nomatch e)⟩ tT
theorem Bu(n:Nat){f:Fc}(hf:gf f)(c:Int):∃d,AT d∧ao (tab (n+1)) aj [fD f,.int c]=.ok d:=by
 rw[uy];have hts:∀y∈f.2.map Pu.D.int,T0 y∧Qs y:=λy hy=>by
  obtain⟨z,_,rfl⟩:=kAr.mp hy;exact⟨.int z,zg z⟩
 have hll:(f.2.map Pu.D.int).length≤4:=by rw[kA3];exact hf.2.2
 have sl:oj (.tup (f.2.map Pu.D.int)) (some 1) none=some (.tup (lq (f.2.map Pu.D.int) (some 1) none)):=rfl;have ctl:=uv (f.2.map Pu.D.int) (some 1) none;have cmem:∀y∈lq (f.2.map Pu.D.int) (some 1) none,y∈f.2.map Pu.D.int:=λy hy=>vm hy;unfold fD;generalize f.2.map Pu.D.int=ts at *;generalize lq ts (some 1) none=tl at *;have ax:cu (.tup ts) (.tup [.int 1])=some (.tup (ts++[.int 1])):=L9 (by simp;omega);have ad:∀d,cu (.tup [d]) (.tup tl)=some (.tup (d::tl)):=λd=>L9 (xs:=[d]) (by simp;omega);have m5:g7 (.tup [.int 1]) (.int 5)=some (.tup [.int 1,.int 1,.int 1,.int 1,.int 1]):=Xn (.int 1) 5 (by decide) (by decide);have hm:=wb c 15 (by decide);obtain⟨d,hd,hi⟩:=vd (xs:=L15 f.1 ts tl) (k:=c % 15) (Int.emod_nonneg _ (by decide)) (Int.emod_lt_of_pos _ (by decide));refine⟨d,za9 hf.1 hts (by omega) cmem ctl d hd,?_⟩;unfold L15 at hi;simp -implicitDefEqProofs [i4,fi,V8,gPt,sl,ax,ad,m5,zci,zch,hm,hi]
end LK
end
section
namespace Pu
open PySem PySem.Spec PyProof.Rows
def D6(n:Nat)(d:D):Prop:=∃p,dj d=some p∧PyData.canLay0 p=true∧p.depth≤n
theorem Vd{n:Nat}:∀{ds:List D},(∀d∈ds,D6 n d)→∃ps,e8 ds=some ps∧PyData.canLayAll0 ps=true∧PyData.depthAll ps≤n
 |[],_=>⟨[],rfl,rfl,kAt _⟩
 |d::r,h=>by
  obtain⟨p,e1,e2,e3⟩:=h d kAk;obtain⟨ps,f1,f2,f3⟩:=Vd (ds:=r) λd hd=>h d (kAl _ hd);refine⟨p::ps,by unfold e8;rw[e1,f1],?_,Nat.max_le.mpr ⟨e3,f3⟩⟩;show(PyData.canLay0 p && PyData.canLayAll0 ps)=true;rw[e2,f2];rfl
theorem Jg{n:Nat}{ds:List D}(h:∀d∈ds,D6 n d):D6 (n+1) (.tup ds):=by
 obtain⟨ps,e1,e2,e3⟩:=Vd h;exact⟨.tuple ps,by unfold dj;rw[e1],e2,show PyData.depthAll ps+1≤n+1 by omega⟩
theorem Vf{n:Nat}{ds:List D}(h:∀d∈ds,D6 n d):D6 (n+1) (.lst ds):=by
 obtain⟨ps,e1,e2,e3⟩:=Vd h;exact⟨.list ps,by unfold dj;rw[e1],e2,show PyData.depthAll ps+1≤n+1 by omega⟩
theorem Qb{n m:Nat}{d:D}(h:D6 n d)(l:n≤m):D6 m d:=by
 obtain⟨p,e1,e2,e3⟩:=h;exact⟨p,e1,e2,by omega⟩
theorem Ve(i:Int):D6 0 (.int i):=⟨.int i,rfl,rfl,kA0 _⟩
theorem Wx{n:Nat}{d:D}(h:D6 n d)(hn:n≤63):js d d=some (.bl true)∧mr d d=some (.bl false):=by
 obtain⟨p,e1,e2,e3⟩:=h;have e:Qn d d=some true:=by rw[Rq e1 e1 e2 (by omega) e2 (by omega),PySem.SeqAt.eqv_refl p e2]
 unfold js mr;rw[e];exact⟨rfl,rfl⟩
end Pu
end
section
namespace LK
open PySem PySem.Spec PyProof.Rows Pu
def TH(t:Pu.D):Prop:=(∃ts,t=.lst ts∧(∀d∈ts,AT d)∧ts.length≤900)∨cc "list" t=some (.bl false)
theorem TH.agree(n m:Nat){t:Pu.D}(h:TH t):Qp n m t:=by
 rcases h with ⟨ts,rfl,h1,h2⟩|h
 ·exact Wb n m h1 h2
 ·exact Wc n m h
theorem yy{xs ys:List Pu.D}(h:xs.length+ys.length≤3000):cu (.lst xs) (.lst ys)=some (.lst (xs++ys)):=if_pos (show _≤16777216 by omega)
theorem AT.smp{f:Fc}(h:gf f):Qs (fD f):=⟨_,wa f,SeqAt.canLay_of_shaped (jn (n5 h)),by
 obtain⟨_,h2,_⟩:=vw (b:=2) (k:=x9 f) (xs:=[.str f.1,.tuple (f.2.map PyData.int)]) ⟨f.1,f.2,rfl,n5 h,rfl⟩;rw[PyData.depth];omega⟩
theorem Qd(n:Nat){G:List Fc}(hg:∀f∈G,gf f)(hl:G.length≤9)(c:Int)(hc:0≤c):
  ∃t,TH t∧ao (tab (n+2)) bu [.lst (G.map fD),.int c]=.ok t:=by
 rw[El];have aT:∀x∈G.map fD,AT x:=λy hy=>by
  obtain⟨b,hb,rfl⟩:=kAr.mp hy;exact y7 (hg b hb)
 have aA:∀x∈G.map fD,∃b:Fc,gf b∧x=fD b:=λy hy=>by
  obtain⟨b,hb,rfl⟩:=kAr.mp hy;exact⟨b,hg b hb,rfl⟩
 have hl':(G.map fD).length≤9:=by rw[kA3];exact hl
 have en:js (.lst (G.map fD)) (.lst [])=some (.bl (G.map fD).isEmpty):=(Mo (zek λd hd=>by
  obtain⟨b,hb,rfl⟩:=kAr.mp hd;exact AT.smp (hg b hb))).1
 generalize G.map fD=ts at *;have m5:=wb c 5 (by decide);have q5:=V1 c 5 (by decide);have hq:0≤c / 5:=Int.ediv_nonneg hc (by decide);have hw0:0≤c % 5:=Int.emod_nonneg _ (by decide);have hw1:c % 5<5:=Int.emod_lt_of_pos _ (by decide);generalize c % 5=w at *;generalize hqe:c / 5=q at *;have z0:cz [true,true] [.lst ts,.int c]++kA2 (4 - [Pu.D.lst ts,.int c].length) Sl.no=[.bo (.lst ts),.bo (.int c),.no,.no]:=rfl;rw[z0];have s2:ni 2 (g2 nh (af 1) (gC (.int 5))) [.bo (.lst ts),.bo (.int c),.no,.no]=.nx [.bo (.lst ts),.bo (.int c),.pu (.int w),.no]:=by
  simp -implicitDefEqProofs [m5]
 have cw:∀k:Int,g2 js (af 2) (gC (.int k)) [.bo (.lst ts),.bo (.int c),.pu (.int w),.no]=.ok (.bl (w==k)):=λ_=>rfl;unfold nv;rw[tj,s2];dsimp only;clear s2 z0
 by_cases w0:w=0
 ·subst w0;have m4:=wb q 4 (by decide);obtain⟨t,ht,hi⟩:=vd (xs:=[Pu.D.tup ts,.non,.dct false [],.str "r"]) (k:=q % 4) (Int.emod_nonneg _ (by decide)) (Int.emod_lt_of_pos _ (by decide));refine⟨t,.inr ?_,?_⟩
  ·simp only[kA6,kB3,or_false]at ht;rcases ht with rfl|rfl|rfl|rfl<;>rfl
  ·have tt:j4 (.lst ts)=some (.tup ts):=Qm ts;rw[tj,Jq,cw];simp -implicitDefEqProofs [q5,m4,tt,hi]
 have c0:(w==0)=false:=beq_eq_false_iff_ne.mpr w0;rw[tj,Jq,cw,c0];simp only[j8,Jr]
 by_cases w1:w=1
 ·subst w1;refine⟨.lst ts.reverse,.inl ⟨_,rfl,λd hd=>aT d (List.mem_reverse.mp hd),by rw[List.length_reverse];omega⟩,?_⟩;have rv:gRv (af 0) (g1 Dt (gC (.int 1))) [.bo (.lst ts),.bo (.int c),.pu (.int 1),.no]=.ok (.lst ts.reverse):=rfl;rw[tj,Jq,cw];simp only[j8,show((1:Int)==1)=true from rfl,zic,rv];rfl
 have c1:(w==1)=false:=beq_eq_false_iff_ne.mpr w1;rw[tj,Jq,cw,c1];simp only[j8,Jr];have tt:B3 (g2 js (af 2) (gC (.int 2))) (g2 js (af 0) (iy bx)) [.bo (.lst ts),.bo (.int c),.pu (.int w),.no]=.ok (.bl ((w==2)||ts.isEmpty)):=by
  rw[zh7,cw];cases (w==2)with
  |true=>rfl
  |false=>simp -implicitDefEqProofs [en]
 rw[tj,Jq,tt];cases h2:((w==2)||ts.isEmpty)with
 |true=>
  have m2:=wb q 2 (by decide);have k1:=uv ts (some (-1)) none;have k2:=uv [Pu.D.tup [.str "zz",.tup [.int 1]]] none (some (q % 2));have n1:∀x∈lq ts (some (-1)) none,x∈ts:=λx hx=>vm hx;have n2:∀x∈lq [Pu.D.tup [.str "zz",.tup [.int 1]]] none (some (q % 2)),x=.tup [.str "zz",.tup [.int 1]]:=λx hx=>kB5.mp (vm hx);have p1:oj (.lst ts) (some (-1)) none=some (.lst (lq ts (some (-1)) none)):=rfl;have p2:oj (.lst [Pu.D.tup [.str "zz",.tup [.int 1]]]) none (some (q % 2))=some (.lst (lq [Pu.D.tup [.str "zz",.tup [.int 1]]] none (some (q % 2)))):=rfl;generalize lq ts (some (-1)) none=u1 at *;generalize lq [Pu.D.tup [.str "zz",.tup [.int 1]]] none (some (q % 2))=u2 at *;rw[List.length_singleton]at k2;have a1:cu (.lst ts) (.lst u1)=some (.lst (ts++u1)):=yy (by omega);have a2:cu (.lst (ts++u1)) (.lst u2)=some (.lst (ts++u1++u2)):=yy (by rw[kAi];omega);have zz:AT (.tup [.str "zz",.tup [.int 1]]):=y7 (f:=("zz",[1])) (by unfold gf;decide+kernel);refine⟨.lst (ts++u1++u2),.inl ⟨_,rfl,λd hd=>?_,by rw[kAi,kAi];omega⟩,?_⟩
  ·rcases kB4.mp hd with hd|hd
   ·rcases kB4.mp hd with hd|hd
    ·exact aT d hd
    ·exact aT d (n1 d hd)
   ·rw[n2 d hd];exact zz
  ·simp -implicitDefEqProofs [q5,m2,V8,gPt,show Dt (.int 1)=some (.int (-1))from rfl,p1,p2,a1,a2,-List.append_assoc]
 |false=>
  have hne:ts.isEmpty=false:=by cases e:ts.isEmpty with
   |false=>rfl
   |true=>rw[e,Bool.or_true]at h2;cases h2
  have hp:0<(ts.length:Int):=by
   cases ts with
   |nil=>cases hne
   |cons _ _=>simp
  have ml:=wb q ts.length hp;have r0:0≤q % (ts.length:Int):=Int.emod_nonneg _ (by omega);have r1:q % (ts.length:Int)<ts.length:=Int.emod_lt_of_pos _ hp;generalize q % (ts.length:Int)=r at ml r0 r1;obtain⟨x,hx,hix⟩:=vd (xs:=ts) (k:=r) r0 r1;obtain⟨b,hb,rfl⟩:=aA x hx;have q60:=V1 c 60 (by decide);obtain⟨d,hd,ed⟩:=Bu n hb (c / 60);have p1:oj (.lst ts) none (some r)=some (.lst (lq ts none (some r))):=rfl;have p2:oj (.lst ts) (some (r+1)) none=some (.lst (lq ts (some (r+1)) none)):=rfl;have k1:=uv ts none (some r);have k2:=uv ts (some (r+1)) none;have n1:∀x∈lq ts none (some r),x∈ts:=λx hx=>vm hx;have n2:∀x∈lq ts (some (r+1)) none,x∈ts:=λx hx=>vm hx;generalize lq ts none (some r)=u1 at *;generalize lq ts (some (r+1)) none=u2 at *;have a1:cu (.lst u1) (.lst [d])=some (.lst (u1++[d])):=yy (by simp;omega);have a2:cu (.lst (u1++[d])) (.lst u2)=some (.lst (u1++[d]++u2)):=yy (by rw[kAi];simp;omega);refine⟨.lst (u1++[d]++u2),.inl ⟨_,rfl,λy hy=>?_,by rw[kAi,kAi];simp;omega⟩,?_⟩
  ·rcases kB4.mp hy with hy|hy
   ·rcases kB4.mp hy with hy|hy
    ·exact aT y (n1 y hy)
    ·rw[kB5.mp hy];exact hd
   ·exact aT y (n2 y hy)
  ·simp -implicitDefEqProofs [q5,ml,V8,gPt,p1,p2,ed,hix,q60,a1,a2,-List.append_assoc]
theorem Lf(n:Nat){t:Pu.D}(h:ao (tab (n+5)) ai [t]=.er "NoBook"):ao (tab (n+6)) bb [t]=.ok (.bl true):=by
 rw[Ce];have x1:(tab (n+5+1)).xs.sub "NoBook" "NoBook"=true:=by kernel_rfl
 have x2:(tab (n+5+1)).xs.sub "NoBook" "AskError"=true:=by kernel_rfl
 have x3:(tab (n+5+1)).xs.ve "NoBook"=true:=by kernel_rfl
 simp -implicitDefEqProofs [mm,Fu,Oz,Dg,h,x1,x2,x3]
theorem Mn{F:List Fc}(h:∀f∈F,gf f):js (.lst (F.map fD)) (.lst (F.map fD))=some (.bl true)∧mr (.lst (F.map fD)) (.lst (F.map fD))=some (.bl false):=by
 refine Wx (n:=4) (Vf λd hd=>?_) (by decide);obtain⟨f,hf,rfl⟩:=kAr.mp hd;obtain⟨p,p1,p2,_⟩:=AT.smp (h f hf);refine Qb (n:=2) (Jg λd hd=>?_) (by decide);simp only[kA6,kB3,or_false]at hd;rcases hd with rfl|rfl
 ·exact⟨.str f.1,rfl,n5 (h f hf),kAt _⟩
 ·refine Jg λd hd=>?_;obtain⟨z,_,rfl⟩:=kAr.mp hd;exact Ve z
theorem S4(ns:List Int)(hn:ns.length≤63):ao (tab 29) gz [.lst (ns.map Pu.D.int)]=.ok (.bl true):=by
 rw[zfw];obtain⟨G,hg,hl,ea⟩:=Wk 25 ns;have e60:=qi 26 ns 60 3 (by decide) (by decide);have e61:=qi 26 ns 61 1000000 (by decide) (by decide);have r61:=og ns 61 1000000 (by decide);have pw:Nq (.int 10) (.int 6)=some (.int 1000000):=by kernel_rfl
 generalize ue ns 60 3=w at e60;generalize ue ns 61 1000000=c at e61 r61;obtain⟨t,ht,et⟩:=Qd 26 hg hl c r61.1;have fin:∀t,TH t→(∃ts,t=.lst ts∧ts.length≤900∧ao (tab 28) aq [t]=.ok (.bl true)∧ao (tab 28) ai [t]=.ok t∧js t t=some (.bl true)∧mr t t=some (.bl false))∨ao (tab 28) aq [t]=.ok (.bl false)∧ao (tab 28) bb [t]=.ok (.bl true):=λt ht=>by
  rcases ht.agree 26 23 with ⟨a1,a2,F,rfl,h1,h2⟩|⟨a1,_⟩
  ·exact .inl ⟨_,rfl,by rw[kA3];exact h1,a1,a2,(Mn h2).1,(Mn h2).2⟩
  ·rcases ht.agree 26 22 with ⟨b1,_⟩|⟨_,b2⟩
   ·rw[a1]at b1;cases b1
   ·exact .inr ⟨a1,Lf 22 b2⟩
 have h0:TH (.lst (G.map fD)):=.inl ⟨_,rfl,λy hy=>by
  obtain⟨b,hb,rfl⟩:=kAr.mp hy;exact y7 (hg b hb),by rw[kA3];omega⟩
 by_cases hw:0<w
 ·rcases fin t ht with ⟨ts,rfl,l1,f1,f2,f3,f4⟩|⟨f1,f2⟩
  ·have hlt:ts.length<16777216:=by omega
   simp -implicitDefEqProofs [Cz,ea,e60,e61,pw,hw,et,f1,f2,f3,f4,fi,hlt]
  ·simp -implicitDefEqProofs [Cz,ea,e60,e61,pw,hw,et,f1,f2]
 ·rcases fin _ h0 with ⟨ts,e,l1,f1,f2,f3,f4⟩|⟨f1,f2⟩
  ·have hlt:ts.length<16777216:=by omega
   rw[e]at ea f1 f2 f3 f4;simp -implicitDefEqProofs [Cz,ea,e60,hw,f1,f2,f3,f4,fi,hlt]
  ·simp -implicitDefEqProofs [Cz,ea,e60,hw,f1,f2]
end LK
end
section
namespace LK
open PySem PySem.Spec PyProof.Rows L2 Pu
theorem zbf{l:PySem.W.OpenLaw}{w:World}{K:PySem.W.Frag}{h:Heap}{mg:Str→Option Value}{fa:Addr}{n:Nat}{s:FS}(X:K.In h)(G:h.Ns mainGlobals mg)(hfa:mg "law"=some (.ref fa))(hl:(tab n).fns "law"=some s)(hm:s.ms=[false])(law:∀ns:List Int,ns.length≤63→s.f [.lst (ns.map D.int)]=.ok (.bl true))
  {f0:Addr} {oc0 kV0 dc0 pm0 cd0 ct0:Value} {od0 an0:Option Addr} {sl0:Array (Option Value)}
  {f1:Addr} {oc1 kV1 dc1 pm1 cd1 ct1:Value} {od1 an1:Option Addr} {sl1:Array (Option Value)}
  {f2:Addr} {oc2 kV2 dc2 pm2 cd2 ct2:Value} {od2 an2:Option Addr} {sl2:Array (Option Value)}
  {f3:Addr} {oc3 kV3 dc3 pm3 cd3 ct3:Value} {od3 an3:Option Addr} {sl3:Array (Option Value)}
  {f4:Addr} {oc4 kV4 dc4 pm4 cd4 ct4:Value} {od4 an4:Option Addr} {sl4:Array (Option Value)}
  {f5:Addr} {oc5 kV5 dc5 pm5 cd5 ct5:Value} {od5 an5:Option Addr} {sl5:Array (Option Value)}
  {f6:Addr} {oc6 kV6 dc6 pm6 cd6 ct6:Value} {od6 an6:Option Addr} {sl6:Array (Option Value)}
  {f7:Addr} {oc7 kV7 dc7 pm7 cd7 ct7:Value} {od7 an7:Option Addr} {sl7:Array (Option Value)}
  {f8:Addr} {oc8 kV8 dc8 pm8 cd8 ct8:Value} {od8 an8:Option Addr} {sl8:Array (Option Value)}
  {f9:Addr} {oc9 kV9 dc9 pm9 cd9 ct9:Value} {od9 an9:Option Addr} {sl9:Array (Option Value)}
  {f10:Addr} {oc10 kV10 dc10 pm10 cd10 ct10:Value} {od10 an10:Option Addr} {sl10:Array (Option Value)}
  {f11:Addr} {oc11 kV11 dc11 pm11 cd11 ct11:Value} {od11 an11:Option Addr} {sl11:Array (Option Value)}
  {f12:Addr} {oc12 kV12 dc12 pm12 cd12 ct12:Value} {od12 an12:Option Addr} {sl12:Array (Option Value)}
  {f13:Addr} {oc13 kV13 dc13 pm13 cd13 ct13:Value} {od13 an13:Option Addr} {sl13:Array (Option Value)}
  {f14:Addr} {oc14 kV14 dc14 pm14 cd14 ct14:Value} {od14 an14:Option Addr} {sl14:Array (Option Value)}
  {f15:Addr} {oc15 kV15 dc15 pm15 cd15 ct15:Value} {od15 an15:Option Addr} {sl15:Array (Option Value)}
  {f16:Addr} {oc16 kV16 dc16 pm16 cd16 ct16:Value} {od16 an16:Option Addr} {sl16:Array (Option Value)}
  {f17:Addr} {oc17 kV17 dc17 pm17 cd17 ct17:Value} {od17 an17:Option Addr} {sl17:Array (Option Value)}
  {t0:Tok}
  {C0:Addr}
  {C1:Addr}
  (a0:kA8 K mainGlobals b8.x=some (some (.ref f0)))
  (l0:K.lookup f0=some ⟨oc0,od0,.func (kAj b8.x b8.x (ck b8.st) (ak b8.st) (ah b8.st) .none kV0 dc0 pm0 an0 cd0 ct0),sl0⟩)
  (c0:kAq K cd0 b8.x=true)
  (k0:kAc K (.ref f0)=true)
  (a1:kA8 K mainGlobals cm.x=some (some (.ref f1)))
  (l1:K.lookup f1=some ⟨oc1,od1,.func (kAj cm.x cm.x (ck cm.st) (ak cm.st) (ah cm.st) .none kV1 dc1 pm1 an1 cd1 ct1),sl1⟩)
  (c1:kAq K cd1 cm.x=true)
  (k1:kAc K (.ref f1)=true)
  (a2:kA8 K mainGlobals bc.x=some (some (.ref f2)))
  (l2:K.lookup f2=some ⟨oc2,od2,.func (kAj bc.x bc.x (ck bc.st) (ak bc.st) (ah bc.st) .none kV2 dc2 pm2 an2 cd2 ct2),sl2⟩)
  (c2:kAq K cd2 bc.x=true)
  (k2:kAc K (.ref f2)=true)
  (a3:kA8 K mainGlobals cf.x=some (some (.ref f3)))
  (l3:K.lookup f3=some ⟨oc3,od3,.func (kAj cf.x cf.x (ck cf.st) (ak cf.st) (ah cf.st) .none kV3 dc3 pm3 an3 cd3 ct3),sl3⟩)
  (c3:kAq K cd3 cf.x=true)
  (k3:kAc K (.ref f3)=true)
  (a4:kA8 K mainGlobals cj.x=some (some (.ref f4)))
  (l4:K.lookup f4=some ⟨oc4,od4,.func (kAj cj.x cj.x (ck cj.st) (ak cj.st) (ah cj.st) .none kV4 dc4 pm4 an4 cd4 ct4),sl4⟩)
  (c4:kAq K cd4 cj.x=true)
  (k4:kAc K (.ref f4)=true)
  (a5:kA8 K mainGlobals br.x=some (some (.ref f5)))
  (l5:K.lookup f5=some ⟨oc5,od5,.func (kAj br.x br.x (ck br.st) (ak br.st) (ah br.st) .none kV5 dc5 pm5 an5 cd5 ct5),sl5⟩)
  (c5:kAq K cd5 br.x=true)
  (k5:kAc K (.ref f5)=true)
  (a6:kA8 K mainGlobals ag.x=some (some (.ref f6)))
  (l6:K.lookup f6=some ⟨oc6,od6,.func (kAj ag.x ag.x (ck ag.st) (ak ag.st) (ah ag.st) .none kV6 dc6 pm6 an6 cd6 ct6),sl6⟩)
  (c6:kAq K cd6 ag.x=true)
  (k6:kAc K (.ref f6)=true)
  (a7:kA8 K mainGlobals ai.x=some (some (.ref f7)))
  (l7:K.lookup f7=some ⟨oc7,od7,.func (kAj ai.x ai.x (ck ai.st) (ak ai.st) (ah ai.st) .none kV7 dc7 pm7 an7 cd7 ct7),sl7⟩)
  (c7:kAq K cd7 ai.x=true)
  (k7:kAc K (.ref f7)=true)
  (a8:kA8 K mainGlobals bf.x=some (some (.ref f8)))
  (l8:K.lookup f8=some ⟨oc8,od8,.func (kAj bf.x bf.x (ck bf.st) (ak bf.st) (ah bf.st) .none kV8 dc8 pm8 an8 cd8 ct8),sl8⟩)
  (c8:kAq K cd8 bf.x=true)
  (k8:kAc K (.ref f8)=true)
  (a9:kA8 K mainGlobals ba.x=some (some (.ref f9)))
  (l9:K.lookup f9=some ⟨oc9,od9,.func (kAj ba.x ba.x (ck ba.st) (ak ba.st) (ah ba.st) .none kV9 dc9 pm9 an9 cd9 ct9),sl9⟩)
  (c9:kAq K cd9 ba.x=true)
  (k9:kAc K (.ref f9)=true)
  (a10:kA8 K mainGlobals cg.x=some (some (.ref f10)))
  (l10:K.lookup f10=some ⟨oc10,od10,.func (kAj cg.x cg.x (ck cg.st) (ak cg.st) (ah cg.st) .none kV10 dc10 pm10 an10 cd10 ct10),sl10⟩)
  (c10:kAq K cd10 cg.x=true)
  (k10:kAc K (.ref f10)=true)
  (a11:kA8 K mainGlobals bw.x=some (some (.ref f11)))
  (l11:K.lookup f11=some ⟨oc11,od11,.func (kAj bw.x bw.x (ck bw.st) (ak bw.st) (ah bw.st) .none kV11 dc11 pm11 an11 cd11 ct11),sl11⟩)
  (c11:kAq K cd11 bw.x=true)
  (k11:kAc K (.ref f11)=true)
  (a12:kA8 K mainGlobals b9.x=some (some (.ref f12)))
  (l12:K.lookup f12=some ⟨oc12,od12,.func (kAj b9.x b9.x (ck b9.st) (ak b9.st) (ah b9.st) .none kV12 dc12 pm12 an12 cd12 ct12),sl12⟩)
  (c12:kAq K cd12 b9.x=true)
  (k12:kAc K (.ref f12)=true)
  (a13:kA8 K mainGlobals aq.x=some (some (.ref f13)))
  (l13:K.lookup f13=some ⟨oc13,od13,.func (kAj aq.x aq.x (ck aq.st) (ak aq.st) (ah aq.st) .none kV13 dc13 pm13 an13 cd13 ct13),sl13⟩)
  (c13:kAq K cd13 aq.x=true)
  (k13:kAc K (.ref f13)=true)
  (a14:kA8 K mainGlobals aj.x=some (some (.ref f14)))
  (l14:K.lookup f14=some ⟨oc14,od14,.func (kAj aj.x aj.x (ck aj.st) (ak aj.st) (ah aj.st) .none kV14 dc14 pm14 an14 cd14 ct14),sl14⟩)
  (c14:kAq K cd14 aj.x=true)
  (k14:kAc K (.ref f14)=true)
  (a15:kA8 K mainGlobals bu.x=some (some (.ref f15)))
  (l15:K.lookup f15=some ⟨oc15,od15,.func (kAj bu.x bu.x (ck bu.st) (ak bu.st) (ah bu.st) .none kV15 dc15 pm15 an15 cd15 ct15),sl15⟩)
  (c15:kAq K cd15 bu.x=true)
  (k15:kAc K (.ref f15)=true)
  (a16:kA8 K mainGlobals bb.x=some (some (.ref f16)))
  (l16:K.lookup f16=some ⟨oc16,od16,.func (kAj bb.x bb.x (ck bb.st) (ak bb.st) (ah bb.st) .none kV16 dc16 pm16 an16 cd16 ct16),sl16⟩)
  (c16:kAq K cd16 bb.x=true)
  (k16:kAc K (.ref f16)=true)
  (a17:kA8 K mainGlobals gz.x=some (some (.ref f17)))
  (l17:K.lookup f17=some ⟨oc17,od17,.func (kAj gz.x gz.x (ck gz.st) (ak gz.st) (ah gz.st) .none kV17 dc17 pm17 an17 cd17 ct17),sl17⟩)
  (c17:kAq K cd17 gz.x=true)
  (k17:kAc K (.ref f17)=true)
  (s0:kA8 K mainGlobals "LETTERS"=some (some (.str "abcdefghijklmnopqrstuvwxyz" t0)))
  (z0:kA8 K mainGlobals "len"=some none)
  (z1:kA8 K mainGlobals "list"=some none)
  (z2:kA8 K mainGlobals "tuple"=some none)
  (z3:kA8 K mainGlobals "int"=some none)
  (z4:kA8 K mainGlobals "isinstance"=some none)
  (z5:kA8 K mainGlobals "range"=some none)
  (z6:kA8 K mainGlobals "all"=some none)
  (z7:kA8 K mainGlobals "any"=some none)
  (z8:kA8 K mainGlobals "sorted"=some none)
  (z9:kA8 K mainGlobals "set"=some none)
  (z10:kA8 K mainGlobals "min"=some none)
  (z11:kA8 K mainGlobals "max"=some none)
  (z12:kA8 K mainGlobals "abs"=some none)
  (z13:kA8 K mainGlobals "str"=some none)
  (z14:kA8 K mainGlobals "bool"=some none)
  (z15:kA8 K mainGlobals "dict"=some none)
  (z16:kA8 K mainGlobals "enumerate"=some none)
  (z17:kA8 K mainGlobals "zip"=some none)
  (z18:kA8 K mainGlobals "reversed"=some none)
  (z19:kA8 K mainGlobals "ValueError"=some none)
  (xa0:kA8 K mainGlobals "AskError"=some (some (.ref C0)))
  (xe0:PySem.W.excIn K C0 [.type "ValueError",.type "Exception",.type "BaseException",.type "object"] "ValueError.__new__"=true)
  (xv0:PySem.W.subIn K (.ref C0) (.type "ValueError")=some true)
  (xa1:kA8 K mainGlobals "NoBook"=some (some (.ref C1)))
  (xe1:PySem.W.excIn K C1 [.type "ValueError",.type "Exception",.type "BaseException",.type "object"] "ValueError.__new__"=true)
  (xv1:PySem.W.subIn K (.ref C1) (.type "ValueError")=some true)
  (xp0:PySem.W.exmOne K (.ref C0) (.ref C0)=some true)
  (xp1:PySem.W.exmOne K (.ref C1) (.ref C1)=some true)
  (xp2:PySem.W.exmOne K (.ref C1) (.ref C0)=some true):
  ∃fd:FuncData,(∀(s:Shared)(v:Value),BindsTo s fd ⟨[v],[]⟩ [("_law_script",v)])∧∀base:Heap,K.In base→base.Ns mainGlobals mg→Bm mg base→FnOk l.prog w K mg base CX0 n fa fd ["_law_script"] (Nw K):=by
 have e:=hfa.symm.trans (PySem.W.mg_of X G a17);cases e;have hd:∀d∈Wt,DefIn K mg d:=by
  intro d hd;simp only[Wt,kA6,kB3,or_false]at hd;rcases hd with rfl|rfl|rfl|rfl|rfl|rfl|rfl|rfl|rfl|rfl|rfl|rfl|rfl|rfl|rfl|rfl|rfl|rfl
  ·exact fx X G Fd Eb a0 l0 c0 k0 (λz=>absurd (show false=true from z) (by decide))
  ·exact fx X G K4 J3 a1 l1 c1 k1 (λz=>absurd (show false=true from z) (by decide))
  ·exact fx X G A6 zt a2 l2 c2 k2 (λz=>absurd (show false=true from z) (by decide))
  ·exact fx X G K3 J1 a3 l3 c3 k3 (λz=>absurd (show false=true from z) (by decide))
  ·exact fx X G K2 J0 a4 l4 c4 k4 (λz=>absurd (show false=true from z) (by decide))
  ·exact fx X G Cr B8 a5 l5 c5 k5 (λz=>absurd (show false=true from z) (by decide))
  ·exact fx X G qq pf a6 l6 c6 k6 (λz=>absurd (show false=true from z) (by decide))
  ·exact fx X G yw yo a7 l7 c7 k7 (λz=>absurd (show false=true from z) (by decide))
  ·exact fx X G A7 zu a8 l8 c8 k8 (λz=>absurd (show false=true from z) (by decide))
  ·exact fx X G Fe Ec a9 l9 c9 k9 (λz=>absurd (show false=true from z) (by decide))
  ·exact fx X G Ip Gh a10 l10 c10 k10 (λz=>absurd (show false=true from z) (by decide))
  ·exact fx X G Ff Ed a11 l11 c11 k11 (λz=>absurd (show false=true from z) (by decide))
  ·exact fx X G Iq Gi a12 l12 c12 k12 (λz=>absurd (show false=true from z) (by decide))
  ·exact fx X G A8 zw a13 l13 c13 k13 (λz=>absurd (show false=true from z) (by decide))
  ·exact fx X G uh tw a14 l14 c14 k14 (λz=>absurd (show false=true from z) (by decide))
  ·exact fx X G Cs B9 a15 l15 c15 k15 (λz=>absurd (show false=true from z) (by decide))
  ·exact fx X G A9 zx a16 l16 c16 k16 (λz=>absurd (show false=true from z) (by decide))
  ·exact fx X G Ti zbj a17 l17 c17 k17 (λz=>absurd (show false=true from z) (by decide))
 have hs:∀x y,gs x=some y→∃t,mg x=some (.str y t):=by
  intro x y e;unfold gs at e
  by_cases h0:x="LETTERS"
  ·rw[if_pos h0]at e;cases e;subst h0;exact⟨_,PySem.W.mg_of X G s0⟩
  rw[if_neg h0]at e;cases e
 have hb:∀x∈wk,mg x=none:=by
  intro x hx;simp only[wk,kA6,kB3,or_false]at hx;rcases hx with rfl|rfl|rfl|rfl|rfl|rfl|rfl|rfl|rfl|rfl|rfl|rfl|rfl|rfl|rfl|rfl|rfl|rfl|rfl|rfl
  ·exact kAu X G z0
  ·exact kAu X G z1
  ·exact kAu X G z2
  ·exact kAu X G z3
  ·exact kAu X G z4
  ·exact kAu X G z5
  ·exact kAu X G z6
  ·exact kAu X G z7
  ·exact kAu X G z8
  ·exact kAu X G z9
  ·exact kAu X G z10
  ·exact kAu X G z11
  ·exact kAu X G z12
  ·exact kAu X G z13
  ·exact kAu X G z14
  ·exact kAu X G z15
  ·exact kAu X G z16
  ·exact kAu X G z17
  ·exact kAu X G z18
  ·exact kAu X G z19
 have hX:XsIn K mg xs:=by
  refine⟨λx h=>?_,λc y h=>?_,λc h=>?_,λc y h=>?_⟩
  ·simp only[xs,Bool.or_eq_true,kA1,decide_eq_true_eq,kA9,or_false]at h;rcases h with rfl|rfl
   ·exact⟨C0,_,_,PySem.W.mg_of X G xa0,xe0,V2⟩
   ·exact⟨C1,_,_,PySem.W.mg_of X G xa1,xe1,V2⟩
  ·simp only[xs,Bool.or_eq_true,kA1,decide_eq_true_eq,kA9,or_false]at h;rcases h with ⟨rfl,rfl⟩|⟨rfl,rfl⟩|⟨rfl,rfl⟩
   ·exact⟨C0,PySem.W.mg_of X G xa0,by rw[o8 (PySem.W.mg_of X G xa0)];exact xp0⟩
   ·exact⟨C1,PySem.W.mg_of X G xa1,by rw[o8 (PySem.W.mg_of X G xa1)];exact xp1⟩
   ·exact⟨C0,PySem.W.mg_of X G xa0,by rw[o8 (PySem.W.mg_of X G xa1)];exact xp2⟩
  ·simp only[xs,Bool.or_eq_true,kA1,decide_eq_true_eq,kA9,or_false]at h;rcases h with rfl|rfl
   ·rw[o8 (PySem.W.mg_of X G xa0)];show(if PySem.W.kitMeta "ValueError"=true then PySem.W.subIn K (.ref C0) (.type "ValueError")else none)=some true;rw[if_pos (by decide+kernel)];exact xv0
   ·rw[o8 (PySem.W.mg_of X G xa1)];show(if PySem.W.kitMeta "ValueError"=true then PySem.W.subIn K (.ref C1) (.type "ValueError")else none)=some true;rw[if_pos (by decide+kernel)];exact xv1
  ·simp only[xs,Bool.or_eq_true,kA1,decide_eq_true_eq,kA9,or_false]at h
 refine⟨kAj gz.x gz.x (ck gz.st) (ak gz.st) (ah gz.st) .none kV17 dc17 pm17 an17 cd17 ct17,λs v=>.of_eq rfl,λbase kb _ bm=>?_⟩;exact zcf Ti rfl a17 l17 c17 k17 kb bm hd hs hb hX hl hm law
end LK
def PySem.W.Fast.tw18169582101875568480:Nat:=0
def PySem.W.Fast.tw4208548511973786738:Nat:=0
def PySem.W.Fast.tw3099993738515778570:Nat:=0
def PySem.W.Fast.tw7883666769130031269:Nat:=0
def PySem.W.Fast.tw10452563482025958246:Nat:=0
def PySem.W.Fast.tw14063105903879718985:Nat:=0
def PySem.W.Fast.tw14303272534268222800:Nat:=0
def PySem.W.Fast.tw4323576630850649481:Nat:=0
def PySem.W.Fast.tw1526991227093701176:Nat:=0
def PySem.W.Fast.tw17640961725090443152:Nat:=0
def PySem.W.Fast.tw7426680093332963216:Nat:=0
def PySem.W.Fast.tw17639090728178995761:Nat:=0
def PySem.W.Fast.tw3832829039720505555:Nat:=0
def PySem.W.Fast.tw6838252798290351698:Nat:=0
def PySem.W.Fast.tw1511640812771062771:Nat:=0
def PySem.W.Fast.tw884727516011881879:Nat:=0
def PySem.W.Fast.tw8400195704064369283:Nat:=0
def PySem.W.Fast.tw14829620290808867596:Nat:=0
def PySem.W.Fast.tw662324547714913311:Nat:=0
def PySem.W.Fast.tw12086564649060581150:Nat:=0
def PySem.W.Fast.tw12045579704039681795:Nat:=0
def PySem.W.Fast.tw9615129367481293763:Nat:=0
def PySem.W.Fast.tw3760414349341929803:Nat:=0
def PySem.W.Fast.tw18375760051648413425:Nat:=0
def PySem.W.Fast.tw9659736992056508372:Nat:=0
def PySem.W.Fast.tw2058368641760378969:Nat:=0
def PySem.W.Fast.tw8410891880335268857:Nat:=0
def PySem.W.Fast.tw15742486515415905756:Nat:=0
def PySem.W.Fast.tw4287840546860710069:Nat:=0
def PySem.W.Fast.tw13843072450335851405:Nat:=0
def PySem.W.Fast.tw4691322933148451428:Nat:=0
def PySem.W.Fast.tw8505024343191338075:Nat:=0
def PySem.W.Fast.tw8936124441348734047:Nat:=0
def PySem.W.Fast.tw461358154272182536:Nat:=0
def PySem.W.Fast.tw2784873946332124036:Nat:=0
open PySem PySem.W PyProof.Rows
set_option maxRecDepth 100000 in
set_option maxHeartbeats 0 in
theorem PySem.Challenge.cw_askbook_k01_books_holds : PySem.Challenge.rw_askbook_k01_books.Holds := by
 w_on;o_law;k_head;(case hw=>w_witness2)
 k_fill
 refine Pu.zig (l:=PySem.Challenge.rw_askbook_k01_books) (k:=30) rfl rfl ⟨rfl,by decide,by decide⟩ (by decide) (λw h Y=>PySem.W.kIn_of Y) ?hNt ?hTb ?hFn
 case hNt=>intro w;kernel_rfl
 case hTb=>intro w h Y p hp;cases hp
 case hFn=>
  intro w mg fa h KX G hmg
  refine' LK.zbf (n:=30) KX G hmg (Pu.Vn 29 rfl) rfl LK.S4 ?a0 ?l0 ?c0 ?k0 ?a1 ?l1 ?c1 ?k1 ?a2 ?l2 ?c2 ?k2 ?a3 ?l3 ?c3 ?k3 ?a4 ?l4 ?c4 ?k4 ?a5 ?l5 ?c5 ?k5 ?a6 ?l6 ?c6 ?k6 ?a7 ?l7 ?c7 ?k7 ?a8 ?l8 ?c8 ?k8 ?a9 ?l9 ?c9 ?k9 ?a10 ?l10 ?c10 ?k10 ?a11 ?l11 ?c11 ?k11 ?a12 ?l12 ?c12 ?k12 ?a13 ?l13 ?c13 ?k13 ?a14 ?l14 ?c14 ?k14 ?a15 ?l15 ?c15 ?k15 ?a16 ?l16 ?c16 ?k16 ?a17 ?l17 ?c17 ?k17 ?s0 ?z0 ?z1 ?z2 ?z3 ?z4 ?z5 ?z6 ?z7 ?z8 ?z9 ?z10 ?z11 ?z12 ?z13 ?z14 ?z15 ?z16 ?z17 ?z18 ?z19 ?xa0 ?xe0 ?xv0 ?xa1 ?xe1 ?xv1 ?xp0 ?xp1 ?xp2
  (case a0=>k_is)
  (case l0=>k_is)
  (case c0=>k_is)
  (case k0=>k_is)
  (case a1=>k_is)
  (case l1=>k_is)
  (case c1=>k_is)
  (case k1=>k_is)
  (case a2=>k_is)
  (case l2=>k_is)
  (case c2=>k_is)
  (case k2=>k_is)
  (case a3=>k_is)
  (case l3=>k_is)
  (case c3=>k_is)
  (case k3=>k_is)
  (case a4=>k_is)
  (case l4=>k_is)
  (case c4=>k_is)
  (case k4=>k_is)
  (case a5=>k_is)
  (case l5=>k_is)
  (case c5=>k_is)
  (case k5=>k_is)
  (case a6=>k_is)
  (case l6=>k_is)
  (case c6=>k_is)
  (case k6=>k_is)
  (case a7=>k_is)
  (case l7=>k_is)
  (case c7=>k_is)
  (case k7=>k_is)
  (case a8=>k_is)
  (case l8=>k_is)
  (case c8=>k_is)
  (case k8=>k_is)
  (case a9=>k_is)
  (case l9=>k_is)
  (case c9=>k_is)
  (case k9=>k_is)
  (case a10=>k_is)
  (case l10=>k_is)
  (case c10=>k_is)
  (case k10=>k_is)
  (case a11=>k_is)
  (case l11=>k_is)
  (case c11=>k_is)
  (case k11=>k_is)
  (case a12=>k_is)
  (case l12=>k_is)
  (case c12=>k_is)
  (case k12=>k_is)
  (case a13=>k_is)
  (case l13=>k_is)
  (case c13=>k_is)
  (case k13=>k_is)
  (case a14=>k_is)
  (case l14=>k_is)
  (case c14=>k_is)
  (case k14=>k_is)
  (case a15=>k_is)
  (case l15=>k_is)
  (case c15=>k_is)
  (case k15=>k_is)
  (case a16=>k_is)
  (case l16=>k_is)
  (case c16=>k_is)
  (case k16=>k_is)
  (case a17=>k_is)
  (case l17=>k_is)
  (case c17=>k_is)
  (case k17=>k_is)
  (case s0=>k_is)
  (case z0=>k_is)
  (case z1=>k_is)
  (case z2=>k_is)
  (case z3=>k_is)
  (case z4=>k_is)
  (case z5=>k_is)
  (case z6=>k_is)
  (case z7=>k_is)
  (case z8=>k_is)
  (case z9=>k_is)
  (case z10=>k_is)
  (case z11=>k_is)
  (case z12=>k_is)
  (case z13=>k_is)
  (case z14=>k_is)
  (case z15=>k_is)
  (case z16=>k_is)
  (case z17=>k_is)
  (case z18=>k_is)
  (case z19=>k_is)
  (case xa0=>k_is)
  (case xe0=>k_exc)
  (case xv0=>k_is)
  (case xa1=>k_is)
  (case xe1=>k_exc)
  (case xv1=>k_is)
  (case xp0=>kts_exm)
  (case xp1=>kts_exm)
  (case xp2=>kts_exm)
end
