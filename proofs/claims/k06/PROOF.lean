import PyProof.Rows.All
import Wide.All
import OpenK.AllK
import Wide.FinOn
import Lean
import PyProof.EqAt
import PyProof.EqKinds
import PyProof.TupleCall
import KE.KTryMore
import KE.KDictLaws
import KE.KDictList
import KE.KDictOf
import PyProof.AttrMiss
import KE.KIntText
import PyProof.ZipIter
import PyProof.WalkInts
import KE.KMinKey
import KE.RegKTryMore
import PySem.Challenge.RW_askbook_k06_whole_lean
set_option Elab.async false
set_option linter.all false
set_option maxRecDepth 100000
set_option maxHeartbeats 4000000
open List renaming map_cons→kA0,length_map→kA2,length_cons→kA5,mem_cons_self→kA6,mem_cons_of_mem→kA7,mem_cons→kA8,replicate→kAa,getElem?_set_ne→kAe,length_append→kAf,getElem?_set_self→kAg,size_toArray→kAh,range→kAj,all_cons→kAm,length_set→kAo,getElem?_eq_some_iff→kAq,getElem?_map→kAr,mem_map→kAv,map_map→kAw,all_eq_true→kAx,mem_append_right→kB0,filterMap_cons→kB1,length_replicate→kB2,getElem?_cons_succ→kB3,getElem?_eq_getElem→kB4,cons_lt_cons_iff→kB5
open Nat renaming le_refl→kA1,ne_of_lt→kAd,le_trans→kAk,zero_le→kAl,lt_of_lt_of_le→kAp,lt_irrefl→kAu
open PySem.W renaming nsIn→kA3,keepIn→kA9,fnOf→kAb,codeIn→kAc,mg_none_of→kAs,mg_of→kAt,exmOne→kAy
open Bool renaming and_eq_true→kA4,false_eq_true→kAn,false_ne_true→kAz
open Option renaming some→kAi
section
namespace L2
open PySem
noncomputable def vo:List Str:=["many"]
end L2
end
section
namespace L2
open PySem PySem.Spec PyProof.Rows
noncomputable abbrev ja:=Sum Int Str
noncomputable def Az:ja→Value→Bool
 |.inl k,v=>Value.isInt k v
 |.inr x,v=>Value.isStrOf x v
noncomputable def zox(w:World):ja→Int
 |.inl k=>hashInt k
 |.inr x=>hashStr w x
theorem i4:∀{k:ja}{v:Value},Az k v=true→(∃i t,k=Sum.inl i∧v=Value.int i t)∨(∃x t,k=Sum.inr x∧v=Value.str x t)
 |.inl i,v,h=>by
  obtain⟨t,e⟩:=Value.isInt_shape (k:=i) (v:=v) h;exact .inl ⟨i,t,rfl,e⟩
 |.inr x,v,h=>by
  obtain⟨t,e⟩:=Value.isStrOf_shape (x:=x) (v:=v) h;exact .inr ⟨x,t,rfl,e⟩
theorem Ug(i:Int)(t:Tok):Az (.inl i) (.int i t)=true:=by simp[Az,Value.isInt]
theorem Uh(x:Str)(t:Tok):Az (.inr x) (.str x t)=true:=by simp[Az,Value.isStrOf]
theorem zgz(a b:Int):decide ((Sum.inl a:ja)=Sum.inl b)=(a==b):=by
 by_cases e:a=b
 ·subst e;simp
 ·have h:¬(Sum.inl a:ja)=Sum.inl b:=λq=>e (Sum.inl.inj q);rw[decide_eq_false h];exact(beq_eq_false_iff_ne.mpr e).symm
theorem zg4(a b:Str):decide ((Sum.inr a:ja)=Sum.inr b)=decide (a=b):=by
 by_cases e:a=b
 ·subst e;simp
 ·have h:¬(Sum.inr a:ja)=Sum.inr b:=λq=>e (Sum.inr.inj q);rw[decide_eq_false h,decide_eq_false e]
theorem zg0(a:Int)(b:Str):decide ((Sum.inl a:ja)=Sum.inr b)=false:=decide_eq_false (λq=>nomatch q)
theorem zg3(a:Str)(b:Int):decide ((Sum.inr a:ja)=Sum.inl b)=false:=decide_eq_false (λq=>nomatch q)
noncomputable def fo(prog:Program)(w:World):PySem.KeyKind prog w ja where
 is:=Az
 hash:=zox w
 inj:=λv a b ha hb=>by
  rcases i4 ha with ⟨i,t,rfl,rfl⟩|⟨x,t,rfl,rfl⟩
  ·rcases i4 hb with ⟨j,u,rfl,e⟩|⟨y,u,rfl,e⟩
   ·injection e with e1 _;rw[e1]
   ·exact nomatch e
  ·rcases i4 hb with ⟨j,u,rfl,e⟩|⟨y,u,rfl,e⟩
   ·exact nomatch e
   ·injection e with e1 _;rw[e1]
 byValue:=λk v h=>by
  rcases i4 h with ⟨i,t,rfl,rfl⟩|⟨x,t,rfl,rfl⟩<;>rfl
 pyHash:=λhv h=>by
  rcases i4 hv with ⟨i,t,rfl,rfl⟩|⟨x,t,rfl,rfl⟩
  ·exact wpAny_pyHash_int h
  ·exact wpAny_pyHash_str h
 eqBool:=λhu hv h=>by
  rcases i4 hu with ⟨i,t,rfl,rfl⟩|⟨x,t,rfl,rfl⟩
  ·rcases i4 hv with ⟨j,u,rfl,rfl⟩|⟨y,u,rfl,rfl⟩
   ·rw[zgz]at h;exact wpAny_eqBool_int h
   ·rw[zg0]at h;exact SeqAt.EqAt.int_str i t y u _ _ _ _ h
  ·rcases i4 hv with ⟨j,u,rfl,rfl⟩|⟨y,u,rfl,rfl⟩
   ·rw[zg3]at h;exact SeqAt.EqAt.str_int x t j u _ _ _ _ h
   ·rw[zg4]at h;exact wpAny_eqBool_str h
 «strs»:=λk x t v h=>by
  rcases i4 h with ⟨i,u,rfl,e⟩|⟨y,u,rfl,e⟩
  ·exact nomatch e
  ·injection e with e1 _
   subst e1;cases v<;>rfl
theorem Mf(prog:Program)(w:World)(i:Int)(t:Tok):(fo prog w).is (.inl i) (.int i t)=true:=Ug i t
theorem Mg(prog:Program)(w:World)(x:Str)(t:Tok):(fo prog w).is (.inr x) (.str x t)=true:=Uh x t
end L2
namespace L2
open PySem PySem.Spec PyProof.Rows
noncomputable abbrev NK:=Sum ja (List ja)
noncomputable abbrev gm:=List NK
noncomputable def Mo(prog:Program)(w:World)(h:Heap):NK→Value→Prop
 |.inl k,v=>(fo prog w).is k v=true
 |.inr ks,v=>∃b,v=.ref b∧IsTupleKey (fo prog w) h ks b
noncomputable def NItems(prog:Program)(w:World)(h:Heap):gm→List Value→Prop
 |[],vs=>vs=[]
 |k::r,vs=>∃v t,vs=v::t∧Mo prog w h k v∧NItems prog w h r t
def wt(prog:Program)(w:World)(h:Heap)(ks:gm)(a:Addr):Prop:=∃o items n,h.get? a=some o∧o.cls=.type "tuple"∧o.data=.seq items n∧NItems prog w h ks items.toList
section
variable{prog:Program}{w:World}
theorem Ye{h:Heap}:∀{x y:NK}{v:Value},Mo prog w h x v→Mo prog w h y v→x=y
 |.inl a,.inl b,v,h1,h2=>by rw[(fo prog w).inj v a b h1 h2]
 |.inl a,.inr ys,v,h1,⟨b,e,_⟩=>by subst e;exact absurd ((fo prog w).byValue _ _ h1) (by intro z;cases z)
 |.inr xs,.inl b,v,⟨c,e,_⟩,h2=>by subst e;exact absurd ((fo prog w).byValue _ _ h2) (by intro z;cases z)
 |.inr xs,.inr ys,v,⟨b,e,q⟩,⟨c,e',q'⟩=>by subst e;cases e';rw[q.inj q']
theorem NItems.inj{h:Heap}:∀{x y:gm}{vs:List Value},NItems prog w h x vs→NItems prog w h y vs→x=y
 |[],[],_,_,_=>rfl
 |[],_::_,vs,h1,⟨v,t,e,_⟩=>by rw[show vs=[]from h1]at e;cases e
 |_::_,[],vs,⟨v,t,e,_⟩,h2=>by rw[show vs=[]from h2]at e;cases e
 |a::x,b::y,vs,⟨v,t,e,h1,h2⟩,⟨v',t',e',h1',h2'⟩=>by
  subst e;cases e';rw[Ye h1 h1',NItems.inj h2 h2']
theorem Po{h h':Heap}{d:Addr}{o:Obj}{es ep}(ho:h.get? d=some o)(hd:o.data=.dict es ep)(hs:Heap.SameBut d h h'):∀{k:NK}{v:Value},Mo prog w h k v→Mo prog w h' k v
 |.inl k,v,e=>e
 |.inr ks,v,⟨b,e,q⟩=>⟨b,e,q.keeps ho hd hs⟩
theorem NItems.keeps{h h':Heap}{d:Addr}{o:Obj}{es ep}(ho:h.get? d=some o)(hd:o.data=.dict es ep)(hs:Heap.SameBut d h h'):∀{ks:gm}{vs:List Value},NItems prog w h ks vs→NItems prog w h' ks vs
 |[],_,e=>e
 |_::_,_,⟨v,t,e,h1,h2⟩=>⟨v,t,e,Po ho hd hs h1,NItems.keeps ho hd hs h2⟩
noncomputable def u4(w:World)(prog:Program):NK→Int
 |.inl k=>(fo prog w).hash k
 |.inr ks=>tupleKeyHash (fo prog w) ks
noncomputable def R6:NK→Nat
 |.inl _=>1
 |.inr ks=>ks.length+1
noncomputable def yz(k:gm):Nat:=(k.map R6).sum
variable{A:Around}{E:Value→Shared→Prop}{s:Shared}
theorem Vf{k:NK}{v:Value}{Q:Int→Shared→Prop}(hu:A.units<cLine)(hk:Mo prog w s.heap k v)(h:Q (u4 w prog k) {s with toks:=s.toks+R6 k}):wpAny (model prog w) A (pyHash v) Q E s:=by
 cases k with
 |inl k=>exact(fo prog w).pyHash hk h
 |inr ks=>obtain⟨b,rfl,q⟩:=hk;exact wpAny_pyHash_tuple hu q h
theorem Vg{ks:gm}{a:Addr}{Q:Int→Shared→Prop}(hu:A.units+4<cLine)(hk:wt prog w s.heap ks a)(h:Q (reduceHash (Builtin.Tuple.tupleHashOf (ks.map (u4 w prog)))) {s with toks:=s.toks+(yz ks+1)}):
  wpAny (model prog w) A (pyHash (.ref a)) Q E s:=by
 obtain⟨o,items,n,ho,hc,hd,hi⟩:=hk;have hT:s.TypeIs (.ref a) "tuple":=⟨o,ho,hc⟩;unfold pyHash
 first|unfold pyHashByItsType|skip
 first|refine wpAny_bind (wpAny_cRoomFor_or (.inr (by omega)) ?_)|skip
 refine wpAny_bind (wpAny_specialOf hT F.slot_tuple_hash.lookup ?_);show wpAny _ _ (if(some (Value.builtin "tuple.__hash__")==some Value.none)=true then _ else _) Q E s;rw[if_neg (by rw[beq_builtin_none];exact kAz)];refine wpAny_bind (wpAny_specialOf hT F.slot_tuple_hash.lookup ?_);show wpAny _ _ (callSpecialIfBoundUnlessNone? (.ref a) "__hash__" _>>=_) Q E s;refine wpAny_bind (wpAny_callSpecialIfBoundUnlessNone?_slot hT F.slot_tuple_hash (wpAny_call_entry F.slot_tuple_hash hT F.entry_tuple_hash ?_ (F.args_tuple_hash_1 _)));show wpAny _ _ (Builtin.Tuple.tupleItemsOf (.ref a)>>=_) _ _ s;refine wpAny_bind (wpAny_tupleItemsOf ho hd ?_);refine wpAny_bind ?_;rw[←Array.forIn_toList];refine wpAny_forIn_list _
  (λft (b:Array Int) s'=>∃done left,ks=done++left∧NItems prog w s.heap left ft∧b.toList=done.map (u4 w prog)∧s'={s with toks:=s.toks+yz done})
  _ ?_ ?_ _ _ ⟨[],ks,rfl,hi,rfl,rfl⟩
 ·rintro x ft b s' ⟨done,left,rfl,hl,hb,rfl⟩
  cases left with
  |nil=>cases (show x::ft=[]from hl)
  |cons k ks'=>
   obtain⟨v,t,e,h1,hl'⟩:=hl;cases e;refine wpAny_bind (Vf (by show A.units+_<cLine;omega) h1 ?_)
   first
    |exact wpAny_pure ⟨done++[k],ks',by simp,hl',by simp[hb],by simp[yz,Nat.add_assoc]⟩
    |exact wpAny_bind (wpAny_pure (wpAny_pure ⟨done++[k],ks',by simp,hl',by simp[hb],by simp[yz,Nat.add_assoc]⟩))
 ·rintro b s' ⟨done,left,rfl,hl,hb,rfl⟩
  cases left with
  |cons k ks'=>obtain⟨v,t,e,_⟩:=hl;cases e
  |nil=>
  rw[List.append_nil]at h;show wpAny _ _ (retInt (Builtin.Tuple.tupleHashOf b.toList)) _ _ _;rw[hb];refine wpAny_ret_mkInt ?_;show wpAny _ _ (if(decide (-(2:Int) ^ 63≤Builtin.Tuple.tupleHashOf (done.map (u4 w prog))) && decide (Builtin.Tuple.tupleHashOf (done.map (u4 w prog))<2 ^ 63))=true then _ else _) Q E _;unfold reduceHash at h
  by_cases hr:(decide (-(2:Int) ^ 63≤Builtin.Tuple.tupleHashOf (done.map (u4 w prog))) && decide (Builtin.Tuple.tupleHashOf (done.map (u4 w prog))<2 ^ 63))=true
  ·rw[if_pos hr];rw[if_pos hr]at h;exact wpAny_pure (by simpa[Nat.add_assoc]using h)
  ·rw[if_neg hr];rw[if_neg hr]at h;exact wpAny_bind (wpAny_rule (wpAny_pure (by simpa[Nat.add_assoc]using h)))
theorem Vi{ks:List ja}{a:Addr}{n:Nat}{Q:Bool→Shared→Prop}(hk:IsTupleKey (fo prog w) s.heap ks a)(h:Q true s):wpAny (model prog w) A (eqIsQuiet (n+1) (.ref a)) Q E s:=by
 have hT:=hk.typeIs;obtain⟨o,items,n,ho,_,hd,hi⟩:=hk;unfold eqIsQuiet;refine wpAny_bind (wpAny_specialOf hT F.slot_tuple_eq.lookup ?_);show wpAny _ _ (isInstance (.ref a) (.type "tuple")>>=_) _ _ s;refine wpAny_bind (wpAny_isInstance hT isSubtype_tuple_tuple ?_);simp only[Bool.not_true,kAn,if_false];refine wpAny_bind (wpAny_seqItems ho hd ?_);refine wpAny_bind ?_;show wpAny _ _ (forIn items _ _) _ _ s;rw[←Array.forIn_toList];refine wpAny_forIn_list _ (λft r s'=>r.1=none∧s'=s∧∀v∈ft,carriedByValue v=true) _ ?_ ?_ _ _ ⟨rfl,rfl,hi.byValue⟩
 ·rintro v ft r s' ⟨hr,rfl,hall⟩
  rw[eqIsQuiet_byValue _ (hall v kA6)];refine wpAny_bind (wpAny_pure ?_);simp only[Bool.not_true,kAn,if_false];exact wpAny_pure ⟨rfl,rfl,λu hu'=>hall u (kA7 _ hu')⟩
 ·rintro ⟨r1,r2⟩ s' ⟨hr,rfl,_⟩
  simp only at hr;subst hr;exact wpAny_pure h
theorem Zo{ks:gm}{a:Addr}{Q:Bool→Shared→Prop}(hk:wt prog w s.heap ks a)(h:Q true s):wpAny (model prog w) A (eqIsQuiet 8 (.ref a)) Q E s:=by
 obtain⟨o,items,n,ho,hc,hd,hi⟩:=hk;have hT:s.TypeIs (.ref a) "tuple":=⟨o,ho,hc⟩;unfold eqIsQuiet;refine wpAny_bind (wpAny_specialOf hT F.slot_tuple_eq.lookup ?_);show wpAny _ _ (isInstance (.ref a) (.type "tuple")>>=_) _ _ s;refine wpAny_bind (wpAny_isInstance hT isSubtype_tuple_tuple ?_);simp only[Bool.not_true,kAn,if_false];refine wpAny_bind (wpAny_seqItems ho hd ?_);refine wpAny_bind ?_;show wpAny _ _ (forIn items _ _) _ _ s;rw[←Array.forIn_toList];refine wpAny_forIn_list _ (λft r s'=>r.1=none∧s'=s∧∃left,NItems prog w s.heap left ft) _ ?_ ?_ _ _ ⟨rfl,rfl,ks,hi⟩
 ·rintro v ft r s' ⟨hr,rfl,left,hl⟩
  cases left with
  |nil=>cases (show v::ft=[]from hl)
  |cons k ks'=>
   obtain⟨v',t,e,h1,hl'⟩:=hl;cases e;refine wpAny_bind ?_;have go:wpAny (model prog w) A (eqIsQuiet 7 v) (λb s''=>b=true∧s''=s') E s':=by
    cases k with
    |inl k=>rw[eqIsQuiet_byValue _ ((fo prog w).byValue _ _ h1)];exact wpAny_pure ⟨rfl,rfl⟩
    |inr ys=>obtain⟨b,rfl,q⟩:=h1;exact Vi q ⟨rfl,rfl⟩
   refine wpAny_mono go (λb s'' ⟨e1,e2⟩=>?_) λ_ _ q=>q;subst e1 e2;simp only[Bool.not_true,kAn,if_false];exact wpAny_pure ⟨rfl,rfl,ks',hl'⟩
 ·rintro ⟨r1,r2⟩ s' ⟨hr,rfl,_⟩
  simp only at hr;subst hr;exact wpAny_pure h
theorem Gw{k:ja}{v:Value}{b:Addr}{its:Array Value}{Q:Bool→Shared→Prop}(hu:A.units<cLine)(hk:Az k v=true)(hb:s.heap.IsTuple b its)(h:Q false s):wpAny (model prog w) A (eqBool v (.ref b)) Q E s∧wpAny (model prog w) A (eqBool (.ref b) v) Q E s:=by
 rcases i4 hk with ⟨i,t,rfl,rfl⟩|⟨x,t,rfl,rfl⟩
 ·exact⟨SeqAt.EqAt.int_tuple i t hb hu _ _ _ _ h,SeqAt.EqAt.tuple_int i t hb hu _ _ _ _ h⟩
 ·exact⟨SeqAt.EqAt.str_tuple x t hb hu _ _ _ _ h,SeqAt.EqAt.tuple_str x t hb hu _ _ _ _ h⟩
theorem T4{x y:NK}{u v:Value}{Q:Bool→Shared→Prop}(hu:A.units<cLine)(hx:Mo prog w s.heap x u)(hy:Mo prog w s.heap y v)(h:Q (decide (x=y)) s):wpAny (model prog w) A (eqBool u v) Q E s:=by
 cases x with
 |inl a=>
  cases y with
  |inl b=>exact(fo prog w).eqBool hx hy (by
    have e:decide (a=b)=decide ((Sum.inl a:NK)=Sum.inl b):=by by_cases q:a=b<;>simp[q]
    rw[e];exact h)
  |inr ys=>
   obtain⟨b,rfl,o,its,n,h1,h2,h3,_⟩:=hy;exact(Gw hu hx ⟨o,h1,h2,n,h3⟩ h).1
 |inr xs=>
  cases y with
  |inl b=>
   obtain⟨c,rfl,o,its,n,h1,h2,h3,_⟩:=hx;exact(Gw hu hy ⟨o,h1,h2,n,h3⟩ h).2
  |inr ys=>
   obtain⟨b,rfl,q⟩:=hx;obtain⟨c,rfl,q'⟩:=hy;exact wpAny_eqBool_tuple hu q q' (by
    have e:decide (xs=ys)=decide ((Sum.inr xs:NK)=Sum.inr ys):=by by_cases q:xs=ys<;>simp[q]
    rw[e];exact h)
theorem NItems.length{h:Heap}:∀{x:gm}{vs:List Value},NItems prog w h x vs→x.length=vs.length
 |[],vs,e=>by rw[show vs=[]from e];rfl
 |_::_,_,⟨v,t,e,_,h2⟩=>by rw[e,kA5,kA5,NItems.length h2]
theorem Qm{x y:gm}{a b:Addr}{P:Fin→Shared→Prop}(hu:A.units+2<cLine)(hx:wt prog w s.heap x a)(hy:wt prog w s.heap y b)(h:P (.done (.ret (.bool (decide (x=y))))) s):
  wpAny (model prog w) A (Builtin.«tuple.__eq__» ⟨[.ref a,.ref b],[]⟩) P E s:=by
 obtain⟨oa,xs,na,hoa,hca,hda,hia⟩:=hx;obtain⟨ob,ys,nb,hob,hcb,hdb,hib⟩:=hy;have hTb:s.TypeIs (.ref b) "tuple":=⟨ob,hob,hcb⟩;show wpAny _ _ (isInstance (.ref b) (.type "tuple")>>=_) _ _ s;refine wpAny_bind (wpAny_isInstance hTb isSubtype_tuple_tuple ?_);simp only[Bool.not_true,kAn,if_false];refine wpAny_bind (wpAny_tupleItemsOf hoa hda ?_);refine wpAny_bind (wpAny_tupleItemsOf hob hdb ?_);refine wpAny_bind ?_;refine wpAny_forIn_list _
  (λft r s'=>r.1=none∧s'=s∧∃x' y' xs' ys',ft=List.zip xs' ys'∧NItems prog w s.heap x' xs'∧NItems prog w s.heap y' ys'∧decide (x'=y')=decide (x=y)∧(xs'.length==ys'.length)=(xs.size==ys.size))
  _ ?_ ?_ _ _ ⟨rfl,rfl,x,y,xs.toList,ys.toList,rfl,hia,hib,rfl,by simp⟩
 ·rintro ⟨u,v⟩ ft r s' ⟨hr,rfl,x',y',xs',ys',hz,hx',hy',hdec,hlen⟩
  cases x' with
  |nil=>rw[show xs'=[]from hx']at hz;simp at hz
  |cons k1 x''=>
   cases y' with
   |nil=>rw[show ys'=[]from hy']at hz;simp at hz
   |cons k2 y''=>
    obtain⟨u',xs'',rfl,h1,hx''⟩:=hx';obtain⟨v',ys'',rfl,h2,hy''⟩:=hy';simp only[List.zip_cons_cons,List.cons.injEq,Prod.mk.injEq]at hz;obtain⟨⟨rfl,rfl⟩,rfl⟩:=hz;refine wpAny_bind (T4 (by omega) h1 h2 ?_)
    by_cases hk:k1=k2
    ·subst hk;rw[decide_eq_true rfl];simp only[Bool.not_true,kAn,if_false];refine wpAny_pure ⟨rfl,rfl,x'',y'',xs'',ys'',rfl,hx'',hy'',?_,by simpa using hlen⟩;rw[←hdec]
     by_cases hxy:x''=y''
     ·simp[hxy]
     ·simp[hxy]
    ·rw[decide_eq_false hk];simp only[Bool.not_false,if_true];have hf:decide (x=y)=false:=by rw[←hdec];simp[hk]
     rw[hf]at h;exact wpAny_bind (wpAny_pure (wpAny_pure (wpAny_pure h)))
 ·rintro ⟨r1,r2⟩ s' ⟨hr,rfl,x',y',xs',ys',hz,hx',hy',hdec,hlen⟩
  simp only at hr;subst hr;refine wpAny_pure ?_;have hfin:(xs.size==ys.size)=decide (x=y):=by
   rw[←hdec,←hlen,←hx'.length,←hy'.length];cases x' with
   |nil=>
    cases y' with
    |nil=>simp
    |cons _ _=>simp
   |cons _ _=>
    cases y' with
    |nil=>simp
    |cons _ _=>
     obtain⟨_,_,rfl,_⟩:=hx';obtain⟨_,_,rfl,_⟩:=hy';simp at hz
  show P (.done (.ret (.bool (xs.size==ys.size)))) s';rw[hfin];exact h
theorem T5{x y:gm}{a b:Addr}{Q:Bool→Shared→Prop}(hu:A.units+4<cLine)(hx:wt prog w s.heap x a)(hy:wt prog w s.heap y b)(h:Q (decide (x=y)) s):
  wpAny (model prog w) A (eqBool (.ref a) (.ref b)) Q E s:=by
 have tx:s.TypeIs (.ref a) "tuple":=let ⟨o,_,_,h1,h2,_⟩:=hx;⟨o,h1,h2⟩;have ty:s.TypeIs (.ref b) "tuple":=let ⟨o,_,_,h1,h2,_⟩:=hy;⟨o,h1,h2⟩;unfold eqBool
 try with_reducible refine wpAny_holding ?_
 show wpAny _ _ (if(Value.ref a==Value.ref b)=true then _ else _) Q E s
 by_cases hab:(Value.ref a==Value.ref b)=true
 ·rw[if_pos hab];have e:a=b:=by have:=eq_of_beq hab;injection this
  subst e;obtain⟨o,items,n,ho,_,hd,hi⟩:=hx;obtain⟨o',items',n',ho',_,hd',hi'⟩:=hy;obtain rfl:o=o':=kAi.inj (ho.symm.trans ho');rw[hd]at hd';injection hd' with h1 _
  subst h1;obtain rfl:=hi.inj hi';exact wpAny_bind (wpAny_rule (wpAny_pure (by simpa using h)))
 ·rw[if_neg hab];exact wpAny_bind (wpAny_richCompare_same_room (op:=.Eq) tx ty F.slot_tuple_eq
   (wpAny_call_entry F.slot_tuple_eq tx F.entry_tuple_eq (Qm (by show A.units+1+2<cLine;omega) hx hy ⟨_,rfl,(λe=>nomatch e),wpAny_truthy_bool h⟩) (F.args_tuple_eq_2 _ _)) (by omega))
end
noncomputable def ou(prog:Program)(w:World):HeapKind prog w gm where
 is:=wt prog w
 hash:=λk=>reduceHash (Builtin.Tuple.tupleHashOf (k.map (u4 w prog)))
 draws:=λk=>yz k+1
 room:=λA=>A.units+4<cLine
 inj:=λhx hy=>by
  obtain⟨o,items,n,ho,_,hd,hi⟩:=hx;obtain⟨o',items',n',ho',_,hd',hi'⟩:=hy;obtain rfl:o=o':=kAi.inj (ho.symm.trans ho');rw[hd]at hd';injection hd' with h1 _
  subst h1;exact hi.inj hi'
 keeps:=λx ho hd hs=>by
  obtain⟨o',items,n,ho',hc,hd',hi⟩:=x;refine⟨o',items,n,(hs.2 _ ?_).trans ho',hc,hd',hi.keeps ho hd hs⟩
  rintro rfl
  obtain rfl:=kAi.inj (ho'.symm.trans ho);rw[hd]at hd';exact nomatch hd'
 pyHash:=λhu hk h=>Vg hu hk h
 eqBool:=λhu hx hy h=>T5 hu hx hy h
 quiet:=λhk h=>Zo hk h
theorem md{prog:Program}{w:World}{A:Around}(h:A.units+5<cLine):(ou prog w).room A.in1:=by show A.units+1+4<cLine;omega
end L2
namespace L2
open PySem PySem.Spec PyProof.Rows
inductive V where
 |non|bl (b:Bool)|int (i:Int)|str (x:Str)|byt (b:Array UInt8)|flt (b:UInt64)|ref (a:Addr)|ty (n:String)
 deriving DecidableEq
noncomputable def RelV:V→Value→Prop
 |.non,u=>u=Value.none
 |.bl b,u=>u=Value.bool b
 |.int i,u=>∃t,u=Value.int i t
 |.str x,u=>∃t,u=Value.str x t
 |.byt b,u=>∃t,u=Value.bytes b t
 |.flt b,u=>∃t,u=Value.float b t
 |.ref a,u=>u=Value.ref a
 |.ty n,u=>u=Value.type n
noncomputable abbrev Vals:List V→List Value→Prop:=Paired RelV
theorem Vals.length{xs:List V}{us:List Value}(r:Vals xs us):xs.length=us.length:=Paired.length r
theorem Vals.get:∀{xs:List V}{us:List Value}{i:Nat}{x:V},Vals xs us→xs[i]?=some x→∃u,us[i]?=some u∧RelV x u
 |_,_,_,_,.nil,e=>by simp at e
 |_,_,0,_,.cons r _,e=>by simp at e;subst e;exact⟨_,rfl,r⟩
 |_,_,i+1,x,.cons _ t,e=>by
  obtain⟨u,h1,h2⟩:=Vals.get (i:=i) (x:=x) t (by simpa using e);exact⟨u,by simpa using h1,h2⟩
theorem Vals.set{x:V}{u:Value}(r:RelV x u):∀{xs:List V}{us:List Value}(i:Nat),Vals xs us→Vals (xs.set i x) (us.set i u)
 |_,_,_,.nil=>.nil
 |_,_,0,.cons _ t=>.cons r t
 |_,_,i+1,.cons q t=>.cons q (Vals.set r i t)
theorem Vals.append:∀{xs ys:List V}{us ws:List Value},Vals xs us→Vals ys ws→Vals (xs++ys) (us++ws)
 |_,_,_,_,.nil,s=>s
 |_,_,_,_,.cons r t,s=>.cons r (Vals.append t s)
theorem Vals.take:∀{xs:List V}{us:List Value}(n:Nat),Vals xs us→Vals (xs.take n) (us.take n)
 |_,_,0,_=>.nil
 |_,_,_+1,.nil=>.nil
 |_,_,n+1,.cons r t=>.cons r (Vals.take n t)
theorem Vals.drop:∀{xs:List V}{us:List Value}(n:Nat),Vals xs us→Vals (xs.drop n) (us.drop n)
 |_,_,0,r=>r
 |_,_,_+1,.nil=>.nil
 |_,_,n+1,.cons _ t=>Vals.drop n t
noncomputable def RelO:Option V→Option Value→Prop
 |some v,some u=>RelV v u
 |none,none=>True
 |_,_=>False
noncomputable def KV{κ:Type}:List (κ×V)→List (κ×Value)→Prop:=Paired λ(p:κ×V)(q:κ×Value)=>p.1=q.1∧RelV p.2 q.2
noncomputable def kV:ja→V
 |.inl i=>.int i
 |.inr x=>.str x
inductive HO where
 |lst (xs:List V)
 |tup (xs:List V)
 |dK (kvs:List (ja×V))|dT (kvs:List (gm×V))
 |set (S:Int→Bool) (n:Nat)
 |ins (C dx:Addr) (fs:List (Str×V))
 |own (x:Addr)
 |xd (fs:List (Str×V))
 |met (f x:Addr)
 |rng (lo hi:Int)
 |frz (o:Obj) (u:HO)
 |tbl (q:Str)
 |ext (φ:Heap→Prop)
noncomputable abbrev Hp:=Addr→Option HO
noncomputable def upd(H:Hp)(a:Addr)(o:HO):Hp:=λb=>if b=a then some o else H b
theorem d8{H:Hp}{a:Addr}{o:HO}:upd H a o a=some o:=by unfold upd;rw[if_pos rfl]
theorem bu{H:Hp}{a b:Addr}{o:HO}(h:b≠a):upd H a o b=H b:=by unfold upd;rw[if_neg h]
theorem zk7{H:Hp}{a b:Addr}{o u:HO}(h:H a=some o)(h':H b=some u)(d:o≠u):a≠b:=by
 intro e;subst e;rw[h]at h';exact d (kAi.inj h')
theorem d9{H:Hp}{a b:Addr}{o:HO}(h:H a=some o)(h':H b=none):a≠b:=by
 intro e;subst e;rw[h]at h';cases h'
noncomputable def nkAt(H:Hp):NK→V→Prop
 |.inl k,v=>v=kV k
 |.inr ks,v=>∃b,v=.ref b∧H b=some (.tup (ks.map kV))
noncomputable def NkL(H:Hp):gm→List V→Prop
 |[],vs=>vs=[]
 |k::r,vs=>∃v t,vs=v::t∧nkAt H k v∧NkL H r t
def TkAt(H:Hp)(k:gm)(b:Addr):Prop:=∃vs,H b=some (.tup vs)∧NkL H k vs
theorem nkAt.mono{H H':Hp}(ht:∀b xs,H b=some (.tup xs)→H' b=some (.tup xs)):∀{k:NK}{v:V},nkAt H k v→nkAt H' k v
 |.inl _,_,e=>e
 |.inr _,_,⟨b,e,q⟩=>⟨b,e,ht _ _ q⟩
theorem NkL.mono{H H':Hp}(ht:∀b xs,H b=some (.tup xs)→H' b=some (.tup xs)):∀{k:gm}{vs:List V},NkL H k vs→NkL H' k vs
 |[],_,e=>e
 |_::_,_,⟨v,t,e,q,r⟩=>⟨v,t,e,nkAt.mono ht q,NkL.mono ht r⟩
theorem TkAt.mono{H H':Hp}(ht:∀b xs,H b=some (.tup xs)→H' b=some (.tup xs)){k:gm}{b:Addr}(h:TkAt H k b):TkAt H' k b:=
 let ⟨vs,h1,h2⟩:=h
 ⟨vs,ht _ _ h1,h2.mono ht⟩
noncomputable def Trip(H:Hp)(q:Str):List Value→Prop
 |[]=>True
 |.int _ _::.int _ _::.ref c'::r=>(∃(oc:Obj) (vs:Array Value) (t:Tok),H c'=some (.frz oc (.own 0))∧oc.data=.fields vs∧vs[1]?=some (.str q t))∧Trip H q r
 |_=>False
theorem Trip.mono{H H':Hp}{q:Str}(hz:∀b o u,H b=some (.frz o u)→H' b=some (.frz o u))(l:List Value)(h:Trip H q l):Trip H' q l:=by
 fun_induction Trip H q l with
 |case1=>unfold Trip;trivial
 |case2 _ _ _ _ c' r ih=>
  obtain⟨⟨oc,vs,t,e1,e2⟩,h2⟩:=h;unfold Trip;exact⟨⟨oc,vs,t,hz _ _ _ e1,e2⟩,ih h2⟩
 |case3=>exact h.elim
section
variable(P:Program)(w:World)
noncomputable def ObjOk(H:Hp)(h:Heap)(a:Addr):HO→Prop
 |.lst xs=>xs.length≤sizeLine∧∃(its:List Value) (n:Nat),Vals xs its∧h.get? a=some {cls:=.type "list",data:=.seq its.toArray n}
 |.tup xs=>xs.length≤sizeLine∧∃its:List Value,Vals xs its∧IsTup h a its.toArray
 |.dK kvs=>kvs.length≤sizeLine∧(a==sysModules)=false∧∃vs,KV kvs vs∧h.DictOf (fo P w) a vs
 |.dT kvs=>kvs.length≤sizeLine∧(a==sysModules)=false∧∃xs:List (gm×Addr×Value),
   Paired (λ(p:gm×V)(q:gm×Addr×Value)=>p.1=q.1∧TkAt H p.1 q.2.1∧RelV p.2 q.2.2) kvs xs∧
   ∃o es ep,h.get? a=some o∧o.ExactDict∧o.data=.dict es ep∧es.toList=xs.map (entryOfKey (ou P w))∧(xs.map (·.1)).Nodup
 |.set S n=>h.SetOf (intKind P w) a S n
 |.ins C dx fs=>H dx=some (.own a)∧fs.length≤1000∧dx≠a∧h.get? a=some (PySem.W.instObj C dx)∧
   ∃mA,h.Ns1 dx mA∧(∀f,RelO (fs.lookup f) (mA f))∧PySem.Within mA (fs.map (·.1))
 |.own _=>∃o,h.get? a=some o
 |.xd fs=>∃mA,h.Ns1 a mA∧∀f,RelO (fs.lookup f) (mA f)
 |.rng lo hi=>∃t u v,h.get? a=some {cls:=.type "range",data:=.fields #[.int lo t,.int hi u,.int 1 v]}
 |.frz o u=>h.get? a=some o∧ObjOk H h a u
 |.tbl q=>∃ps:Array Value,h.get? a=some {cls:=.none,data:=.fields ps}∧Trip H q ps.toList
 |.met f x=>h.get? a=some (PySem.W.methodObj (.ref f) (.ref x))
 |.ext φ=>φ h∧(∃o,h.get? a=some o)∧∀h1 h2:Heap,φ h1→(∀o,h1.get? a=some o→h2.get? a=some o)→φ h2
def HOk(H:Hp)(h:Heap):Prop:=∀a o,H a=some o→ObjOk P w H h a o
end
section
variable{P:Program}{w:World}{H H':Hp}{h h':Heap}{a:Addr}{o:HO}
theorem ObjOk.lt(x:ObjOk P w H h a o):a<h.objs.size:=by
 cases o with
 |lst xs=>obtain⟨_,_,_,_,e⟩:=x;exact Heap.lt_size e
 |tup xs=>obtain⟨_,_,_,p⟩:=x;exact p.lt
 |dK kvs=>obtain⟨_,_,_,_,o,_,_,e,_⟩:=x;exact Heap.lt_size e
 |dT kvs=>obtain⟨_,_,_,_,o,_,_,e,_⟩:=x;exact Heap.lt_size e
 |set S n=>obtain⟨o,_,_,_,e,_⟩:=x;exact Heap.lt_size e
 |ins C dx fs=>obtain⟨_,_,_,e,_⟩:=x;exact Heap.lt_size e
 |own y=>obtain⟨_,e⟩:=x;exact Heap.lt_size e
 |xd fs=>obtain⟨_,⟨_,_,_,e,_⟩,_⟩:=x;exact Heap.lt_size e
 |rng lo hi=>obtain⟨_,_,_,e⟩:=x;exact Heap.lt_size e
 |frz ob u=>obtain⟨e,_⟩:=x;exact Heap.lt_size e
 |tbl q=>obtain⟨ps,e,_⟩:=x;exact Heap.lt_size e
 |met f y=>exact Heap.lt_size (show h.get? a=some _ from x)
 |ext φ=>obtain⟨_,⟨_,e⟩,_⟩:=x;exact Heap.lt_size e
theorem Paired.mapP{α β:Type}{F G:α→β→Prop}:∀{l₁:List α}{l₂:List β},Paired F l₁ l₂→(∀a b,F a b→G a b)→Paired G l₁ l₂
 |_,_,.nil,_=>.nil
 |_,_,.cons r t,f=>.cons (f _ _ r) (Paired.mapP t f)
theorem ObjOk.stay(x:ObjOk P w H h a o)(k:∀b u,(b=a∨H b=some (.own a))→h.get? b=some u→h'.get? b=some u)
  (ho:∀b,H b=some (.own a)→H' b=some (.own a))(ht:∀b xs,H b=some (.tup xs)→H' b=some (.tup xs))(hz:∀b o u,H b=some (.frz o u)→H' b=some (.frz o u):=by exact λ_ _ _ q=>q):ObjOk P w H' h' a o:=by
 induction o with
 |lst xs=>obtain⟨z,its,n,r,e⟩:=x;exact⟨z,its,n,r,k _ _ (.inl rfl) e⟩
 |tup xs=>obtain⟨z,its,r,ob,e,c⟩:=x;exact⟨z,its,r,ob,k _ _ (.inl rfl) e,c⟩
 |dK kvs=>obtain⟨z,y,vs,r,ob,es,ep,e,c⟩:=x;exact⟨z,y,vs,r,ob,es,ep,k _ _ (.inl rfl) e,c⟩
 |dT kvs=>
  obtain⟨z,y,xs,r,ob,es,ep,e,c⟩:=x;exact⟨z,y,xs,Paired.mapP r λp q z=>⟨z.1,z.2.1.mono ht,z.2.2⟩,ob,es,ep,k _ _ (.inl rfl) e,c⟩
 |set S n=>obtain⟨ob,es,ep,t,e,c⟩:=x;exact⟨ob,es,ep,t,k _ _ (.inl rfl) e,c⟩
 |ins C dx fs=>
  obtain⟨d,z,ne,e,mA,⟨od,es,ep,e2,c⟩,r⟩:=x;exact⟨ho _ d,z,ne,k _ _ (.inl rfl) e,mA,⟨od,es,ep,k _ _ (.inr d) e2,c⟩,r⟩
 |own y=>obtain⟨ob,e⟩:=x;exact⟨ob,k _ _ (.inl rfl) e⟩
 |xd fs=>obtain⟨mA,⟨od,es,ep,e,c⟩,r⟩:=x;exact⟨mA,⟨od,es,ep,k _ _ (.inl rfl) e,c⟩,r⟩
 |rng lo hi=>obtain⟨t,u,v,e⟩:=x;exact⟨t,u,v,k _ _ (.inl rfl) e⟩
 |frz ob u ih=>obtain⟨e,q⟩:=x;exact⟨k _ _ (.inl rfl) e,ih q⟩
 |tbl q=>
  obtain⟨ps,e,r⟩:=x;exact⟨ps,k a _ (.inl rfl) e,r.mono hz⟩
 |met f y=>
  have e:h.get? a=some (PySem.W.methodObj (.ref f) (.ref y)):=x;show h'.get? a=some (PySem.W.methodObj (.ref f) (.ref y));exact k a _ (.inl rfl) e
 |ext φ=>obtain⟨p,⟨o,e⟩,st⟩:=x;exact⟨st _ _ p λo q=>k _ _ (.inl rfl) q,⟨o,k _ _ (.inl rfl) e⟩,st⟩
theorem HOk.lt(x:HOk P w H h)(e:H a=some o):a<h.objs.size:=(x a o e).lt
theorem HOk.fresh(x:HOk P w H h)(e:h.objs.size≤a):H a=none:=by
 cases q:H a with
 |none=>rfl
 |some u=>exact absurd (kAp (x.lt q) e) (kAu _)
theorem HOk.kept(x:HOk P w H h)(k:∀b u,h.get? b=some u→h'.get? b=some u):HOk P w H h':=λa o e=>
 (x a o e).stay (λb u _ q=>k b u q) (λ_ q=>q) λ_ _ q=>q
theorem HOk.laid(x:HOk P w H h)(k:∀b u,h.get? b=some u→h'.get? b=some u)(hp:h.objs.size≤a)(new:ObjOk P w (upd H a o) h' a o):HOk P w (upd H a o) h':=λb u e=>by
 have hn:=x.fresh hp
 by_cases hb:b=a
 ·subst hb;rw[d8]at e;cases e;exact new
 ·rw[bu hb]at e;exact(x b u e).stay (λc v _ q=>k c v q) (λc q=>by rw[bu (d9 q hn)];exact q) (λc xs q=>by rw[bu (d9 q hn)];exact q) λc ob u q=>by rw[bu (d9 q hn)];exact q
end
def Rd(H:Hp)(a:Addr)(u:HO):Prop:=H a=some u∨∃o,H a=some (.frz o u)
theorem Rd.of{H:Hp}{a:Addr}{u:HO}(h:H a=some u):Rd H a u:=.inl h
theorem Rd.ok{P:Program}{w:World}{H:Hp}{h:Heap}{a:Addr}{u:HO}(r:Rd H a u)(x:HOk P w H h):ObjOk P w H h a u:=by
 rcases r with r|⟨o,r⟩
 ·exact x a u r
 ·obtain⟨_,q⟩:=x a _ r;exact q
noncomputable def Mut:Option HO→Prop
 |some (.lst _)=>True
 |some (.dK _)=>True
 |some (.dT _)=>True
 |some (.set _ _)=>True
 |some (.ins _ _ _)=>True
 |some (.ext _)=>True
 |_=>False
section
variable{P:Program}{w:World}{H:Hp}{h h':Heap}{x e:Addr}{o':HO}
theorem HOk.write(ok:HOk P w H h)(mu:Mut (H x))(he:e=x∨H e=some (.own x))(k:∀b u,b≠e→h.get? b=some u→h'.get? b=some u)(heo:∃u,h'.get? e=some u)
  (new:ObjOk P w (upd H x o') h' x o'):HOk P w (upd H x o') h':=λb u q=>by
 have nown:∀c y,H c=some (.own y)→c≠x:=λc y r z=>by subst z;rw[r]at mu;exact mu
 have ntup:∀c xs,H c=some (.tup xs)→c≠x:=λc xs r z=>by subst z;rw[r]at mu;exact mu
 have nfrz:∀c ob v,H c=some (.frz ob v)→c≠x:=λc ob v r z=>by subst z;rw[r]at mu;exact mu
 by_cases hb:b=x
 ·subst hb;rw[d8]at q;cases q;exact new
 ·rw[bu hb]at q
  by_cases hbe:b=e
  ·have q':H b=some (.own x):=by
    rcases he with z|z
    ·exact absurd (hbe.trans z) hb
    ·rw[hbe];exact z
   rw[q]at q';cases q';obtain⟨v,hv⟩:=heo;exact⟨v,by rw[hbe];exact hv⟩
  ·refine(ok b u q).stay (λc v hc r=>k c v ?_ r) (λc r=>by rw[bu (nown c b r)];exact r) (λc xs r=>by rw[bu (ntup c xs r)];exact r) λc ob v r=>by rw[bu (nfrz c ob v r)];exact r
   rcases hc with rfl|hc
   ·exact hbe
   ·rintro rfl
    rcases he with z|z
    ·exact nown c b hc z
    ·rw[hc]at z;cases z;exact hb rfl
end
structure Un(fs ex:List Addr)(H H':Hp)(h h':Heap):Prop where
 keep:∀b o,h.get? b=some o→H b=none→b∉fs→b∉ex→h'.get? b=some o
 slot:∀b o,h.get? b=some o→H b=none→b∈fs→b∉ex→∃sl,h'.get? b=some {o with slots:=sl}
 free:∀b o,h.get? b=some o→H b=none→b∉ex→H' b=none
 there:∀b o,h.get? b=some o→b∉ex→∃o',h'.get? b=some o'
 tups:∀b xs,H b=some (.tup xs)→H' b=some (.tup xs)
 frzs:∀b o u,H b=some (.frz o u)→H' b=some (.frz o u)
 tbls:∀b q,H b=some (.tbl q)→H' b=some (.tbl q)
section
variable{fs fs' ex ex':List Addr}{H H1 H2:Hp}{h h1 h2 h':Heap}{a x e:Addr}{o:HO}
theorem Un.any(u:Un fs ex H H1 h h1){b:Addr}{ob:Obj}(q:h.get? b=some ob)(n:H b=none)(hx:b∉ex):∃sl,h1.get? b=some {ob with slots:=sl}:=by
 by_cases hb:b∈fs
 ·exact u.slot b ob q n hb hx
 ·exact⟨ob.slots,u.keep b ob q n hb hx⟩
theorem Un.trans(a:Un fs ex H H1 h h1)(b:Un fs ex H1 H2 h1 h2):Un fs ex H H2 h h2 where
 keep:=λc ob q n hc hx=>b.keep c ob (a.keep c ob q n hc hx) (a.free c ob q n hx) hc hx
 slot:=λc ob q n hc hx=>by
  obtain⟨sl,e1⟩:=a.slot c ob q n hc hx;obtain⟨sl',e2⟩:=b.slot c _ e1 (a.free c ob q n hx) hc hx;exact⟨sl',e2⟩
 free:=λc ob q n hx=>by
  obtain⟨o',e1⟩:=a.there c ob q hx;exact b.free c o' e1 (a.free c ob q n hx) hx
 there:=λc ob q hx=>by
  obtain⟨o',e1⟩:=a.there c ob q hx;exact b.there c o' e1 hx
 tups:=λc xs q=>b.tups c xs (a.tups c xs q)
 frzs:=λc ob xs q=>b.frzs c ob xs (a.frzs c ob xs q)
 tbls:=λp q z=>b.tbls p q (a.tbls p q z)
theorem Un.kept(k:∀b u,h.get? b=some u→h'.get? b=some u):Un fs ex H H h h':=
 ⟨λb ob q _ _ _=>k b ob q,λb ob q _ _ _=>⟨ob.slots,k b ob q⟩,λ_ _ _ n _=>n,λb ob q _=>⟨ob,k b ob q⟩,λ_ _ q=>q,λ_ _ _ q=>q,λ_ _ q=>q⟩
theorem Un.refl:Un fs ex H H h h:=Un.kept λ_ _ q=>q
theorem Un.laid(k:∀b u,h.get? b=some u→h'.get? b=some u)(hp:h.objs.size≤a)(hn:H a=none):Un fs ex H (upd H a o) h h' where
 keep:=λb u q _ _ _=>k b u q
 slot:=λb u q _ _ _=>⟨u.slots,k b u q⟩
 free:=λb u q n _=>by rw[bu (kAd (kAp (Heap.lt_size q) hp))];exact n
 there:=λb u q _=>⟨u,k b u q⟩
 tups:=λb xs q=>by rw[bu (d9 q hn)];exact q
 frzs:=λb u xs q=>by rw[bu (d9 q hn)];exact q
 tbls:=λb _ q=>by rw[bu (d9 q hn)];exact q
theorem Un.write(mu:Mut (H x))(he:e=x∨H e=some (.own x))(k:∀b u,b≠e→h.get? b=some u→h'.get? b=some u)(heo:∃u,h'.get? e=some u):Un fs ex H (upd H x o) h h':=by
 have hx:∀b,H b=none→b≠x:=λb n z=>by subst z;rw[n]at mu;exact mu
 have hb:∀b,H b=none→b≠e:=λb n z=>by
  subst z;rcases he with r|r
  ·exact hx b n r
  ·rw[n]at r;cases r
 have hm:∀b u,H b=some u→¬Mut (some u)→b≠x:=λb u q nm z=>by subst z;rw[q]at mu;exact nm mu
 refine⟨λb u q n _ _=>k b u (hb b n) q,λb u q n _ _=>⟨u.slots,k b u (hb b n) q⟩,λb u q n _=>by rw[bu (hx b n)];exact n,λb u q _=>?_,
  λb xs q=>by rw[bu (hm b _ q λz=>z)];exact q,λb u xs q=>by rw[bu (hm b _ q λz=>z)];exact q,λb _ q=>by rw[bu (hm b _ q λz=>z)];exact q⟩
 by_cases hbe:b=e
 ·subst hbe;exact heo
 ·exact⟨u,k b u hbe q⟩
theorem Un.mono(u:Un fs ex H H1 h h1)(hs:∀b∈fs,b∈fs')(hx:∀b∈ex,b∈ex'):Un fs' ex' H H1 h h1:=
 ⟨λb ob q n hb he=>u.keep b ob q n (λz=>hb (hs b z)) λz=>he (hx b z),λ_ _ q n _ he=>u.any q n λz=>he (hx _ z),λb ob q n he=>u.free b ob q n λz=>he (hx b z),λb ob q he=>u.there b ob q λz=>he (hx b z),u.tups,u.frzs,u.tbls⟩
end
noncomputable def trk(h:Heap)(H:Hp):List Addr:=(kAj h.objs.size).filter λa=>(H a).isSome
noncomputable def Fo(h:Heap)(H:Hp):Heap:=PySem.W.hideAll h (trk h H)
theorem T8(h:Heap)(H:Hp):(Fo h H).objs.size=h.objs.size:=PySem.W.hideAll_size _ _
theorem Xi{h:Heap}{H:Hp}{b:Addr}{o:Obj}(e:h.get? b=some o)(n:H b=none):(Fo h H).get? b=some o:=
 PySem.W.hideAll_get _ e λhm=>by
  have q:(H b).isSome=true:=(List.mem_filter.mp hm).2;rw[n]at q;simp at q
theorem zck{h:Heap}{H:Hp}{b:Addr}{o:Obj}(e:(Fo h H).get? b=some o):h.get? b=some o∧H b=none:=by
 have e':h.get? b=some o:=PySem.W.of_hideAll (trk h H) e;refine⟨e',?_⟩;cases q:H b with
 |none=>rfl
 |some x=>
  have hm:b∈trk h H:=List.mem_filter.mpr ⟨List.mem_range.mpr (Heap.lt_size e'),by simp[q]⟩;have z:(Fo h H).get? b=none:=PySem.W.hideAll_none (trk h H) hm;rw[z]at e;cases e
noncomputable def zba(g h:Heap)(L:Addr):List (Addr×Obj):=(kAj h.objs.size).filterMap λa=>if a=L∨(g.get? a).isSome=true then none else(h.get? a).map λo=>(a,o)
noncomputable def ft(g h:Heap)(L d:Addr):List (Addr×Obj):=(zba g h L).filter λp=>decide (p.1≠d)
end L2
namespace L2
open PySem PySem.Spec PyProof.Rows
structure Mod(K:PySem.W.Frag)(mg:Str→Option Value)(base:Heap):Prop where
 kin:K.In base
 glob:base.Ns mainGlobals mg
 blt:∃mb,base.Ns builtinsNs mb∧∀x:Str,x≠"__name__"→mb x=bootBuiltins x
 nolimit:base.NoLimit
structure Cx where
 prog:Program
 w:World
 K:PySem.W.Frag
 mg:Str→Option Value
 base:Heap
 A:Around
 N:List Str
 s₀:Shared
 H₀:Hp
 env:Env
 outer:List Env
 stack:List Env
 ex:List Addr
 fn:Str→Bool
 calm:Bool
 pn:List (Addr×Obj)
 xe:Value→Shared→Prop
noncomputable def Bo(l:List Env):List Addr:=l.filterMap (·.frame)
noncomputable abbrev Cx.fs(X:Cx):List Addr:=Bo X.outer
def Vis(sc:Scope)(x:Str):Prop:=sc.names.lookup x=some .local∨sc.names.lookup x=some .cell∨sc.names.lookup x=some .free
def Loc(sc:Scope)(x:Str):Prop:=sc.names.lookup x=some .local∨sc.names.lookup x=some .cell
noncomputable def zol(env:Env)(h:Heap)(m:Str→Option Value)(x:Str)(u:Value):Prop:=
 (env.kindOf x=some .local∧m x=some u)∨((env.kindOf x=some .cell∨env.kindOf x=some .free)∧∃c,env.cells.lookup x=some c∧h.IsCell c (some u))
structure Cx.Ok(X:Cx):Prop where
 mod:Mod X.K X.mg X.base
 kind:X.env.scope.kind=.function
 glob:X.env.globals=mainGlobals
 blt:X.env.builtins=builtinsNs
 above:X.s₀.heap.objs.size≤X.env.locals
 inj:∀x y c,X.env.cells.lookup x=some c→X.env.cells.lookup y=some c→x=y
 has:∀x,(X.env.kindOf x=some .cell∨X.env.kindOf x=some .free)→∃c,X.env.cells.lookup x=some c
 cab:∀x c,X.fn x=true→X.env.cells.lookup x=some c→X.s₀.heap.objs.size≤c
 hd:X.calm=true→X.A.handled=none
 frames:X.A.frames=some X.stack
 stk:X.stack=X.outer∨(X.stack=X.env::X.outer∧X.env.frame=some X.env.locals)
 exf:∀b∈X.ex,b≠X.env.locals∧∀x c,X.env.cells.lookup x=some c→c≠b
 bs:∀b o,X.base.get? b=some o→X.s₀.heap.get? b=some o∧X.H₀ b=none
 bsz:X.base.objs.size≤X.s₀.heap.objs.size
 noex:∀b o,X.base.get? b=some o→b∉X.ex
 exfs:∀b∈X.ex,b∉X.fs
 funs:X.s₀.heap.FunFrames X.base X.outer
 frf:∀b∈X.fs,X.H₀ b=none
structure Inv(X:Cx)(pins:List (Addr×Obj))(σ:List (Option V))(H:Hp)(s:Shared):Prop where
 ok:X.Ok
 os:s.os=X.s₀.os
 bare:AllBare s.gens
 base:Un X.fs X.ex X.H₀ H X.s₀.heap s.heap
 loc:∃m,s.heap.Ns X.env.locals m∧∀(i:Nat)(x:Str)(v:V),X.N[i]?=some x→σ[i]?=some (some v)→Vis X.env.scope x→∃u,RelV v u∧zol X.env s.heap m x u
 cell:∀x c,X.env.cells.lookup x=some c→∃v,s.heap.IsCell c v
 free:H X.env.locals=none
 freeC:∀x c,X.env.cells.lookup x=some c→H c=none∨(X.fn x=false∧∃o,H c=some (.frz o (.own 0)))
 pin:∀p∈X.pn++pins,s.heap.get? p.1=some p.2∧H p.1=none∧p.1≠X.env.locals∧p.1∉X.fs∧∀v,p.2.data≠.cell v
 hok:HOk X.prog X.w H s.heap
 len:σ.length=X.N.length
section
variable{X:Cx}{pins:List (Addr×Obj)}{σ:List (Option V)}{H H':Hp}{s:Shared}{h':Heap}
theorem Cx.Ok.nofr(ok:X.Ok){b:Addr}{o:Obj}(e:X.base.get? b=some o):b∉X.fs:=λhb=>by
 have:=(ok.funs.mem hb).1;rw[e]at this;cases this
theorem Inv.bs(I:Inv X pins σ H s):∀b o,X.base.get? b=some o→s.heap.get? b=some o∧H b=none:=λb o e=>
 ⟨I.base.keep b o (I.ok.bs b o e).1 (I.ok.bs b o e).2 (I.ok.nofr e) (I.ok.noex b o e),I.base.free b o (I.ok.bs b o e).1 (I.ok.bs b o e).2 (I.ok.noex b o e)⟩
theorem Inv.bk(I:Inv X pins σ H s):∀b o,X.base.get? b=some o→s.heap.get? b=some o:=λb o e=>(I.bs b o e).1
theorem Inv.mod(I:Inv X pins σ H s):Mod X.K X.mg X.base:=I.ok.mod
theorem Inv.kIn(I:Inv X pins σ H s):X.K.In s.heap:=I.ok.mod.kin.keeps I.bk
theorem Inv.nolimit(I:Inv X pins σ H s):s.heap.NoLimit:=I.ok.mod.nolimit.keeps I.bk
theorem Inv.fr(I:Inv X pins σ H s):∃m,Fr X.base X.env.locals s.heap m:=
 let ⟨m,hn,_⟩:=I.loc
 ⟨m,hn,I.bk,kAk I.ok.bsz I.ok.above⟩
theorem Inv.lt(I:Inv X pins σ H s):X.env.locals<s.heap.objs.size:=let ⟨_,hn,_⟩:=I.loc;hn.lt
theorem Inv.sz(I:Inv X pins σ H s):X.s₀.heap.objs.size≤s.heap.objs.size:=kAk I.ok.above (Nat.le_of_lt I.lt)
theorem Inv.nofs(I:Inv X pins σ H s){a:Addr}(h:s.heap.objs.size≤a):a∉X.fs:=λhb=>by
 obtain⟨_,o,ho,_⟩:=I.ok.funs.mem hb;exact absurd (kAp (Heap.lt_size ho) (kAk I.sz h)) (kAu _)
theorem Inv.cne(I:Inv X pins σ H s):∀x c,X.env.cells.lookup x=some c→c≠X.env.locals:=λx c e z=>by
 obtain⟨v,o,ho,hd⟩:=I.cell x c e;obtain⟨m,⟨o',es,ep,ho',hd',_⟩,_⟩:=I.loc;rw[z,ho']at ho;cases ho;rw[hd']at hd;cases hd
theorem Inv.funs(I:Inv X pins σ H s):s.heap.FunFrames X.base X.outer:=by
 have all:∀(l:List Env),(∀b∈Bo l,b∈X.fs)→X.s₀.heap.FunFrames X.base l→s.heap.FunFrames X.base l:=by
  intro l;induction l with
  |nil=>intro _ _;trivial
  |cons env r ih=>
   intro hs hl;obtain⟨hk,⟨L,o,hf,hn,ho,hd⟩,hr⟩:=hl;have hL:L∈X.fs:=hs L (by unfold Bo;rw[kB1,hf];exact kA6);obtain⟨sl,e⟩:=I.base.slot L o ho (I.ok.frf L hL) hL λz=>I.ok.exfs L z hL;exact⟨hk,⟨L,_,hf,hn,e,hd⟩,ih (λb hb=>hs b (by unfold Bo;rw[kB1,hf];exact kA7 _ hb)) hr⟩
 exact all X.outer (λ_ hb=>hb) I.ok.funs
theorem Inv.stack(I:Inv X pins σ H s):s.heap.FunFrames X.base X.stack:=by
 rcases I.ok.stk with e|⟨e,hf⟩
 ·rw[e];exact I.funs
 ·rw[e];obtain⟨m,hn,_⟩:=I.loc;refine .cons (by rw[I.ok.kind];decide) hf hn ?_ I.funs;exact Heap.get?_none_of_le (kAk I.ok.bsz I.ok.above)
theorem Inv.stkSub(I:Inv X pins σ H s):∀b∈Bo X.stack,b∈X.env.locals::X.fs:=λb hb=>by
 rcases I.ok.stk with e|⟨e,hf⟩
 ·rw[e]at hb;exact kA7 _ hb
 ·rw[e]at hb;unfold Bo at hb;rw[kB1,hf]at hb;exact hb
theorem Inv.stkFree(I:Inv X pins σ H s):∀b∈Bo X.stack,H b=none:=λb hb=>by
 rcases kA8.mp (I.stkSub b hb)with e|hb
 ·rw[e];exact I.free
 ·obtain⟨_,o,ho,_⟩:=I.ok.funs.mem hb;exact I.base.free b o ho (I.ok.frf b hb) λz=>I.ok.exfs b z hb
theorem Inv.step{g':Array GenState}{t':Nat}{d':Drawn}{ch:List Addr}(I:Inv X pins σ H s)
  (hch:∀b∈ch,(b∈X.ex∨X.s₀.heap.objs.size≤b)∧b≠X.env.locals∧(∀x c,X.env.cells.lookup x=some c→c≠b)∧∀p∈X.pn++pins,p.1≠b)
  (keep:∀b o,b≠X.env.locals→b∉X.fs→b∉ch→s.heap.get? b=some o→H b=none→h'.get? b=some o)
  (slot:∀b o,b≠X.env.locals→b∈X.fs→b∉ch→s.heap.get? b=some o→H b=none→∃sl,h'.get? b=some {o with slots:=sl}) (free:∀b o,b∉ch→s.heap.get? b=some o→H b=none→H' b=none)
  (there:∀b o,b∉ch→s.heap.get? b=some o→∃o',h'.get? b=some o')
  (tups:∀b xs,H b=some (.tup xs)→H' b=some (.tup xs)) (frzs:∀b o u,H b=some (.frz o u)→H' b=some (.frz o u)) (tbls:∀b q,H b=some (.tbl q)→H' b=some (.tbl q))
  (ns:∀m,s.heap.Ns X.env.locals m→h'.Ns X.env.locals m) (hok:HOk X.prog X.w H' h') (hg:AllBare g'):
  Inv X pins σ H' {s with heap:=h',gens:=g',drawn:=d',toks:=t'}:=by
 have neL:∀b o,X.s₀.heap.get? b=some o→b≠X.env.locals:=λb o e=>kAd (kAp (Heap.lt_size e) I.ok.above);have neC:∀b o,X.s₀.heap.get? b=some o→b∉X.ex→b∉ch:=λb o e hx hb=>by
  rcases(hch b hb).1 with z|z
  ·exact hx z
  ·exact absurd (kAp (Heap.lt_size e) z) (kAu _)
 have cellK:∀x c,X.env.cells.lookup x=some c→∀v,s.heap.IsCell c v→h'.IsCell c v:=λx c e v ⟨o,ho,hd⟩=>by
  have nch:c∉ch:=λz=>(hch c z).2.2.1 x c e rfl;rcases I.freeC x c e with fr|⟨_,ob,fr⟩
  ·by_cases hc:c∈X.fs
   ·obtain⟨sl,q⟩:=slot c o (I.cne x c e) hc nch ho fr;exact⟨_,q,hd⟩
   ·exact⟨o,keep c o (I.cne x c e) hc nch ho fr,hd⟩
  ·obtain⟨q1,_⟩:=I.hok c _ fr;obtain⟨q2,_⟩:=hok c _ (frzs c ob _ fr);rw[ho]at q1;cases q1;exact⟨o,q2,hd⟩
 refine⟨I.ok,I.os,hg,⟨λb o e n hb hx=>?_,λb o e n hb hx=>?_,λb o e n hx=>?_,λb o e hx=>?_,λb xs e=>tups b xs (I.base.tups b xs e),λb o xs e=>frzs b o xs (I.base.frzs b o xs e),λb q e=>tbls b q (I.base.tbls b q e)⟩,?_,λx c e=>?_,?_,λx c e=>?_,λp hp=>?_,hok,I.len⟩
 ·exact keep b o (neL b o e) hb (neC b o e hx) (I.base.keep b o e n hb hx) (I.base.free b o e n hx)
 ·obtain⟨sl,e1⟩:=I.base.slot b o e n hb hx;obtain⟨sl',e2⟩:=slot b _ (neL b o e) hb (neC b o e hx) e1 (I.base.free b o e n hx);exact⟨sl',e2⟩
 ·obtain⟨o',e1⟩:=I.base.there b o e hx;exact free b o' (neC b o e hx) e1 (I.base.free b o e n hx)
 ·obtain⟨o',e1⟩:=I.base.there b o e hx;exact there b o' (neC b o e hx) e1
 ·obtain⟨m,hn,hl⟩:=I.loc;refine⟨m,ns m hn,λi x v e1 e2 e3=>?_⟩;obtain⟨u,r,l⟩:=hl i x v e1 e2 e3;refine⟨u,r,?_⟩;rcases l with l|⟨k,c,e,z⟩
  ·exact .inl l
  ·exact .inr ⟨k,c,e,cellK x c e _ z⟩
 ·obtain⟨v,z⟩:=I.cell x c e;exact⟨v,cellK x c e v z⟩
 ·obtain⟨m,⟨o,_,_,ho,_⟩,_⟩:=I.loc;exact free _ o (λz=>(hch _ z).2.1 rfl) ho I.free
 ·obtain⟨v,o,ho,hd⟩:=I.cell x c e;rcases I.freeC x c e with fr|⟨hf,ob,fr⟩
  ·exact .inl (free c o (λz=>(hch c z).2.2.1 x c e rfl) ho fr)
  ·exact .inr ⟨hf,ob,frzs c ob _ fr⟩
 ·obtain⟨e,n,ne,nf,d⟩:=I.pin p hp;have nch:p.1∉ch:=λz=>(hch p.1 z).2.2.2 p hp rfl;exact⟨keep p.1 p.2 ne nf nch e n,free p.1 p.2 nch e n,ne,nf,d⟩
theorem Inv.un{t':Nat}(I:Inv X pins σ H s)(u:Un X.fs [] H H' s.heap h')(hok:HOk X.prog X.w H' h'):Inv X pins σ H' {s with heap:=h',toks:=t'}:=by
 obtain⟨m,⟨o,es,ep,ho,r⟩,_⟩:=id I.loc;obtain⟨sl,hL⟩:=u.any ho I.free (by simp);exact I.step (g':=s.gens) (d':=s.drawn) (ch:=[]) (λ_ z=>nomatch z) (λb o _ hb _ e n=>u.keep b o e n hb (by simp)) (λb o _ hb _ e n=>u.slot b o e n hb (by simp)) (λb o _ e n=>u.free b o e n (by simp)) (λb o _ e=>u.there b o e (by simp)) u.tups u.frzs u.tbls (λm' hm=>by
  obtain⟨o',es',ep',ho',r'⟩:=hm;rw[ho]at ho';cases ho';exact⟨_,es',ep',hL,r'⟩) hok I.bare
theorem Inv.call{g':Array GenState}{t':Nat}{d':Drawn}{ch:List Addr}(I:Inv X pins σ H s)(u:Un (Bo X.stack) ch H H' s.heap h')(hok:HOk X.prog X.w H' h')(hg:AllBare g')
  (hch:∀b∈ch,(b∈X.ex∨X.s₀.heap.objs.size≤b)∧b≠X.env.locals∧(∀x c,X.env.cells.lookup x=some c→c≠b)∧∀p∈X.pn++pins,p.1≠b):
  Inv X pins σ H' {s with heap:=h',gens:=g',drawn:=d',toks:=t'}:=by
 obtain⟨m,⟨o,es,ep,ho,r⟩,_⟩:=id I.loc;obtain⟨sl,hL⟩:=u.any ho I.free λz=>(hch _ z).2.1 rfl;exact I.step (ch:=ch) hch (λb o hL hb hc e n=>u.keep b o e n (λz=>(kA8.mp (I.stkSub b z)).elim hL hb) hc) (λb o _ _ hc e n=>u.any e n hc) (λb o hc e n=>u.free b o e n hc) (λb o hc e=>u.there b o e hc) u.tups u.frzs u.tbls (λm' hm=>by
  obtain⟨o',es',ep',ho',r'⟩:=hm;rw[ho]at ho';cases ho';exact⟨_,es',ep',hL,r'⟩) hok hg
theorem Inv.turned{t':Nat}{it:Addr}(I:Inv X pins σ H s)(k:∀b o,b≠it→s.heap.get? b=some o→h'.get? b=some o)(hn:H it=none)(hL:it≠X.env.locals)
  (h1:it∈X.ex∨X.s₀.heap.objs.size≤it)(h2:∀x c,X.env.cells.lookup x=some c→c≠it)(h3:∀p∈X.pn++pins,p.1≠it):Inv X pins σ H {s with heap:=h',toks:=t'}:=by
 have nit:∀b u,H b=some u→b≠it:=λb u e z=>by rw[z,hn]at e;cases e
 refine I.step (g':=s.gens) (d':=s.drawn) (ch:=[it]) (λb hb=>?_) (λb o _ _ hc e _=>k b o (λz=>hc (by simp[z])) e) (λb o _ _ hc e _=>⟨o.slots,k b o (λz=>hc (by simp[z])) e⟩) (λ_ _ _ _ n=>n)
  (λb o hc e=>⟨o,k b o (λz=>hc (by simp[z])) e⟩) (λ_ _ e=>e) (λ_ _ _ e=>e) (λ_ _ e=>e) (λm hm=>?_) (λb u e=>?_) I.bare
 ·have e:b=it:=by simpa using hb
  subst e;exact⟨h1,hL,h2,h3⟩
 ·obtain⟨o,es,ep,ho,r⟩:=hm;exact⟨o,es,ep,k _ o (Ne.symm hL) ho,r⟩
 ·refine(I.hok b u e).stay (λc v hc q=>k c v ?_ q) (λ_ q=>q) λ_ _ q=>q;rcases hc with z|z
  ·rw[z];exact nit b u e
  ·exact nit c _ z
theorem Inv.tok(I:Inv X pins σ H s)(t:Nat):Inv X pins σ H {s with toks:=t}:=I.un (h':=s.heap) (t':=t) Un.refl I.hok
theorem Inv.kept{t':Nat}(I:Inv X pins σ H s)(k:∀b u,s.heap.get? b=some u→h'.get? b=some u):Inv X pins σ H {s with heap:=h',toks:=t'}:=I.un (Un.kept k) (I.hok.kept k)
theorem Inv.laid{a:Addr}{o:HO}{t':Nat}(I:Inv X pins σ H s)(k:∀b u,s.heap.get? b=some u→h'.get? b=some u)(hp:s.heap.objs.size≤a)(new:ObjOk X.prog X.w (upd H a o) h' a o):
  Inv X pins σ (upd H a o) {s with heap:=h',toks:=t'}:=I.un (Un.laid k hp (I.hok.fresh hp)) (I.hok.laid k hp new)
theorem Inv.write{x e:Addr}{o:HO}{t':Nat}(I:Inv X pins σ H s)(mu:Mut (H x))(he:e=x∨H e=some (.own x))(k:∀b u,b≠e→s.heap.get? b=some u→h'.get? b=some u)(heo:∃u,h'.get? e=some u)
  (new:ObjOk X.prog X.w (upd H x o) h' x o):Inv X pins σ (upd H x o) {s with heap:=h',toks:=t'}:=I.un (Un.write mu he k heo) (I.hok.write mu he k heo new)
theorem Inv.pins_of{pins':List (Addr×Obj)}(I:Inv X pins σ H s)(h:∀p∈pins',s.heap.get? p.1=some p.2∧H p.1=none∧p.1≠X.env.locals∧p.1∉X.fs∧∀v,p.2.data≠.cell v):Inv X pins' σ H s:=
 ⟨I.ok,I.os,I.bare,I.base,I.loc,I.cell,I.free,I.freeC,λp hp=>(List.mem_append.mp hp).elim (λz=>I.pin p (List.mem_append_left _ z)) (h p),I.hok,I.len⟩
theorem Mp{N:List Str}(hN:N.Nodup){i j:Nat}{x:Str}(a:N[i]?=some x)(b:N[j]?=some x):i=j:=by
 obtain⟨h1,e1⟩:=kAq.mp a;obtain⟨h2,e2⟩:=kAq.mp b;exact(List.getElem_inj hN).mp (e1.trans e2.symm)
theorem Hk{M:Model}{A:Around}{E:Value→Shared→Prop}{i:Nat}{x:Str}{v:V}{u:Value}{Q:Unit→Shared→Prop}(I:Inv X pins σ H s)(hN:X.N.Nodup)(hi:X.N[i]?=some x)(hx:Loc X.env.scope x)(r:RelV v u)
  (h:∀s',Inv X pins (σ.set i (some v)) H s'→(∃a,Heap.SameBut a s.heap s'.heap∧(a=X.env.locals∨X.env.cells.lookup x=some a))→Q () s')(hf:X.fn x=true∨X.env.scope.names.lookup x=some .local:=by first|exact .inl rfl|exact .inr rfl|assumption):wpAny M A (storeName X.env x u) Q E s:=by
 obtain⟨m,hn,hl⟩:=id I.loc;have hcls:(X.env.scope.kind==.class||(X.env.scope.kind==.module && X.env.locals !=X.env.globals))=false:=by rw[I.ok.kind];rfl
 have hiσ:i<σ.length:=by rw[I.len];exact(kAq.mp hi).1
 have cne:=I.cne;have tracked:∀{a:Addr}{h':Heap},(∃o,s.heap.get? a=some o∧H a=none)→Heap.SameBut a s.heap h'→HOk X.prog X.w H h':=λ{a h'} ha hs b ob e=>by
  obtain⟨_,_,hfree⟩:=ha;refine(I.hok b ob e).stay (λc w' hc q=>(hs.2 c ?_).trans q) (λ_ q=>q) λ_ _ q=>q
  rintro rfl
  rcases hc with rfl|hc
  ·rw[hfree]at e;cases e
  ·rw[hfree]at hc;cases hc
 rcases hx with hk|hk
 ·refine wpAny_storeName_local hk hn (λh' hn' hs=>?_) hcls;obtain⟨oL,_,_,hoL,_⟩:=id hn;refine h _ ⟨I.ok,I.os,I.bare,⟨λb o e n hb hx=>?_,λb o e n hb hx=>?_,I.base.free,λb o e hx=>?_,I.base.tups,I.base.frzs,I.base.tbls⟩,⟨_,hn',λj y v' e1 e2 e3=>?_⟩,λy c e=>?_,I.free,I.freeC,λp hp=>?_,tracked ⟨oL,hoL,I.free⟩ hs,by simpa using I.len⟩ ⟨_,hs,.inl rfl⟩
  ·exact(hs.2 b (kAd (kAp (Heap.lt_size e) I.ok.above))).trans (I.base.keep b o e n hb hx)
  ·obtain⟨sl,e1⟩:=I.base.slot b o e n hb hx;exact⟨sl,(hs.2 b (kAd (kAp (Heap.lt_size e) I.ok.above))).trans e1⟩
  ·obtain⟨o',e1⟩:=I.base.there b o e hx;exact⟨o',(hs.2 b (kAd (kAp (Heap.lt_size e) I.ok.above))).trans e1⟩
  ·by_cases hj:j=i
   ·subst hj;rw[hi]at e1;cases e1;rw[kAg hiσ]at e2;cases e2;exact⟨u,r,.inl ⟨hk,by simp⟩⟩
   ·rw[kAe (Ne.symm hj)]at e2;obtain⟨u',r',q⟩:=hl j y v' e1 e2 e3;refine⟨u',r',?_⟩;rcases q with ⟨k,e⟩|⟨k,c,e,z⟩
    ·refine .inl ⟨k,?_⟩;have:y≠x:=λe=>hj (Mp hN e1 (e▸hi));simp[this,e]
    ·exact .inr ⟨k,c,e,z.sameBut hs (cne y c e)⟩
  ·obtain⟨w',z⟩:=I.cell y c e;exact⟨w',z.sameBut hs (cne y c e)⟩
  ·obtain⟨e,n,ne,nf,d⟩:=I.pin p hp;exact⟨(hs.2 p.1 ne).trans e,n,ne,nf,d⟩
 ·have hfn:X.fn x=true:=by
   rcases hf with z|z
   ·exact z
   ·rw[z]at hk;cases hk
  obtain⟨c,hc⟩:=I.ok.has x (.inl hk);obtain⟨w',z⟩:=I.cell x c hc;refine wpAny_storeName_cell I.ok.kind hk hc z (λh' hc' hs=>?_);obtain⟨oc,hoc,hocd⟩:=id z;have hfr:H c=none:=(I.freeC x c hc).elim (λz=>z) λz=>by rw[hfn]at z;exact absurd z.1 (by decide)
  refine h {s with heap:=h'} ⟨I.ok,I.os,I.bare,⟨λb o e n hb hx=>?_,λb o e n hb hx=>?_,I.base.free,λb o e hx=>?_,I.base.tups,I.base.frzs,I.base.tbls⟩,⟨m,hn.sameBut hs (Ne.symm (cne x c hc)),λj y v' e1 e2 e3=>?_⟩,λy c' e=>?_,I.free,I.freeC,λp hp=>?_,tracked ⟨oc,hoc,hfr⟩ hs,by simpa using I.len⟩ ⟨c,hs,.inr hc⟩
  ·exact(hs.2 b (kAd (kAp (Heap.lt_size e) (I.ok.cab x c hfn hc)))).trans (I.base.keep b o e n hb hx)
  ·obtain⟨sl,e1⟩:=I.base.slot b o e n hb hx;exact⟨sl,(hs.2 b (kAd (kAp (Heap.lt_size e) (I.ok.cab x c hfn hc)))).trans e1⟩
  ·obtain⟨o',e1⟩:=I.base.there b o e hx;exact⟨o',(hs.2 b (kAd (kAp (Heap.lt_size e) (I.ok.cab x c hfn hc)))).trans e1⟩
  ·by_cases hj:j=i
   ·subst hj;rw[hi]at e1;cases e1;rw[kAg hiσ]at e2;cases e2;exact⟨u,r,.inr ⟨.inl hk,c,hc,hc'⟩⟩
   ·rw[kAe (Ne.symm hj)]at e2;obtain⟨u',r',q⟩:=hl j y v' e1 e2 e3;refine⟨u',r',?_⟩;rcases q with q|⟨k,c',e,z'⟩
    ·exact .inl q
    ·refine .inr ⟨k,c',e,z'.sameBut hs ?_⟩
     rintro rfl
     exact hj (Mp hN e1 (I.ok.inj _ _ _ e hc▸hi))
  ·by_cases hcc:c'=c
   ·subst hcc;exact⟨_,hc'⟩
   ·obtain⟨w2,z2⟩:=I.cell y c' e;exact⟨w2,z2.sameBut hs hcc⟩
  ·obtain⟨e,n,ne,nf,d⟩:=I.pin p hp;refine⟨(hs.2 p.1 ?_).trans e,n,ne,nf,d⟩;intro q;rw[q,hoc]at e;have q':oc=p.2:=kAi.inj e;exact d w' (by rw[←q'];exact hocd)
theorem yw{M:Model}{A:Around}{E:Value→Shared→Prop}{i:Nat}{x:Str}{v:V}{u:Value}{Q:Unit→Shared→Prop}(I:Inv X pins σ H s)(hN:X.N.Nodup)(hi:X.N[i]?=some x)(hx:Loc X.env.scope x)(r:RelV v u)
  (h:∀s',Inv X pins (σ.set i (some v)) H s'→Q () s')(hf:X.fn x=true∨X.env.scope.names.lookup x=some .local:=by first|exact .inl rfl|exact .inr rfl|assumption):wpAny M A (storeName X.env x u) Q E s:=
 Hk I hN hi hx r (λs' I' _=>h s' I') hf
theorem Inv.call'{s':Shared}{ch:List Addr}(I:Inv X pins σ H s)(ho:s'.os=s.os)(u:Un (Bo X.stack) ch H H' s.heap s'.heap)(hok:HOk X.prog X.w H' s'.heap)(hg:AllBare s'.gens)
  (hch:∀b∈ch,(b∈X.ex∨X.s₀.heap.objs.size≤b)∧b≠X.env.locals∧(∀x c,X.env.cells.lookup x=some c→c≠b)∧∀p∈X.pn++pins,p.1≠b):Inv X pins σ H' s':=by
 obtain⟨h',g',d',t',o'⟩:=s';have e:o'=s.os:=ho;subst e;exact I.call (g':=g') (t':=t') (d':=d') u hok hg hch
end
noncomputable abbrev XK:=Value→Option Addr→Hp→Prop
noncomputable abbrev St:=List (Option V)
noncomputable abbrev VK:=V→Hp→Prop
noncomputable abbrev TE:=St→Hp→VK→Prop
noncomputable abbrev TT:=St→Hp→(Bool→Hp→Prop)→Prop
noncomputable abbrev TA:=St→Hp→(List V→Hp→Prop)→Prop
structure Ends where
 nx:St→Hp→Prop
 rt:VK
 bk:St→Hp→Prop:=λ_ _=>False
 ct:St→Hp→Prop:=λ_ _=>False
noncomputable abbrev TS:=Ends→St→Hp→Prop
def EP(X:Cx)(pins:List (Addr×Obj))(σ:St)(Q:VK)(u:Value)(s':Shared):Prop:=∃v H',Inv X pins σ H' s'∧RelV v u∧Q v H'
def TP(X:Cx)(pins:List (Addr×Obj))(σ:St)(Q:Bool→Hp→Prop)(b:Bool)(s':Shared):Prop:=∃H',Inv X pins σ H' s'∧Q b H'
def AP(X:Cx)(pins:List (Addr×Obj))(σ:St)(Q:List V→Hp→Prop)(us:List Value)(s':Shared):Prop:=∃vs H',Inv X pins σ H' s'∧Vals vs us∧Q vs H'
noncomputable def SP(X:Cx)(pins:List (Addr×Obj))(D:Ends)(f:Flow)(s':Shared):Prop:=
 match f with
 |.next=>∃σ' H',Inv X pins σ' H' s'∧D.nx σ' H'
 |.brk=>∃σ' H',Inv X pins σ' H' s'∧D.bk σ' H'
 |.cont=>∃σ' H',Inv X pins σ' H' s'∧D.ct σ' H'
 |.ret u=>∃v σ' H',Inv X pins σ' H' s'∧RelV v u∧D.rt v H'
noncomputable def PE(X:Cx)(e:Expr)(t:TE):Prop:=
 ∀(pins:List (Addr×Obj))(s:Shared)(σ:St)(H:Hp)(Q:VK),Inv X pins σ H s→t σ H Q→wpAny (model X.prog X.w) X.A (eval e X.env) (EP X pins σ Q) X.xe s
noncomputable def PT(X:Cx)(e:Expr)(t:TT):Prop:=
 ∀(pins:List (Addr×Obj))(s:Shared)(σ:St)(H:Hp)(Q:Bool→Hp→Prop),Inv X pins σ H s→t σ H Q→wpAny (model X.prog X.w) X.A (isTrue e X.env (eval e X.env)) (TP X pins σ Q) X.xe s
noncomputable def PW(X:Cx)(e:Expr)(t:TT):Prop:=
 ∀(whole:Sem Value)(pins:List (Addr×Obj))(s:Shared)(σ:St)(H:Hp)(Q:Bool→Hp→Prop),Inv X pins σ H s→t σ H Q→wpAny (model X.prog X.w) X.A (isTrue e X.env whole) (TP X pins σ Q) X.xe s
theorem PW.pt{X:Cx}{e:Expr}{t:TT}(h:PW X e t):PT X e t:=h _
noncomputable def PA(X:Cx)(es:List Expr)(t:TA):Prop:=
 ∀(pos:Pos)(pins:List (Addr×Obj))(s:Shared)(σ:St)(H:Hp)(Q:List V→Hp→Prop),Inv X pins σ H s→t σ H Q→wpAny (model X.prog X.w) X.A (spliced (backTo pos (starEach es X.env))) (AP X pins σ Q) X.xe s
noncomputable def PS(X:Cx)(st:Stmt)(t:TS):Prop:=
 ∀(pins:List (Addr×Obj))(s:Shared)(σ:St)(H:Hp)(D:Ends),Inv X pins σ H s→t D σ H→wpAny (model X.prog X.w) X.A (exec st X.env) (SP X pins D) X.xe s
noncomputable def PSs(X:Cx)(st:List Stmt)(t:TS):Prop:=
 ∀(pins:List (Addr×Obj))(s:Shared)(σ:St)(H:Hp)(D:Ends),Inv X pins σ H s→t D σ H→wpAny (model X.prog X.w) X.A (execs st X.env) (SP X pins D) X.xe s
theorem kc{α:Type}{t:Sem α}{Q Q':α→Shared→Prop}{M:Model}{A:Around}{E:Value→Shared→Prop}{s:Shared}(h:wpAny M A t Q E s)(hQ:∀a s,Q a s→Q' a s):wpAny M A t Q' E s:=wpAny_mono h hQ λ_ _ x=>x
end L2
namespace L2
open PySem PySem.Spec PyProof.Rows
section
variable{X:Cx}
noncomputable def F7(i:Nat):TE:=λσ H Q=>∃v,σ[i]?=some (some v)∧Q v H
noncomputable def tC(v:V):TE:=λ_ H Q=>Q v H
theorem zh0{i:Nat}{x:Str}{pos:Pos}(hN:X.N[i]?=some x)(hv:Vis X.env.scope x)(hd:(x==("__debug__":Str))=false:=by decide)(hcd:(x==("__classdict__":Str))=false:=by decide):PE X (.Name x pos) (F7 i):=by
 intro pins s σ H Q I h;obtain⟨v,e,h⟩:=h;obtain⟨m,hn,hl⟩:=I.loc;obtain⟨u,r,l⟩:=hl i x v hN e hv;have fin:EP X pins σ Q u s:=⟨v,H,I,r,h⟩;rcases l with ⟨hk,hm⟩|⟨hk,c,hc,hcell⟩
 ·exact wpAny_Name (wpAny_loadName_local I.ok.kind hk hn hm fin) hd
 ·rcases hk with hk|hk
  ·exact wpAny_Name (wpAny_loadName_cell I.ok.kind hk hc hcell fin) hd
  ·exact wpAny_Name (wpAny_loadName_free I.ok.kind hk hc hcell fin hcd) hd
theorem Yw{i j pos}:PE X (.Constant (.int i) j pos) (tC (.int i)):=λ_ _ _ H _ I h=>wpAny_Constant_int ⟨.int i,H,I.tok _,⟨_,rfl⟩,h⟩
theorem zfe{b j pos}:PE X (.Constant (.bool b) j pos) (tC (.bl b)):=λ_ _ _ H _ I h=>Constant_bool ⟨.bl b,H,I,rfl,h⟩
theorem zhv{j pos}:PE X (.Constant .none j pos) (tC .non):=λ_ _ _ H _ I h=>Constant_none ⟨.non,H,I,rfl,h⟩
theorem zhy{x j pos}:PE X (.Constant (.str x) j pos) (tC (.str x)):=λ_ _ _ H _ I h=>Calls.Constant_str ⟨.str x,H,I.tok _,⟨_,rfl⟩,h⟩
def Gl(X:Cx)(x:Str):Prop:=X.env.kindOf x=some .globalImplicit
theorem vq{E:Value→Shared→Prop}{pins:List (Addr×Obj)}{s:Shared}{σ:St}{H:Hp}{x:Str}{u:Value}{pos:Pos}{Q:Value→Shared→Prop}(I:Inv X pins σ H s)(hg:Gl X x)(hm:X.mg x=some u)(h:Q u s)
  (hd:(x==("__debug__":Str))=false:=by decide):wpAny (model X.prog X.w) X.A (eval (.Name x pos) X.env) Q E s:=
 Calls.Name_function_global I.ok.kind hg (Calls.loadGlobal_global (by rw[I.ok.glob];exact I.mod.glob.keeps I.bk) hm h) hd
theorem xc{E:Value→Shared→Prop}{pins:List (Addr×Obj)}{s:Shared}{σ:St}{H:Hp}{x:Str}{u:Value}{pos:Pos}{Q:Value→Shared→Prop}(I:Inv X pins σ H s)(hg:Gl X x)(hm:X.mg x=none)(hv:bootBuiltins x=some u)(h:Q u s)
  (hn:x≠"__name__":=by decide)(hd:(x==("__debug__":Str))=false:=by decide):wpAny (model X.prog X.w) X.A (eval (.Name x pos) X.env) Q E s:=by
 obtain⟨mb,h1,h2⟩:=I.mod.blt;exact Calls.Name_function_global I.ok.kind hg (Calls.loadGlobal_builtin (by rw[I.ok.glob];exact I.mod.glob.keeps I.bk) hm (by rw[I.ok.blt];exact h1.keeps I.bk) ((h2 x hn).trans hv) h) hd
theorem Sb{x:Str}{v:V}{u:Value}{pos:Pos}(hg:Gl X x)(hm:X.mg x=some u)(r:RelV v u)(hd:(x==("__debug__":Str))=false:=by decide):PE X (.Name x pos) (tC v):=
 λ_ _ _ H _ I h=>vq I hg hm ⟨v,H,I,r,h⟩ hd
theorem zcv{x:Str}{v:V}{u:Value}{pos:Pos}(hg:Gl X x)(hm:X.mg x=none)(hv:bootBuiltins x=some u)(r:RelV v u)(hn:x≠"__name__":=by decide)(hd:(x==("__debug__":Str))=false:=by decide):PE X (.Name x pos) (tC v):=
 λ_ _ _ H _ I h=>xc I hg hm hv ⟨v,H,I,r,h⟩ hn hd
variable{a b:Expr}{ta tb:TE}{pos:Pos}
variable{tA tB':TT}{ft:List Expr}
noncomputable def zpa(t u:TT):TT:=λσ H Q=>t σ H λc H1=>if c=true then u σ H1 Q else Q false H1
noncomputable def tOr(t u:TT):TT:=λσ H Q=>t σ H λc H1=>if c=true then Q true H1 else u σ H1 Q
noncomputable def zpf(t:TT):TT:=λσ H Q=>t σ H λc H1=>Q (!c) H1
theorem zdk(ha:PT X a tA):PW X (.BoolOp .And [a] pos) tA:=by
 intro wh pins s σ H Q I h;refine isTrue_and (kc (ha pins s σ H Q I h) λc s1 e=>?_);cases c with
 |true=>exact isTrue_and_nil e
 |false=>exact e
theorem zis(ha:PT X a tA):PW X (.BoolOp .Or [a] pos) tA:=by
 intro wh pins s σ H Q I h;refine isTrue_or (kc (ha pins s σ H Q I h) λc s1 e=>?_);cases c with
 |false=>exact isTrue_or_nil e
 |true=>exact e
theorem ziq(ha:PT X a tA)(hb:PW X (.BoolOp .And (b::ft) pos) tB'):PW X (.BoolOp .And (a::b::ft) pos) (zpa tA tB'):=by
 intro wh pins s σ H Q I h;refine isTrue_and (kc (ha pins s σ H _ I h) λc s1 ⟨H1,I1,q1⟩=>?_);cases c with
 |true=>exact hb wh pins s1 σ H1 Q I1 q1
 |false=>exact⟨H1,I1,q1⟩
theorem zlu(ha:PT X a tA)(hb:PW X (.BoolOp .Or (b::ft) pos) tB'):PW X (.BoolOp .Or (a::b::ft) pos) (tOr tA tB'):=by
 intro wh pins s σ H Q I h;refine isTrue_or (kc (ha pins s σ H _ I h) λc s1 ⟨H1,I1,q1⟩=>?_);cases c with
 |true=>exact⟨H1,I1,q1⟩
 |false=>exact hb wh pins s1 σ H1 Q I1 q1
theorem zh7(ha:PT X a tA):PT X (.UnaryOp .Not a pos) (zpf tA):=by
 intro pins s σ H Q I h;exact isTrue_not (ha pins s σ H (λc H1=>Q (!c) H1) I h)
noncomputable def zmf(ta tb:TE):TE:=λσ H Q=>ta σ H λx H1=>∃c,x=.bl c∧if c=true then tb σ H1 Q else Q (.bl false) H1
noncomputable def zpg(ta tb:TE):TE:=λσ H Q=>ta σ H λx H1=>∃c,x=.bl c∧if c=true then Q (.bl true) H1 else tb σ H1 Q
noncomputable def zmi(ta:TE):TE:=λσ H Q=>ta σ H λx H1=>∃c,x=.bl c∧Q (.bl (!c)) H1
theorem zhx{op}{t:TE}(h:PE X a t):PE X (.BoolOp op [a] pos) t:=λpins s σ H Q I hw=>BoolOp_one (h pins s σ H Q I hw)
theorem zht(ha:PE X a ta)(hb:PE X (.BoolOp .And (b::ft) pos) tb):PE X (.BoolOp .And (a::b::ft) pos) (zmf ta tb):=by
 intro pins s σ H Q I h;refine BoolOp_and (kc (ha pins s σ H _ I h) λv s1 ⟨x,H1,I1,r1,q1⟩=>?_);obtain⟨c,rfl,q1⟩:=q1;cases r1;refine wpAny_truthy_bool ?_;cases c with
 |true=>exact hb pins s1 σ H1 Q I1 q1
 |false=>exact⟨.bl false,H1,I1,rfl,q1⟩
theorem zli(ha:PE X a ta)(hb:PE X (.BoolOp .Or (b::ft) pos) tb):PE X (.BoolOp .Or (a::b::ft) pos) (zpg ta tb):=by
 intro pins s σ H Q I h;refine BoolOp_or (kc (ha pins s σ H _ I h) λv s1 ⟨x,H1,I1,r1,q1⟩=>?_);obtain⟨c,rfl,q1⟩:=q1;cases r1;refine wpAny_truthy_bool ?_;cases c with
 |false=>exact hb pins s1 σ H1 Q I1 q1
 |true=>exact⟨.bl true,H1,I1,rfl,q1⟩
theorem zhw(ha:PE X a ta):PE X (.UnaryOp .Not a pos) (zmi ta):=by
 intro pins s σ H Q I h;refine UnaryOp_ (kc (ha pins s σ H _ I h) λv s1 ⟨x,H1,I1,r1,q1⟩=>?_);obtain⟨c,rfl,q1⟩:=q1;cases r1;exact not_of (wpAny_truthy_bool ⟨.bl (!c),H1,I1,rfl,q1⟩)
noncomputable def tIf(t:TT)(ta tb:TE):TE:=λσ H Q=>t σ H λc H1=>if c=true then ta σ H1 Q else tb σ H1 Q
theorem M5{c:Expr}(hc:PT X c tA)(ha:PE X a ta)(hb:PE X b tb):PE X (.IfExp c a b pos) (tIf tA ta tb):=by
 intro pins s σ H Q I h;refine wpAny_IfExp (kc (hc pins s σ H _ I h) λd s1 ⟨H1,I1,q1⟩=>?_);cases d with
 |true=>exact ha pins s1 σ H1 Q I1 q1
 |false=>exact hb pins s1 σ H1 Q I1 q1
end
end L2
namespace L2
open PySem PySem.Spec PyProof.Rows
noncomputable def SqL(K:PySem.W.Frag)(H:Hp)(a:Addr)(xs:List V):Prop:=
 Rd H a (.lst xs)∨
  ∃(o:Obj) (its:Array Value) (n:Nat),K.lookup a=some o∧o.cls=.type "list"∧o.dict=none∧o.data=.seq its n∧its.size≤sizeLine∧Vals xs its.toList
noncomputable def SqT(K:PySem.W.Frag)(H:Hp)(a:Addr)(xs:List V):Prop:=
 Rd H a (.tup xs)∨
  ∃(o:Obj) (its:Array Value) (n:Nat),K.lookup a=some o∧o.cls=.type "tuple"∧o.data=.seq its n∧its.size≤sizeLine∧Vals xs its.toList
noncomputable def zon:Value→Option V
 |.none=>some .non
 |.bool b=>some (.bl b)
 |.int i _=>some (.int i)
 |.str x _=>some (.str x)
 |.bytes b _=>some (.byt b)
 |.float b _=>some (.flt b)
 |.ref a=>some (.ref a)
 |.type n=>some (.ty n)
 |_=>none
theorem RelV.abs{x:V}{u:Value}(r:RelV x u):zon u=some x:=by
 cases x with
 |non=>cases r;rfl
 |bl _=>cases r;rfl
 |int _=>obtain⟨t,rfl⟩:=r;rfl
 |str _=>obtain⟨t,rfl⟩:=r;rfl
 |byt _=>obtain⟨t,rfl⟩:=r;rfl
 |flt _=>obtain⟨t,rfl⟩:=r;rfl
 |ref _=>cases r;rfl
 |ty _=>cases r;rfl
theorem RelV.inj{x y:V}{u:Value}(r:RelV x u)(q:RelV y u):x=y:=kAi.inj (r.abs.symm.trans q.abs)
theorem Vals.inj:∀{xs ys:List V}{us:List Value},Vals xs us→Vals ys us→xs=ys
 |_,_,_,.nil,.nil=>rfl
 |_,_,_,.cons r t,.cons r' t'=>by rw[r.inj r',Vals.inj t t']
section
variable{X:Cx}{pins:List (Addr×Obj)}{σ:St}{H:Hp}{s:Shared}{a:Addr}{xs ys:List V}
theorem SqL.of{K:PySem.W.Frag}(h:H a=some (.lst xs)):SqL K H a xs:=.inl (.inl h)
theorem SqT.of{K:PySem.W.Frag}(h:H a=some (.tup xs)):SqT K H a xs:=.inl (.inl h)
theorem Inv.list(I:Inv X pins σ H s)(h:SqL X.K H a xs):∃its:List Value,Vals xs its∧PlainL s.heap a its.toArray∧xs.length≤sizeLine:=by
 rcases h with h|⟨o,its,n,hk,hc,hd,hs,hz,r⟩
 ·obtain⟨z,its,n,r,e⟩:=h.ok I.hok;exact⟨its,r,⟨_,n,e,rfl,rfl,rfl⟩,z⟩
 ·refine⟨its.toList,r,⟨o,n,I.kIn a o hk,hc,hd,by simpa using hs⟩,?_⟩;have e:=r.length;simp only[Array.length_toList]at e;omega
theorem Inv.tuple(I:Inv X pins σ H s)(h:SqT X.K H a xs):∃its:List Value,Vals xs its∧IsTup s.heap a its.toArray∧xs.length≤sizeLine:=by
 rcases h with h|⟨o,its,n,hk,hc,hs,hz,r⟩
 ·obtain⟨z,its,r,p⟩:=h.ok I.hok;exact⟨its,r,p,z⟩
 ·refine⟨its.toList,r,⟨o,I.kIn a o hk,hc,n,by simpa using hs⟩,?_⟩;have e:=r.length;simp only[Array.length_toList]at e;omega
theorem Inv.list_inj(I:Inv X pins σ H s)(h:SqL X.K H a xs)(h':SqL X.K H a ys):xs=ys:=by
 obtain⟨its,r,⟨o,n,e,_,_,d⟩,_⟩:=I.list h;obtain⟨its',r',⟨o',n',e',_,_,d'⟩,_⟩:=I.list h';rw[e]at e';cases e';rw[d]at d';injection d' with d1 _
 have:its=its':=by simpa using congrArg Array.toList d1
 subst this;exact r.inj r'
theorem Inv.tuple_inj(I:Inv X pins σ H s)(h:SqT X.K H a xs)(h':SqT X.K H a ys):xs=ys:=by
 obtain⟨its,r,⟨o,e,_,n,d⟩,_⟩:=I.tuple h;obtain⟨its',r',⟨o',e',_,n',d'⟩,_⟩:=I.tuple h';rw[e]at e';cases e';rw[d]at d';injection d' with d1 _
 have:its=its':=by simpa using congrArg Array.toList d1
 subst this;exact r.inj r'
end
noncomputable abbrev Cx.wish(X:Cx)(E:Value→Shared→Prop):Cx:={X with xe:=E}
noncomputable abbrev Cx.nox(X:Cx):Cx:=X.wish λ_ _=>False
theorem Cx.Ok.wish{X:Cx}(ok:X.Ok)(E:Value→Shared→Prop):(X.wish E).Ok:=
 ⟨ok.mod,ok.kind,ok.glob,ok.blt,ok.above,ok.inj,ok.has,ok.cab,ok.hd,ok.frames,ok.stk,ok.exf,ok.bs,ok.bsz,ok.noex,ok.exfs,ok.funs,ok.frf⟩
theorem Cx.Ok.unwish{X:Cx}{E:Value→Shared→Prop}(ok:(X.wish E).Ok):X.Ok:=
 ⟨ok.mod,ok.kind,ok.glob,ok.blt,ok.above,ok.inj,ok.has,ok.cab,ok.hd,ok.frames,ok.stk,ok.exf,ok.bs,ok.bsz,ok.noex,ok.exfs,ok.funs,ok.frf⟩
section
variable{X:Cx}{pins:List (Addr×Obj)}{σ:St}{H:Hp}{s:Shared}{E:Value→Shared→Prop}
theorem Inv.wish(I:Inv X pins σ H s)(E:Value→Shared→Prop):Inv (X.wish E) pins σ H s:=⟨I.ok.wish E,I.os,I.bare,I.base,I.loc,I.cell,I.free,I.freeC,I.pin,I.hok,I.len⟩
theorem Inv.unwish(I:Inv (X.wish E) pins σ H s):Inv X pins σ H s:=⟨I.ok.unwish,I.os,I.bare,I.base,I.loc,I.cell,I.free,I.freeC,I.pin,I.hok,I.len⟩
theorem SP.unwish{D:Ends}{f:Flow}{s':Shared}(h:SP (X.wish E) pins D f s'):SP X pins D f s':=by
 cases f with
 |next=>obtain⟨σ',H',I,q⟩:=h;exact⟨σ',H',I.unwish,q⟩
 |brk=>obtain⟨σ',H',I,q⟩:=h;exact⟨σ',H',I.unwish,q⟩
 |cont=>obtain⟨σ',H',I,q⟩:=h;exact⟨σ',H',I.unwish,q⟩
 |ret u=>obtain⟨v,σ',H',I,r,q⟩:=h;exact⟨v,σ',H',I.unwish,r,q⟩
theorem PE.nox{e:Expr}{t:TE}(h:PE X.nox e t):PE X e t:=λpins s σ H Q I hw=>
 wpAny_mono (h pins s σ H Q (I.wish _) hw) (λ_ _ ⟨v,H',I',r,q⟩=>⟨v,H',I'.unwish,r,q⟩) λ_ _ z=>False.elim z
theorem PT.nox{e:Expr}{t:TT}(h:PT X.nox e t):PT X e t:=λpins s σ H Q I hw=>
 wpAny_mono (h pins s σ H Q (I.wish _) hw) (λ_ _ ⟨H',I',q⟩=>⟨H',I'.unwish,q⟩) λ_ _ z=>False.elim z
theorem PSs.nox{st:List Stmt}{t:TS}(h:PSs X.nox st t):PSs X st t:=λpins s σ H D I hw=>
 wpAny_mono (h pins s σ H D (I.wish _) hw) (λ_ _ q=>q.unwish) λ_ _ z=>False.elim z
end
section
variable{X:Cx}{st:Stmt}{ft:List Stmt}{t u:TS}{e:Expr}{te:TE}{pos:Pos}
noncomputable def zfq:TS:=λD σ H=>D.nx σ H
noncomputable def zmm(t u:TS):TS:=λD σ H=>t {D with nx:=u D} σ H
theorem zc9:PSs X [] zfq:=λ_ _ σ H _ I h=>wpAny_execs_nil ⟨σ,H,I,h⟩
theorem Za(h1:PS X st t)(h2:PSs X ft u):PSs X (st::ft) (zmm t u):=by
 intro pins s σ H D I h;refine wpAny_execs_cons (kc (h1 pins s σ H {D with nx:=u D} I h) λf s1 q=>?_);cases f with
 |next=>
  obtain⟨σ',H',I',q⟩:=q;exact h2 pins s1 σ' H' D I' q
 |ret v=>exact q
 |brk=>exact q
 |cont=>exact q
theorem Sm(h1:PS X st t):PSs X [st] t:=by
 intro pins s σ H D I h;refine wpAny_execs_cons (kc (h1 pins s σ H D I h) λf s1 q=>?_);cases f with
 |next=>exact wpAny_execs_nil q
 |ret v=>exact q
 |brk=>exact q
 |cont=>exact q
theorem Inv.quiet{pins:List (Addr×Obj)}{σ:St}{H:Hp}{s:Shared}(I:Inv X pins σ H s):interactive X.env=false:=by simp[interactive,I.ok.kind]
theorem zh4{x j pos pos'}:PS X (.Expr (.Constant (.str x) j pos) pos') zfq:=λ_ s σ H _ I h=>wpAny_Expr (Calls.Constant_str (show SP X _ _ .next {s with toks:=s.toks+1}from⟨σ,H,I.tok _,h⟩)) I.quiet
noncomputable def zmh(te:TE):TS:=λD σ H=>te σ H λ_ H1=>D.nx σ H1
theorem Cd(he:PE X e te)(hs:swapsWith e none pos.line X.env=pure false:=by rfl):PS X (.Expr e pos) (zmh te):=by
 intro pins s σ H D I h;exact wpAny_Expr_any (kc (he pins s σ H _ I h) λv s1 ⟨x,H1,I1,r1,q1⟩=>⟨σ,H1,I1,q1⟩) I.quiet hs
noncomputable def zph(te:TE):TS:=λD σ H=>te σ H D.rt
theorem Y8(he:PE X e te):PS X (.Return (some e) pos) (zph te):=by
 intro pins s σ H D I h;exact wpAny_Return_some (kc (he pins s σ H _ I h) λv s1 ⟨x,H1,I1,r1,q1⟩=>⟨x,σ,H1,I1,r1,q1⟩)
noncomputable def zml:TS:=λD _ H=>D.rt .non H
theorem zc7:PS X (.Return none pos) zml:=λ_ _ σ H _ I h=>wpAny_Return_none ⟨.non,σ,H,I,rfl,h⟩
noncomputable def zpd(c:TT)(t u:TS):TS:=λD σ H=>c σ H λb H1=>if b=true then t D σ H1 else u D σ H1
theorem zff{c:Expr}{a b:List Stmt}{tc:TT}(hc:PT X c tc)(ha:PSs X a t)(hb:PSs X b u):PS X (.If c a b pos) (zpd tc t u):=by
 intro pins s σ H D I h;refine wpAny_If (kc (hc pins s σ H _ I h) λd s1 ⟨H1,I1,q1⟩=>?_);cases d with
 |true=>exact ha pins s1 σ H1 D I1 q1
 |false=>exact hb pins s1 σ H1 D I1 q1
end
noncomputable abbrev TG:=V→St→Hp→(St→Hp→Prop)→Prop
noncomputable abbrev TGs:=List V→St→Hp→(St→Hp→Prop)→Prop
noncomputable def PG(X:Cx)(target:Expr)(t:TG):Prop:=
 ∀(pins:List (Addr×Obj))(s:Shared)(σ:St)(H:Hp)(v:V)(u:Value)(Q:St→Hp→Prop),Inv X pins σ H s→RelV v u→t v σ H Q→
  wpAny (model X.prog X.w) X.A (assign target X.env u) (λ_ s'=>∃σ' H',Inv X pins σ' H' s'∧Q σ' H') X.xe s
noncomputable def PGs(X:Cx)(ts:List Expr)(t:TGs):Prop:=
 ∀(pins:List (Addr×Obj))(s:Shared)(σ:St)(H:Hp)(vs:List V)(us:List Value)(Q:St→Hp→Prop),Inv X pins σ H s→Vals vs us→t vs σ H Q→
  wpAny (model X.prog X.w) X.A (assignInOrder ((assignEach ts X.env).map (·.2)) us) (λ_ s'=>∃σ' H',Inv X pins σ' H' s'∧Q σ' H') X.xe s
noncomputable abbrev TIp:=V→V→Hp→VK→Prop
noncomputable def PIp(X:Cx)(op:Operator)(t:TIp):Prop:=
 ∀(pins:List (Addr×Obj))(s:Shared)(σ:St)(H:Hp)(x y:V)(v u:Value)(Q:VK),Inv X pins σ H s→RelV x v→RelV y u→t x y H Q→
  wpAny (model X.prog X.w) X.A (inplaceOp op v u) (EP X pins σ Q) X.xe s
section
variable{X:Cx}{pos:Pos}
noncomputable def ua(i:Nat):TG:=λv σ H Q=>Q (σ.set i (some v)) H
theorem Cb{i:Nat}{x:Str}(hN:X.N.Nodup)(hi:X.N[i]?=some x)(hx:Loc X.env.scope x)(hf:X.fn x=true∨X.env.scope.names.lookup x=some .local:=by first|exact .inl rfl|exact .inr rfl|assumption):PG X (.Name x pos) (ua i):=by
 intro pins s σ H v u Q I r h;exact wpAny_assign_Name (yw I hN hi hx r (λs' I'=>⟨_,H,I',h⟩) hf)
noncomputable def bc:TGs:=λvs σ H Q=>vs=[]∧Q σ H
noncomputable def ae(t:TG)(u:TGs):TGs:=λvs σ H Q=>∃v r,vs=v::r∧t v σ H λσ' H'=>u r σ' H' Q
theorem Se:PGs X [] bc:=by
 intro pins s σ H vs us Q I r h;obtain⟨e,h⟩:=h;subst e;cases r;exact assignInOrder_nil ⟨σ,H,I,h⟩
theorem D7{e:Expr}{es:List Expr}{t:TG}{u:TGs}(h1:PG X e t)(h2:PGs X es u)
  (hs:(assignEach (e::es) X.env).map (·.2)=assign e X.env::(assignEach es X.env).map (·.2):=by rfl):PGs X (e::es) (ae t u):=by
 intro pins s σ H vs us Q I r h;obtain⟨v,vr,e1,h⟩:=h;subst e1;cases r with
 |cons r rr=>
  rw[hs];refine assignInOrder_cons (kc (h1 pins s σ H _ _ _ I r h) λ_ s1 ⟨σ1,H1,I1,q1⟩=>?_);exact h2 pins s1 σ1 H1 _ _ Q I1 rr q1
noncomputable def jt(K:PySem.W.Frag)(n:Nat)(t:TGs):TG:=λv σ H Q=>∃a xs,v=.ref a∧SqT K H a xs∧xs.length=n∧t xs σ H Q
theorem Y0{es:List Expr}{k:Nat}{t:TGs}{n:Nat}(hc:X.calm=true)(h:PGs X es t)
  (hn:(assignEach es X.env).length=n:=by rfl)(hst:(assignEach es X.env).findIdx? (·.1)=none:=by rfl):PG X (.Tuple es k pos) (jt X.K n t):=by
 intro pins s σ H v u Q I r hw;obtain⟨a,xs,e1,hq,hl,hw⟩:=hw;subst e1;cases r;obtain⟨its,rv,ht,hz⟩:=I.tuple hq;refine assign_Tuple_tuple (I.ok.hd hc) ht (by simp[hn,←hl,rv.length]) hst λh' hx=>?_;have I1:Inv X pins σ H {s with heap:=h'}:=I.kept (t':=s.toks) λb o e=>hx b o (kAd (Heap.lt_size e)) e;exact h pins _ σ H xs _ Q I1 (by simpa using rv) hw
noncomputable def Nn(te:TE)(g:TG):TS:=λD σ H=>te σ H λx H1=>g x σ H1 D.nx
theorem zh6{i:Nat}{x:Str}{e:Expr}{te:TE}{pos':Pos}(hN:X.N.Nodup)(hi:X.N[i]?=some x)(hx:Loc X.env.scope x)(he:PE X e te)(hs:swapsWith e (some (.Name x pos')) pos.line X.env=pure false:=by rfl)(hf:X.fn x=true∨X.env.scope.names.lookup x=some .local:=by first|exact .inl rfl|exact .inr rfl|assumption):
  PS X (.Assign [.Name x pos'] e pos) (Nn te (ua i)):=by
 intro pins s σ H D I h;refine wpAny_Assign_Name (kc (he pins s σ H _ I h) λv s1 ⟨y,H1,I1,r1,q1⟩=>?_) hs;exact yw I1 hN hi hx r1 (λs2 I2=>⟨_,H1,I2,q1⟩) hf
noncomputable def zmg(i:Nat)(te:TE)(ti:TIp):TS:=λD σ H=>∃x,σ[i]?=some (some x)∧te σ H λy H1=>ti x y H1 λz H2=>D.nx (σ.set i (some z)) H2
theorem zh3{i:Nat}{x:Str}{e:Expr}{te:TE}{op:Operator}{ti:TIp}{pos':Pos}(hN:X.N.Nodup)(hi:X.N[i]?=some x)(hx:Loc X.env.scope x)(he:PE X e te)(ho:PIp X op ti)(hf:X.fn x=true∨X.env.scope.names.lookup x=some .local:=by first|exact .inl rfl|exact .inr rfl|assumption):
  PS X (.AugAssign (.Name x pos') op e pos) (zmg i te ti):=by
 intro pins s σ H D I h;obtain⟨v,e1,h⟩:=h;obtain⟨m,hn,hl⟩:=I.loc;have vis:Vis X.env.scope x:=by rcases hx with k|k;exact .inl k;exact .inr (.inl k)
 obtain⟨u,r,l⟩:=hl i x v hi e1 vis;refine wpAny_AugAssign_Name ?_;have go:wpAny (model X.prog X.w) X.A (eval e X.env) (λw s₂=>wpAny (model X.prog X.w) X.A (inplaceOp op u w) (λr s₃=>wpAny (model X.prog X.w) X.A (storeName X.env x r) (λ_=>SP X pins D .next) X.xe s₃) X.xe s₂) X.xe s:=by
  refine kc (he pins s σ H _ I h) λw s1 ⟨y,H1,I1,r1,q1⟩=>?_;refine kc (ho pins s1 σ H1 v y u w _ I1 r r1 q1) λz s2 ⟨zv,H2,I2,r2,q2⟩=>?_;exact yw I2 hN hi hx r2 (λs3 I3=>⟨_,H2,I3,q2⟩) hf
 rcases l with ⟨hk,hm⟩|⟨hk,c,hc,hcell⟩
 ·exact wpAny_loadName_local I.ok.kind hk hn hm go
 ·rcases hk with hk|hk
  ·exact wpAny_loadName_cell I.ok.kind hk hc hcell go
  ·rcases hx with k|k
   ·have:X.env.scope.names.lookup x=some .free:=hk;rw[k]at this;cases this
   ·have:X.env.scope.names.lookup x=some .free:=hk;rw[k]at this;cases this
noncomputable def ipI(f:Int→Int→Int):TIp:=λx y H Q=>∃i j,x=.int i∧y=.int j∧Q (.int (f i j)) H
theorem zgo:PIp X .Add (ipI λi j=>i+j):=by
 intro pins s σ H x y v u Q I r1 r2 h;obtain⟨i,j,e1,e2,q⟩:=h;subst e1;subst e2;obtain⟨t,rfl⟩:=r1;obtain⟨t',rfl⟩:=r2;exact iadd_int ⟨.int _,H,I.tok _,⟨_,rfl⟩,q⟩
end
section
variable{X:Cx}{pos:Pos}
noncomputable def zjg(c:TT)(tb:TS):TS:=λD σ H=>∃W:Nat→St→Hp→Prop,(∃m,W m σ H)∧∀m σ H,W m σ H→
 c σ H λb H1=>if b=true then∃N:St→Hp→Prop,(∀σ' H',N σ' H'→∃m',m'<m∧W m' σ' H')∧tb {D with nx:=N,ct:=N,bk:=D.nx} σ H1 else D.nx σ H1
theorem Y9{c:Expr}{body:List Stmt}{tc:TT}{tb:TS}(hp:PassesOwn (model X.prog X.w) X.A X.env X.xe)(hc:PT X c tc)(hb:PSs X body tb):PS X (.While c body [] pos) (zjg tc tb):=by
 intro pins s σ H D I h;obtain⟨W,⟨m0,w0⟩,turn⟩:=h;refine wpAny_While (codeAny_whileLoop (λn s'=>∃σ' H',Inv X pins σ' H' s'∧W n σ' H') ?_ m0 ⟨σ,H,I,w0⟩)
 rintro n s1 ⟨σ1,H1,I1,w1⟩
 refine wpAny_passesOwn hp (kc (hc pins s1 σ1 H1 _ I1 (turn n σ1 H1 w1)) λb s2 ⟨H2,I2,q2⟩=>?_);cases b with
 |true=>
  obtain⟨N,hN,q2⟩:=q2;rw[if_pos rfl];refine wpAny_passesOwn hp (kc (hb pins s2 σ1 H2 _ I2 q2) λf s3 q3=>?_);cases f with
  |next=>
   obtain⟨σ3,H3,I3,n3⟩:=q3;obtain⟨m',hm,w3⟩:=hN σ3 H3 n3;exact⟨m',hm,σ3,H3,I3,w3⟩
  |cont=>
   obtain⟨σ3,H3,I3,n3⟩:=q3;obtain⟨m',hm,w3⟩:=hN σ3 H3 n3;exact⟨m',hm,σ3,H3,I3,w3⟩
  |brk=>exact q3
  |ret v=>exact q3
 |false=>
  rw[if_neg kAz];exact wpAny_execs_nil ⟨σ1,H2,I2,q2⟩
end
structure It where
 go:Nat→Hp→Prop
 yld:Nat→Hp→V→Hp→Prop
 stop:Nat→Hp→Prop
noncomputable def Ci(X:Cx)(pins:List (Addr×Obj))(H:Hp)(b:Addr):Prop:=
 H b=none∧b≠X.env.locals∧b∉X.fs∧(b∈X.ex∨X.s₀.heap.objs.size≤b)∧(∀x c,X.env.cells.lookup x=some c→c≠b)∧∀p∈X.pn++pins,p.1≠b
theorem Inv.fpOk{X:Cx}{pins:List (Addr×Obj)}{σ:St}{H H':Hp}{s:Shared}{b:Addr}(I:Inv X pins σ H s)(hb:s.heap.objs.size≤b)(hn:H' b=none):Ci X pins H' b:=by
 refine⟨hn,Nat.ne_of_gt (kAp I.lt hb),I.nofs hb,.inr (kAk I.sz hb),λx c e z=>?_,λp hp z=>?_⟩
 ·obtain⟨v,q⟩:=I.cell x c e;exact absurd (kAp q.lt (by rw[z];exact hb)) (kAu _)
 ·exact absurd (kAp (Heap.lt_size (I.pin p hp).1) (by rw[z];exact hb)) (kAu _)
structure Turn(P:Program)(w:World)(K:PySem.W.Frag)(tg:Expr)(J:It)(fp:List Addr)(it:Addr)(tn:Nat→Heap→Prop):Prop where
 mem:it∈fp
 obj:∀i h,tn i h→∀b∈fp,∃o,h.get? b=some o∧∀v,o.data≠.cell v
 keep:∀i h h',tn i h→(∀b∈fp,∀o,h.get? b=some o→h'.get? b=some o)→tn i h'
 item:∀(X:Cx),X.prog=P→X.w=w→X.K=K→X.calm=true→∀(i:Nat)(pins:List (Addr×Obj))(s:Shared)(σ:St)(H:Hp)(E:Value→Shared→Prop),Inv X pins σ H s→(∀b∈fp,Ci X pins H b)→tn i s.heap→J.go i H→
  wpAny (model P w) X.A (pyNext (.ref it)) (λr s1=>∃u,r=some u∧
   wpAny (model P w) X.A (letOwnedTupleGo tg (.ref it) u) (λ_ s2=>∃x H',Inv X pins σ H' s2∧RelV x u∧J.yld i H x H'∧tn (i+1) s2.heap∧∀b∈fp,H' b=none) E s1) E s
 done:∀(X:Cx),X.prog=P→X.w=w→X.K=K→X.calm=true→∀(i:Nat)(pins:List (Addr×Obj))(s:Shared)(σ:St)(H:Hp)(E:Value→Shared→Prop),Inv X pins σ H s→(∀b∈fp,Ci X pins H b)→tn i s.heap→J.stop i H→
  wpAny (model P w) X.A (pyNext (.ref it)) (λr s1=>r=none∧Inv X pins σ H s1) E s
 self:∀(A:Around)(i:Nat)(s:Shared)(Q:Value→Shared→Prop)(E:Value→Shared→Prop),tn i s.heap→Q (.ref it) s→wpAny (model P w) A (pyIter (.ref it)) Q E s
noncomputable abbrev TI:=St→Hp→(It→Hp→Prop)→Prop
noncomputable def PIE(X:Cx)(pins:List (Addr×Obj))(σ:St)(tg:Expr)(R:It→Hp→Prop)(itv:Value)(s2:Shared):Prop:=
 ∃(it:Addr) (fp:List Addr) (tn:Nat→Heap→Prop) (J:It) (H':Hp),itv=.ref it∧Inv X pins σ H' s2∧Turn X.prog X.w X.K tg J fp it tn∧tn 0 s2.heap∧(∀b∈fp,Ci X pins H' b)∧R J H'
noncomputable def PI(X:Cx)(tg iter:Expr)(wi:TI):Prop:=
 ∀(pins:List (Addr×Obj))(s:Shared)(σ:St)(H:Hp)(R:It→Hp→Prop),Inv X pins σ H s→wi σ H R→
  wpAny (model X.prog X.w) X.A (eval iter X.env) (λv s1=>wpAny (model X.prog X.w) X.A (pyIter v) (PIE X pins σ tg R) X.xe s1) X.xe s
theorem Ls{M:Model}{A:Around}{E:Value→Shared→Prop}{s:Shared}{tg:Expr}{it:Addr}{u:Value}{o:Obj}{n:String}{vs:Array Value}{Q:Unit→Shared→Prop}(ho:s.heap.get? it=some o)(hc:o.cls=.type n)(hd:o.data=.fields vs)
  (hn:["enumerate","zip","dict_itemiterator","dict_reverseitemiterator","odict_iterator","itertools.zip_longest","itertools.pairwise"].contains n=false)(hQ:Q () s):wpAny M A (letOwnedTupleGo tg (.ref it) u) Q E s:=by
 unfold letOwnedTupleGo;cases tg<;>first
  |exact wpAny_pure hQ
  | (cases u <;> first
    |exact wpAny_pure hQ
    | (refine wpAny_bind (wpAny_load ho ?_)
       rw[hc,hd];show wpAny M A (if(["enumerate","zip","dict_itemiterator","dict_reverseitemiterator","odict_iterator","itertools.zip_longest","itertools.pairwise"].contains n && vs[0]?==some (rawInt _))=true then _ else _) Q E s;rw[if_neg (by intro h;rw[hn,Bool.false_and]at h;cases h)];exact wpAny_pure hQ))
noncomputable def Itl(K:PySem.W.Frag)(a:Addr):It:=
 ⟨λi H=>∃xs x,SqL K H a xs∧xs[i]?=some x,λi H x H'=>H'=H∧∀xs,SqL K H a xs→xs[i]?=some x,λi H=>∃xs,SqL K H a xs∧xs.length≤i⟩
noncomputable def Itt(K:PySem.W.Frag)(a:Addr):It:=
 ⟨λi H=>∃xs x,SqT K H a xs∧xs[i]?=some x,λi H x H'=>H'=H∧∀xs,SqT K H a xs→xs[i]?=some x,λi H=>∃xs,SqT K H a xs∧xs.length≤i⟩
noncomputable def Itr(lo:Int)(n:Nat):It:=⟨λi _=>i<n,λi H x H'=>H'=H∧x=.int (lo+i),λi _=>n≤i⟩
theorem Vo{P:Program}{w:World}{K:PySem.W.Frag}{tg:Expr}(a it:Addr):Turn P w K tg (Itl K a) [it] it (λi h=>h.IsListIter it a i) where
 mem:=by simp
 obj:=λi h st b hb=>by
  have e:b=it:=by simpa using hb
  subst e;obtain⟨o,e,c,d⟩:=st;exact⟨o,e,λv z=>by rw[d]at z;cases z⟩
 keep:=λi h h' st k=>st.at λo e=>k it (by simp) o e
 item:=by
  intro X hP hw hK hc i pins s σ H E I hf st hg;subst hP hw hK;obtain⟨xs,x,hq,hx⟩:=hg;obtain⟨its,rv,p,hz⟩:=I.list hq;obtain⟨u,hu,ru⟩:=rv.get hx;obtain⟨f0,f1,f2,f3,f4,f5⟩:=hf it (by simp);refine wpAny_pyNext_list_item st p.isList (x:=u) (by simpa using hu) λh' st' sb=>?_;have I1:Inv X pins σ H {s with heap:=h'}:=I.turned (t':=s.toks) (λb o hb e=>(sb.2 b hb).trans e) f0 f1 f3 f4 f5;obtain⟨o,e,c,d⟩:=id st';exact⟨u,rfl,Ls (s:={s with heap:=h'}) e c d (by decide) ⟨x,H,I1,ru,⟨rfl,λys hy=>by rw[I.list_inj hy hq];exact hx⟩,st',λb hb=>(hf b hb).1⟩⟩
 done:=by
  intro X hP hw hK hc i pins s σ H E I hf st hg;subst hP hw hK;obtain⟨xs,hq,hx⟩:=hg;obtain⟨its,rv,p,hz⟩:=I.list hq;obtain⟨f0,f1,f2,f3,f4,f5⟩:=hf it (by simp);have hl:=rv.length;exact wpAny_pyNext_list_end (I.ok.hd hc) st p.isList (by simp;omega) λh' eb=>⟨rfl,I.turned (t':=s.toks) (λb o hb e=>eb b o hb e) f0 f1 f3 f4 f5⟩
 self:=λ_ _ _ _ _ st h=>wpAny_pyIter_listiter st h
theorem Qq{P:Program}{w:World}{K:PySem.W.Frag}{tg:Expr}(a it:Addr):Turn P w K tg (Itt K a) [it] it (λi h=>h.IsTupleIter it a i) where
 mem:=by simp
 obj:=λi h st b hb=>by
  have e:b=it:=by simpa using hb
  subst e;obtain⟨o,e,c,d⟩:=st;exact⟨o,e,λv z=>by rw[d]at z;cases z⟩
 keep:=λi h h' st k=>st.at λo e=>k it (by simp) o e
 item:=by
  intro X hP hw hK hc i pins s σ H E I hf st hg;subst hP hw hK;obtain⟨xs,x,hq,hx⟩:=hg;obtain⟨its,rv,p,hz⟩:=I.tuple hq;obtain⟨u,hu,ru⟩:=rv.get hx;obtain⟨f0,f1,f2,f3,f4,f5⟩:=hf it (by simp);refine wpAny_pyNext_tuple_item st (show s.heap.IsTuple a its.toArray from p) (x:=u) (by simpa using hu) λh' st' sb=>?_;have I1:Inv X pins σ H {s with heap:=h'}:=I.turned (t':=s.toks) (λb o hb e=>(sb.2 b hb).trans e) f0 f1 f3 f4 f5;obtain⟨o,e,c,d⟩:=id st';exact⟨u,rfl,Ls (s:={s with heap:=h'}) e c d (by decide) ⟨x,H,I1,ru,⟨rfl,λys hy=>by rw[I.tuple_inj hy hq];exact hx⟩,st',λb hb=>(hf b hb).1⟩⟩
 done:=by
  intro X hP hw hK hc i pins s σ H E I hf st hg;subst hP hw hK;obtain⟨xs,hq,hx⟩:=hg;obtain⟨its,rv,p,hz⟩:=I.tuple hq;obtain⟨f0,f1,f2,f3,f4,f5⟩:=hf it (by simp);have hl:=rv.length;exact wpAny_pyNext_tuple_end (I.ok.hd hc) st (show s.heap.IsTuple a its.toArray from p) (by simp;omega) λh' eb=>⟨rfl,I.turned (t':=s.toks) (λb o hb e=>eb b o hb e) f0 f1 f3 f4 f5⟩
 self:=λ_ _ _ _ _ st h=>wpAny_pyIter_tupleiter st h
theorem Qp{P:Program}{w:World}{K:PySem.W.Frag}{tg:Expr}(it:Addr)(lo:Int)(n:Nat):Turn P w K tg (Itr lo n) [it] it (λi h=>IsRangeIter h it (lo+(i:Nat) * 1) ((n:Int) - (i:Nat)) 1) where
 mem:=by simp
 obj:=λi h st b hb=>by
  have e:b=it:=by simpa using hb
  subst e;exact⟨_,st,λv z=>by
   have z':Data.fields _=Data.cell v:=z;cases z'⟩
 keep:=λi h h' st k=>k it (by simp) _ st
 item:=by
  intro X hP hw hK hc i pins s σ H E I hf st hg;subst hP hw hK;obtain⟨f0,f1,f2,f3,f4,f5⟩:=hf it (by simp);have W:=Walks.range (prog:=X.prog) (w:=X.w) (I.ok.hd hc) it lo 1 n;refine W.item i s _ _ hg st λv h' tk hv st' kk=>?_;obtain⟨t,rfl⟩:=hv;have I1:Inv X pins σ H {s with heap:=h',toks:=tk}:=I.turned (λb o hb e=>kk b o (by simpa using hb) e) f0 f1 f3 f4 f5;refine⟨_,rfl,Ls (s:={s with heap:=h',toks:=tk}) (n:="range_iterator") st' rfl rfl (by decide) ⟨.int (lo+i),H,I1,⟨t,?_⟩,⟨rfl,rfl⟩,st',λb hb=>(hf b hb).1⟩⟩;rw[Int.mul_one]
 done:=by
  intro X hP hw hK hc i pins s σ H E I hf st hg;subst hP hw hK;obtain⟨f0,f1,f2,f3,f4,f5⟩:=hf it (by simp);exact wpAny_pyNext_range_end (I.ok.hd hc) st (by have:n≤i:=hg;omega) λh' eb=>⟨rfl,I.turned (t':=s.toks) (λb o hb e=>eb b o hb e) f0 f1 f3 f4 f5⟩
 self:=λ_ _ _ _ _ st h=>wpAny_pyIter_rangeiter st h
end L2
namespace L2
open PySem PySem.Spec PyProof.Rows
section
variable{X:Cx}{tg:Expr}
theorem Zr{pins:List (Addr×Obj)}{σ:St}{H:Hp}{s:Shared}{R:It→Hp→Prop}{E:Value→Shared→Prop}{lo hi:Int}{t u v:Tok}{tk:Nat}(I:Inv X pins σ H s)(h1:-(2 ^ 62)≤lo)(h2:lo<2 ^ 62)(h3:-(2 ^ 62)≤hi)(h4:hi<2 ^ 62)
  (q:R (Itr lo (hi - lo).toNat) H):wpAny (model X.prog X.w) X.A (pyIter (.ref s.heap.objs.size)) (PIE X pins σ tg R) E {s with heap:=s.heap.push {cls:=.type "range",data:=.fields #[.int lo t,.int hi u,.int 1 v]},toks:=tk}:=by
 refine wpAny_pyIter_range (IsRange.new ..) (small_one h1 h2 h3 h4) ?_;have I1:Inv X pins σ H {s with heap:=s.heap.push {cls:=.type "range",data:=.fields #[.int lo t,.int hi u,.int 1 v]},toks:=tk}:=I.kept λb o e=>Heap.get?_push_of_some _ e;refine⟨(s.heap.push {cls:=.type "range",data:=.fields #[.int lo t,.int hi u,.int 1 v]}).objs.size,[(s.heap.push {cls:=.type "range",data:=.fields #[.int lo t,.int hi u,.int 1 v]}).objs.size],_,_,H,rfl,
  I1.kept (t':=tk) λb o e=>Heap.get?_push_of_some _ e,Qp _ lo (hi - lo).toNat,?_,λb hb=>?_,q⟩
 ·have e1:lo+((0:Nat):Int) * 1=lo:=by simp
  have e2:(((hi - lo).toNat:Nat):Int) - ((0:Nat):Int)=Builtin.Range.rangeSize lo hi 1:=by rw[rangeSize_one];split<;>omega
  show IsRangeIter _ _ (lo+((0:Nat):Int) * 1) ((((hi - lo).toNat:Nat):Int) - ((0:Nat):Int)) 1;rw[e1,e2];exact Heap.get?_push_size _ rfl
 ·have e:b=(s.heap.push {cls:=.type "range",data:=.fields #[.int lo t,.int hi u,.int 1 v]}).objs.size:=by simpa using hb
  subst e;exact I1.fpOk (kA1 _) (I1.hok.fresh (kA1 _))
noncomputable def zkr(ta:TA):TI:=λσ H R=>ta σ H λvs H1=>∃j:Int,vs=[.int j]∧-(2 ^ 62)≤j∧j<2 ^ 62∧R (Itr 0 j.toNat) H1
theorem U7{a:Expr}{ta:TA}{p pos:Pos}(hg:Gl X "range")(hm:X.mg "range"=none)(ha:PA X [a] ta)(hs:starEach [a] X.env=[(false,eval a X.env)]:=by rfl):PI X tg (.Call (.Name "range" p) [a] [] pos) (zkr ta):=by
 intro pins s σ H R I h;refine Call_ (xc I hg hm boot_range (PyProof.Rows.callWith_type1 (kc (ha pos pins s σ H _ I h) λus s1 ⟨vs,H1,I1,r1,q1⟩=>?_) hs rfl));obtain⟨j,e,q1,q2,q⟩:=q1;subst e;cases r1 with
 |cons r rr=>
  cases rr;obtain⟨t,rfl⟩:=r;exact call_range_1 (Zr I1 (by omega) (by omega) q1 q2 (by simpa using q))
noncomputable def zpc(wi:TI)(g:TG)(tb:TS):TS:=λD σ H=>wi σ H λJ H1=>∃W:Nat→Nat→St→Hp→Prop,(∃m,W 0 m σ H1)∧∀i m σ H,W i m σ H→
 (J.stop i H∧D.nx σ H)∨(J.go i H∧∃N:St→Hp→Prop,(∀σ' H',N σ' H'→∃m',m'<m∧W (i+1) m' σ' H')∧∀x H',J.yld i H x H'→g x σ H' λσ2 H2=>tb {D with nx:=N,ct:=N,bk:=D.nx} σ2 H2)
noncomputable def Ah(fp:List Addr)(h:Heap):List (Addr×Obj):=fp.filterMap λb=>(h.get? b).map λo=>(b,o)
theorem sv{fp:List Addr}{h:Heap}{b:Addr}{o:Obj}(hb:b∈fp)(e:h.get? b=some o):(b,o)∈Ah fp h:=List.mem_filterMap.mpr ⟨b,hb,by rw[e];rfl⟩
theorem U2{fp:List Addr}{h:Heap}{p:Addr×Obj}(hp:p∈Ah fp h):p.1∈fp∧h.get? p.1=some p.2:=by
 obtain⟨b,hb,e⟩:=List.mem_filterMap.mp hp;cases q:h.get? b with
 |none=>rw[q]at e;cases e
 |some o=>
  rw[q]at e;have e':(b,o)=p:=kAi.inj e;subst e';exact⟨hb,q⟩
theorem Inv.pinned{pins:List (Addr×Obj)}{σ:St}{H:Hp}{s:Shared}{fp:List Addr}(I:Inv X pins σ H s)(hf:∀b∈fp,Ci X pins H b)(ho:∀b∈fp,∃o,s.heap.get? b=some o∧∀v,o.data≠.cell v):Inv X (pins++Ah fp s.heap) σ H s:=
 I.pins_of λp hp=>(List.mem_append.mp hp).elim (λz=>I.pin p (kB0 _ z)) λz=>by
  obtain⟨hb,e⟩:=U2 z;obtain⟨f0,f1,f2,_⟩:=hf p.1 hb;obtain⟨o,e',d⟩:=ho p.1 hb;rw[e]at e';cases e';exact⟨e,f0,f1,f2,d⟩
theorem Inv.unpinned{pins pl:List (Addr×Obj)}{σ:St}{H:Hp}{s:Shared}(I:Inv X (pins++pl) σ H s):Inv X pins σ H s:=I.pins_of λp hp=>I.pin p (kB0 _ (List.mem_append_left _ hp))
theorem zh5{iter:Expr}{body:List Stmt}{wi:TI}{g:TG}{tb:TS}{pos:Pos}(hp:PassesOwn (model X.prog X.w) X.A X.env X.xe)(hc:X.calm=true)(hi:PI X tg iter wi)(hg:PG X tg g)(hb:PSs X body tb)
  (hs:∀x,foldedSetIterable iter X.env x=pure x:=by intro _;rfl):PS X (.For tg iter body [] pos) (zpc wi g tb):=by
 intro pins s σ H D I h;refine wpAny_For (kc (hi pins s σ H _ I h) λv s1 h1=>kc h1 λitv s2 h2=>?_) hs;obtain⟨it,fp,tn,J,H2,e,I2,T,st2,f2,W,⟨m0,w0⟩,turn⟩:=h2;subst e;have stat:∀{H':Hp},(∀b∈fp,H' b=none)→∀b∈fp,Ci X pins H' b:=λhn b hb=>⟨hn b hb,(f2 b hb).2⟩;refine codeAny_forLoop_any (λn s'=>∃i σ' H',Inv X pins σ' H' s'∧tn i s'.heap∧(∀b∈fp,H' b=none)∧W i n σ' H') ?_ m0 ⟨0,σ,H2,I2,st2,λb hb=>(f2 b hb).1,w0⟩
 rintro n s3 ⟨i,σ3,H3,I3,st3,fr3,w3⟩
 rcases turn i n σ3 H3 w3 with ⟨stop,qn⟩|⟨go,N,hN,step⟩
 ·refine wpAny_passesOwn hp (kc (T.done X rfl rfl rfl hc i pins s3 σ3 H3 X.xe I3 (stat fr3) st3 stop) λr s4 ⟨hr,I4⟩=>?_);subst hr;exact wpAny_execs_nil ⟨σ3,H3,I4,qn⟩
 ·refine wpAny_passesOwn hp (kc (T.item X rfl rfl rfl hc i pins s3 σ3 H3 X.xe I3 (stat fr3) st3 go) λr s4 ⟨u,hr,h4⟩=>?_);subst hr;refine wpAny_passesOwn hp (kc h4 λ_ s5 ⟨x,H5,I5,r5,y5,st5,fr5⟩=>?_);have I5':=I5.pinned (stat fr5) (T.obj _ _ st5);refine wpAny_passesOwn hp (kc (hg _ s5 σ3 H5 x u _ I5' r5 (step x H5 y5)) λ_ s6 ⟨σ6,H6,I6,q6⟩=>?_);refine wpAny_passesOwn hp (kc (hb _ s6 σ6 H6 _ I6 q6) λf s7 q7=>?_);have again:∀{σ7:St}{H7:Hp},Inv X (pins++Ah fp s5.heap) σ7 H7 s7→N σ7 H7→∃m,m<n∧∃i σ' H',Inv X pins σ' H' s7∧tn i s7.heap∧(∀b∈fp,H' b=none)∧W i m σ' H':=λ{σ7 H7} I7 n7=>by
   obtain⟨m',hm,w7⟩:=hN σ7 H7 n7;refine⟨m',hm,i+1,σ7,H7,I7.unpinned,T.keep _ _ _ st5 λb hb o e=>(I7.pin (b,o) (kB0 _ (kB0 _ (sv hb e)))).1,λb hb=>?_,w7⟩;obtain⟨o,e,d⟩:=T.obj _ _ st5 b hb;exact(I7.pin (b,o) (kB0 _ (kB0 _ (sv hb e)))).2.1
  cases f with
  |next=>obtain⟨σ7,H7,I7,n7⟩:=q7;exact again I7 n7
  |cont=>obtain⟨σ7,H7,I7,n7⟩:=q7;exact again I7 n7
  |brk=>obtain⟨σ7,H7,I7,q7⟩:=q7;exact⟨σ7,H7,I7.unpinned,q7⟩
  |ret v=>obtain⟨x7,σ7,H7,I7,r7,q7⟩:=q7;exact⟨x7,σ7,H7,I7.unpinned,r7,q7⟩
end
end L2
namespace L2
open PySem PySem.Spec PyProof.Rows
noncomputable abbrev R2:=V→V→Hp→VK→Prop
noncomputable def OpR(X:Cx)(f:Value→Value→Sem Value)(r:R2):Prop:=
 ∀(pins:List (Addr×Obj))(s:Shared)(σ:St)(H:Hp)(x y:V)(v u:Value)(Q:VK),Inv X pins σ H s→RelV x v→RelV y u→r x y H Q→
  wpAny (model X.prog X.w) X.A (f v u) (EP X pins σ Q) X.xe s
noncomputable def CallR(X:Cx)(f:Value)(r:List V→Hp→VK→Prop):Prop:=
 ∀(pins:List (Addr×Obj))(s:Shared)(σ:St)(H:Hp)(xs:List V)(us:List Value)(Q:VK),Inv X pins σ H s→Vals xs us→r xs H Q→
  wpAny (model X.prog X.w) X.A (call f us) (EP X pins σ Q) X.xe s
noncomputable def zom(X:Cx)(r:V→Hp→(Bool→Hp→Prop)→Prop):Prop:=
 ∀(pins:List (Addr×Obj))(s:Shared)(σ:St)(H:Hp)(x:V)(v:Value)(Q:Bool→Hp→Prop),Inv X pins σ H s→RelV x v→r x H Q→
  wpAny (model X.prog X.w) X.A (truthy v) (TP X pins σ Q) X.xe s
noncomputable def tOp(r:R2)(ta tb:TE):TE:=λσ H Q=>ta σ H λx H1=>tb σ H1 λy H2=>r x y H2 Q
noncomputable def rI(C:Int→Int→Prop)(g:Int→Int→V):R2:=λx y H Q=>∃i j,x=.int i∧y=.int j∧C i j∧Q (g i j) H
noncomputable def rI0(g:Int→Int→V):R2:=λx y H Q=>∃i j,x=.int i∧y=.int j∧Q (g i j) H
section
variable{X:Cx}{a b c:Expr}{ta tb tc:TE}{pos:Pos}
theorem zf9(ha:PE X a ta)(hb:PE X b tb){pins:List (Addr×Obj)}{s:Shared}{σ:St}{H:Hp}{R:V→V→Hp→Prop}(I:Inv X pins σ H s)
  (h:ta σ H λx H1=>tb σ H1 λy H2=>R x y H2){Q:Value→Shared→Prop}{f:Value→Value→Sem Value}
  (hf:∀v u s2 x y H2,Inv X pins σ H2 s2→RelV x v→RelV y u→R x y H2→wpAny (model X.prog X.w) X.A (f v u) Q X.xe s2):
  wpAny (model X.prog X.w) X.A (eval a X.env) (λv s₁=>wpAny (model X.prog X.w) X.A (eval b X.env) (λu s₂=>wpAny (model X.prog X.w) X.A (f v u) Q X.xe s₂) X.xe s₁) X.xe s:=by
 refine kc (ha pins s σ H _ I h) λv s1 ⟨x,H1,I1,r1,q1⟩=>?_;refine kc (hb pins s1 σ H1 _ I1 q1) λu s2 ⟨y,H2,I2,r2,q2⟩=>?_;exact hf v u s2 x y H2 I2 r1 r2 q2
theorem zlh{op:Operator}{r:R2}(ho:OpR X (binaryOp op) r)(ha:PE X a ta)(hb:PE X b tb):PE X (.BinOp a op b pos) (tOp r ta tb):=by
 intro pins s σ H Q I h;exact wpAny_BinOp (zf9 ha hb I h λv u s2 x y H2 I2 rx ry q=>ho pins s2 σ H2 x y v u Q I2 rx ry q)
theorem opI{f:Value→Value→Sem Value}{C:Int→Int→Prop}{g:Int→Int→Int}
  (rule:∀(i j:Int)(t u:Tok)(s:Shared)(Q:Value→Shared→Prop)(E:Value→Shared→Prop),C i j→Q (.int (g i j) s.toks) {s with toks:=s.toks+1}→wpAny (model X.prog X.w) X.A (f (.int i t) (.int j u)) Q E s):
  OpR X f (rI C λi j=>.int (g i j)):=by
 intro pins s σ H x y v u Q I rx ry h;obtain⟨i,j,rfl,rfl,hc,q⟩:=h;obtain⟨t,rfl⟩:=rx;obtain⟨t',rfl⟩:=ry;exact rule i j t t' s _ _ hc ⟨.int (g i j),H,I.tok _,⟨_,rfl⟩,q⟩
theorem zk9{f:Value→Value→Sem Value}{g:Int→Int→Int}
  (rule:∀(i j:Int)(t u:Tok)(s:Shared)(Q:Value→Shared→Prop)(E:Value→Shared→Prop),Q (.int (g i j) s.toks) {s with toks:=s.toks+1}→wpAny (model X.prog X.w) X.A (f (.int i t) (.int j u)) Q E s):
  OpR X f (rI0 λi j=>.int (g i j)):=by
 intro pins s σ H x y v u Q I rx ry h;obtain⟨i,j,rfl,rfl,q⟩:=h;obtain⟨t,rfl⟩:=rx;obtain⟨t',rfl⟩:=ry;exact rule i j t t' s _ _ ⟨.int (g i j),H,I.tok _,⟨_,rfl⟩,q⟩
theorem zcm{f:Value→Value→Sem Value}{g:Int→Int→Bool}
  (rule:∀(i j:Int)(t u:Tok)(s:Shared)(Q:Value→Shared→Prop)(E:Value→Shared→Prop),Q (.bool (g i j)) s→wpAny (model X.prog X.w) X.A (f (.int i t) (.int j u)) Q E s):
  OpR X f (rI0 λi j=>.bl (g i j)):=by
 intro pins s σ H x y v u Q I rx ry h;obtain⟨i,j,rfl,rfl,q⟩:=h;obtain⟨t,rfl⟩:=rx;obtain⟨t',rfl⟩:=ry;exact rule i j t t' s _ _ ⟨.bl (g i j),H,I,rfl,q⟩
def zod(i j:Int):Prop:=0<j∧j<1073741824
def CMul(i j:Int):Prop:=(-(2 ^ 64)<i∧i<2 ^ 64)∨(-(2 ^ 64)<j∧j<2 ^ 64)
theorem CMul.ok{i j:Int}(h:CMul i j):IntMulOk i j:=by
 rcases h with ⟨h1,h2⟩|⟨h1,h2⟩
 ·exact .of_left (intBits_le_64 h1 h2)
 ·exact .of_right (intBits_le_64 h1 h2)
theorem zhj:OpR X (binaryOp .Add) (rI0 λi j=>.int (i+j)):=zk9 λ_ _ _ _ _ _ _ q=>add_int q
theorem zhr:OpR X (binaryOp .Sub) (rI0 λi j=>.int (i - j)):=zk9 λ_ _ _ _ _ _ _ q=>sub_int q
theorem zhp:OpR X (binaryOp .Mult) (rI CMul λi j=>.int (i * j)):=opI λ_ _ _ _ _ _ _ hc q=>mul_int q hc.ok
theorem zcp:OpR X (binaryOp .FloorDiv) (rI zod λi j=>.int (i / j)):=opI λi j _ _ _ _ _ hc q=>by
 have h1:(0:Int)<j:=hc.1;have h2:j<1073741824:=hc.2;exact floordiv_int (by omega) (by rw[Int.fdiv_eq_ediv_of_nonneg i (by omega)];exact q) (.inl (PyProof.noPylong_small (by omega)))
theorem zho:OpR X (binaryOp .Mod) (rI (λ_ j=>0<j) λi j=>.int (i % j)):=opI λi j _ _ _ _ _ hc q=>by
 have h1:(0:Int)<j:=hc;exact mod_int' (by omega) (by rw[Int.fmod_eq_emod_of_nonneg i (by omega)];exact q)
end
section
variable{X:Cx}{a b c:Expr}{ta tb tc:TE}{pos:Pos}
theorem Iy{pins:List (Addr×Obj)}{σ:St}{H:Hp}{s:Shared}{Q:VK}{k k':Bool}(I:Inv X pins σ H s)(q:Q (.bl k) H)(e:k=k'):EP X pins σ Q (.bool k') s:=by
 subst e;exact⟨.bl k,H,I,rfl,q⟩
theorem zld:OpR X (compareOp .Lt) (rI0 λi j=>.bl (decide (i<j))):=zcm λ_ _ _ _ _ _ _ q=>lt_int q
theorem zlc:OpR X (compareOp .LtE) (rI0 λi j=>.bl (decide (i≤j))):=zcm λ_ _ _ _ _ _ _ q=>le_int q
theorem zlb:OpR X (compareOp .Gt) (rI0 λi j=>.bl (decide (j<i))):=zcm λ_ _ _ _ _ _ _ q=>gt_int q
theorem zla:OpR X (compareOp .GtE) (rI0 λi j=>.bl (decide (j≤i))):=zcm λ_ _ _ _ _ _ _ q=>ge_int q
theorem U5:OpR X (compareOp .In) (λx y H Q=>∃i j,x=.str i∧y=.str j∧Q (.bl (!(Builtin.Str.occurrences j i 0 j.length 1).isEmpty)) H):=by
 intro pins s σ H x y v u Q I rx ry h;obtain⟨i,j,rfl,rfl,q⟩:=h;obtain⟨t,rfl⟩:=rx;obtain⟨t',rfl⟩:=ry;exact in_str (Iy I q rfl)
theorem zhn:OpR X (compareOp .Is) (λx y H Q=>y=.non∧Q (.bl (decide (x=.non))) H):=by
 intro pins s σ H x y v u Q I rx ry h;obtain⟨rfl,q⟩:=h;cases ry;refine is_none_gen (Iy I q ?_);cases x<;>first
  |(cases rx;rfl)
  |(obtain⟨t,rfl⟩:=rx;rfl)
theorem zcs:OpR X (compareOp .IsNot) (λx y H Q=>y=.non∧Q (.bl (!decide (x=.non))) H):=by
 intro pins s σ H x y v u Q I rx ry h;obtain⟨rfl,q⟩:=h;cases ry;refine isnot_none_gen (Iy I q ?_);cases x<;>first
  |(cases rx;rfl)
  |(obtain⟨t,rfl⟩:=rx;rfl)
theorem J1:OpR X (compareOp .NotIn) (λx y H Q=>∃i j,x=.str i∧y=.str j∧Q (.bl (!(!(Builtin.Str.occurrences j i 0 j.length 1).isEmpty))) H):=by
 intro pins s σ H x y v u Q I rx ry h;obtain⟨i,j,rfl,rfl,q⟩:=h;obtain⟨t,rfl⟩:=rx;obtain⟨t',rfl⟩:=ry;exact notIn_str (Iy I q rfl)
theorem OpR.or{f:Value→Value→Sem Value}{r r':R2}(h:OpR X f r)(h':OpR X f r'):OpR X f (λx y H Q=>r x y H Q∨r' x y H Q):=by
 intro pins s σ H x y v u Q I rx ry q;rcases q with q|q
 ·exact h pins s σ H x y v u Q I rx ry q
 ·exact h' pins s σ H x y v u Q I rx ry q
theorem zcx{op:CmpOp}{r:R2}(ho:OpR X (compareOp op) r)(ha:PE X a ta)(hb:PE X b tb)(hm:behindInMarks op b=false):PE X (.Compare a [op] [b] pos) (tOp r ta tb):=by
 intro pins s σ H Q I h;exact wpAny_Compare1 (zf9 ha hb I h λv u s2 x y H2 I2 rx ry q=>ho pins s2 σ H2 x y v u Q I2 rx ry q) hm
noncomputable def zfr(t:TE):TT:=λσ H Q=>t σ H λx H'=>∃k,x=.bl k∧Q k H'
theorem Sn{op:CmpOp}{r:R2}(ho:OpR X (compareOp op) r)(ha:PE X a ta)(hb:PE X b tb)(hm:behindInMarks op b=false):PT X (.Compare a [op] [b] pos) (zfr (tOp r ta tb)):=by
 intro pins s σ H Q I h;refine wpAny_isTrue_Compare1 (kc (ha pins s σ H _ I h) λv s1 ⟨x,H1,I1,r1,q1⟩=>kc (hb pins s1 σ H1 _ I1 q1) λu s2 ⟨y,H2,I2,r2,q2⟩=>
  kc (ho pins s2 σ H2 x y v u _ I2 r1 r2 q2) λc s3 ⟨z,H3,I3,r3,k,e,q3⟩=>?_) hm
 subst e;cases r3;exact wpAny_truthy_bool ⟨H3,I3,q3⟩
noncomputable def Qi(r r':R2)(ta tb tc:TE):TE:=λσ H Q=>ta σ H λx H1=>tb σ H1 λy H2=>r x y H2 λz H3=>∃k,z=.bl k∧
 (if k=true then tc σ H3 λw' H4=>r' y w' H4 Q else Q (.bl false) H3)
theorem Yt{op op':CmpOp}{r r':R2}(ho:OpR X (compareOp op) r)(ho':OpR X (compareOp op') r')(ha:PE X a ta)(hb:PE X b tb)(hc:PE X c tc)
  (hm:lastMarks [op,op'] [b,c]=false:=by with_unfolding_all rfl):PE X (.Compare a [op,op'] [b,c] pos) (Qi r r' ta tb tc):=by
 intro pins s σ H Q I h;refine Compare_chain (kc (ha pins s σ H _ I h) λv s1 ⟨x,H1,I1,r1,q1⟩=>chain_link (kc (hb pins s1 σ H1 _ I1 q1) λu s2 ⟨y,H2,I2,r2,q2⟩=>
  kc (ho pins s2 σ H2 x y v u _ I2 r1 r2 q2) λd s3 ⟨z,H3,I3,r3,k,e,q3⟩=>?_)) hm
 subst e;cases r3;refine wpAny_truthy_bool ?_;cases k with
 |false=>exact ite_ff ⟨.bl false,H3,I3,rfl,q3⟩
 |true=>exact ite_tt (chain_last (kc (hc pins s3 σ H3 _ I3 q3) λw' s4 ⟨z',H4,I4,r4,q4⟩=>ho' pins s4 σ H4 y z' u w' Q I4 r2 r4 q4))
theorem Zb{op op':CmpOp}{r r':R2}(ho:OpR X (compareOp op) r)(ho':OpR X (compareOp op') r')(ha:PE X a ta)(hb:PE X b tb)(hc:PE X c tc)
  (hm:lastMarks [op,op'] [b,c]=false:=by with_unfolding_all rfl):PT X (.Compare a [op,op'] [b,c] pos) (zfr (Qi r r' ta tb tc)):=by
 intro pins s σ H Q I h;refine isTrue_chain (kc (ha pins s σ H _ I h) λv s1 ⟨x,H1,I1,r1,q1⟩=>test_link (kc (hb pins s1 σ H1 _ I1 q1) λu s2 ⟨y,H2,I2,r2,q2⟩=>
  kc (ho pins s2 σ H2 x y v u _ I2 r1 r2 q2) λd s3 ⟨z,H3,I3,r3,k,e,q3⟩=>?_)) hm
 subst e;cases r3;refine wpAny_truthy_bool ?_;cases k with
 |false=>
  obtain⟨k',e',q'⟩:=q3;cases e';exact ite_ff ⟨H3,I3,q'⟩
 |true=>
  refine ite_tt (test_last (kc (hc pins s3 σ H3 _ I3 q3) λw' s4 ⟨z',H4,I4,r4,q4⟩=>kc (ho' pins s4 σ H4 y z' u w' _ I4 r2 r4 q4) λd' s5 ⟨z2,H5,I5,r5,k2,e2,q5⟩=>?_));subst e2;cases r5;exact wpAny_truthy_bool ⟨H5,I5,q5⟩
noncomputable def zf2(K:PySem.W.Frag)(x:V)(H:Hp)(k:Bool):Prop:=
 match x with
 |.non=>k=false
 |.bl b=>k=b
 |.int i=>k=(i !=0)
 |.str y=>y.length≤sizeLine∧k=((y.length:Int) !=0)
 |.byt y=>y.size≤sizeLine∧k=((y.size:Int) !=0)
 |.ref p=>(∃xs,SqL K H p xs∧k= !xs.isEmpty)∨(∃xs,SqT K H p xs∧k= !xs.isEmpty)∨∃kvs,H p=some (.dK kvs)∧k= !kvs.isEmpty
 |_=>False
theorem Ox{κ:Type}{kvs:List (κ×V)}{vs:List (κ×Value)}(r:KV kvs vs):(!vs.isEmpty)= !kvs.isEmpty:=by
 cases r<;>rfl
theorem Di{xs:List V}{its:List Value}(r:Vals xs its):(!its.toArray.isEmpty)= !xs.isEmpty:=by
 cases r<;>simp
theorem Dp:(sizeLine:Nat)<2 ^ 63:=by rw[sizeLine_eq];decide
theorem zji:zom X (λx H Q=>∃k,zf2 X.K x H k∧Q k H):=by
 intro pins s σ H x v Q I rx h;obtain⟨k,e,q⟩:=h;have hl:=Dp;have hs:sizeLine=16777216:=sizeLine_eq;cases x with
 |non=>
  cases rx;have e':k=false:=e;subst e';exact truthy_none ⟨H,I,q⟩
 |bl b=>
  cases rx;have e':k=b:=e;subst e';exact wpAny_truthy_bool ⟨H,I,q⟩
 |int i=>
  obtain⟨t,rfl⟩:=rx;have e':k=(i !=0):=e;subst e';exact PySem.P.truthy_int ⟨H,I,q⟩
 |str y=>
  obtain⟨t,rfl⟩:=rx;obtain⟨hy,e'⟩:y.length≤sizeLine∧k=((y.length:Int) !=0):=e;subst e';exact PySem.P.truthy_str (by omega) ⟨H,I.tok _,q⟩
 |byt y=>
  obtain⟨t,rfl⟩:=rx;obtain⟨hy,e'⟩:y.size≤sizeLine∧k=((y.size:Int) !=0):=e;subst e';exact PySem.W.truthy_bytes (by omega) ⟨H,I.tok _,q⟩
 |ref p=>
  cases rx;have e':(∃xs,SqL X.K H p xs∧k= !xs.isEmpty)∨(∃xs,SqT X.K H p xs∧k= !xs.isEmpty)∨∃kvs,H p=some (.dK kvs)∧k= !kvs.isEmpty:=e;rcases e' with ⟨xs,hx,e'⟩|⟨xs,hx,e'⟩|⟨kvs,hx,e'⟩
  ·subst e';obtain⟨its,r,pl,hz⟩:=I.list hx;have hlen:=r.length;exact wpAny_truthy_list pl.isList (by simp only[kAh];omega) ⟨H,I.tok _,by rw[Di r];exact q⟩
  ·subst e';obtain⟨its,r,pl,hz⟩:=I.tuple hx;have hlen:=r.length;exact truthy_tuple pl (by simp only[kAh];omega) ⟨H,I.tok _,by rw[Di r];exact q⟩
  ·subst e';obtain⟨hz,hS,vs,r,m⟩:kvs.length≤sizeLine∧(p==sysModules)=false∧∃vs,KV kvs vs∧s.heap.DictOf (fo X.prog X.w) p vs:=I.hok p _ hx;have hlen:kvs.length=vs.length:=Paired.length r;exact wpAny_truthy_dict hS m (by omega) ⟨H,I.tok _,by rw[Ox r];exact q⟩
 |_=>exact(show False from e).elim
theorem Zd(ha:PE X a ta)(he:∀whole,isTrue a X.env whole=(do let v ←whole;standAt a.pos;holding [v] (truthy v))):
  PT X a (λσ H Q=>ta σ H λx H'=>∃k,zf2 X.K x H' k∧Q k H'):=by
 intro pins s σ H Q I h;exact isTrue_plain (kc (ha pins s σ H _ I h) λv s1 ⟨x,H1,I1,r1,q1⟩=>zji pins s1 σ H1 x v Q I1 r1 q1) (he _)
theorem Py:OpR X (binaryOp .Add) (λx y H Q=>∃i j,x=.str i∧y=.str j∧i.length+j.length≤sizeLine∧Q (.str (i++j)) H):=by
 intro pins s σ H x y v u Q I rx ry h;obtain⟨i,j,rfl,rfl,hz,q⟩:=h;obtain⟨t,rfl⟩:=rx;obtain⟨t',rfl⟩:=ry;exact add_str (λt' tk=>⟨.str (i++j),H,I.tok _,⟨_,rfl⟩,q⟩) hz
theorem qj{x:V}{us:List Value}(r:Vals [x] us):∃u,us=[u]∧RelV x u:=by
 cases r with
 |cons r1 r2=>cases r2;exact⟨_,rfl,r1⟩
theorem zm4{x y:V}{us:List Value}(r:Vals [x,y] us):∃u w',us=[u,w']∧RelV x u∧RelV y w':=by
 cases r with
 |cons r1 r2=>
  cases r2 with
  |cons r3 r4=>cases r4;exact⟨_,_,rfl,r1,r3⟩
theorem Tp:CallR X (.type "int") (λxs H Q=>(∃i,xs=[.int i]∧Q (.int i) H)∨∃k,xs=[.bl k]∧Q (.int (if k then 1 else 0)) H):=by
 intro pins s σ H xs us Q I r h;rcases h with ⟨i,rfl,q⟩|⟨k,rfl,q⟩
 ·obtain⟨u,rfl,t,rfl⟩:=qj r;exact call_int_int ⟨.int i,H,I,⟨_,rfl⟩,q⟩
 ·obtain⟨u,rfl,r1⟩:=qj r;cases r1;exact call_int_bool ⟨.int (if k then 1 else 0),H,I.tok _,⟨_,rfl⟩,q⟩
noncomputable def zok(K:PySem.W.Frag)(x:V)(H:Hp)(n:Nat):Prop:=
 match x with
 |.str y=>y.length≤sizeLine∧n=y.length
 |.byt y=>y.size≤sizeLine∧n=y.size
 |.ref p=>(∃xs,SqL K H p xs∧n=xs.length)∨∃xs,SqT K H p xs∧n=xs.length
 |_=>False
theorem Wh:CallR X (.builtin "len") (λxs H Q=>∃x n,xs=[x]∧zok X.K x H n∧Q (.int n) H):=by
 intro pins s σ H xs us Q I r h;obtain⟨x,n,rfl,e,q⟩:=h;obtain⟨u,rfl,rx⟩:=qj r;have hl:=Dp;have hs:sizeLine=16777216:=sizeLine_eq;cases x with
 |str y=>
  obtain⟨t,rfl⟩:=rx;obtain⟨hy,e'⟩:y.length≤sizeLine∧n=y.length:=e;subst e';exact len_str (by omega) ⟨.int _,H,I.tok _,⟨_,rfl⟩,q⟩
 |byt y=>
  obtain⟨t,rfl⟩:=rx;obtain⟨hy,e'⟩:y.size≤sizeLine∧n=y.size:=e;subst e';exact PySem.W.len_bytes (by omega) ⟨.int _,H,I.tok _,⟨_,rfl⟩,q⟩
 |ref p=>
  cases rx;have e':(∃xs,SqL X.K H p xs∧n=xs.length)∨∃xs,SqT X.K H p xs∧n=xs.length:=e;rcases e' with ⟨xs,hx,e'⟩|⟨xs,hx,e'⟩
  ·subst e';obtain⟨its,r',pl,hz⟩:=I.list hx;have hlen:=r'.length;exact Calls.call_len_list pl.isList (by simp only[kAh];omega) ⟨.int xs.length,H,I.tok _,⟨_,by simp only[kAh];rw[hlen]⟩,q⟩
  ·subst e';obtain⟨its,r',pl,hz⟩:=I.tuple hx;have hlen:=r'.length;exact len_tuple pl (by simp only[kAh];omega) ⟨.int xs.length,H,I.tok _,⟨_,by simp only[kAh];rw[hlen]⟩,q⟩
 |_=>exact(show False from e).elim
end
end L2
namespace L2
open PySem PySem.Spec PyProof.Rows
structure ObjM(h:Heap)(x dx C:Addr)(mA:Str→Option Value):Prop where
 obj:h.get? x=some (PySem.W.instObj C dx)
 ns:h.Ns1 dx mA
 ne:dx≠x
theorem Uk{h:Heap}{dx:Addr}{mA:Str→Option Value}(n:h.Ns1 dx mA):∃od,h.get? dx=some od∧∀name,PySem.W.lookIn name od=some (mA name):=by
 obtain⟨o,es,ep,ho,hd,hk,_,hm⟩:=n;refine⟨o,ho,λname=>?_⟩;have e:=hm name;unfold nsFind findBy at e;rw[←Array.find?_toList]at e;unfold PySem.W.lookIn;rw[hd];dsimp only;split
 ·rename_i y q;rw[q]at e;exact congrArg some e
 ·rename_i q;rw[q]at e;have a:es.toList.any (·.refKey)=false:=by
   rw[List.any_eq_false];intro y hy;obtain⟨z,t,hkey⟩:=hk y (Array.mem_toList_iff.mp hy);simp[DictEntry.refKey,hkey]
  have a':¬es.toList.any (·.refKey)=true:=by rw[a];exact kAz
  rw[if_neg a'];exact congrArg some e
theorem ObjM.look{h:Heap}{x dx C:Addr}{mA:Str→Option Value}(I:ObjM h x dx C mA):∃od,PySem.W.InstAt h x (PySem.W.instObj C dx) C (some od)∧∀name,PySem.W.lookIn name od=some (mA name):=
 let ⟨od,ho,hl⟩:=Uk I.ns
 ⟨od,⟨I.obj,rfl,rfl,ho⟩,hl⟩
theorem RelO.some_of{v:V}{o:Option Value}(r:RelO (some v) o):∃u,o=some u∧RelV v u:=by
 cases o with
 |none=>exact(show False from r).elim
 |some u=>exact⟨u,rfl,r⟩
structure Cls(K:PySem.W.Frag)(C:Addr):Prop where
 pg:PySem.W.plainGet K C Str.empty=true
 hd:PySem.W.hasDictIn K C=true
 po:PySem.W.plainOver K C=true
 sa:PySem.W.findIn K (.ref C) "__setattr__"=some (some (.builtin "object.__setattr__"))
theorem Cls.get{K:PySem.W.Frag}{C:Addr}(c:Cls K C)(f:Str):PySem.W.plainGet K C f=true:=c.pg
section
variable{X:Cx}{pins:List (Addr×Obj)}{σ:St}{H:Hp}{s:Shared}{a C dx:Addr}{fs:List (Str×V)}{f:Str}{v:V}{A:Around}{E:Value→Shared→Prop}
theorem Inv.made(I:Inv X pins σ H s):Inv X pins σ (upd (upd H s.heap.objs.size (.own (s.heap.objs.size+1))) (s.heap.objs.size+1) (.ins C s.heap.objs.size []))
  {s with heap:=(s.heap.push PySem.W.emptyDict).push (PySem.W.instObj C s.heap.objs.size)}:=by
 have e1:(s.heap.push PySem.W.emptyDict).get? s.heap.objs.size=some PySem.W.emptyDict:=Heap.get?_push_size s.heap rfl;have e2:((s.heap.push PySem.W.emptyDict).push (PySem.W.instObj C s.heap.objs.size)).get? (s.heap.objs.size+1)=some (PySem.W.instObj C s.heap.objs.size):=by
  have:=Heap.get?_push_size (s.heap.push PySem.W.emptyDict) (o:=PySem.W.instObj C s.heap.objs.size) rfl;rwa [Heap.size_push]at this
 have e3:(s.heap.push PySem.W.emptyDict).Ns s.heap.objs.size (λ_=>none):=⟨PySem.W.emptyDict,#[],_,e1,rfl,(λe he=>absurd he (by simp)),λ_=>rfl⟩;have I1:=I.laid (a:=s.heap.objs.size) (o:=.own (s.heap.objs.size+1)) (h':=s.heap.push PySem.W.emptyDict) (t':=s.toks) (λb u q=>Heap.get?_push_of_some _ q) (kA1 _) ⟨_,e1⟩;refine I1.laid (a:=s.heap.objs.size+1) (o:=.ins C s.heap.objs.size []) (t':=s.toks) (λb u q=>Heap.get?_push_of_some _ q) (Nat.le_of_eq (Heap.size_push _ _)) ?_;have ne:s.heap.objs.size≠s.heap.objs.size+1:=kAd (Nat.lt_succ_self _);refine⟨by rw[bu ne,d8],kAl _,ne,e2,λ_=>none,(Heap.Ns1.of_empty e3).at λo q=>Heap.get?_push_of_some _ q,λ_=>True.intro,λy hy=>absurd rfl hy⟩
end
end L2
namespace L2
open PySem PySem.Spec PyProof.Rows
structure Room(k:Nat)(A:Around):Prop where
 hd:A.handled=none
 dp:A.depth+3 * k+5<recursionLimit
 un:A.units+16 * k+200<cLine
theorem Room.mono{j k:Nat}{A:Around}(r:Room k A)(h:j≤k):Room j A:=⟨r.hd,by have:=r.dp;omega,by have:=r.un;omega⟩
theorem Room.deeper{k:Nat}{A:Around}(r:Room (k+1) A)(env:Env):Room k (A.deeper env):=
 ⟨r.hd,by have:=r.dp;show A.depth+1+3 * k+5<_;omega,by have:=r.un;show A.units+3+16 * k+200<_;omega⟩
theorem Room.in1{k:Nat}{A:Around}(r:Room (k+1) A):Room k A.in1:=
 ⟨r.hd,by have:=r.dp;show A.depth+3 * k+5<_;omega,by have:=r.un;show A.units+1+16 * k+200<_;omega⟩
theorem Room.depth{k:Nat}{A:Around}(r:Room k A):A.depth<recursionLimit:=by have:=r.dp;omega
theorem Room.units{k:Nat}{A:Around}(r:Room k A):A.units+64<cLine:=by have:=r.un;omega
noncomputable def zje:TA:=λ_ H Q=>Q [] H
noncomputable def zfp(ta:TE)(tr:TA):TA:=λσ H Q=>ta σ H λx H1=>tr σ H1 λxs H2=>Q (x::xs) H2
section
variable{X:Cx}{e:Expr}{es:List Expr}{te:TE}{t:TA}{pos:Pos}
theorem Pz:PA X [] zje:=λ_ _ _ _ H Q I h=>Calls.spliced_nil ⟨[],H,I,.nil,h⟩
theorem yi(ha:PE X e te)(hr:PA X es t)(hs:starEach (e::es) X.env=(false,eval e X.env)::starEach es X.env:=by rfl):PA X (e::es) (zfp te t):=by
 intro pos pins s σ H Q I h;rw[hs];show wpAny _ _ (spliced ((false,eval e X.env)::backTo pos (starEach es X.env))) _ _ s;refine Calls.spliced_cons (kc (ha pins s σ H _ I h) λu s1 ⟨x,H1,I1,r1,q1⟩=>?_);exact kc (hr pos pins s1 σ H1 _ I1 q1) λus s2 ⟨xs,H2,I2,r2,q2⟩=>⟨x::xs,H2,I2,.cons r1 r2,q2⟩
noncomputable def zpi(t:TA):TE:=λσ H Q=>t σ H λxs H1=>xs.length≤sizeLine∧∀p,H1 p=none→Q (.ref p) (upd H1 p (.tup xs))
noncomputable def zpe(t:TA):TE:=λσ H Q=>t σ H λxs H1=>xs.length≤sizeLine∧∀p,H1 p=none→Q (.ref p) (upd H1 p (.lst xs))
theorem zhz{x1}(h:PA X es t):PE X (.Tuple es x1 pos) (zpi t):=by
 intro pins s σ H Q I hq;refine wpAny_Tuple_spliced (kc (h pos pins s σ H _ I hq) λus s1 ⟨xs,H1,I1,r,z,q⟩=>⟨by rw[←r.length];exact z,?_⟩);have hf:H1 s1.heap.objs.size=none:=I1.hok.fresh (kA1 _);refine⟨.ref s1.heap.objs.size,upd H1 s1.heap.objs.size (.tup xs),I1.laid (t':=s1.toks) (λb u e=>Heap.get?_push_of_some _ e) (kA1 _) ?_,rfl,q _ hf⟩;exact⟨z,us,r,⟨_,Heap.get?_push_size _ rfl,rfl,_,rfl⟩⟩
theorem zhu(h:PA X es t):PE X (.List es pos) (zpe t):=by
 intro pins s σ H Q I hq;refine wpAny_List_spliced (kc (h pos pins s σ H _ I hq) λus s1 ⟨xs,H1,I1,r,z,q⟩=>⟨by rw[←r.length];exact z,?_⟩);have hf:H1 s1.heap.objs.size=none:=I1.hok.fresh (kA1 _);refine⟨.ref s1.heap.objs.size,upd H1 s1.heap.objs.size (.lst xs),I1.laid (t':=s1.toks) (λb u e=>Heap.get?_push_of_some _ e) (kA1 _) ?_,rfl,q _ hf⟩;exact⟨z,us,0,r,Heap.get?_push_size _ rfl⟩
end
noncomputable abbrev Sp:=List V→Hp→VK→XK→Prop
noncomputable abbrev Tf:=List Env→Hp→Shared→XK→Value→Shared→Prop
structure Env0(P:Program)(w:World)(K:PySem.W.Frag)(mg:Str→Option Value)(base:Heap)(A:Around)(outer:List Env)(s:Shared)(H:Hp):Prop where
 frames:A.frames=some outer
 mod:Mod K mg base
 bs:∀b o,base.get? b=some o→s.heap.get? b=some o∧H b=none
 bsz:base.objs.size≤s.heap.objs.size
 funs:s.heap.FunFrames base outer
 frf:∀b∈Bo outer,H b=none
 hok:HOk P w H s.heap
 bare:AllBare s.gens
noncomputable def CE(outer:List Env)(P:Program)(w:World)(H:Hp)(s:Shared)(Q:VK)(u:Value)(s':Shared):Prop:=
 ∃v H',s'.os=s.os∧AllBare s'.gens∧Un (Bo outer) [] H H' s.heap s'.heap∧HOk P w H' s'.heap∧RelV v u∧Q v H'
noncomputable def CR(CX:Tf)(outer:List Env)(P:Program)(w:World)(H:Hp)(s:Shared)(Q:VK)(E:XK)(r:Result)(s':Shared):Prop:=
 match r with
 |.ok (.ret u)=>CE outer P w H s Q u s'
 |.ok _=>False
 |.error e=>CX outer H s E e s'
structure FnOk(P:Program)(w:World)(K:PySem.W.Frag)(mg:Str→Option Value)(base:Heap)(CX:Tf)(k:Nat)(f:Addr)(fd:FuncData)(ps:List Str)(sp:Sp):Prop where
 len:∀vs H Q E,sp vs H Q E→vs.length=ps.length
 run:∀(A:Around)(outer:List Env)(s:Shared)(H:Hp)(args:Args)(us:List Value)(vs:List V)(Q:VK)(E:XK),Room k A→Env0 P w K mg base A outer s H→BindsTo s fd args (ps.zip us)→Vals vs us→sp vs H Q E→
  codeAny (model P w) A (.call (.ref f) args) (CR CX outer P w H s Q E) s
theorem FnOk.mono{P:Program}{w:World}{K:PySem.W.Frag}{mg:Str→Option Value}{base:Heap}{CX:Tf}{j k:Nat}{f:Addr}{fd:FuncData}{ps:List Str}{sp:Sp}(F:FnOk P w K mg base CX j f fd ps sp)(h:j≤k):
  FnOk P w K mg base CX k f fd ps sp:=⟨F.len,λA outer s H args us vs Q E hr=>F.run A outer s H args us vs Q E (hr.mono h)⟩
theorem FnOk.imp{P:Program}{w:World}{K:PySem.W.Frag}{mg:Str→Option Value}{base:Heap}{CX:Tf}{k:Nat}{f:Addr}{fd:FuncData}{ps:List Str}{sp sp':Sp}(F:FnOk P w K mg base CX k f fd ps sp)
  (h:∀vs H Q E,sp' vs H Q E→sp vs H Q E):FnOk P w K mg base CX k f fd ps sp':=
 ⟨λvs H Q E q=>F.len vs H Q E (h _ _ _ _ q),λA outer s H args us vs Q E hr he hb hv hs=>F.run A outer s H args us vs Q E hr he hb hv (h _ _ _ _ hs)⟩
theorem Env0.in1{P:Program}{w:World}{K:PySem.W.Frag}{mg:Str→Option Value}{base:Heap}{A:Around}{outer:List Env}{s:Shared}{H:Hp}(e:Env0 P w K mg base A outer s H):
  Env0 P w K mg base A.in1 outer s H:=⟨e.frames,e.mod,e.bs,e.bsz,e.funs,e.frf,e.hok,e.bare⟩
section
variable{X:Cx}{pins:List (Addr×Obj)}{σ:St}{H:Hp}{s s':Shared}
theorem Inv.env0(I:Inv X pins σ H s):Env0 X.prog X.w X.K X.mg X.base X.A X.stack s H:=
 ⟨I.ok.frames,I.ok.mod,I.bs,kAk I.ok.bsz I.sz,I.stack,I.stkFree,I.hok,I.bare⟩
theorem Inv.after{Q:VK}{u:Value}(I:Inv X pins σ H s)(h:CE X.stack X.prog X.w H s Q u s'):EP X pins σ Q u s':=by
 obtain⟨v,H',os,bare,un,hok,r,q⟩:=h;obtain⟨hh,g,d,t,os'⟩:=s';obtain rfl:os'=s.os:=os;exact⟨v,H',I.call (h':=hh) (g':=g) (d':=d) (t':=t) (ch:=[]) un hok bare (λb z=>absurd z (by simp)),r,q⟩
end
noncomputable def zfo(sp:Sp)(dvs:List V)(E:XK)(t:TA):TE:=λσ H Q=>t σ H λvs H1=>sp (vs++dvs) H1 Q E
noncomputable def Binds(K:PySem.W.Frag)(fd:FuncData)(ps:List Str)(ds:List Value):Prop:=
 ∀(s:Shared)(us:List Value),K.In s.heap→(us++ds).length=ps.length→BindsTo s fd ⟨us,[]⟩ (ps.zip (us++ds))
theorem Binds.all{K:PySem.W.Frag}{fd:FuncData}{ps:List Str}(h:∀us:List Value,us.length=ps.length→bindArgs fd ⟨us,[]⟩=pure (ps.zip us)):Binds K fd ps []:=λs us _ hl=>by
 rw[List.append_nil]at hl⊢;exact .of_eq (h us hl)
def qm(CX:Tf)(X:Cx)(E:XK):Prop:=∀(pins:List (Addr×Obj))(σ:St)(H:Hp)(s:Shared)(e:Value)(s':Shared),Inv X pins σ H s→CX X.stack H s E e s'→X.xe e s'
section
variable{X:Cx}{CX:Tf}{k:Nat}{f C:Addr}{fd:FuncData}{ps:List Str}{sp:Sp}{dvs:List V}{ds:List Value}{E:XK}{x m:Str}{p pos apos:Pos}{e o:Expr}{es:List Expr}{ta:TE}{t:TA}
theorem P7{pins:List (Addr×Obj)}{σ:St}{H:Hp}{s:Shared}{Q:VK}{us:List Value}{vs:List V}(F:FnOk X.prog X.w X.K X.mg X.base CX k f fd ps sp)(hr:Room k X.A)(hb:Binds X.K fd ps ds)(hd:Vals dvs ds)(hx:qm CX X E)
  (I:Inv X pins σ H s)(r:Vals vs us)(h:sp (vs++dvs) H Q E):wpAny (model X.prog X.w) X.A (call (.ref f) us) (EP X pins σ Q) X.xe s:=by
 have r2:Vals (vs++dvs) (us++ds):=r.append hd;have hl:(us++ds).length=ps.length:=by rw[←r2.length];exact F.len _ _ _ _ h
 refine wpAny_call (codeAny_mono (F.run X.A X.stack s H ⟨us,[]⟩ (us++ds) (vs++dvs) Q E hr I.env0 (hb s us I.kIn hl) r2 h) λr s' hq=>?_);cases r with
 |error e=>exact hx pins σ H s e s' I hq
 |ok fl=>
  cases fl with
  |ret u=>exact I.after hq
  |next=>exact False.elim hq
  |brk=>exact False.elim hq
  |cont=>exact False.elim hq
theorem zcw(F:FnOk X.prog X.w X.K X.mg X.base CX k f fd ps sp)(hr:Room k X.A)(hg:Gl X x)(hm:X.mg x=some (.ref f))(hk:kA9 X.K (.ref f)=true)(hb:Binds X.K fd ps ds)(hd:Vals dvs ds)(hx:qm CX X E)
  (ha:PA X (e::es) t)(hdb:(x==("__debug__":Str))=false:=by decide)(he:starEach (e::es) X.env=(false,eval e X.env)::starEach es X.env:=by rfl)(hpl:(backTo pos (starEach es X.env)).any (·.1)=false:=by rfl):
  PE X (.Call (.Name x p) (e::es) [] pos) (zfo sp dvs E t):=by
 intro pins s σ H Q I h;refine wpAny_Call_Name_kw (vq I hg hm ?_ hdb);refine PySem.W.callWith_K (h₀:=X.base) I.ok.mod.kin hk (kc (ha pos pins s σ H _ I h) λus s1 ⟨vs,H1,I1,r,q⟩=>⟨I1.kIn,?_⟩) he hpl;exact P7 F hr hb hd hx I1 r q
theorem Ys(F:FnOk X.prog X.w X.K X.mg X.base CX k f fd ps sp)(hr:Room k X.A)(hg:Gl X x)(hm:X.mg x=some (.ref f))(hk:kA9 X.K (.ref f)=true)(hb:Binds X.K fd ps ds)(hd:Vals dvs ds)(hx:qm CX X E)
  (hdb:(x==("__debug__":Str))=false:=by decide):PE X (.Call (.Name x p) [] [] pos) (zfo sp dvs E zje):=by
 intro pins s σ H Q I h;refine wpAny_Call_Name_kw (vq I hg hm ?_ hdb);exact PySem.W.callWith_K0 I.kIn hk (P7 (us:=[]) F hr hb hd hx I .nil h)
end
structure FnScope(N P:List Str)(sc:Scope):Prop where
 kind:sc.kind=.function
 co:sc.isCoroutine=false
 gen:sc.isGenerator=false
 nd:N.Nodup
 pre:N.take P.length=P
 par:∀x∈P,sc.names.lookup x=some .local∨sc.names.lookup x=some .cell
 nofree:∀y∈sc.names,y.2≠.free
theorem Ge{kindOf:Str→Option NameKind}{x:Str}:∀{binds:List (Str×Value)}{m:Str→Option Value},(∀v,(x,v)∉binds)→bindL kindOf binds m x=m x
 |[],_,_=>rfl
 |(n,v)::r,m,h=>by
  unfold bindL;rw[Ge λw hw=>h w (kA7 _ hw)];split
  ·have:x≠n:=by rintro rfl;exact h v kA6
   simp[this]
  ·rfl
theorem Gc{kindOf:Str→Option NameKind}{x:Str}:∀{binds:List (Str×Value)}{m:Str→Option Value},(∀v,(x,v)∉binds)→bindC kindOf binds m x=m x
 |[],_,_=>rfl
 |(n,v)::r,m,h=>by
  unfold bindC;rw[Gc λw hw=>h w (kA7 _ hw)];split
  ·rfl
  ·have:x≠n:=by rintro rfl;exact h v kA6
   simp[this]
theorem Gd{kindOf:Str→Option NameKind}{x:Str}{v:Value}:∀{P:List Str}{vs:List Value}{i:Nat}{m:Str→Option Value},P.Nodup→P[i]?=some x→vs[i]?=some v→kindOf x=some .local→
  bindL kindOf (P.zip vs) m x=some v
 |[],_,_,_,_,h,_,_=>by simp at h
 |_::_,[],_,_,_,_,h,_=>by simp at h
 |p::P,w::vs,0,m,nd,h1,h2,hk=>by
  simp at h1 h2;subst h1;subst h2;show bindL kindOf ((p,w)::P.zip vs) m p=_;unfold bindL;rw[Ge λv hv=>(List.nodup_cons.mp nd).1 (List.of_mem_zip hv).1,if_pos hk];simp
 |p::P,w::vs,i+1,m,nd,h1,h2,hk=>by
  show bindL kindOf ((p,w)::P.zip vs) m x=_;unfold bindL;exact Gd (i:=i) (List.nodup_cons.mp nd).2 (by simpa using h1) (by simpa using h2) hk
theorem Gb{kindOf:Str→Option NameKind}{x:Str}{v:Value}:∀{P:List Str}{vs:List Value}{i:Nat}{m:Str→Option Value},P.Nodup→P[i]?=some x→vs[i]?=some v→kindOf x≠some .local→
  bindC kindOf (P.zip vs) m x=some v
 |[],_,_,_,_,h,_,_=>by simp at h
 |_::_,[],_,_,_,_,h,_=>by simp at h
 |p::P,w::vs,0,m,nd,h1,h2,hk=>by
  simp at h1 h2;subst h1;subst h2;show bindC kindOf ((p,w)::P.zip vs) m p=_;unfold bindC;rw[Gc λv hv=>(List.nodup_cons.mp nd).1 (List.of_mem_zip hv).1,if_neg hk];simp
 |p::P,w::vs,i+1,m,nd,h1,h2,hk=>by
  show bindC kindOf ((p,w)::P.zip vs) m x=_;unfold bindC;exact Gb (i:=i) (List.nodup_cons.mp nd).2 (by simpa using h1) (by simpa using h2) hk
noncomputable def qi(N:List Str)(vs:List V):St:=vs.map some++kAa (N.length - vs.length) none
noncomputable def zq(CX:Tf)(P:Program)(w:World)(K:PySem.W.Frag)(mg:Str→Option Value)(base:Heap)(N:List Str)(qual:Str)(scope:Scope)(f:Addr)(cd:Value)(A:Around)(outer:List Env)(s:Shared)(H:Hp)(E:XK):Cx where
 prog:=P
 w:=w
 K:=K
 mg:=mg
 base:=base
 A:=A.deeper (envOfC qual scope s.heap.objs.size f cd)
 N:=N
 s₀:=s
 H₀:=H
 env:=envOfC qual scope s.heap.objs.size f cd
 outer:=outer
 stack:=envOfC qual scope s.heap.objs.size f cd::outer
 ex:=[]
 calm:=true
 fn:=λx=>decide (x∉vo)
 pn:=[]
 xe:=λe s'=>wpAny (model P w) (A.deeper (envOfC qual scope s.heap.objs.size f cd)) (leaving (envOfC qual scope s.heap.objs.size f cd) e) (λ_ s''=>CX outer H s E e s'') (λe' s''=>CX outer H s E e' s'') s'
theorem K5{sc:Scope}{n:Nat}{x:Str}(h:sc.names.lookup x=some .cell):∃c,(cellsFrom n sc.names []).lookup x=some c:=by
 have q:=PySem.W.cellsFrom_some sc.names n [] (.inl h);exact Option.isSome_iff_exists.mp q
theorem T9{CX:Tf}{P:Program}{w:World}{K:PySem.W.Frag}{mg:Str→Option Value}{base:Heap}{N ps:List Str}{qual:Str}{scope:Scope}{f:Addr}{cd:Value}{A:Around}{outer:List Env}{s s1:Shared}{H:Hp}{E:XK}{us:List Value}{vs:List V}
  (S:FnScope N ps scope)(hd:A.handled=none)(e0:Env0 P w K mg base A outer s H)(hl:vs.length=ps.length)(r:Vals vs us)
  (x:InCallC s s.heap.objs.size (bindL (envOfC qual scope s.heap.objs.size f cd).kindOf (ps.zip us) λ_=>none) (cellsFrom (s.heap.objs.size+1) scope.names []) (bindC (envOfC qual scope s.heap.objs.size f cd).kindOf (ps.zip us) λ_=>none) s1):
  Inv (zq CX P w K mg base N qual scope f cd A outer s H E) [] (qi N vs) H s1:=by
 have hpl:ps.length≤N.length:=by have:=congrArg List.length S.pre;rw[List.length_take]at this;omega
 obtain⟨h1,tk,rfl,hk⟩:=x.done;have noA:∀b:Addr,b∉(zq CX P w K mg base N qual scope f cd A outer s H E).ex:=λb z=>absurd (show b∈([]:List Addr)from z) (by simp);refine⟨⟨e0.mod,S.kind,rfl,rfl,kA1 _,λy z c h1 h2=>?_,λy hy=>?_,λy c _ h=>?_,λ_=>hd,Around.frames_deeper e0.frames,.inr ⟨rfl,rfl⟩,λb z=>absurd z (noA b),e0.bs,e0.bsz,λb _ _=>noA b,λb z=>absurd z (noA b),e0.funs,e0.frf⟩,
  rfl,e0.bare,Un.kept hk,⟨_,x.toInCall.ns,λi y v h1 h2 h3=>?_⟩,λy c h=>⟨_,x.cell y c h⟩,e0.hok.fresh (kA1 _),λy c h=>?_,λp hp=>absurd (show p∈([]:List (Addr×Obj))from hp) (by simp),e0.hok.kept hk,?_⟩
 ·exact name_of_addr x.apart (PySem.mem_of_lookup h1) (PySem.mem_of_lookup h2)
 ·have hy:scope.names.lookup y=some .cell∨scope.names.lookup y=some .free:=hy;rcases hy with hy|hy
  ·exact K5 hy
  ·exact absurd rfl (S.nofree _ (PySem.mem_of_lookup hy))
 ·exact Nat.le_of_lt (x.above y c (PySem.mem_of_lookup h))
 ·have hi:i<vs.length:=by
   unfold qi at h2
   by_cases hi:i<vs.length
   ·exact hi
   ·rw[List.getElem?_append_right (by simpa using hi)]at h2;rw[List.getElem?_replicate]at h2;split at h2<;>cases h2
  have ha:vs[i]?=some v:=by
   unfold qi at h2;rw[List.getElem?_append_left (by simpa using hi),kAr]at h2;cases e:vs[i]? with
   |none=>rw[e]at h2;cases h2
   |some a=>rw[e]at h2;cases h2;rfl
  obtain⟨u,hu,rv⟩:=r.get ha;have hp:ps[i]?=some y:=by
   rw[←S.pre,List.getElem?_take_of_lt (by omega)];exact h1
  have ndP:ps.Nodup:=by rw[←S.pre];exact S.nd.sublist (List.take_sublist _ _)
  refine⟨u,rv,?_⟩;rcases S.par y (List.mem_of_getElem? hp)with k|k
  ·exact .inl ⟨k,Gd ndP hp hu k⟩
  ·obtain⟨c,e⟩:=K5 (n:=s.heap.objs.size+1) k;refine .inr ⟨.inl k,c,e,?_⟩;have q:=x.cell y c e;rw[Gb ndP hp hu (by show scope.names.lookup y≠_;rw[k];decide)]at q;exact q
 ·exact .inl (e0.hok.fresh (Nat.le_of_lt (x.above y c (PySem.mem_of_lookup h))))
 ·unfold qi;show _=N.length;rw[kAf,kA2,kB2];omega
theorem ze5{CX:Tf}{P:Program}{w:World}{K:PySem.W.Frag}{mg:Str→Option Value}{base:Heap}{k:Nat}{f:Addr}{name qual:Str}{params:Arguments}{body:List Stmt}{scope:Scope}{dV kV doc pm cdv ct oc:Value}{an od:Option Addr}
  {osl:Array (Option Value)} {N ps:List Str} {sp:Sp} (lk:K.lookup f=some ⟨oc,od,.func (kAb name qual params body scope dV kV doc pm an cdv ct),osl⟩) (hcd:kAc K cdv qual=true) (S:FnScope N ps scope)
  (len:∀vs H Q E,sp vs H Q E→vs.length=ps.length)
  (hbody:∀(A:Around)(outer:List Env)(s:Shared)(H:Hp)(vs:List V)(Q:VK)(E:XK),Room k (A.deeper (envOfC qual scope s.heap.objs.size f cdv))→sp vs H Q E→
   ∃t,PSs (zq CX P w K mg base N qual scope f cdv A outer s H E) body t∧t {nx:=λ_ H'=>Q .non H',rt:=Q} (qi N vs) H):
  FnOk P w K mg base CX (k+1) f (kAb name qual params body scope dV kV doc pm an cdv ct) ps sp:=by
 refine⟨len,λA outer s H args us vs Q E hr e0 hb r hsp=>?_⟩;have hl:=len _ _ _ _ hsp;have KX:K.In s.heap:=e0.mod.kin.keeps λb o e=>(e0.bs b o e).1;have lim:s.heap.NoLimit:=e0.mod.nolimit.keeps λb o e=>(e0.bs b o e).1;have hkind:∀y∈ps.zip us,scope.names.lookup y.1=some .local∨(scope.names.lookup y.1=some .cell∧((cellsFrom (s.heap.objs.size+1) scope.names []).lookup y.1).isSome=true):=λ⟨n,v⟩ hy=>by
  rcases S.par n (List.of_mem_zip hy).1 with q|q
  ·exact .inl q
  ·exact .inr ⟨q,PySem.W.cellsFrom_some _ _ _ (.inl q)⟩
 refine codeAny_call_function hr.depth (KX _ _ lk) rfl S.co S.gen rfl (PySem.W.codeRec_of KX hcd) (hb _ _ _ _ ?_);refine wpAny_newFunctionEnv_cells S.kind hkind λenv he s1 x=>?_;subst he;refine⟨lim.keeps x.toInCall.keep,codeAny_func ?_⟩;obtain⟨t,ht,hq⟩:=hbody A outer s H vs Q E (hr.deeper _) hsp;have I:Inv (zq CX P w K mg base N qual scope f cdv A outer s H E) [] (qi N vs) H s1:=T9 S hr.hd e0 hl r x;refine wpAny_mono (ht [] s1 (qi N vs) H _ I hq) (λfl s' hs=>?_) λe s' hs=>hs;have fin:∀{σ':St}{H':Hp}{v:V}{u:Value},Inv (zq CX P w K mg base N qual scope f cdv A outer s H E) [] σ' H' s'→RelV v u→Q v H'→CE outer P w H s Q u s':=
  λ{σ' H' v u} J rv q=>⟨v,H',J.os,J.bare,J.base,J.hok,rv,q⟩
 cases fl with
 |ret u=>
  obtain⟨v,σ',H',J,rv,q⟩:=hs;exact fin J rv q
 |next=>
  obtain⟨σ',H',J,q⟩:=hs;exact fin (v:=V.non) (u:=Value.none) J rfl q
 |brk=>
  obtain⟨_,_,_,q⟩:=hs;exact False.elim q
 |cont=>
  obtain⟨_,_,_,q⟩:=hs;exact False.elim q
end L2
namespace L2
open PySem PySem.Spec PyProof.Rows
section
variable{X:Cx}{x:Str}{p pos:Pos}{e:Expr}{es:List Expr}{t:TA}{id T:String}{r:List V→Hp→VK→Prop}
noncomputable def tCB(r:List V→Hp→VK→Prop)(t:TA):TE:=λσ H Q=>t σ H λvs H1=>r vs H1 Q
theorem yj(hc:CallR X (.builtin id) r)(hg:Gl X x)(hm:X.mg x=none)(hv:bootBuiltins x=some (.builtin id))(ha:PA X (e::es) t)(hn:x≠"__name__":=by decide)(hdb:(x==("__debug__":Str))=false:=by decide)
  (he:starEach (e::es) X.env=(false,eval e X.env)::starEach es X.env:=by rfl)(hpl:(backTo pos (starEach es X.env)).any (·.1)=false:=by rfl):PE X (.Call (.Name x p) (e::es) [] pos) (tCB r t):=by
 intro pins s σ H Q I h;refine wpAny_Call_Name_kw (xc I hg hm hv ?_ hn hdb);exact PyProof.Rows.callWith_builtin1 (kc (ha pos pins s σ H _ I h) λus s1 ⟨vs,H1,I1,r1,q1⟩=>hc pins s1 σ H1 vs us Q I1 r1 q1) he hpl
theorem rk(hc:CallR X (.type T) r)(hg:Gl X x)(hm:X.mg x=none)(hv:bootBuiltins x=some (.type T))(ha:PA X (e::es) t)(hn:x≠"__name__":=by decide)(hdb:(x==("__debug__":Str))=false:=by decide)
  (he:starEach (e::es) X.env=(false,eval e X.env)::starEach es X.env:=by rfl)(hpl:(backTo pos (starEach es X.env)).any (·.1)=false:=by rfl):PE X (.Call (.Name x p) (e::es) [] pos) (tCB r t):=by
 intro pins s σ H Q I h;refine wpAny_Call_Name_kw (xc I hg hm hv ?_ hn hdb);exact PyProof.Rows.callWith_type1 (kc (ha pos pins s σ H _ I h) λus s1 ⟨vs,H1,I1,r1,q1⟩=>hc pins s1 σ H1 vs us Q I1 r1 q1) he hpl
end
end L2
namespace HT
open PySem PyProof.Rows
section
variable{prog:Program}{w:World}{A:Around}{E:Value→Shared→Prop}{s:Shared}
theorem zbj{t b:Addr}{vs ws:List Value}{Q:Value→Shared→Prop}(ht:IsTup s.heap t vs.toArray)(hb:IsTup s.heap b ws.toArray)(hv:vs≠[])
  (h1:ws=[]→Q (.ref t) s)(h2:ws≠[]→Q (.ref s.heap.objs.size) {s with heap:=s.heap.push {cls:=.type "tuple",data:=.seq (vs++ws).toArray}})
  (hsz:vs.length+ws.length≤sizeLine):wpAny (model prog w) A (binaryOp .Add (.ref t) (.ref b)) Q E s:=by
 obtain⟨⟨cls,dd,data,sl⟩,ho,hc,n,hd⟩:=id ht;obtain⟨⟨cls2,dd2,data2,sl2⟩,ho2,hc2,n2,hd2⟩:=id hb;simp only at hc hd hc2 hd2;subst hc hd hc2 hd2;have e:vs.toArray++ws.toArray=(vs++ws).toArray:=by simp
 by_cases hw:ws=[]
 ·exact concat_meets ⟨_,ho,rfl⟩ ⟨_,ho2,rfl⟩ noFill_tuple_add seq_tuple_add PySem.F.slot_tuple_add PySem.F.entry_tuple_add (PySem.F.args_tuple_add_2 _ _)
   (tuple_addW1 t b vs.toArray ws.toArray n n2 dd dd2 sl sl2 (by simpa using hv) (by simp[hw])) ⟨ho,ho2,h1 hw⟩
 ·refine concat_meets ⟨_,ho,rfl⟩ ⟨_,ho2,rfl⟩ noFill_tuple_add seq_tuple_add PySem.F.slot_tuple_add PySem.F.entry_tuple_add (PySem.F.args_tuple_add_2 _ _)
   (tuple_addW2 t b vs.toArray ws.toArray n n2 dd dd2 sl sl2 (by simpa using hv) (by simpa using hw) (by rw[kAh,kAh];exact hsz)) ⟨ho,ho2,?_⟩
  rw[e];exact h2 hw
noncomputable def ko(n d:Nat):Option Int→Nat
 |none=>d
 |some v=>if v<0 then(v+(n:Int)).toNat else min v.toNat n
theorem Ea(n d:Nat):ko n d none=d:=rfl
theorem J9(n d k:Nat):ko n d (some (k:Int))=min k n:=by
 show(if(k:Int)<0 then((k:Int)+(n:Int)).toNat else min (k:Int).toNat n)=min k n;rw[if_neg (by omega),Int.toNat_natCast]
theorem zix(n d:Nat)(hd:d≤n)(o:Option Int):ko n d o≤n:=by
 cases o with
 |none=>exact hd
 |some v=>
  show(if v<0 then(v+(n:Int)).toNat else min v.toNat n)≤n
  by_cases hv:v<0
  ·rw[if_pos hv];omega
  ·rw[if_neg hv];exact Nat.min_le_right _ _
theorem Q3(v:Int)(n d:Nat):(if v<0 then max (v+(n:Int)) 0 else min v (n:Int))=((ko n d (some v):Nat):Int):=by
 show(if v<0 then max (v+(n:Int)) 0 else min v (n:Int))=(((if v<0 then(v+(n:Int)).toNat else min v.toNat n):Nat):Int)
 by_cases hv:v<0
 ·simp only[if_pos hv];omega
 ·simp only[if_neg hv];omega
theorem Ny(lo hi:Option Int)(n:Nat):Builtin.Slice.sliceAdjust lo hi 1 (n:Int)=(((ko n 0 lo:Nat):Int),((ko n n hi:Nat):Int)):=by
 have h1:¬((1:Int)<0):=by omega
 unfold Builtin.Slice.sliceAdjust;simp only[h1,if_false];refine Prod.ext ?_ ?_
 ·cases lo with
  |none=>rfl
  |some v=>exact Q3 v n 0
 ·cases hi with
  |none=>rfl
  |some v=>exact Q3 v n n
theorem P2(i j:Nat):Builtin.Slice.slicePlaces (i:Int) (j:Int) 1=j - i:=by
 unfold Builtin.Slice.slicePlaces;have h1:(1:Int)>0:=by omega
 simp only[h1,if_true,Int.ediv_one];split<;>omega
theorem Ei{v:Value}{o:Option Int}{Q:Option Int→Shared→Prop}(p:IsPart v o)(h:Q o s):wpAny (model prog w) A (Builtin.Slice.slicePartIndex v) Q E s:=by
 cases p with
 |none=>exact slicePart_none h
 |int i t=>exact slicePart_int h
theorem rm{sl:Addr}{vl vu:Value}{lo hi:Option Int}{n:Nat}{Q:Int×Int×Nat→Shared→Prop}(hs:s.heap.IsSliceOf sl vl vu .none)(pl:IsPart vl lo)(pu:IsPart vu hi)
  (h:Q (((ko n 0 lo:Nat):Int),1,ko n n hi - ko n 0 lo) s):wpAny (model prog w) A (Builtin.Slice.sliceApplied (.ref sl) (pure (n:Int))) Q E s:=by
 obtain⟨os,hos,hcs,hds⟩:=id hs;unfold Builtin.Slice.sliceApplied Builtin.Slice.sliceFields;refine wpAny_bind (wpAny_bind (wpAny_field hos hds (x:=vl) rfl (wpAny_bind (wpAny_field hos hds (x:=vu) rfl (wpAny_bind (wpAny_field hos hds (x:=.none) rfl (wpAny_pure ?_)))))));refine wpAny_bind (slicePart_none ?_);show wpAny _ _ (if((1:Int)==0)=true then _ else _) _ _ s;rw[if_neg (by decide)];refine wpAny_bind (Ei pl (wpAny_bind (Ei pu (wpAny_bind (wpAny_pure ?_)))));show wpAny _ _ (match Builtin.Slice.sliceAdjust lo hi 1 (n:Int)with|(lo,hi)=>pure (lo,(1:Int),Builtin.Slice.slicePlaces lo hi 1)) _ _ s;rw[Ny lo hi n];show wpAny _ _ (pure (((ko n 0 lo:Nat):Int),(1:Int),Builtin.Slice.slicePlaces ((ko n 0 lo:Nat):Int) ((ko n n hi:Nat):Int) 1)) _ _ s;rw[P2];exact wpAny_pure h
theorem Y3(xs:Array Value)(i k:Nat):((kAj k).filterMap λ(m:Nat)=>xs[((i:Int)+(m:Int) * 1).toNat]?).toArray=((xs.toList.drop i).take k).toArray:=by
 have e:(λ(m:Nat)=>xs[((i:Int)+(m:Int) * 1).toNat]?)=λm=>xs[i+m]?:=by
  funext m
  have:((i:Int)+(m:Int) * 1).toNat=i+m:=by omega
  rw[this]
 rw[e];have:=pick_run xs i k;rw[List.filterMap_map]at this;have e2:((λx=>xs[x]?) ∘ λx=>i+x)=λm=>xs[i+m]?:=rfl;rw[e2]at this;rw[this]
theorem yb{t sl:Addr}{items:Array Value}{vl vu:Value}{lo hi:Option Int}{Q:Value→Shared→Prop}(ht:IsTup s.heap t items)(hs:s.heap.IsSliceOf sl vl vu .none)(pl:IsPart vl lo)(pu:IsPart vu hi)
  (hw:¬(ko items.size 0 lo=0∧ko items.size items.size hi=items.size))
  (h:Q (.ref s.heap.objs.size) {s with heap:=s.heap.push {cls:=.type "tuple",data:=.seq ((items.toList.drop (ko items.size 0 lo)).take (ko items.size items.size hi - ko items.size 0 lo)).toArray}})
  (hsz:items.size≤sizeLine):wpAny (model prog w) A (getItem (.ref t) (.ref sl)) Q E s:=by
 have htake:sizeOk (.seq ((items.toList.drop (ko items.size 0 lo)).take (ko items.size items.size hi - ko items.size 0 lo)).toArray):=by
  show((items.toList.drop (ko items.size 0 lo)).take (ko items.size items.size hi - ko items.size 0 lo)).toArray.size≤sizeLine;rw[kAh,List.length_take,List.length_drop,Array.length_toList];omega
 have hj:ko items.size items.size hi≤items.size:=zix _ _ (kA1 _) hi;obtain⟨os,hos,hcs,hds⟩:=id hs;have hTs:s.TypeIs (.ref sl) "slice":=⟨os,hos,hcs⟩;unfold getItem
 try with_reducible refine wpAny_holding ?_
 first|refine wpAny_bind (wpAny_pure ?_)|skip
 refine wpAny_bind (wpAny_sequenceKey ht.typeIs (by decide) ?_);refine wpAny_bind (wpAny_callSpecial?_slot (name:=Str.ofString "__getitem__") ht.typeIs PyProof.Rows.slot_tuple_getitem
  (wpAny_call_entry PyProof.Rows.slot_tuple_getitem ht.typeIs entry_tuple_getitem ?_ (args_tuple_getitem _ _)))
 show wpAny _ _ (Builtin.Tuple.tupleItemsOf (.ref t)>>=_) _ _ s;refine wpAny_bind (tupleItemsOf_ ht ?_);refine wpAny_bind (wpAny_typeOf hTs ?_);rw[if_pos (by decide)];refine wpAny_bind (rm hs pl pu ?_);have hno:¬((((ko items.size 0 lo:Nat):Int)==0 && (1:Int)==1 && (ko items.size items.size hi - ko items.size 0 lo)==items.size)=true):=by
  intro q;rw[kA4,kA4]at q;have q1:((ko items.size 0 lo:Nat):Int)=0:=eq_of_beq q.1.1;have q2:ko items.size items.size hi - ko items.size 0 lo=items.size:=eq_of_beq q.2;exact hw ⟨by omega,by omega⟩
 show wpAny _ _ (if(((ko items.size 0 lo:Nat):Int)==0 && (1:Int)==1 && (ko items.size items.size hi - ko items.size 0 lo)==items.size)=true then _ else _) _ _ s;rw[if_neg hno,Y3]
 first
  |exact wpAny_bind (m:=Builtin.Tuple.tupleExact _) (wpAny_newObj_type (wpAny_pure ⟨_,rfl,wpAny_pure h⟩) htake)
  |exact wpAny_bind (m:=Builtin.Tuple.tupleExact _) (wpAny_newObj_type (wpAny_bind (wpAny_pure (wpAny_pure ⟨_,rfl,wpAny_pure h⟩))) htake)
  |exact wpAny_bind (wpAny_bind (m:=Builtin.Tuple.tupleExact _) (wpAny_newObj_type (wpAny_pure (wpAny_pure ⟨_,rfl,wpAny_pure h⟩)) htake))
  |exact wpAny_bind (wpAny_bind (m:=Builtin.Tuple.tupleExact _) (wpAny_newObj_type (wpAny_pure ⟨_,rfl,wpAny_pure h⟩) htake))
end
end HT
namespace L2
open PySem PySem.Spec PyProof.Rows
noncomputable abbrev TO:=St→Hp→(Option Int→Hp→Prop)→Prop
noncomputable def PO(X:Cx)(e:Option Expr)(t:TO):Prop:=
 ∀(pins:List (Addr×Obj))(s:Shared)(σ:St)(H:Hp)(Q:Option Int→Hp→Prop),Inv X pins σ H s→t σ H Q→
  wpAny (model X.prog X.w) X.A (evalPart e X.env) (λu s'=>∃o H',Inv X pins σ H' s'∧IsPart u o∧Q o H') X.xe s
noncomputable def zd8:TO:=λ_ H Q=>Q none H
noncomputable def zmk(t:TE):TO:=λσ H Q=>t σ H λx H1=>∃i,x=.int i∧Q (some i) H1
section
variable{X:Cx}{e:Expr}{te:TE}{lo hi:Option Expr}{tl th:TO}{pos p2:Pos}
theorem zc1:PO X none zd8:=by
 intro pins s σ H Q I h;rw[evalPart_none];exact wpAny_pure ⟨none,H,I,.none,h⟩
theorem zc2(h:PE X e te):PO X (some e) (zmk te):=by
 intro pins s σ H Q I hw;rw[evalPart_some];refine kc (h pins s σ H _ I hw) λu s1 ⟨x,H1,I1,r1,q1⟩=>?_;obtain⟨i,rfl,q⟩:=q1;obtain⟨t,rfl⟩:=r1;exact⟨some i,H1,I1,.int i t,q⟩
noncomputable def SlR(X:Cx)(r:V→Option Int→Option Int→Hp→VK→Prop):Prop:=
 ∀(pins:List (Addr×Obj))(s:Shared)(σ:St)(H:Hp)(x:V)(v vl vu:Value)(lo hi:Option Int)(sl:Addr)(Q:VK),Inv X pins σ H s→RelV x v→s.heap.IsSliceOf sl vl vu .none→IsPart vl lo→IsPart vu hi→r x lo hi H Q→
  ∃T id,typeLookup (.type T) "__getitem__"=pure (some (.builtin id))∧s.TypeIs v T∧wpAny (model X.prog X.w) X.A (getItem v (.ref sl)) (EP X pins σ Q) X.xe s
theorem SlR.or{r r':V→Option Int→Option Int→Hp→VK→Prop}(h:SlR X r)(h':SlR X r'):SlR X (λx lo hi H Q=>r x lo hi H Q∨r' x lo hi H Q):=by
 intro pins s σ H x v vl vu lo hi sl Q I rx hs pl pu q;rcases q with q|q
 ·exact h pins s σ H x v vl vu lo hi sl Q I rx hs pl pu q
 ·exact h' pins s σ H x v vl vu lo hi sl Q I rx hs pl pu q
noncomputable def tSl(r:V→Option Int→Option Int→Hp→VK→Prop)(te:TE)(tl th:TO):TE:=λσ H Q=>te σ H λx H1=>tl σ H1 λl H2=>th σ H2 λu H3=>r x l u H3 Q
theorem Yx{r:V→Option Int→Option Int→Hp→VK→Prop}(hr:SlR X r)(he:PE X e te)(hl:PO X lo tl)(hu:PO X hi th):PE X (.Subscript e (.Slice lo hi none p2) pos) (tSl r te tl th):=by
 intro pins s σ H Q I h;refine Subscript_ (kc (he pins s σ H _ I h) λv s1 ⟨x,H1,I1,r1,q1⟩=>?_);refine wpAny_Slice (kc (hl pins s1 σ H1 _ I1 q1) λvl s2 ⟨l,H2,I2,pl,q2⟩=>kc (hu pins s2 σ H2 _ I2 q2) λvu s3 ⟨u,H3,I3,pu,q3⟩=>?_);rw[evalPart_none];refine wpAny_pure ?_;have I4:Inv X pins σ H3 {s3 with heap:=s3.heap.push {cls:=.type "slice",data:=.fields #[vl,vu,.none]}}:=I3.kept (t':=s3.toks) λb ob q=>Heap.get?_push_of_some _ q;obtain⟨T,id,hT,ht,hg⟩:=hr pins {s3 with heap:=s3.heap.push {cls:=.type "slice",data:=.fields #[vl,vu,.none]}} σ H3 x v vl vu l u s3.heap.objs.size Q I4 r1 (Heap.IsSliceOf.new ..) pl pu q3;show wpAny (model X.prog X.w) X.A (subscriptTail e (.Slice lo hi none p2) v (.ref s3.heap.objs.size)) (EP X pins σ Q) X.xe {s3 with heap:=s3.heap.push {cls:=.type "slice",data:=.fields #[vl,vu,.none]}};exact tail_any (ops:=[.ref s3.heap.objs.size,v]) ht hT hg (by with_unfolding_all rfl)
noncomputable def Bi(xs:List V)(lo hi:Option Int):List V:=(xs.drop (HT.ko xs.length 0 lo)).take (HT.ko xs.length xs.length hi - HT.ko xs.length 0 lo)
theorem As(xs:List V)(lo hi:Option Int):(Bi xs lo hi).length≤xs.length:=by
 unfold Bi;rw[List.length_take,List.length_drop];omega
noncomputable def zo6(K:PySem.W.Frag):V→Option Int→Option Int→Hp→VK→Prop:=λx lo hi H Q=>∃a xs,x=.ref a∧SqT K H a xs∧
 ¬(HT.ko xs.length 0 lo=0∧HT.ko xs.length xs.length hi=xs.length)∧∀p,H p=none→Q (.ref p) (upd H p (.tup (Bi xs lo hi)))
theorem zi8:SlR X (zo6 X.K):=by
 intro pins s σ H x v vl vu lo hi sl Q I rx hs pl pu h;obtain⟨a,xs,rfl,hx,hw,q⟩:=h;cases rx;obtain⟨its,r,ht,hz⟩:=I.tuple hx;have hlen:its.toArray.size=xs.length:=by rw[kAh];exact r.length.symm
 refine⟨"tuple",_,PyProof.Rows.slot_tuple_getitem.lookup,ht.typeIs,?_⟩;refine HT.yb ht hs pl pu (by rw[hlen];exact hw) ?_ (by rw[hlen];exact hz);rw[hlen];refine⟨.ref s.heap.objs.size,_,I.laid (t':=s.toks) (o:=.tup (Bi xs lo hi)) (λb ob q=>Heap.get?_push_of_some _ q) (kA1 _) ?_,rfl,q _ (I.hok.fresh (kA1 _))⟩;exact⟨kAk (As xs lo hi) hz,_,(r.drop (HT.ko xs.length 0 lo)).take (HT.ko xs.length xs.length hi - HT.ko xs.length 0 lo),IsTup.new _ _⟩
noncomputable def zlx(K:PySem.W.Frag):R2:=λx y H Q=>∃a b xs ys,x=.ref a∧y=.ref b∧SqT K H a xs∧SqT K H b ys∧xs≠[]∧xs.length+ys.length≤sizeLine∧
 (ys=[]→Q (.ref a) H)∧(ys≠[]→∀p,H p=none→Q (.ref p) (upd H p (.tup (xs++ys))))
theorem Vals.nil_iff{xs:List V}{us:List Value}(r:Vals xs us):us=[]↔xs=[]:=by
 cases r with
 |nil=>simp
 |cons _ _=>simp
theorem zco:OpR X (binaryOp .Add) (zlx X.K):=by
 intro pins s σ H x y v u Q I rx ry h;obtain⟨a,b,xs,ys,rfl,rfl,ha,hb,hx,hz,q1,q2⟩:=h;cases rx;cases ry;obtain⟨its,r1,p1,_⟩:=I.tuple ha;obtain⟨its2,r2,p2,_⟩:=I.tuple hb;refine HT.zbj p1 p2 (λz=>hx (r1.nil_iff.mp z)) (λz=>⟨.ref a,H,I,rfl,q1 (r2.nil_iff.mp z)⟩) (λz=>?_) (by rw[←r1.length,←r2.length];exact hz);refine⟨.ref s.heap.objs.size,_,I.laid (t':=s.toks) (o:=.tup (xs++ys)) (λb ob q=>Heap.get?_push_of_some _ q) (kA1 _) ?_,rfl,q2 (λw=>z (r2.nil_iff.mpr w)) _ (I.hok.fresh (kA1 _))⟩;exact⟨by rw[kAf];exact hz,_,r1.append r2,IsTup.new _ _⟩
end
end L2
namespace L2
open PySem PySem.Spec PyProof.Rows
noncomputable def ixN(n:Nat)(i:Int):Option Nat:=if 0≤i then(if i<n then some i.toNat else none)else if -(n:Int)≤i then some (i+n).toNat else none
noncomputable def atI{α:Type}(xs:List α)(i:Int):Option α:=(ixN xs.length i).bind λj=>xs[j]?
theorem zbw{n:Nat}{i:Int}{j:Nat}(h:ixN n i=some j):seqIndex? i n=some j∧j<n∧-(n:Int)≤i∧i<n:=by
 unfold ixN at h
 by_cases h0:0≤i
 ·rw[if_pos h0]at h
  by_cases h1:i<n
  ·rw[if_pos h1]at h;have e:i.toNat=j:=kAi.inj h;exact⟨by rw[seqIndex_of h0 h1,e],by omega,by omega,h1⟩
  ·rw[if_neg h1]at h;cases h
 ·rw[if_neg h0]at h
  by_cases h1:-(n:Int)≤i
  ·rw[if_pos h1]at h;have e:(i+n).toNat=j:=kAi.inj h;exact⟨by rw[seqIndex_neg (by omega) h1,e],by omega,h1,by omega⟩
  ·rw[if_neg h1]at h;cases h
theorem Hx{α:Type}{xs:List α}{i:Int}{v:α}(h:atI xs i=some v):∃j,seqIndex? i xs.length=some j∧xs[j]?=some v∧j<xs.length∧-(xs.length:Int)≤i∧i<xs.length:=by
 unfold atI at h;cases e:ixN xs.length i with
 |none=>rw[e]at h;cases h
 |some j=>
  rw[e]at h;obtain⟨h1,h2,h3,h4⟩:=zbw e;exact⟨j,h1,h,h2,h3,h4⟩
theorem B3{α:Type}{xs:List α}{j:Nat}{v:α}(h:xs[j]?=some v):atI xs (j:Int)=some v:=by
 have hj:j<xs.length:=(kAq.mp h).1;have e:ixN xs.length (j:Int)=some j:=by
  unfold ixN;rw[if_pos (by omega),if_pos (by omega)];simp
 unfold atI;rw[e];exact h
def Hu(b:Expr):Prop:=∀o i,subscripted b false o i=operate [o,i] (getItem o i)
noncomputable def IxR(X:Cx)(r:R2):Prop:=
 ∀(value slice:Expr)(pins:List (Addr×Obj))(s:Shared)(σ:St)(H:Hp)(x y:V)(v u:Value)(Q:VK),Inv X pins σ H s→RelV x v→RelV y u→r x y H Q→
  subscripted slice false v u=operate [v,u] (getItem v u)→wpAny (model X.prog X.w) X.A (subscriptTail value slice v u) (EP X pins σ Q) X.xe s
noncomputable def MtR(X:Cx)(id:String)(r:V→List V→Hp→VK→Prop):Prop:=
 ∀(pins:List (Addr×Obj))(s:Shared)(σ:St)(H:Hp)(x:V)(xs:List V)(v:Value)(us:List Value)(Q:VK),Inv X pins σ H s→RelV x v→Vals xs us→r x xs H Q→
  wpAny (model X.prog X.w) X.A (call (.builtin id) (v::us)) (EP X pins σ Q) X.xe s
section
variable{X:Cx}{a b:Expr}{ta tb:TE}{pos:Pos}
theorem IxR.or{r r':R2}(h:IxR X r)(h':IxR X r'):IxR X (λx y H Q=>r x y H Q∨r' x y H Q):=by
 intro value slice pins s σ H x y v u Q I rx ry q hs;rcases q with q|q
 ·exact h value slice pins s σ H x y v u Q I rx ry q hs
 ·exact h' value slice pins s σ H x y v u Q I rx ry q hs
theorem MtR.or{id:String}{r r':V→List V→Hp→VK→Prop}(h:MtR X id r)(h':MtR X id r'):MtR X id (λx xs H Q=>r x xs H Q∨r' x xs H Q):=by
 intro pins s σ H x xs v us Q I rx rs q;rcases q with q|q
 ·exact h pins s σ H x xs v us Q I rx rs q
 ·exact h' pins s σ H x xs v us Q I rx rs q
theorem zlg{r:R2}(hr:IxR X r)(ha:PE X a ta)(hb:PE X b tb)(hs:Hu b):PE X (.Subscript a b pos) (tOp r ta tb):=by
 intro pins s σ H Q I h;exact Subscript_ (zf9 ha hb I h λv u s2 x y H2 I2 rx ry q=>hr a b pins s2 σ H2 x y v u Q I2 rx ry q (hs _ _))
noncomputable def zl0(K:PySem.W.Frag):R2:=λx y H Q=>∃p xs i v,x=.ref p∧y=.int i∧SqL K H p xs∧atI xs i=some v∧Q v H
noncomputable def zl2(K:PySem.W.Frag):R2:=λx y H Q=>∃p xs i v,x=.ref p∧y=.int i∧SqT K H p xs∧atI xs i=some v∧Q v H
noncomputable def zl1:R2:=λx y H Q=>∃z i c,x=.str z∧y=.int i∧z.length≤sizeLine∧atI z.cps.toList i=some c∧Q (.str ⟨#[c]⟩) H
theorem Jc:IxR X (zl0 X.K):=by
 intro value slice pins s σ H x y v u Q I rx ry h hs;obtain⟨p,xs,i,z,rfl,rfl,hq,he,q⟩:=h;cases rx;obtain⟨t,rfl⟩:=ry;obtain⟨its,r,pl,hz⟩:=I.list hq;obtain⟨j,h1,h2,h3,h4,h5⟩:=Hx he;obtain⟨w,ew,rw'⟩:=r.get h2;have hl:=r.length;have hn:=Dp;have fin:EP X pins σ Q w s:=⟨z,H,I,rw',q⟩
 by_cases h0:0≤i
 ·have hj:i.toNat=j:=by
   rw[seqIndex_of h0 h5]at h1;exact kAi.inj h1
  exact item_listR pl.isList h0 (by omega) (by rw[hj];simpa using ew) fin hs
 ·have hj:(i+(its.toArray.size:Int)).toNat=j:=by
   rw[seqIndex_neg (by omega) h4]at h1;rw[kAh,←hl];exact kAi.inj h1
  exact subscriptTail_builtinR (x:=w) pl.isList.typeIs slot_list_getitem.lookup
   (wpAny_getItem_list_neg (Q:=λr s'=>r=w∧EP X pins σ Q r s') pl.isList (by omega) (by rw[kAh]<;>omega) (by omega) (by rw[hj];simpa using ew) ⟨rfl,fin⟩) hs
theorem zgx:IxR X (zl2 X.K):=by
 intro value slice pins s σ H x y v u Q I rx ry h hs;obtain⟨p,xs,i,z,rfl,rfl,hq,he,q⟩:=h;cases rx;obtain⟨t,rfl⟩:=ry;obtain⟨its,r,pl,hz⟩:=I.tuple hq;obtain⟨j,h1,h2,h3,h4,h5⟩:=Hx he;obtain⟨w,ew,rw'⟩:=r.get h2;have hl:=r.length;have hn:=Dp;have fin:EP X pins σ Q w s:=⟨z,H,I,rw',q⟩;exact subscriptTail_builtinR (x:=w) pl.typeIs slot_tuple_getitem.lookup
  (getItem_tuple (j:=j) (Q:=λr s'=>r=w∧EP X pins σ Q r s') pl (by omega) (by omega) (by rw[kAh,←hl];exact h1) (by simpa using ew) ⟨rfl,fin⟩) hs
theorem zgw:IxR X zl1:=by
 intro value slice pins s σ H x y v u Q I rx ry h hs;obtain⟨z,i,c,rfl,rfl,hz,he,q⟩:=h;obtain⟨t,rfl⟩:=rx;obtain⟨t',rfl⟩:=ry;obtain⟨j,h1,h2,h3,h4,h5⟩:=Hx he;have hl:z.cps.toList.length=z.length:=by simp[Str.length]
 rw[hl]at h1 h4 h5;have hn:=Dp;exact tail_any (typeIs_str s z t) slot_str_getitem.lookup (getItem_str (c:=c) (by
  have e1:decide (i< -(2 ^ 63:Int))=false:=decide_eq_false (by omega);have e2:decide (i≥2 ^ 63)=false:=decide_eq_false (by omega);rw[e1,e2,Bool.or_false]) (by rw[h1];simpa using h2) ⟨.str ⟨#[c]⟩,H,I.tok _,⟨_,rfl⟩,q⟩) hs
noncomputable def rIx(K:PySem.W.Frag):R2:=λx y H Q=>zl0 K x y H Q∨zl2 K x y H Q∨zl1 x y H Q
theorem zgv:IxR X (rIx X.K):=Jc.or (zgx.or zgw)
theorem Inv.lst{pins:List (Addr×Obj)}{σ:St}{H:Hp}{s:Shared}{p:Addr}{xs:List V}(I:Inv X pins σ H s)(h:H p=some (.lst xs)):
  ∃(its:List Value) (n:Nat),Vals xs its∧s.heap.get? p=some {cls:=.type "list",data:=.seq its.toArray n}∧xs.length≤sizeLine:=by
 obtain⟨z,its,n,r,e⟩:=I.hok p _ h;exact⟨its,n,r,e,z⟩
theorem Kb(lo hi:Option Int)(n:Nat):(sliceBounds lo hi none n).1=((HT.ko n 0 lo:Nat):Int)∧(sliceBounds lo hi none n).2.1=((HT.ko n n hi:Nat):Int)∧(sliceBounds lo hi none n).2.2=1:=by
 refine⟨?_,?_,rfl⟩
 ·cases lo with
  |none=>simp[sliceBounds,HT.ko]
  |some i=>
   simp only[sliceBounds,HT.ko,Option.getD_none,show(1:Int)>0 by decide,if_true]
   by_cases h:i<0
   ·simp only[h,if_true]<;>omega
   ·simp only[h,if_false]<;>omega
 ·cases hi with
  |none=>simp[sliceBounds,HT.ko]
  |some i=>
   simp only[sliceBounds,HT.ko,Option.getD_none,show(1:Int)>0 by decide,if_true]
   by_cases h:i<0
   ·simp only[h,if_true]<;>omega
   ·simp only[h,if_false]<;>omega
theorem F6(its:List Value)(lo hi:Option Int):slicePick its.toArray lo hi none=((its.drop (HT.ko its.length 0 lo)).take (HT.ko its.length its.length hi - HT.ko its.length 0 lo)).toArray:=by
 obtain⟨h1,h2,h3⟩:=Kb lo hi its.toArray.size;unfold slicePick;rw[h1,h2,h3];simp only[sliceRange_one,pick_run,kAh]<;>rfl
noncomputable def zo5(K:PySem.W.Frag):V→Option Int→Option Int→Hp→VK→Prop:=λx lo hi H Q=>∃a xs,x=.ref a∧SqL K H a xs∧∀p,H p=none→Q (.ref p) (upd H p (.lst (Bi xs lo hi)))
theorem zd1:SlR X (zo5 X.K):=by
 intro pins s σ H x v vl vu lo hi sl Q I rx hs pl pu h;obtain⟨a,xs,rfl,hx,q⟩:=h;cases rx;obtain⟨its,r,ht,hz⟩:=I.list hx;have hlen:=r.length;refine⟨"list",_,slot_list_getitem.lookup,ht.isList.typeIs,?_⟩;refine wpAny_getItem_list_slice ht.isList hs pl pu .none (by simp) ?_ (by rw[kAh]<;>omega);rw[F6,←hlen];refine⟨.ref s.heap.objs.size,_,I.laid (t':=s.toks) (o:=.lst (Bi xs lo hi)) (λb ob q=>Heap.get?_push_of_some _ q) (kA1 _) ?_,rfl,q _ (I.hok.fresh (kA1 _))⟩;exact⟨kAk (As xs lo hi) hz,_,0,(r.drop (HT.ko xs.length 0 lo)).take (HT.ko xs.length xs.length hi - HT.ko xs.length 0 lo),Heap.get?_push_size _ rfl⟩
theorem CallR.or{f:Value}{r r':List V→Hp→VK→Prop}(h:CallR X f r)(h':CallR X f r'):CallR X f (λxs H Q=>r xs H Q∨r' xs H Q):=by
 intro pins s σ H xs us Q I rs q;rcases q with q|q
 ·exact h pins s σ H xs us Q I rs q
 ·exact h' pins s σ H xs us Q I rs q
theorem Ie:CallR X (.type "list") (λxs H Q=>∃p ys,xs=[.ref p]∧(SqL X.K H p ys∨SqT X.K H p ys)∧∀l,H l=none→Q (.ref l) (upd H l (.lst ys))):=by
 intro pins s σ H xs us Q I r h;obtain⟨p,ys,rfl,hq,q⟩:=h;obtain⟨u,rfl,rx⟩:=qj r;cases rx;have fin:∀(its:List Value),Vals ys its→ys.length≤sizeLine→∀(h':Heap)(c':Nat),(∀b o',s.heap.get? b=some o'→h'.get? b=some o')→
   h'.get? s.heap.objs.size=some {cls:=.type "list",dict:=none,data:=.seq its.toArray c',slots:=#[]}→EP X pins σ Q (.ref s.heap.objs.size) {s with heap:=h'}:=λits r' hz h' c' kp e=>
  ⟨.ref s.heap.objs.size,_,I.laid (t':=s.toks) kp (kA1 _) (show ObjOk X.prog X.w _ h' _ (.lst ys)from⟨hz,its,c',r',e⟩),rfl,q _ (I.hok.fresh (kA1 _))⟩
 rcases hq with hq|hq
 ·obtain⟨its,r',pl,hz⟩:=I.list hq;have hlen:=r'.length;obtain⟨o,ho,hc,n,hd⟩:=pl.isList;exact call_list_seq p (.inl rfl) ho hc hd (λh' c' kp e=>fin its r' hz h' c' kp e) (by simp only[kAh]<;>omega)
 ·obtain⟨its,r',pl,hz⟩:=I.tuple hq;have hlen:=r'.length;obtain⟨o,ho,hc,n,hd⟩:=pl;exact call_list_seq p (.inr rfl) ho hc hd (λh' c' kp e=>fin its r' hz h' c' kp e) (by simp only[kAh]<;>omega)
theorem Fg:CallR X (.type "tuple") (λxs H Q=>∃p ys,xs=[.ref p]∧((SqL X.K H p ys∧∀l,H l=none→Q (.ref l) (upd H l (.tup ys)))∨(SqT X.K H p ys∧Q (.ref p) H))):=by
 intro pins s σ H xs us Q I r h;obtain⟨p,ys,rfl,h⟩:=h;obtain⟨u,rfl,rx⟩:=qj r;cases rx;rcases h with ⟨hq,q⟩|⟨hq,q⟩
 ·obtain⟨its,r',pl,hz⟩:=I.list hq;have hlen:=r'.length;refine call_tuple_list pl.isList (λh' kp=>?_) (by simp only[kAh]<;>omega);have I1:Inv X pins σ H {s with heap:=h'}:=I.kept (t':=s.toks) kp;have I2:Inv X pins σ (upd H h'.objs.size (.tup ys)) {s with heap:=h'.push {cls:=.type "tuple",data:=.seq its.toArray}}:=
   I1.laid (t':=s.toks) (λb o e=>Heap.get?_push_of_some _ e) (kA1 _) (show ObjOk X.prog X.w _ _ _ (.tup ys)from⟨hz,its,r',IsTup.new _ _⟩)
  exact⟨.ref h'.objs.size,_,I2,rfl,q _ (I1.hok.fresh (kA1 _))⟩
 ·obtain⟨its,r',pl,hz⟩:=I.tuple hq;exact call_tuple_same pl ⟨.ref p,H,I,rfl,q⟩
def tyV(K:PySem.W.Frag)(T:String)(x:V)(H:Hp):Prop:=match x with
 |.str _=>T="str"
 |.int _=>T="int"
 |.ref p=>(T="list"∧∃xs,SqL K H p xs)∨(T="tuple"∧∃o,K.lookup p=some o∧o.cls=.type "tuple"∧o.dict=none)∨
   (T="dict"∧((∃kvs,H p=some (.dK kvs))∨∃kvs,H p=some (.dT kvs)))∨(T="set"∧∃S n,H p=some (.set S n))
 |_=>False
theorem zjl{pins:List (Addr×Obj)}{σ:St}{H:Hp}{s:Shared}{T:String}{x:V}{v:Value}(I:Inv X pins σ H s)(r:RelV x v)(ty:tyV X.K T x H):
  s.TypeIs v T∧∀a,v=.ref a→∃ob,s.heap.get? a=some ob∧ob.dict=none:=by
 cases x with
 |str z=>
  obtain⟨t,rfl⟩:=r;cases (show T="str" from ty);exact⟨typeIs_str s z t,λ_ e=>nomatch e⟩
 |int i=>
  obtain⟨t,rfl⟩:=r;cases (show T="int" from ty);exact⟨typeIs_int s i t,λ_ e=>nomatch e⟩
 |ref p=>
  cases r;rcases ty with ⟨rfl,xs,hq⟩|⟨rfl,o,hk,hc,hd⟩|⟨rfl,hk⟩|⟨rfl,S,n,hk⟩
  ·obtain⟨its,_,pl,_⟩:=I.list hq;refine⟨pl.isList.typeIs,λa e=>?_⟩;cases e;obtain⟨o,n,e,c,hd,_⟩:=pl;exact⟨o,e,hd⟩
  ·refine⟨⟨o,I.kIn p o hk,hc⟩,λa e=>?_⟩;cases e;exact⟨o,I.kIn _ o hk,hd⟩
  ·have z:∃o,s.heap.get? p=some o∧o.ExactDict:=by
    rcases hk with ⟨kvs,hk⟩|⟨kvs,hk⟩
    ·obtain⟨_,_,_,_,o,_,_,e,ex,_⟩:=I.hok p _ hk;exact⟨o,e,ex⟩
    ·obtain⟨_,_,_,_,o,_,_,e,ex,_⟩:=I.hok p _ hk;exact⟨o,e,ex⟩
   obtain⟨o,e,ex⟩:=z;refine⟨⟨o,e,ex.1⟩,λa e2=>?_⟩;cases e2;exact⟨o,e,ex.2.1⟩
  ·obtain⟨o,_,_,_,e,ex,_⟩:=I.hok p _ hk;refine⟨⟨o,e,ex.1⟩,λa e2=>?_⟩;cases e2;exact⟨o,e,ex.2.1⟩
 |_=>exact False.elim ty
noncomputable def tBM(K:PySem.W.Frag)(T:String)(r:V→List V→Hp→VK→Prop)(to:TE)(t:TA):TE:=λσ H Q=>to σ H λx H1=>tyV K T x H1∧t σ H1 λxs H2=>r x xs H2 Q
variable{o e:Expr}{es:List Expr}{to:TE}{t:TA}{name:Str}{apos cpos:Pos}{T id:String}{r:V→List V→Hp→VK→Prop}
theorem Yr(pa:PlainAttrs T)(slot:Slot T name id)(hty:typeOf (.builtin id)=pure (.type "method_descriptor"))(hm:MtR X id r)(ho:PE X o to)(ha:PA X (e::es) t)
  (hbase:attributeBase o name X.env (eval o X.env)=eval o X.env:=by rfl)
  (hfew:((backTo cpos (starEach (e::es) X.env)).all (λx=> !x.1) && (backToKw cpos (keywordEach [] X.env)).all (λx=>x.1.isSome)
   && decide ((e::es).length+([]:List Keyword).length+(if([]:List Keyword).isEmpty then 0 else 1)<30))=true:=by rfl)
  (hline:(apos.endLine==cpos.line)=true:=by rfl) (hs:starEach (e::es) X.env=(false,eval e X.env)::starEach es X.env:=by rfl) (hplain:(backTo cpos (starEach es X.env)).any (·.1)=false:=by rfl):
  PE X (.Call (.Attribute o name apos) (e::es) [] cpos) (tBM X.K T r to t):=by
 intro pins s σ H Q I h;refine wpAny_Call_method_late hbase hfew hline rfl (kc (ho pins s σ H _ I h) λv s1 ⟨x,H1,I1,r1,ty,q1⟩=>?_);obtain⟨h1,h2⟩:=zjl I1 r1 ty;refine⟨T,id,pa,slot,hty,h1,h2,?_⟩;have hA:=ha cpos pins s1 σ H1 _ I1 q1;rw[hs]at hA⊢;refine Calls.callWith_builtin (by show(false||(backTo cpos (starEach es X.env)).any (·.1))=false;rw[hplain]<;>rfl) (Calls.evalArgs_plain ?_);exact kc hA λus s2 ⟨vs,H2,I2,r2,q2⟩=>hm pins s2 σ H2 x vs v us Q I2 r1 r2 q2
end
end L2
namespace L2
open PySem PySem.Spec PyProof.Rows
noncomputable def MtM(X:Cx)(id:String)(r:V→List V→Hp→VK→Prop):Prop:=
 ∀(pins:List (Addr×Obj))(s:Shared)(σ:St)(H:Hp)(x:V)(xs:List V)(v:Value)(us:List Value)(Q:VK),Inv X pins σ H s→RelV x v→Vals xs us→r x xs H Q→
  wpAny (model X.prog X.w) X.A (call (.builtin id) (v::us)) (EP X pins σ Q) X.xe s
theorem Vals.one:∀{x:V}{us:List Value},Vals [x] us→∃u,us=[u]∧RelV x u
 |_,_,.cons r .nil=>⟨_,rfl,r⟩
theorem Vals.two:∀{x y:V}{us:List Value},Vals [x,y] us→∃u v,us=[u,v]∧RelV x u∧RelV y v
 |_,_,_,.cons r (.cons q .nil)=>⟨_,_,rfl,r,q⟩
theorem Vals.zero:∀{us:List Value},Vals [] us→us=[]
 |_,.nil=>rfl
theorem Vals.eraseIdx:∀{xs:List V}{us:List Value}(i:Nat),Vals xs us→Vals (xs.eraseIdx i) (us.eraseIdx i)
 |_,_,_,.nil=>.nil
 |_,_,0,.cons _ t=>t
 |_,_,i+1,.cons r t=>.cons r (Vals.eraseIdx i t)
section
variable{X:Cx}{pins:List (Addr×Obj)}{σ:St}{H:Hp}{s:Shared}{l b:Addr}{xs ys zs:List V}
theorem Inv.lset{its its':List Value}{n:Nat}{f:Array Value→Array Value}{t':Nat}(I:Inv X pins σ H s)(hH:H l=some (.lst xs))
  (e:s.heap.get? l=some {cls:=.type "list",data:=.seq its.toArray n})(hf:f its.toArray=its'.toArray)(hv:Vals ys its')(hz:ys.length≤sizeLine):
  Inv X pins σ (upd H l (.lst ys)) {s with heap:=s.heap.update l (Obj.mapSeq f),toks:=t'}:=by
 have q:=PySem.IsL.update e f;rw[hf]at q;refine I.write (x:=l) (e:=l) (by rw[hH];exact trivial) (.inl rfl) (λb' u hb hu=>(Heap.get?_update_other s.heap (Obj.mapSeq f) (Ne.symm hb)).trans hu) ⟨_,q⟩ ?_;exact⟨hz,its',_,hv,q⟩
theorem Inv.lnew{its:List Value}{t':Nat}(I:Inv X pins σ H s)(hv:Vals ys its)(hz:ys.length≤sizeLine):
  Inv X pins σ (upd H s.heap.objs.size (.lst ys)) {s with heap:=s.heap.push {cls:=.type "list",data:=.seq its.toArray},toks:=t'}:=
 I.laid (λ_ _ q=>Heap.get?_push_of_some _ q) (kA1 _) ⟨hz,its,0,hv,Heap.get?_push_size _ rfl⟩
theorem Inv.fresh(I:Inv X pins σ H s):H s.heap.objs.size=none:=I.hok.fresh (kA1 _)
theorem Inv.lstM(I:Inv X pins σ H s)(hH:H l=some (.lst xs)):xs.length≤sizeLine∧∃(its:List Value) (n:Nat),Vals xs its∧xs.length=its.length∧s.heap.get? l=some {cls:=.type "list",data:=.seq its.toArray n}:=by
 obtain⟨z,its,n,r,e⟩:=I.hok l _ hH;exact⟨z,its,n,r,r.length,e⟩
theorem Yh{n:Nat}(h:n≤sizeLine):Builtin.List.listTooLong n=false:=by
 unfold Builtin.List.listTooLong;exact decide_eq_false (by omega)
end
section
variable{X:Cx}
noncomputable def zdm:V→List V→Hp→VK→Prop:=λx vs H Q=>∃l xs y,x=.ref l∧vs=[y]∧H l=some (.lst xs)∧xs.length<sizeLine∧Q .non (upd H l (.lst (xs++[y])))
theorem G9:MtM X "list.append" zdm:=by
 intro pins s σ H x vs v us Q I rx rv h;obtain⟨l,xs,y,rfl,rfl,hH,hz,q⟩:=h;cases rx;obtain⟨u,rfl,ru⟩:=rv.one;obtain⟨z,its,n,r,hl,e⟩:=I.lstM hH;refine call_meets F.slot_list_append ⟨_,e,rfl⟩ F.entry_list_append (F.args_list_append_2 _ _) (PySem.list_append l its.toArray n u (by rw[kAh];omega)) ⟨e,?_⟩;refine⟨.non,_,I.lset (its':=its++[u]) hH e (by simp) (r.append (.cons ru .nil)) ?_,rfl,q⟩;rw[kAf,List.length_singleton];omega
end
end L2
namespace L2
open PySem PySem.Spec PyProof.Rows
section
variable{κ:Type}[DecidableEq κ]
noncomputable def o8(kvs:List (κ×V))(k:κ):Option V:=(kvs.find? λkv=>decide (kv.1=k)).map (·.2)
noncomputable def pk(kvs:List (κ×V))(k:κ)(v:V):List (κ×V):=
 if(kvs.any λkv=>decide (kv.1=k))=true then kvs.map (λkv=>if kv.1=k then(kv.1,v)else kv)else kvs++[(k,v)]
noncomputable def ze1(kvs:List (κ×V))(k:κ):List (κ×V):=kvs.filter λkv=>decide (kv.1≠k)
theorem Nr{k:κ}:o8 ([]:List (κ×V)) k=none:=rfl
theorem vf{p:κ×V}{r:List (κ×V)}{k:κ}(e:p.1=k):o8 (p::r) k=some p.2:=by simp[o8,List.find?_cons,e]
theorem o9{p:κ×V}{r:List (κ×V)}{k:κ}(e:¬p.1=k):o8 (p::r) k=o8 r k:=by simp[o8,List.find?_cons,e]
theorem Nq(k:κ):∀kvs:List (κ×V),(kvs.any λkv=>decide (kv.1=k))=(o8 kvs k).isSome
 |[]=>rfl
 |p::r=>by
  rw[List.any_cons]
  by_cases e:p.1=k
  ·simp only[vf e,decide_eq_true e,Bool.true_or,Option.isSome_some]
  ·rw[o9 e,decide_eq_false e,Bool.false_or];exact Nq k r
theorem p8(kvs:List (κ×V))(k:κ)(v:V):(pk kvs k v).length≤kvs.length+1:=by
 unfold pk;split
 ·rw[kA2];omega
 ·rw[kAf,kA5,List.length_nil];omega
theorem RelO.isSome_eq{o:Option V}{u:Option Value}(r:RelO o u):o.isSome=u.isSome:=by
 cases o with
 |none=>cases u with
  |none=>rfl
  |some _=>exact(show False from r).elim
 |some _=>cases u with
  |none=>exact(show False from r).elim
  |some _=>rfl
theorem RelO.getD{o:Option V}{u:Option Value}{d:V}{d':Value}(r:RelO o u)(rd:RelV d d'):RelV (o.getD d) (u.getD d'):=by
 cases o with
 |none=>cases u with
  |none=>exact rd
  |some _=>exact(show False from r).elim
 |some _=>cases u with
  |none=>exact(show False from r).elim
  |some _=>exact r
theorem KV.val{kvs:List (κ×V)}{vs:List (κ×Value)}(r:KV kvs vs)(k:κ):RelO (o8 kvs k) (valueAt vs k):=by
 unfold KV at r;induction r with
 |nil=>exact True.intro
 |@cons p q ps qs h t ih=>
  obtain⟨h1,h2⟩:=h
  by_cases e:p.1=k
  ·have e':q.1=k:=h1.symm.trans e;have b:valueAt (q::qs) k=some q.2:=by simp[valueAt,List.find?_cons,e']
   rw[vf e,b];exact h2
  ·have e':¬q.1=k:=λz=>e (h1.trans z);have b:valueAt (q::qs) k=valueAt qs k:=by simp[valueAt,List.find?_cons,e']
   rw[o9 e,b];exact ih
theorem KV.any{kvs:List (κ×V)}{vs:List (κ×Value)}(r:KV kvs vs)(k:κ):(kvs.any λkv=>decide (kv.1=k))=vs.any λkv=>decide (kv.1=k):=by
 unfold KV at r;induction r with
 |nil=>rfl
 |cons h t ih=>rw[List.any_cons,List.any_cons,ih,h.1]
theorem KV.repl{kvs:List (κ×V)}{vs:List (κ×Value)}(r:KV kvs vs)(k:κ){y:V}{u:Value}(ry:RelV y u):
  KV (kvs.map λkv=>if kv.1=k then(kv.1,y)else kv) (vs.map λkv=>if kv.1=k then(kv.1,u)else kv):=by
 unfold KV at r⊢;induction r with
 |nil=>exact .nil
 |@cons p q ps qs h t ih=>
  rw[kA0,kA0];refine .cons ?_ ih;obtain⟨h1,h2⟩:=h
  by_cases e:p.1=k
  ·rw[if_pos e,if_pos (h1.symm.trans e)];exact⟨h1,ry⟩
  ·rw[if_neg e,if_neg (λz=>e (h1.trans z))];exact⟨h1,h2⟩
theorem KV.put{kvs:List (κ×V)}{vs:List (κ×Value)}(r:KV kvs vs)(k:κ){y:V}{u:Value}(ry:RelV y u):KV (pk kvs k y) (stored vs k u):=by
 unfold pk stored;rw[r.any k]
 by_cases e:(vs.any λkv=>decide (kv.1=k))=true
 ·rw[if_pos e,if_pos e];exact r.repl k ry
 ·rw[if_neg e,if_neg e];exact Paired.snoc r ⟨rfl,ry⟩
theorem KV.drop{kvs:List (κ×V)}{vs:List (κ×Value)}(r:KV kvs vs)(k:κ):KV (ze1 kvs k) (without vs k):=by
 unfold KV at r⊢;unfold ze1 without;induction r with
 |nil=>exact .nil
 |@cons p q ps qs h t ih=>
  obtain⟨h1,h2⟩:=h;rw[List.filter_cons,List.filter_cons]
  by_cases e:p.1=k
  ·have a:¬decide (p.1≠k)=true:=by simp[e]
   have b:¬decide (q.1≠k)=true:=by simp[h1.symm.trans e]
   rw[if_neg a,if_neg b];exact ih
  ·have e':¬q.1=k:=λz=>e (h1.trans z);have a:decide (p.1≠k)=true:=by simp[e]
   have b:decide (q.1≠k)=true:=by simp[e']
   rw[if_pos a,if_pos b];exact .cons ⟨h1,h2⟩ ih
theorem KV.keys{kvs:List (κ×V)}{vs:List (κ×Value)}(r:KV kvs vs):kvs.map (·.1)=vs.map (·.1):=by
 unfold KV at r;induction r with
 |nil=>rfl
 |cons h t ih=>rw[kA0,kA0,ih,h.1]
theorem KV.length{kvs:List (κ×V)}{vs:List (κ×Value)}(r:KV kvs vs):kvs.length=vs.length:=Paired.length r
end
theorem Dk{P:Program}{w:World}{k:ja}{u:Value}(r:RelV (kV k) u):(fo P w).is k u=true:=by
 cases k with
 |inl i=>obtain⟨t,e⟩:=(show∃t,u=Value.int i t from r);subst e;exact Mf P w i t
 |inr x=>obtain⟨t,e⟩:=(show∃t,u=Value.str x t from r);subst e;exact Mg P w x t
theorem Gv{P:Program}{w:World}:∀{ks:List ja}{us:List Value},Vals (ks.map kV) us→ItemsAre (fo P w) ks us
 |[],_,r=>by rw[List.map_nil]at r;cases r;exact .nil
 |k::ks,_,r=>by
  rw[kA0]at r;cases r with
  |cons h t=>exact .cons (Dk h) (Gv t)
noncomputable abbrev KT(H:Hp):List (gm×V)→List (gm×Addr×Value)→Prop:=Paired λp q=>p.1=q.1∧TkAt H p.1 q.2.1∧RelV p.2 q.2.2
theorem KT.val{H:Hp}{kvs:List (gm×V)}{xs:List (gm×Addr×Value)}(r:KT H kvs xs)(k:gm):RelO (o8 kvs k) ((atKey xs k).map (·.2)):=by
 induction r with
 |nil=>exact True.intro
 |@cons p q ps qs h t ih=>
  obtain⟨h1,_,h2⟩:=h
  by_cases e:p.1=k
  ·have e':q.1=k:=h1.symm.trans e;have b:atKey (q::qs) k=some q.2:=by simp[atKey,List.find?_cons,e']
   rw[vf e,b];exact h2
  ·have e':¬q.1=k:=λz=>e (h1.trans z);have b:atKey (q::qs) k=atKey qs k:=by simp[atKey,List.find?_cons,e']
   rw[o9 e,b];exact ih
theorem KT.repl{H:Hp}{kvs:List (gm×V)}{xs:List (gm×Addr×Value)}(r:KT H kvs xs)(k:gm){y:V}{u:Value}(ry:RelV y u):
  KT H (kvs.map λkv=>if kv.1=k then(kv.1,y)else kv) (xs.map (putAt k u)):=by
 induction r with
 |nil=>exact .nil
 |@cons p q ps qs h t ih=>
  rw[kA0,kA0];refine .cons ?_ ih;obtain⟨h1,h2,h3⟩:=h;unfold putAt
  by_cases e:p.1=k
  ·rw[if_pos e,if_pos (h1.symm.trans e)];exact⟨h1,h2,ry⟩
  ·rw[if_neg e,if_neg (λz=>e (h1.trans z))];exact⟨h1,h2,h3⟩
theorem KT.put{H:Hp}{kvs:List (gm×V)}{xs:List (gm×Addr×Value)}(r:KT H kvs xs)(k:gm){b:Addr}{y:V}{u:Value}(hb:TkAt H k b)(ry:RelV y u):
  KT H (pk kvs k y) (storedH xs k b u):=by
 have e:(kvs.any λkv=>decide (kv.1=k))=(atKey xs k).isSome:=by
  rw[Nq,(r.val k).isSome_eq,Option.isSome_map]
 unfold pk storedH;rw[e]
 by_cases q:(atKey xs k).isSome=true
 ·rw[if_pos q,if_pos q];exact r.repl k ry
 ·rw[if_neg q,if_neg q];exact Paired.snoc r ⟨rfl,hb,ry⟩
theorem KT.keeps{H H':Hp}{kvs:List (gm×V)}{xs:List (gm×Addr×Value)}(r:KT H kvs xs)(ht:∀b ys,H b=some (.tup ys)→H' b=some (.tup ys)):KT H' kvs xs:=
 Paired.mapP r λ_ _ z=>⟨z.1,z.2.1.mono ht,z.2.2⟩
section
variable{P:Program}{w:World}{H:Hp}{h:Heap}{a:Addr}
theorem zfi{u:HO}(ok:HOk P w H h)(e:Rd H a u):ObjOk P w H h a u:=e.ok ok
theorem Lf{kvs:List (ja×V)}(ok:HOk P w H h)(e:Rd H a (.dK kvs)):kvs.length≤sizeLine∧(a==sysModules)=false∧∃vs,KV kvs vs∧h.DictOf (fo P w) a vs:=
 show ObjOk P w H h a (.dK kvs)from zfi ok e
theorem Q9{kvs:List (ja×V)}(ok:HOk P w H h)(e:H a=some (.dK kvs)):kvs.length≤sizeLine∧(a==sysModules)=false∧∃vs,KV kvs vs∧h.DictOf (fo P w) a vs:=Lf ok (.inl e)
theorem zb0{ks:List ja}(ok:HOk P w H h)(e:H a=some (.tup (ks.map kV))):IsTupleKey (fo P w) h ks a:=by
 obtain⟨_,its,r,o,h1,h2,n,h3⟩:=(show ObjOk P w H h a (.tup (ks.map kV))from ok a _ e);exact⟨o,its.toArray,n,h1,h2,h3,by simpa using Gv r⟩
theorem xf(ok:HOk P w H h):∀{ks:gm}{vs:List V}{us:List Value},NkL H ks vs→Vals vs us→NItems P w h ks us
 |[],vs,us,e,r=>by rw[show vs=[]from e]at r;cases r;exact rfl
 |.inl k::ks,vs,us,⟨v,t,e,q,e2⟩,r=>by
  subst e;cases r with
  |cons h1 t1=>exact⟨_,_,rfl,Dk (by rw[←show v=kV k from q];exact h1),xf ok e2 t1⟩
 |.inr ys::ks,vs,us,⟨v,t,e,⟨b,e3,q⟩,e2⟩,r=>by
  subst e e3;cases r with
  |cons h1 t1=>exact⟨_,_,rfl,⟨b,h1,zb0 ok q⟩,xf ok e2 t1⟩
theorem Jd{ks:gm}(ok:HOk P w H h)(e:TkAt H ks a):(ou P w).is h ks a:=by
 obtain⟨vs,e,nk⟩:=e;obtain⟨_,its,r,o,h1,h2,n,h3⟩:=(show ObjOk P w H h a (.tup vs)from ok a _ e);exact⟨o,its.toArray,n,h1,h2,h3,by simpa using xf ok nk r⟩
theorem Lg{kvs:List (gm×V)}(ok:HOk P w H h)(e:Rd H a (.dT kvs)):kvs.length≤sizeLine∧(a==sysModules)=false∧
  ∃xs,KT H kvs xs∧h.DictOfH (ou P w) a xs:=by
 obtain⟨z,y,xs,r,o,es,ep,h1,h2,h3,h4,h5⟩:=(show ObjOk P w H h a (.dT kvs)from zfi ok e);refine⟨z,y,xs,r,o,es,ep,h1,h2,h3,h4,λx hx=>?_,h5⟩;have all:∀{l:List (gm×V)}{m:List (gm×Addr×Value)},KT H l m→∀x∈m,(ou P w).is h x.1 x.2.1:=by
  intro l m q;induction q with
  |nil=>intro x hx;exact nomatch hx
  |@cons p q ps qs hq t ih=>
   intro x hx;rcases kA8.mp hx with e|hx
   ·subst e;exact Jd ok (by rw[←hq.1];exact hq.2.1)
   ·exact ih x hx
 exact all r x hx
theorem ze2{kvs:List (gm×V)}(ok:HOk P w H h)(e:H a=some (.dT kvs)):kvs.length≤sizeLine∧(a==sysModules)=false∧
  ∃xs,KT H kvs xs∧h.DictOfH (ou P w) a xs:=Lg ok (.inl e)
end
noncomputable def DGet(H:Hp)(a:Addr)(y:V)(r:Option V):Prop:=
 (∃kvs k,Rd H a (.dK kvs)∧y=kV k∧r=o8 kvs k)∨∃kvs k b,Rd H a (.dT kvs)∧y=.ref b∧TkAt H k b∧r=o8 kvs k
noncomputable def DPut(H:Hp)(a:Addr)(y v:V)(H':Hp):Prop:=
 (∃kvs k,H a=some (.dK kvs)∧y=kV k∧kvs.length<sizeLine∧H'=upd H a (.dK (pk kvs k v)))∨
 ∃kvs k b,H a=some (.dT kvs)∧y=.ref b∧TkAt H k b∧kvs.length<sizeLine∧H'=upd H a (.dT (pk kvs k v))
theorem DGet.k{H:Hp}{a:Addr}{kvs:List (ja×V)}{k:ja}(e:H a=some (.dK kvs)):DGet H a (kV k) (o8 kvs k):=.inl ⟨kvs,k,.inl e,rfl,rfl⟩
theorem DGet.t{H:Hp}{a b:Addr}{kvs:List (gm×V)}{k:gm}(e:H a=some (.dT kvs))(eb:TkAt H k b):DGet H a (.ref b) (o8 kvs k):=.inr ⟨kvs,k,b,.inl e,rfl,eb,rfl⟩
theorem DPut.k{H:Hp}{a:Addr}{kvs:List (ja×V)}{k:ja}{v:V}(e:H a=some (.dK kvs))(hl:kvs.length<sizeLine):DPut H a (kV k) v (upd H a (.dK (pk kvs k v))):=.inl ⟨kvs,k,e,rfl,hl,rfl⟩
theorem DPut.t{H:Hp}{a b:Addr}{kvs:List (gm×V)}{k:gm}{v:V}(e:H a=some (.dT kvs))(eb:TkAt H k b)(hl:kvs.length<sizeLine):
  DPut H a (.ref b) v (upd H a (.dT (pk kvs k v))):=.inr ⟨kvs,k,b,e,rfl,eb,hl,rfl⟩
section
variable{X:Cx}{pins:List (Addr×Obj)}{σ:St}{H:Hp}{s:Shared}{a:Addr}{y v:V}{u r:Value}{o:Option V}{A:Around}{E:Value→Shared→Prop}
theorem Inv.big(I:Inv X pins σ H s):sysModules<s.heap.objs.size:=by
 have h:mainGlobals<s.heap.objs.size:=(I.mod.glob.keeps I.bk).lt;exact Nat.lt_trans (by decide) h
theorem Tu{Q:Value→Shared→Prop}(hu:A.units+5<cLine)(I:Inv X pins σ H s)(g:DGet H a y (some v))(ry:RelV y u)(h:∀w' s',Inv X pins σ H s'→RelV v w'→Q w' s'):
  wpAny (model X.prog X.w) A (getItem (.ref a) u) Q E s:=by
 rcases g with ⟨kvs,k,e,ey,l⟩|⟨kvs,k,b,e,ey,eb,l⟩
 ·subst ey;obtain⟨z,hd,vs,rel,dd⟩:=Lf I.hok e;obtain⟨w',hw,rw'⟩:=RelO.some_of (v:=v) (o:=valueAt vs k) (by rw[l];exact rel.val k);exact wpAny_getItem_of (Dk ry) dd.mapOf hw (h w' _ (I.tok _) rw')
 ·subst ey;cases (show u=Value.ref b from ry);obtain⟨z,hd,xs,rel,dd⟩:=Lg I.hok e;obtain⟨w',hw,rw'⟩:=RelO.some_of (v:=v) (o:=(atKey xs k).map (·.2)) (by rw[l];exact rel.val k);obtain⟨p,hp,hp2⟩:=Option.map_eq_some_iff.mp hw;refine wpAny_getItem_heap (md hu) (Jd I.hok eb) dd hp ?_;rw[hp2];exact h w' _ (I.tok _) rw'
theorem Ik{h':Heap}{t':Nat}{ob:HO}(I:Inv X pins σ H s)(mu:Mut (H a))(hs:Heap.SameBut a s.heap h')(he:∃q,h'.get? a=some q)(new:ObjOk X.prog X.w (upd H a ob) h' a ob):
  Inv X pins σ (upd H a ob) {s with heap:=h',toks:=t'}:=
 I.write (x:=a) (e:=a) mu (.inl rfl) (λb q hb z=>(hs.2 b hb).trans z) he new
theorem Wv{P:Program}{w:World}{H':Hp}{h':Heap}{kvs:List (ja×V)}{vs:List (ja×Value)}(z:kvs.length≤sizeLine)(hd:(a==sysModules)=false)(rel:KV kvs vs)(dd:h'.DictOf (fo P w) a vs):
  ObjOk P w H' h' a (.dK kvs):=⟨z,hd,vs,rel,dd⟩
theorem Tv{H':Hp}{Q:Unit→Shared→Prop}(hu:A.units+5<cLine)(I:Inv X pins σ H s)(g:DPut H a y v H')(ry:RelV y u)(rv:RelV v r)(h:∀s',Inv X pins σ H' s'→Q () s'):
  wpAny (model X.prog X.w) A (setItem (.ref a) u r) Q E s:=by
 rcases g with ⟨kvs,k,e,ey,l,eH⟩|⟨kvs,k,b,e,ey,eb,l,eH⟩
 ·subst ey eH;obtain⟨z,hd,vs,rel,dd⟩:=Q9 I.hok e;have hz:vs.length≤sizeLine:=by rw[←rel.length];exact z
  have hl:(pk kvs k v).length≤sizeLine:=by have:=p8 kvs k v;omega
  refine wpAny_setItem_pairs (hsz:=hz) (Dk ry) dd λh' dd' hs=>h _ ?_;have he:∃q,h'.get? a=some q:=let ⟨q,_,_,hq,_⟩:=dd';⟨q,hq⟩;exact Ik I (by rw[e];exact True.intro) hs he (Wv hl hd (rel.put k rv) dd')
 ·subst ey eH;cases (show u=Value.ref b from ry);obtain⟨z,hd,xs,rel,dd⟩:=ze2 I.hok e;have hz:xs.length≤sizeLine:=by rw[←Paired.length rel];exact z
  have hl:(pk kvs k v).length≤sizeLine:=by have:=p8 kvs k v;omega
  refine wpAny_setItem_heap (hsz:=hz) (md hu) (Jd I.hok eb) dd λh' dd' hs=>h _ ?_;obtain⟨q,es,ep,hq,h2,h3,h4,_,h5⟩:=dd';refine Ik I (by rw[e];exact True.intro) hs ⟨q,hq⟩ ⟨hl,hd,_,(rel.put k eb rv).keeps λc ys ec=>?_,q,es,ep,hq,h2,h3,h4,h5⟩;rw[bu (zk7 ec e (λz=>nomatch z))];exact ec
end
theorem Ld{X:Cx}{pins:List (Addr×Obj)}{σ:St}{H:Hp}{s:Shared}{a:Addr}{y:V}{o:Option V}(I:Inv X pins σ H s)(g:DGet H a y o):s.TypeIs (.ref a) "dict":=by
 rcases g with ⟨kvs,k,e,_,_⟩|⟨kvs,k,b,e,_,_,_⟩
 ·obtain⟨_,_,vs,_,dd⟩:=Lf I.hok e;exact dd.typeIs
 ·obtain⟨_,_,xs,_,dd⟩:=Lg I.hok e;exact dd.typeIs
noncomputable def zl6(td ty tv:TE):TS:=λD σ H=>tv σ H λv H1=>td σ H1 λx H2=>ty σ H2 λy H3=>∃a H4,x=.ref a∧DPut H3 a y v H4∧D.nx σ H4
section
variable{X:Cx}{o i e value:Expr}{pos pos' tpos:Pos}{td ty tv:TE}
theorem Sk(hu:X.A.units+5<cLine)(ho:PE X o td)(hi:PE X i ty)(hv:PE X value tv)(hs:swapsWith value (some (.Subscript o i pos')) pos.line X.env=pure false):
  PS X (.Assign [.Subscript o i pos'] value pos) (zl6 td ty tv):=by
 intro pins s σ H D I h;refine wpAny_Assign_Subscript (kc (hv pins s σ H _ I h) λr s1 ⟨v,H1,I1,rv,q1⟩=>kc (ho pins s1 σ H1 _ I1 q1) λu s2 ⟨x,H2,I2,rx,q2⟩=>kc (hi pins s2 σ H2 _ I2 q2) λiv s3 ⟨y,H3,I3,ry,a,H4,ex,g,q3⟩=>?_) hs;subst ex;obtain rfl:u=Value.ref a:=rx;exact Tv hu I3 g ry rv λs4 I4=>⟨σ,H4,I4,q3⟩
end
theorem Wu{P:Program}{w:World}{H:Hp}(h:Heap)(hb:sysModules<h.objs.size):ObjOk P w H (h.push {cls:=.type "dict",data:=.dict #[]}) h.objs.size (.dK []):=
 ⟨kAl _,beq_eq_false_iff_ne.mpr (Ne.symm (kAd hb)),[],.nil,Heap.DictOf.new h⟩
theorem Wx{P:Program}{w:World}{H:Hp}(h:Heap)(hb:sysModules<h.objs.size):ObjOk P w H (h.push {cls:=.type "dict",data:=.dict #[]}) h.objs.size (.dT []):=
 ⟨kAl _,beq_eq_false_iff_ne.mpr (Ne.symm (kAd hb)),[],.nil,_,#[],0,Heap.get?_push_size _ rfl,⟨rfl,rfl,rfl⟩,rfl,rfl,List.nodup_nil⟩
noncomputable def zac:TE:=λ_ H Q=>∀p,H p=none→Q (.ref p) (upd H p (.dK []))
noncomputable def zad:TE:=λ_ H Q=>∀p,H p=none→Q (.ref p) (upd H p (.dT []))
section
variable{X:Cx}{pos:Pos}
theorem M4:PE X (.Dict [] [] pos) zac:=λpins s σ H Q I h=>
 wpAny_Dict_empty ⟨.ref s.heap.objs.size,_,I.laid (a:=s.heap.objs.size) (o:=.dK []) (t':=s.toks) (λ_ _ q=>Heap.get?_push_of_some _ q) (kA1 _) (Wu s.heap I.big),rfl,h _ (I.hok.fresh (kA1 _))⟩
theorem Yv:PE X (.Dict [] [] pos) zad:=λpins s σ H Q I h=>
 wpAny_Dict_empty ⟨.ref s.heap.objs.size,_,I.laid (a:=s.heap.objs.size) (o:=.dT []) (t':=s.toks) (λ_ _ q=>Heap.get?_push_of_some _ q) (kA1 _) (Wx s.heap I.big),rfl,h _ (I.hok.fresh (kA1 _))⟩
end
noncomputable def u3(kvs more:List (ja×V)):List (ja×V):=more.foldl (λacc kv=>pk acc kv.1 kv.2) kvs
theorem KV.merge:∀{more:List (ja×V)}{rs:List (ja×Value)}{kvs:List (ja×V)}{vs:List (ja×Value)},KV more rs→KV kvs vs→KV (u3 kvs more) (merged vs rs):=by
 intro more rs kvs vs r;unfold KV at r;induction r generalizing kvs vs with
 |nil=>intro q;exact q
 |@cons p q ps qs h t ih=>
  intro r0;have e:KV (pk kvs p.1 p.2) (stored vs q.1 q.2):=by
   have:=r0.put p.1 h.2;rw[←h.1];exact this
  exact ih e
theorem wm:∀(more kvs:List (ja×V)),(u3 kvs more).length≤kvs.length+more.length
 |[],kvs=>by show kvs.length≤kvs.length+0;omega
 |p::r,kvs=>by
  have h1:=wm r (pk kvs p.1 p.2);have h2:=p8 kvs p.1 p.2;show(u3 (pk kvs p.1 p.2) r).length≤_;rw[kA5];omega
structure M2(X:Cx)(o:Expr)(m:Str)(apos:Pos)(e f:Expr)(cpos:Pos):Prop where
 base:attributeBase o m X.env (eval o X.env)=eval o X.env
 few:((backTo cpos (starEach [e,f] X.env)).all (λx=> !x.1) && (backToKw cpos (keywordEach [] X.env)).all (λx=>x.1.isSome)
  && decide (([e,f]:List Expr).length+([]:List Keyword).length+(if([]:List Keyword).isEmpty then 0 else 1)<30))=true
 line:(apos.endLine==cpos.line)=true
 trees:backTo cpos (starEach [e,f] X.env)=[(false,eval e X.env),(false,eval f X.env)]
def IsD(H:Hp)(a:Addr):Prop:=(∃kvs,Rd H a (.dK kvs))∨∃kvs,Rd H a (.dT kvs)
theorem Xm{X:Cx}{pins:List (Addr×Obj)}{σ:St}{H:Hp}{s:Shared}{a:Addr}(I:Inv X pins σ H s)(d:IsD H a):
  s.TypeIs (.ref a) "dict"∧(∀b,Value.ref a=.ref b→∃ob,s.heap.get? b=some ob∧ob.dict=none)∧(a==sysModules)=false:=by
 rcases d with ⟨kvs,e⟩|⟨kvs,e⟩
 ·obtain⟨_,hd,vs,_,dd⟩:=Lf I.hok e;refine⟨dd.typeIs,λb q=>?_,hd⟩;cases q;obtain⟨ob,_,_,h1,h2,_⟩:=dd;exact⟨ob,h1,h2.2.1⟩
 ·obtain⟨_,hd,xs,_,dd⟩:=Lg I.hok e;refine⟨dd.typeIs,λb q=>?_,hd⟩;cases q;obtain⟨ob,_,_,h1,h2,_⟩:=dd;exact⟨ob,h1,h2.2.1⟩
section
variable{X:Cx}{pins:List (Addr×Obj)}{σ:St}{H:Hp}{s:Shared}{a:Addr}{y d:V}{u r:Value}{o:Option V}{A:Around}{E:Value→Shared→Prop}
theorem zgd{Q:Value→Shared→Prop}(hu:A.units+5<cLine)(I:Inv X pins σ H s)(g:DGet H a y o)(ry:RelV y u)(rd:RelV d r)(h:∀w' s',Inv X pins σ H s'→RelV (o.getD d) w'→Q w' s'):
  wpAny (model X.prog X.w) A (call (.builtin "dict.get") [.ref a,u,r]) Q E s:=by
 rcases g with ⟨kvs,k,e,ey,l⟩|⟨kvs,k,b,e,ey,eb,l⟩
 ·subst ey;obtain⟨z,hd,vs,rel,dd⟩:=Lf I.hok e;refine call_meetsIn PySem.F.slot_dict_get dd.typeIs PySem.F.entry_dict_get (PySem.F.args_dict_get_3 _ _ _) (meets_dict_get_default (fo X.prog X.w) a (Dk ry) hd r) ⟨_,dd.mapOf,h _ _ (I.tok _) ?_⟩;rw[l];exact(rel.val k).getD rd
 ·subst ey;cases (show u=Value.ref b from ry);obtain⟨z,hd,xs,rel,dd⟩:=Lg I.hok e;refine call_meetsIn PySem.F.slot_dict_get dd.typeIs PySem.F.entry_dict_get (PySem.F.args_dict_get_3 _ _ _) (meetsH_dict_get_default (ou X.prog X.w) a b hd r) ⟨md hu,k,xs,Jd I.hok eb,dd,h _ _ (I.tok _) ?_⟩;rw[l];exact(rel.val k).getD rd
end
noncomputable def zjd(td ty tx:TE):TE:=λσ H Q=>td σ H λx H1=>∃a,x=.ref a∧IsD H1 a∧ty σ H1 λy H2=>tx σ H2 λz H3=>∃o,DGet H3 a y o∧Q (o.getD z) H3
section
variable{X:Cx}{o e f:Expr}{apos cpos:Pos}{td ty tx:TE}
theorem Yu(hu:X.A.units+5<cLine)(ho:PE X o td)(he:PE X e ty)(hf:PE X f tx)(m:M2 X o "get" apos e f cpos):PE X (.Call (.Attribute o "get" apos) [e,f] [] cpos) (zjd td ty tx):=by
 intro pins s σ H Q I h;refine wpAny_Call_method m.base m.few m.line PySem.F.plainAttrs_dict PySem.F.slot_dict_get PySem.F.type_dict_get (kc (ho pins s σ H _ I h) λu s1 ⟨x,H1,I1,rx,a,ex,d,q1⟩=>?_);subst ex;obtain rfl:u=Value.ref a:=rx;obtain⟨t1,t2,_⟩:=Xm I1 d;refine⟨t1,t2,?_⟩;rw[m.trees];refine Calls.callWith_builtin rfl (Calls.evalArgs_plain (Calls.spliced_cons (kc (he pins s1 σ H1 _ I1 q1) λiv s2 ⟨y,H2,I2,ry,q2⟩=>
  Calls.spliced_cons (kc (hf pins s2 σ H2 _ I2 q2) λfv s3 ⟨z,H3,I3,rz,ov,g,q3⟩=>Calls.spliced_nil ?_))))
 exact zgd hu I3 g ry rz λw' s4 I4 rw'=>⟨_,H3,I4,rw',q3⟩
end
end L2
namespace Att
open PySem PySem.W PySem.Calls PyProof.Rows
theorem Bs{P:Params}{h:Heap}:∀(ns:List Int)(vs:List Value),WellAll P h vs (ns.map WData.int)→IntsAre vs ns:=by
 intro ns;induction ns with
 |nil=>
  intro vs w;rw[List.map_nil]at w;cases w;exact .nil
 |cons n ns ih=>
  intro vs w;rw[kA0]at w;cases w with
  |cons a b=>
   cases a;exact .cons _ _ (ih _ b)
theorem Vl{l:OpenLaw}{n:Nat}(hn:l.most=some n){P:Params}{h:Heap}{args:List WData}{vals:List Value}
  (hpre:l.row.toRowW.claim.pre args=true)(hwl:WellAll P h vals args):
  ∃a vs ns,vals=[Value.ref a]∧args=[WData.list (ns.map WData.int)]∧h.get? a=some {cls:=.type "list",data:=.seq vs.toArray}∧IntsAre vs ns∧ns.length≤n:=by
 have hsh:WShape.hasAll [] args [.list .int]=true:=(pre_splitW hpre).1;have hc:l.pre.holds [] {args:=args}=true:=(pre_splitW hpre).2;obtain⟨d,r,rfl,h1,h2⟩:=hasAllW_cons hsh;obtain rfl:=hasAllW_nil h2;obtain⟨xs,rfl,h3⟩:=hasW_list h1;obtain⟨ns,rfl⟩:=items_int h3;have hlen:ns.length≤n:=by
  unfold OpenLaw.pre at hc;have h4:(WTm.not (.lt (.lit (.int (n:Int))) (.len (.arg 0)))).holds [] {args:=[.list (ns.map .int)]}=true:=by
   have h4:=(holds_andW hc).1;rw[hn]at h4;exact h4
  have h5:=condW_of h4 (w_not (w_lt w_lit (w_len_list (w_arg rfl))));rw[kA2]at h5;refine Nat.le_of_not_lt λq=>?_;have q':(n:Int)<((ns.length:Nat):Int):=by omega
  first
   |(rw[decide_eq_true q']at h5;exact absurd h5 (by decide))
   |(simp at h5;omega)
 cases hwl with
 |cons w1 w2=>
  cases w2;cases w1 with
  |list ho hall=>exact⟨_,_,ns,rfl,rfl,ho,Bs ns _ hall,hlen⟩
theorem Va(l:OpenLaw)(args:List WData):l.row.toRowW.claim.post args (.bool true) args=true:=
 postW_of (r:=l.row.toRowW) (X:=(true==true))
  (show WShape.has [] (.bool true) .bool=true by first|rfl|decide|simp[WShape.has,WShape.arms,WShape.armsAll])
  (show(WTm.eq .res (.lit (.bool true))).value [] {args:=args,res:=some (.bool true),after:=args}=some (.bool (true==true))from w_eq_bool (w_res rfl) w_lit) rfl
theorem Ku{l:OpenLaw}{n:Nat}{q:Program}{loose:List Str}{XP:(Str→Option Value)→Heap→Prop}{YP:World→Heap→Prop}{d:DefRec}
  (hn:l.most=some n)(hdf:d.params.defaults=[])
  (call:∀(w:World)(s₀ s₁:Shared)(mg mb:Str→Option Value)(fa:Addr)(o:Obj)(pm cd doc:Value)(a:Addr)(vs:List Value)(ns:List Int),
   Ground q loose [] XP w s₀ mg mb s₁.heap→YP w s₁.heap→
   s₁.heap.get? fa=some o→o.data=.func (docDef d.name d.params d.body d.scope pm cd doc)→s₁.heap.CodeRec cd d.name→mg d.name=some (.ref fa)→
   s₁.heap.get? a=some {cls:=.type "list",data:=.seq vs.toArray}→IntsAre vs ns→ns.length≤n→s₁.gens=#[]→
   codeAny (model l.prog w) callerA (.call (.ref fa) ⟨[.ref a],[]⟩) (λr s'=>r=.ok (.ret (.bool true))∧OldK s₁.heap s'.heap∧s'.os=s₁.os∧AllBare s'.gens) s₁):
  WalkO q loose XP YP l.row.toRowW d [] (λf vs=>PySem.call f vs):=by
 intro w s₀ s₁ mg mb G Y fa o pm cd doc dV kV ho hd hcd hD hmg hg args vals as hpre hlay hrd hwl hlo;obtain rfl:dV=.none:=Dflts.none hD hdf;obtain rfl:kV=.none:=Dflts.noKw hD;obtain⟨a,vs,ns,rfl,rfl,hobj,hints,hlen⟩:=Vl hn hpre hwl;refine enter_call (codeAny_mono (call w s₀ s₁ mg mb fa o pm cd doc a vs ns G Y ho (fd_plain hd) hcd hmg hobj hints hlen hg) λr s' hq=>?_);obtain⟨rfl,h2,h3,h4⟩:=hq;exact⟨.inl ⟨.bool true,.bool true,[],rfl,λ_=>rfl,.bool true,Va l _,λ_=>⟨List.Pairwise.nil,λ_ hm=>(nomatch hm)⟩⟩,h2,h3,h4⟩
end Att
namespace L2
open PySem PySem.Spec PyProof.Rows
theorem Hq:∀{vs:List Value}{ns:List Int},IntsAre vs ns→Vals (ns.map V.int) vs
 |_,_,.nil=>.nil
 |_,_,.cons n t h=>.cons ⟨t,rfl⟩ (Hq h)
end L2
namespace L2
open PySem PySem.Spec PyProof.Rows
def cg(s:Stmt):Arguments:=match s with
 |.FunctionDef _ a _ _ _ _ _ _ _ _=>a
 |_=>{posonlyargs:=[],args:=[],vararg:=none,kwonlyargs:=[],kw_defaults:=[],kwarg:=none,defaults:=[]}
def ar(s:Stmt):List Stmt:=match s with
 |.FunctionDef _ _ b _ _ _ _ _ _ _=>b
 |_=>[]
def bf(s:Stmt):Scope:=match s with
 |.FunctionDef _ _ _ _ _ _ sc _ _ _=>sc
 |_=>{kind:=.function,names:=[],isGenerator:=false,isCoroutine:=false}
noncomputable abbrev CX0:Tf:=λ_ _ _ _ _ _=>False
noncomputable abbrev E0:XK:=λ_ _ _=>False
structure Fun(K:PySem.W.Frag)(x qual:Str)(st:Stmt)(f:Addr)(fd:FuncData):Prop where
 ex:∃(oc:Value) (od:Option Addr) (kV doc pm:Value) (an:Option Addr) (cdv ct:Value) (osl:Array (Option Value)),
  fd=kAb x qual (cg st) (ar st) (bf st) .none kV doc pm an cdv ct∧K.lookup f=some ⟨oc,od,.func fd,osl⟩∧kAc K cdv qual=true
 kp:kA9 K (.ref f)=true
section
variable{P:Program}{w:World}{K:PySem.W.Frag}{mg:Str→Option Value}{base:Heap}
theorem Fun.ok{x qual:Str}{st:Stmt}{f:Addr}{fd:FuncData}{N ps:List Str}{k:Nat}{sp:Sp}(F:Fun K x qual st f fd)(S:FnScope N ps (bf st))(len:∀vs H Q E,sp vs H Q E→vs.length=ps.length)
   (hbody:∀(cdv:Value)(A:Around)(outer:List Env)(s:Shared)(H:Hp)(vs:List V)(Q:VK)(E:XK),Room k (A.deeper (envOfC qual (bf st) s.heap.objs.size f cdv))→sp vs H Q E→
   ∃t,PSs (zq CX0 P w K mg base N qual (bf st) f cdv A outer s H E).nox (ar st) t∧t {nx:=λ_ H'=>Q .non H',rt:=Q} (qi N vs) H):FnOk P w K mg base CX0 (k+1) f fd ps sp:=by
 obtain⟨oc,od,kV,doc,pm,an,cdv,ct,osl,rfl,lk,hcd⟩:=F.ex;refine ze5 lk hcd S len λA outer s H vs Q E hr hsp=>?_;obtain⟨t,h,q⟩:=hbody cdv A outer s H vs Q E hr hsp;exact⟨t,h.nox,q⟩
theorem Fun.binds{x qual:Str}{st:Stmt}{f:Addr}{fd:FuncData}{ps:List Str}(F:Fun K x qual st f fd)
  (h:∀(kV doc pm:Value)(an:Option Addr)(cdv ct:Value)(us:List Value),us.length=ps.length→bindArgs (kAb x qual (cg st) (ar st) (bf st) .none kV doc pm an cdv ct) ⟨us,[]⟩=pure (ps.zip us)):Binds K fd ps []:=by
 obtain⟨oc,od,kV,doc,pm,an,cdv,ct,osl,rfl,lk,hcd⟩:=F.ex;exact .all (h kV doc pm an cdv ct)
theorem W9{x qual:Str}{st:Stmt}{f:Addr}{oc:Value}{od an:Option Addr}{osl:Array (Option Value)}{kV doc pm cdv ct:Value}(l:K.lookup f=some ⟨oc,od,.func (kAb x qual (cg st) (ar st) (bf st) .none kV doc pm an cdv ct),osl⟩)
  (c:kAc K cdv qual=true)(k:kA9 K (.ref f)=true):Fun K x qual st f (kAb x qual (cg st) (ar st) (bf st) .none kV doc pm an cdv ct):=⟨⟨oc,od,kV,doc,pm,an,cdv,ct,osl,rfl,l,c⟩,k⟩
end
def Same(H H':Hp):Prop:=∀b o,H b=some o→H' b=some o
theorem Same.refl(H:Hp):Same H H:=λ_ _ h=>h
theorem Same.trans{H H1 H2:Hp}(a:Same H H1)(b:Same H1 H2):Same H H2:=λc o h=>b c o (a c o h)
theorem Same.free{H H':Hp}(e:Same H H'){l:Addr}(h:H' l=Option.none):H l=Option.none:=by
 cases q:H l with
 |none=>rfl
 |some o=>
  rw[e l o q]at h;cases h
theorem Same.seq{K:PySem.W.Frag}{H H':Hp}{a:Addr}{xs:List V}(e:Same H H')(h:SqL K H a xs):SqL K H' a xs:=by
 rcases h with (h|⟨o,h⟩)|h
 ·exact .inl (.inl (e _ _ h))
 ·exact .inl (.inr ⟨o,e _ _ h⟩)
 ·exact .inr h
end L2
end
section
namespace Pu
open PySem
noncomputable def Qj:List (Addr×Addr×Str):=[]
end Pu
end
section
namespace Pu
open PySem PySem.Spec PyProof.Rows L2
noncomputable abbrev St:=L2.St
structure KA where
 K:PySem.W.Frag
 A:Str→Addr
instance:CoeOut KA PySem.W.Frag:=⟨KA.K⟩
noncomputable def E6(mg:Str→Option Value)(x:Str):Addr:=match mg x with
 |some (.ref a)=>a
 |_=>0
noncomputable abbrev kx(X:Cx):KA:=⟨X.K,E6 X.mg⟩
noncomputable abbrev EK:=Str→Hp→Prop
noncomputable abbrev ek(K:KA)(E:XK):EK:=λc H=>E (.ref (K.A c)) none H
inductive D where
 |non
 |bl (b:Bool)
 |int (i:Int)
 |str (x:Str)
 |tup (ds:List D)
 |lst (ds:List D)
 |dct (t:Bool) (kvs:List (D×D))
 |obj (e:Expr) (fs:List (Str×D))
 |fn (f:Str)
noncomputable def kD:ja→D
 |.inl i=>.int i
 |.inr x=>.str x
noncomputable def jg:List (Str×NameKind)→List Str
 |[]=>[]
 |(n,k)::r=>if k=.free then n::jg r else jg r
def LamAt(H:Hp)(e:Expr)(a:Addr)(vs:List (Str×V)):Prop:=match e with
 |.Lambda params body scope _=>∃(qual:Str) (pm:Value) (c':Addr) (ctv:Value) (cl:List (Str×Addr)) (oc:Obj) (cvs:Array Value) (t:Tok),
   H a=some (.frz (PySem.W.kla_obj "<lambda>" qual params body scope cl pm c' ctv) (.own 0))∧H c'=some (.frz oc (.own 0))∧oc.data=.fields cvs∧cvs[1]?=some (.str qual t)∧
   (∀x y c,cl.lookup x=some c→cl.lookup y=some c→x=y)∧(∀y,(y,NameKind.free)∈scope.names→∃c,cl.lookup y=some c)∧(∀y c,cl.lookup y=some c→(y,NameKind.free)∈scope.names)∧
   (∀y c,cl.lookup y=some c→∃o v u,H c=some (.frz o (.own 0))∧o.data=.cell (some u)∧(y,v)∈vs∧RelV v u)∧vs.map (·.1)=jg scope.names
 |_=>False
theorem LamAt.mono{H H':Hp}(q:Same H H'){e:Expr}{a:Addr}{vs:List (Str×V)}(h:LamAt H e a vs):LamAt H' e a vs:=by
 unfold LamAt at h⊢;split at h
 ·obtain⟨qual,pm,c',ctv,cl,oc,cvs,t,h1,h2,h3,h4,h5,h6,h7,h8,h9⟩:=h;refine⟨qual,pm,c',ctv,cl,oc,cvs,t,q _ _ h1,q _ _ h2,h3,h4,h5,h6,h7,λy c z=>?_,h9⟩;obtain⟨o,v,u,z1,z2⟩:=h8 y c z;exact⟨o,v,u,q _ _ z1,z2⟩
 ·exact h.elim
noncomputable def nkD:NK→D
 |.inl k=>kD k
 |.inr ks=>.tup (ks.map kD)
noncomputable def kT(k:gm):D:=.tup (k.map nkD)
mutual
noncomputable def Den(K:KA)(H:Hp):D→V→Prop
 |.non,v=>v=.non
 |.bl b,v=>v=.bl b
 |.int i,v=>v=.int i
 |.str x,v=>v=.str x
 |.tup ds,v=>∃a vs,v=.ref a∧H a=some (.tup vs)∧DenL K H ds vs
 |.lst ds,v=>∃a vs,v=.ref a∧SqL K H a vs∧DenL K H ds vs
 |.dct t kvs,v=>∃a,v=.ref a∧((t=false∧∃es,H a=some (.dK es)∧DenK K H kvs es)∨(t=true∧∃es,H a=some (.dT es)∧DenT K H kvs es))
 |.obj e fs,v=>∃a vs,v=.ref a∧LamAt H e a vs∧DenF K H fs vs
 |.fn f,v=>v=.ref (K.A f)
noncomputable def DenL(K:KA)(H:Hp):List D→List V→Prop
 |[],vs=>vs=[]
 |d::ds,vs=>∃v r,vs=v::r∧Den K H d v∧DenL K H ds r
noncomputable def DenF(K:KA)(H:Hp):List (Str×D)→List (Str×V)→Prop
 |[],vs=>vs=[]
 |(n,d)::ds,vs=>∃v r,vs=(n,v)::r∧Den K H d v∧DenF K H ds r
noncomputable def DenK(K:KA)(H:Hp):List (D×D)→List (ja×V)→Prop
 |[],vs=>vs=[]
 |(k,d)::ds,vs=>∃k' v r,vs=(k',v)::r∧k=kD k'∧Den K H d v∧DenK K H ds r
noncomputable def DenT(K:KA)(H:Hp):List (D×D)→List (gm×V)→Prop
 |[],vs=>vs=[]
 |(k,d)::ds,vs=>∃k' v r,vs=(k',v)::r∧k=kT k'∧Den K H d v∧DenT K H ds r
end
theorem SqL.mono{K:KA}{H H':Hp}{a:Addr}{xs:List V}(e:Same H H')(h:SqL K H a xs):SqL K H' a xs:=e.seq h
theorem SqT.mono{K:KA}{H H':Hp}{a:Addr}{xs:List V}(e:Same H H')(h:SqT K H a xs):SqT K H' a xs:=by
 rcases h with (h|⟨o,h⟩)|h
 ·exact .inl (.inl (e _ _ h))
 ·exact .inl (.inr ⟨o,e _ _ h⟩)
 ·exact .inr h
mutual
theorem Den.mono{K:KA}{H H':Hp}(e:Same H H'):∀{d:D}{v:V},Den K H d v→Den K H' d v
 |.non,_,h=>h
 |.bl _,_,h=>h
 |.int _,_,h=>h
 |.str _,_,h=>h
 |.tup _,_,⟨a,vs,h1,h2,h3⟩=>⟨a,vs,h1,e _ _ h2,DenL.mono e h3⟩
 |.lst _,_,⟨a,vs,h1,h2,h3⟩=>⟨a,vs,h1,SqL.mono e h2,DenL.mono e h3⟩
 |.dct _ _,_,⟨a,h1,h2⟩=>⟨a,h1,h2.elim (λ⟨z,es,q1,q2⟩=>.inl ⟨z,es,e _ _ q1,DenK.mono e q2⟩) λ⟨z,es,q1,q2⟩=>.inr ⟨z,es,e _ _ q1,DenT.mono e q2⟩⟩
 |.obj _ _,_,⟨a,vs,h1,h2,h3⟩=>⟨a,vs,h1,h2.mono e,DenF.mono e h3⟩
 |.fn _,_,h=>h
theorem DenL.mono{K:KA}{H H':Hp}(e:Same H H'):∀{ds:List D}{vs:List V},DenL K H ds vs→DenL K H' ds vs
 |[],_,h=>h
 |_::_,_,⟨v,r,h1,h2,h3⟩=>⟨v,r,h1,Den.mono e h2,DenL.mono e h3⟩
theorem DenF.mono{K:KA}{H H':Hp}(e:Same H H'):∀{ds:List (Str×D)}{vs:List (Str×V)},DenF K H ds vs→DenF K H' ds vs
 |[],_,h=>h
 |(_,_)::_,_,⟨v,r,h1,h2,h3⟩=>⟨v,r,h1,Den.mono e h2,DenF.mono e h3⟩
theorem DenK.mono{K:KA}{H H':Hp}(e:Same H H'):∀{ds:List (D×D)}{vs:List (ja×V)},DenK K H ds vs→DenK K H' ds vs
 |[],_,h=>h
 |(_,_)::_,_,⟨k,v,r,h1,h0,h2,h3⟩=>⟨k,v,r,h1,h0,Den.mono e h2,DenK.mono e h3⟩
theorem DenT.mono{K:KA}{H H':Hp}(e:Same H H'):∀{ds:List (D×D)}{vs:List (gm×V)},DenT K H ds vs→DenT K H' ds vs
 |[],_,h=>h
 |(_,_)::_,_,⟨k,v,r,h1,h0,h2,h3⟩=>⟨k,v,r,h1,h0,Den.mono e h2,DenT.mono e h3⟩
end
section
variable{K:KA}{G H:Hp}
theorem DenL.length:∀{ds:List D}{vs:List V},DenL K H ds vs→ds.length=vs.length
 |[],_,h=>by rw[show _=[]from h];rfl
 |_::_,_,⟨v,r,h1,_,h3⟩=>by rw[h1,kA5,kA5,DenL.length h3]
theorem DenL.get:∀{ds:List D}{vs:List V}{i:Nat}{d:D},DenL K H ds vs→ds[i]?=some d→∃v,vs[i]?=some v∧Den K H d v
 |[],_,_,_,_,e=>by simp at e
 |_::_,_,0,_,⟨v,r,h1,h2,_⟩,e=>by
  simp at e;subst e;subst h1;exact⟨v,rfl,h2⟩
 |_::_,_,i+1,_,⟨v,r,h1,_,h3⟩,e=>by
  obtain⟨w,q1,q2⟩:=DenL.get (i:=i) h3 (by simpa using e);subst h1;exact⟨w,by simpa using q1,q2⟩
theorem DenL.append:∀{ds es:List D}{vs ws:List V},DenL K H ds vs→DenL K H es ws→DenL K H (ds++es) (vs++ws)
 |[],_,_,_,h,q=>by rw[show _=[]from h];exact q
 |_::_,_,_,_,⟨v,r,h1,h2,h3⟩,q=>⟨v,r++_,by rw[h1];rfl,h2,DenL.append h3 q⟩
theorem DenL.one{d:D}{v:V}(h:Den K H d v):DenL K H [d] [v]:=⟨v,[],rfl,h,rfl⟩
theorem DenL.drop:∀(n:Nat){ds:List D}{vs:List V},DenL K H ds vs→DenL K H (ds.drop n) (vs.drop n)
 |0,_,_,h=>h
 |_+1,[],_,h=>by rw[show _=[]from h];exact rfl
 |n+1,_::_,_,⟨v,r,h1,_,h3⟩=>by subst h1;exact DenL.drop n h3
theorem DenL.take:∀(n:Nat){ds:List D}{vs:List V},DenL K H ds vs→DenL K H (ds.take n) (vs.take n)
 |0,_,_,_=>rfl
 |_+1,[],_,h=>by rw[show _=[]from h];exact rfl
 |n+1,_::_,_,⟨v,r,h1,h2,h3⟩=>by subst h1;exact⟨v,r.take n,rfl,h2,DenL.take n h3⟩
theorem DenL.eraseIdx:∀(n:Nat){ds:List D}{vs:List V},DenL K H ds vs→DenL K H (ds.eraseIdx n) (vs.eraseIdx n)
 |_,[],_,h=>by rw[show _=[]from h];exact rfl
 |0,_::_,_,⟨v,r,h1,_,h3⟩=>by subst h1;exact h3
 |n+1,_::_,_,⟨v,r,h1,h2,h3⟩=>by subst h1;exact⟨v,r.eraseIdx n,rfl,h2,DenL.eraseIdx n h3⟩
theorem DenL.set{d:D}{v:V}(q:Den K H d v):∀(n:Nat){ds:List D}{vs:List V},DenL K H ds vs→DenL K H (ds.set n d) (vs.set n v)
 |_,[],_,h=>by rw[show _=[]from h];exact rfl
 |0,_::_,_,⟨_,r,h1,_,h3⟩=>by subst h1;exact⟨v,r,rfl,q,h3⟩
 |n+1,_::_,_,⟨w,r,h1,h2,h3⟩=>by subst h1;exact⟨w,r.set n v,rfl,h2,DenL.set q n h3⟩
end
noncomputable def nfz:HO→Bool
 |.frz _ _=>false
 |.tup _=>false
 |_=>true
structure Ext(G H G' H':Hp):Prop where
 gg:Same G G'
 hh:Same H H'
 gh:Same G' H'
 fr:∀a o,H a=some o→G a=none→nfz o=true→G' a=none
theorem Ext.refl{G H:Hp}(h:Same G H):Ext G H G H:=⟨Same.refl G,Same.refl H,h,λ_ _ _ q _=>q⟩
theorem Ext.trans{G H G1 H1 G2 H2:Hp}(a:Ext G H G1 H1)(b:Ext G1 H1 G2 H2):Ext G H G2 H2:=
 ⟨a.gg.trans b.gg,a.hh.trans b.hh,b.gh,λx o h g z=>b.fr x o (a.hh x o h) (a.fr x o h g z) z⟩
theorem i7{H:Hp}{p:Addr}(h:H p=none)(o:HO):Same H (upd H p o):=λb u q=>by rw[bu (d9 q h)];exact q
theorem Ext.new{G H:Hp}{p:Addr}(h:Same G H)(o:HO)(n:H p=none):Ext G H (upd G p o) (upd H p o):=by
 have ng:G p=none:=by
  cases e:G p with
  |none=>rfl
  |some u=>rw[h p u e]at n;cases n
 refine⟨i7 ng o,i7 n o,λb u q=>?_,λa u q g _=>?_⟩
 ·by_cases e:b=p
  ·subst e;rw[d8]at q⊢;exact q
  ·rw[bu e]at q⊢;exact h b u q
 ·rw[bu (d9 q n)];exact g
theorem Ext.own{G H:Hp}{p:Addr}(h:Same G H)(o:HO)(n:H p=none):Ext G H G (upd H p o):=by
 refine⟨Same.refl G,i7 n o,λb u q=>?_,λa u q g _=>g⟩;exact i7 n o b u (h b u q)
noncomputable def Arg(K:KA)(G H:Hp)(d:D)(v:V):Prop:=
 Den K G d v∨(∃ds a vs,d=.lst ds∧v=.ref a∧SqL K H a vs∧DenL K G ds vs)∨
  ∃t kvs a,d=.dct t kvs∧v=.ref a∧((t=false∧∃es,H a=some (.dK es)∧DenK K G kvs es)∨(t=true∧∃es,H a=some (.dT es)∧DenT K G kvs es))
theorem Arg.ext{K:KA}{G H G' H':Hp}{d:D}{v:V}(e:Ext G H G' H')(h:Arg K G H d v):Arg K G' H' d v:=by
 rcases h with h|⟨ds,a,vs,h1,h2,h3,h4⟩|⟨t,kvs,a,h1,h2,h3⟩
 ·exact .inl (h.mono e.gg)
 ·exact .inr (.inl ⟨ds,a,vs,h1,h2,SqL.mono e.hh h3,h4.mono e.gg⟩)
 ·exact .inr (.inr ⟨t,kvs,a,h1,h2,h3.elim (λ⟨z,es,q1,q2⟩=>.inl ⟨z,es,e.hh _ _ q1,q2.mono e.gg⟩) λ⟨z,es,q1,q2⟩=>.inr ⟨z,es,e.hh _ _ q1,q2.mono e.gg⟩⟩)
theorem Arg.lst{K:KA}{G H:Hp}{ds:List D}{v:V}(s:Same G H)(h:Arg K G H (.lst ds) v):∃a vs,v=.ref a∧SqL K H a vs∧DenL K G ds vs:=by
 rcases h with ⟨a,vs,h1,h2,h3⟩|⟨ds',a,vs,h1,h2,h3,h4⟩|⟨t,kvs,a,h1,_⟩
 ·exact⟨a,vs,h1,SqL.mono s h2,h3⟩
 ·cases h1;exact⟨a,vs,h2,h3,h4⟩
 ·cases h1
theorem Arg.tup0{K:KA}{G H:Hp}{ds:List D}{v:V}(s:Same G H)(h:Arg K G H (.tup ds) v):∃a vs,v=.ref a∧H a=some (.tup vs)∧DenL K G ds vs:=by
 rcases h with ⟨a,vs,h1,h2,h3⟩|⟨ds',a,vs,h1,_⟩|⟨t,kvs,a,h1,_⟩
 ·exact⟨a,vs,h1,s _ _ h2,h3⟩
 ·cases h1
 ·cases h1
theorem Arg.tup{K:KA}{G H:Hp}{ds:List D}{v:V}(s:Same G H)(h:Arg K G H (.tup ds) v):∃a vs,v=.ref a∧SqT K H a vs∧DenL K G ds vs:=by
 obtain⟨a,vs,h1,h2,h3⟩:=h.tup0 s;exact⟨a,vs,h1,.inl (.inl h2),h3⟩
theorem Arg.int{K:KA}{G H:Hp}{i:Int}{v:V}(h:Arg K G H (.int i) v):v=.int i:=by
 rcases h with h|⟨ds',a,vs,h1,_⟩|⟨t,kvs,a,h1,_⟩
 ·exact h
 ·cases h1
 ·cases h1
theorem Arg.bl{K:KA}{G H:Hp}{i:Bool}{v:V}(h:Arg K G H (.bl i) v):v=.bl i:=by
 rcases h with h|⟨ds',a,vs,h1,_⟩|⟨t,kvs,a,h1,_⟩
 ·exact h
 ·cases h1
 ·cases h1
theorem Arg.str{K:KA}{G H:Hp}{i:Str}{v:V}(h:Arg K G H (.str i) v):v=.str i:=by
 rcases h with h|⟨ds',a,vs,h1,_⟩|⟨t,kvs,a,h1,_⟩
 ·exact h
 ·cases h1
 ·cases h1
theorem Arg.non{K:KA}{G H:Hp}{v:V}(h:Arg K G H .non v):v=.non:=by
 rcases h with h|⟨ds',a,vs,h1,_⟩|⟨t,kvs,a,h1,_⟩
 ·exact h
 ·cases h1
 ·cases h1
theorem Arg.fn{K:KA}{G H:Hp}{f:Str}{v:V}(h:Arg K G H (.fn f) v):v=.ref (K.A f):=by
 rcases h with h|⟨ds',a,vs,h1,_⟩|⟨t,kvs,a,h1,_⟩
 ·exact h
 ·cases h1
 ·cases h1
inductive Res where
 |ok (d:D)
 |er (c:Str)
 |st
noncomputable def Res.bind(r:Res)(f:D→Res):Res:=match r with
 |.ok d=>f d
 |.er c=>.er c
 |.st=>.st
noncomputable def Res.of(o:Option D):Res:=match o with
 |some d=>.ok d
 |none=>.st
inductive ResL where
 |ok (ds:List D)
 |er (c:Str)
 |st
inductive Sl where
 |no
 |pu (d:D)
 |bo (d:D)
 |ow (ds:List D)
 |od (t:Bool) (kvs:List (D×D))
noncomputable abbrev En:=List Sl
noncomputable def SlOk(K:KA)(B G H:Hp):Sl→Option V→Prop
 |.no,_=>True
 |.pu d,o=>∃v,o=some v∧Den K G d v
 |.bo d,o=>∃v,o=some v∧Arg K G B d v
 |.ow ds,o=>∃a vs,o=some (.ref a)∧H a=some (.lst vs)∧DenL K G ds vs
 |.od false kvs,o=>∃a es,o=some (.ref a)∧H a=some (.dK es)∧DenK K G kvs es
 |.od true kvs,o=>∃a es,o=some (.ref a)∧H a=some (.dT es)∧DenT K G kvs es
noncomputable def Sl.own:Sl→Bool
 |.ow _=>true
 |.od _ _=>true
 |_=>false
def GOk(H:Hp):Prop:=∀p∈Qj,H p.2.1=some (.tbl (p.2.2))
theorem GOk.same{H H':Hp}(e:Same H H')(h:GOk H):GOk H':=λp hp=>e _ _ (h p hp)
structure EnvR(K:KA)(B G H:Hp)(σ:St)(δ:En):Prop where
 bh:Same B H
 gh:Same G H
 len:σ.length=δ.length
 sl:∀(i:Nat) s,δ[i]?=some s→∃o,σ[i]?=some o∧SlOk K B G H s o
 own:∀(i:Nat) s a,δ[i]?=some s→s.own=true→σ[i]?=some (some (V.ref a))→G a=none∧B a=none
 dis:∀(i j:Nat) s t a,δ[i]?=some s→δ[j]?=some t→s.own=true→t.own=true→σ[i]?=some (some (V.ref a))→σ[j]?=some (some (V.ref a))→i=j
 gb:GOk B
theorem zkg{K:KA}{G G' H:Hp}{d:D}{v:V}(e:Same G G')(h:Arg K G H d v):Arg K G' H d v:=by
 rcases h with h|⟨ds,a,vs,h1,h2,h3,h4⟩|⟨t,kvs,a,h1,h2,h3⟩
 ·exact .inl (h.mono e)
 ·exact .inr (.inl ⟨ds,a,vs,h1,h2,h3,h4.mono e⟩)
 ·exact .inr (.inr ⟨t,kvs,a,h1,h2,h3.elim (λ⟨z,es,q1,q2⟩=>.inl ⟨z,es,q1,q2.mono e⟩) λ⟨z,es,q1,q2⟩=>.inr ⟨z,es,q1,q2.mono e⟩⟩)
theorem zoo{K:KA}{G H H':Hp}{d:D}{v:V}(e:Same H H')(h:Arg K G H d v):Arg K G H' d v:=by
 rcases h with h|⟨ds,a,vs,h1,h2,h3,h4⟩|⟨t,kvs,a,h1,h2,h3⟩
 ·exact .inl h
 ·exact .inr (.inl ⟨ds,a,vs,h1,h2,SqL.mono e h3,h4⟩)
 ·exact .inr (.inr ⟨t,kvs,a,h1,h2,h3.elim (λ⟨z,es,q1,q2⟩=>.inl ⟨z,es,e _ _ q1,q2⟩) λ⟨z,es,q1,q2⟩=>.inr ⟨z,es,e _ _ q1,q2⟩⟩)
theorem SlOk.ext{K:KA}{B G H G' H':Hp}(e:Ext G H G' H'){s:Sl}{o:Option V}(h:SlOk K B G H s o):SlOk K B G' H' s o:=by
 cases s with
 |no=>trivial
 |pu d=>obtain⟨v,h1,h2⟩:=h;exact⟨v,h1,h2.mono e.gg⟩
 |bo d=>obtain⟨v,h1,h2⟩:=h;exact⟨v,h1,zkg e.gg h2⟩
 |ow ds=>obtain⟨a,vs,h1,h2,h3⟩:=h;exact⟨a,vs,h1,e.hh _ _ h2,h3.mono e.gg⟩
 |od t kvs=>
  cases t with
  |false=>obtain⟨a,vs,h1,h2,h3⟩:=h;exact⟨a,vs,h1,e.hh _ _ h2,h3.mono e.gg⟩
  |true=>obtain⟨a,vs,h1,h2,h3⟩:=h;exact⟨a,vs,h1,e.hh _ _ h2,h3.mono e.gg⟩
theorem SlOk.ref{K:KA}{B G H:Hp}{s:Sl}{o:Option V}(h:SlOk K B G H s o)(q:s.own=true):∃a,o=some (V.ref a)∧∃u,H a=some u∧nfz u=true:=by
 cases s with
 |no=>cases q
 |pu d=>cases q
 |bo d=>cases q
 |ow ds=>obtain⟨a,vs,h1,h2,_⟩:=h;exact⟨a,h1,_,h2,rfl⟩
 |od t kvs=>
  cases t with
  |false=>obtain⟨a,vs,h1,h2,_⟩:=h;exact⟨a,h1,_,h2,rfl⟩
  |true=>obtain⟨a,vs,h1,h2,_⟩:=h;exact⟨a,h1,_,h2,rfl⟩
theorem EnvR.ext{K:KA}{B G H G' H':Hp}{σ:St}{δ:En}(e:Ext G H G' H')(r:EnvR K B G H σ δ):EnvR K B G' H' σ δ where
 bh:=r.bh.trans e.hh
 gb:=r.gb
 gh:=e.gh
 len:=r.len
 sl:=λi s h=>by
  obtain⟨o,q1,q2⟩:=r.sl i s h;exact⟨o,q1,q2.ext e⟩
 own:=λi s a h1 h2 h3=>by
  obtain⟨g,b⟩:=r.own i s a h1 h2 h3;obtain⟨o,q1,q2⟩:=r.sl i s h1;rw[h3]at q1;cases q1;obtain⟨a',z,u,q3,q4⟩:=q2.ref h2;cases z;exact⟨e.fr a u q3 g q4,b⟩
 dis:=r.dis
def ResP(E:EK)(G H:Hp)(r:Res)(P:D→Prop):Prop:=match r with
 |.ok d=>P d
 |.er c=>∀G' H',Ext G H G' H'→E c H'
 |.st=>False
def ResLP(E:EK)(G H:Hp)(r:ResL)(P:List D→Prop):Prop:=match r with
 |.ok ds=>P ds
 |.er c=>∀G' H',Ext G H G' H'→E c H'
 |.st=>False
section
variable{E:EK}{G H G' H':Hp}
theorem ResP.mono{r:Res}{P P':D→Prop}(h:ResP E G H r P)(f:∀d,r=.ok d→P d→P' d):ResP E G H r P':=by
 cases r with
 |ok d=>exact f d rfl h
 |er c=>exact h
 |st=>exact h
theorem ResP.ext{r:Res}{P:D→Prop}(e:Ext G H G' H')(h:ResP E G H r P):ResP E G' H' r P:=by
 cases r with
 |ok d=>exact h
 |er c=>exact λG2 H2 e2=>h G2 H2 (e.trans e2)
 |st=>exact h
theorem ResP.bind{r:Res}{f:D→Res}{P:D→Prop}(h:ResP E G H (r.bind f) P):ResP E G H r λd=>ResP E G H (f d) P:=by
 cases r with
 |ok d=>exact h
 |er c=>exact h
 |st=>exact h
theorem ResP.of{o:Option D}{P:D→Prop}(h:ResP E G H (Res.of o) P):∃d,o=some d∧P d:=by
 cases o with
 |some d=>exact⟨d,rfl,h⟩
 |none=>exact h.elim
theorem ResLP.mono{r:ResL}{P P':List D→Prop}(h:ResLP E G H r P)(f:∀d,r=.ok d→P d→P' d):ResLP E G H r P':=by
 cases r with
 |ok d=>exact f d rfl h
 |er c=>exact h
 |st=>exact h
theorem ResLP.ext{r:ResL}{P:List D→Prop}(e:Ext G H G' H')(h:ResLP E G H r P):ResLP E G' H' r P:=by
 cases r with
 |ok d=>exact h
 |er c=>exact λG2 H2 e2=>h G2 H2 (e.trans e2)
 |st=>exact h
end
def ArgM(K:KA)(G H:Hp)(m:Bool)(d:D)(v:V):Prop:=match m with
 |true=>Arg K G H d v
 |false=>Den K G d v
noncomputable def ArgsM(K:KA)(G H:Hp):List Bool→List D→List V→Prop
 |[],ds,vs=>ds=[]∧vs=[]
 |m::ms,ds,vs=>∃d dr v vr,ds=d::dr∧vs=v::vr∧ArgM K G H m d v∧ArgsM K G H ms dr vr
theorem ArgM.ext{K:KA}{G H G' H':Hp}(e:Ext G H G' H'):∀{m:Bool}{d:D}{v:V},ArgM K G H m d v→ArgM K G' H' m d v
 |true,_,_,h=>Arg.ext e h
 |false,_,_,h=>Den.mono e.gg h
theorem ArgsM.ext{K:KA}{G H G' H':Hp}(e:Ext G H G' H'):∀{ms:List Bool}{ds:List D}{vs:List V},ArgsM K G H ms ds vs→ArgsM K G' H' ms ds vs
 |[],_,_,h=>h
 |_::_,_,_,⟨d,dr,v,vr,h1,h2,h3,h4⟩=>⟨d,dr,v,vr,h1,h2,h3.ext e,h4.ext e⟩
theorem ArgsM.length{K:KA}{G H:Hp}:∀{ms:List Bool}{ds:List D}{vs:List V},ArgsM K G H ms ds vs→ds.length=ms.length∧vs.length=ms.length
 |[],_,_,⟨h1,h2⟩=>by rw[h1,h2];exact⟨rfl,rfl⟩
 |_::_,_,_,⟨d,dr,v,vr,h1,h2,h3,h4⟩=>by
  obtain⟨q1,q2⟩:=h4.length;rw[h1,h2,kA5,kA5,kA5,q1,q2];exact⟨rfl,rfl⟩
section
variable(K:KA)(B:Hp)(E:EK)
noncomputable def tPu(g:En→Res):TE:=λσ H Q=>∃G δ,EnvR K B G H σ δ∧ResP E G H (g δ) λd=>∀v G' H',Ext G H G' H'→Den K G' d v→Q v H'
noncomputable def tAr(g:En→Res):TE:=λσ H Q=>∃G δ,EnvR K B G H σ δ∧ResP E G H (g δ) λd=>∀v G' H',Ext G H G' H'→Arg K G' H' d v→Q v H'
noncomputable def tOw(g:En→Res):TE:=λσ H Q=>∃G δ,EnvR K B G H σ δ∧ResP E G H (g δ) λd=>∃ds,d=.lst ds∧
 ∀a vs G' H',Ext G H G' H'→H a=none→G' a=none→H' a=some (.lst vs)→DenL K G' ds vs→Q (.ref a) H'
noncomputable def tTe(g:En→Res):TT:=λσ H Q=>∃G δ,EnvR K B G H σ δ∧ResP E G H (g δ) λd=>∃b,d=.bl b∧∀G' H',Ext G H G' H'→Q b H'
noncomputable def tAl(ms:List Bool)(g:En→ResL):TA:=λσ H Q=>∃G δ,EnvR K B G H σ δ∧ResLP E G H (g δ) λds=>∀vs G' H',Ext G H G' H'→ArgsM K G' H' ms ds vs→Q vs H'
end
abbrev ji(X:Cx)(B:Hp)(E:EK)(e:Expr)(g:En→Res):Prop:=PE X e (tPu (kx X) B E g)
abbrev lx(X:Cx)(B:Hp)(E:EK)(e:Expr)(g:En→Res):Prop:=PE X e (tAr (kx X) B E g)
abbrev OwE(X:Cx)(B:Hp)(E:EK)(e:Expr)(g:En→Res):Prop:=PE X e (tOw (kx X) B E g)
abbrev E3(X:Cx)(B:Hp)(E:EK)(e:Expr)(g:En→Res):Prop:=PT X e (tTe (kx X) B E g)
abbrev PuW(X:Cx)(B:Hp)(E:EK)(e:Expr)(g:En→Res):Prop:=PW X e (tTe (kx X) B E g)
abbrev Qw(X:Cx)(B:Hp)(E:EK)(ms:List Bool)(es:List Expr)(g:En→ResL):Prop:=PA X es (tAl (kx X) B E ms g)
theorem PE.imp{X:Cx}{e:Expr}{t t':TE}(h:PE X e t)(i:∀σ H Q,t' σ H Q→t σ H Q):PE X e t':=λpins s σ H Q I q=>h pins s σ H Q I (i σ H Q q)
theorem PT.imp{X:Cx}{e:Expr}{t t':TT}(h:PT X e t)(i:∀σ H Q,t' σ H Q→t σ H Q):PT X e t':=λpins s σ H Q I q=>h pins s σ H Q I (i σ H Q q)
theorem PW.imp{X:Cx}{e:Expr}{t t':TT}(h:PW X e t)(i:∀σ H Q,t' σ H Q→t σ H Q):PW X e t':=λwh pins s σ H Q I q=>h wh pins s σ H Q I (i σ H Q q)
theorem PA.imp{X:Cx}{e:List Expr}{t t':TA}(h:PA X e t)(i:∀σ H Q,t' σ H Q→t σ H Q):PA X e t':=λpos pins s σ H Q I q=>h pos pins s σ H Q I (i σ H Q q)
section
variable{X:Cx}{B:Hp}{E:EK}{e a b c:Expr}{es:List Expr}{g h k:En→Res}{pos:Pos}
noncomputable def cn(i:Nat):En→Res:=λδ=>match δ[i]? with
 |some (.pu d)=>.ok d
 |_=>.st
noncomputable def af(i:Nat):En→Res:=λδ=>match δ[i]? with
 |some (.pu d)=>.ok d
 |some (.bo d)=>.ok d
 |some (.ow ds)=>.ok (.lst ds)
 |some (.od t kvs)=>.ok (.dct t kvs)
 |_=>.st
noncomputable def gC(d:D):En→Res:=λ_=>.ok d
theorem EnvR.var{K:KA}{G H:Hp}{σ:St}{δ:En}{i:Nat}{d:D}(R:EnvR K B G H σ δ)(h:δ[i]?=some (.pu d)):∃v,σ[i]?=some (some v)∧Den K G d v:=by
 obtain⟨o,q1,v,q2,q3⟩:=R.sl i _ h;exact⟨v,by rw[q1,q2],q3⟩
theorem EnvR.arg{K:KA}{G H:Hp}{σ:St}{δ:En}{i:Nat}{d:D}(R:EnvR K B G H σ δ)(h:af i δ=.ok d):∃v,σ[i]?=some (some v)∧Arg K G H d v:=by
 unfold af at h;cases e:δ[i]? with
 |none=>rw[e]at h;cases h
 |some s=>
  rw[e]at h;obtain⟨o,q1,q2⟩:=R.sl i _ e;cases s with
  |no=>cases h
  |pu d'=>
   cases h;obtain⟨v,q2,q3⟩:=q2;exact⟨v,by rw[q1,q2],.inl q3⟩
  |bo d'=>
   cases h;obtain⟨v,q2,q3⟩:=q2;exact⟨v,by rw[q1,q2],zoo R.bh q3⟩
  |ow ds=>
   cases h;obtain⟨a,vs,q2,q3,q4⟩:=q2;exact⟨.ref a,by rw[q1,q2],.inr (.inl ⟨ds,a,vs,rfl,rfl,SqL.of q3,q4⟩)⟩
  |od t kvs=>
   cases h;cases t with
   |false=>
    obtain⟨a,vs,q2,q3,q4⟩:=q2;exact⟨.ref a,by rw[q1,q2],.inr (.inr ⟨false,kvs,a,rfl,rfl,.inl ⟨rfl,vs,q3,q4⟩⟩)⟩
   |true=>
    obtain⟨a,vs,q2,q3,q4⟩:=q2;exact⟨.ref a,by rw[q1,q2],.inr (.inr ⟨true,kvs,a,rfl,rfl,.inr ⟨rfl,vs,q3,q4⟩⟩)⟩
theorem zio(i:Nat){x:Str}(h:PE X (.Name x pos) (F7 i)):ji X B E (.Name x pos) (cn i):=PE.imp h λσ H Q ⟨G,δ,R,q⟩=>by
 unfold cn at q;cases e:δ[i]? with
 |none=>rw[e]at q;exact q.elim
 |some s=>
  rw[e]at q;cases s with
  |pu d=>
   obtain⟨v,q1,q2⟩:=R.var e;exact⟨v,q1,q v G H (Ext.refl R.gh) q2⟩
  |no=>exact q.elim
  |bo d=>exact q.elim
  |ow d=>exact q.elim
  |od t d=>exact q.elim
theorem zf4(i:Nat){x:Str}(h:PE X (.Name x pos) (F7 i)):lx X B E (.Name x pos) (af i):=PE.imp h λσ H Q ⟨G,δ,R,q⟩=>by
 cases e:af i δ with
 |ok d=>
  rw[e]at q;obtain⟨v,q1,q2⟩:=R.arg e;exact⟨v,q1,q v G H (Ext.refl R.gh) q2⟩
 |er c=>
  unfold af at e;split at e<;>cases e
 |st=>rw[e]at q;exact q.elim
theorem zlm(h:ji X B E e g):lx X B E e g:=PE.imp h λσ H Q ⟨G,δ,R,q⟩=>⟨G,δ,R,q.mono λd _ q v G' H' x y=>q v G' H' x (.inl y)⟩
theorem rl{v:V}{d:D}(h:PE X e (tC v))(r:∀H,Den (kx X) H d v):ji X B E e (gC d):=PE.imp h λσ H Q ⟨G,δ,R,q⟩=>q v G H (Ext.refl R.gh) (r G)
theorem zie{i j}:ji X B E (.Constant (.int i) j pos) (gC (.int i)):=rl Yw λ_=>rfl
theorem zln{b j}:ji X B E (.Constant (.bool b) j pos) (gC (.bl b)):=rl zfe λ_=>rfl
theorem zij{j}:ji X B E (.Constant .none j pos) (gC .non):=rl zhv λ_=>rfl
theorem zil{x j}:ji X B E (.Constant (.str x) j pos) (gC (.str x)):=rl zhy λ_=>rfl
theorem zdf{x y:Str}{t:Tok}(hg:Gl X x)(hm:X.mg x=some (.str y t))(hd:(x==("__debug__":Str))=false:=by decide):ji X B E (.Name x pos) (gC (.str y)):=rl (v:=.str y) (Sb hg hm ⟨t,rfl⟩ hd) λ_=>rfl
theorem og{mg:Str→Option Value}{x:Str}{f:Addr}(h:mg x=some (.ref f)):E6 mg x=f:=by unfold E6;rw[h]
theorem zid{x:Str}{f:Addr}(hg:Gl X x)(hm:X.mg x=some (.ref f))(hd:(x==("__debug__":Str))=false:=by decide):ji X B E (.Name x pos) (gC (.fn x)):=rl (Sb (v:=.ref f) hg hm rfl hd) λ_=>by show V.ref f=V.ref (E6 X.mg x);rw[og hm]
noncomputable def g1(f:D→Option D)(g:En→Res):En→Res:=λδ=>(g δ).bind λx=>Res.of (f x)
noncomputable def g2(f:D→D→Option D)(g h:En→Res):En→Res:=λδ=>(g δ).bind λx=>(h δ).bind λy=>Res.of (f x y)
def j3(K:KA)(f:D→D→Option D)(r:R2):Prop:=∀G H x y dx dy d,Same G H→Arg K G H dx x→Arg K G H dy y→f dx dy=some d→
 ∀Q:VK,(∀v G' H',Ext G H G' H'→Den K G' d v→Q v H')→r x y H Q
theorem op2{K:KA}{f:D→D→Option D}{r:R2}(hp:j3 K f r){σ:St}{H:Hp}{Q:VK}(q:tPu K B E (g2 f g h) σ H Q):tOp r (tAr K B E g) (tAr K B E h) σ H Q:=by
 obtain⟨G,δ,R,q⟩:=q;refine⟨G,δ,R,(ResP.bind q).mono λdx _ qx x G1 H1 e1 ax=>⟨G1,δ,R.ext e1,((ResP.bind qx).ext e1).mono λdy _ qy y G2 H2 e2 ay=>?_⟩⟩;obtain⟨d,ed,qd⟩:=ResP.of qy;exact hp G2 H2 x y dx dy d e2.gh (ax.ext e2) ay ed Q λv G' H' e3 dn=>qd v G' H' ((e1.trans e2).trans e3) dn
theorem M7{op:Operator}{f:D→D→Option D}{r:R2}(ho:OpR X (binaryOp op) r)(hp:j3 (kx X) f r)(ha:lx X B E a g)(hb:lx X B E b h):ji X B E (.BinOp a op b pos) (g2 f g h):=
 PE.imp (zlh ho ha hb) λσ H Q q=>op2 hp q
theorem zic{op:CmpOp}{f:D→D→Option D}{r:R2}(ho:OpR X (compareOp op) r)(hp:j3 (kx X) f r)(ha:lx X B E a g)(hb:lx X B E b h)(hm:behindInMarks op b=false):ji X B E (.Compare a [op] [b] pos) (g2 f g h):=
 PE.imp (zcx ho ha hb hm) λσ H Q q=>op2 hp q
theorem zda{op:CmpOp}{f:D→D→Option D}{r:R2}(ho:OpR X (compareOp op) r)(hp:j3 (kx X) f r)(hb':∀x y d,f x y=some d→∃b,d=.bl b)(ha:lx X B E a g)(hb:lx X B E b h)(hm:behindInMarks op b=false):E3 X B E (.Compare a [op] [b] pos) (g2 f g h):=
 PT.imp (Sn ho ha hb hm) λσ H Q ⟨G,δ,R,q⟩=>op2 hp ⟨G,δ,R,q.mono λd ed ⟨b,eb,qb⟩ v G' H' e3 dn=>by
  subst eb;exact⟨b,dn,qb G' H' e3⟩⟩
noncomputable def Ew:D→Option Bool
 |.non=>some false
 |.bl b=>some b
 |.int i=>some (i !=0)
 |.str x=>if x.length≤sizeLine then some ((x.length:Int) !=0)else none
 |.tup ds=>some !ds.isEmpty
 |.lst ds=>some !ds.isEmpty
 |_=>none
noncomputable def bD(o:Option Bool):Option D:=o.map .bl
theorem Ay{K:KA}{G:Hp}{ds:List D}{vs:List V}(h:DenL K G ds vs):(!ds.isEmpty)= !vs.isEmpty:=by
 have q:=h.length;cases ds<;>cases vs<;>first|rfl|(simp at q)
theorem zee{K:KA}{G H:Hp}{d:D}{v:V}{b:Bool}(s:Same G H)(h:Arg K G H d v)(e:Ew d=some b):zf2 K v H b:=by
 cases d with
 |non=>rw[h.non];cases e;rfl
 |bl i=>rw[h.bl];cases e;rfl
 |int i=>rw[h.int];cases e;rfl
 |str x=>
  rw[h.str];have e':(if x.length≤sizeLine then some ((x.length:Int) !=0)else none)=some b:=e
  by_cases hx:x.length≤sizeLine
  ·rw[if_pos hx]at e';cases e';exact⟨hx,rfl⟩
  ·rw[if_neg hx]at e';cases e'
 |tup ds=>
  obtain⟨a,vs,rfl,q1,q2⟩:=h.tup s;cases e;exact .inr (.inl ⟨vs,q1,Ay q2⟩)
 |lst ds=>
  obtain⟨a,vs,rfl,q1,q2⟩:=h.lst s;cases e;exact .inl ⟨vs,q1,Ay q2⟩
 |dct _ _=>cases e
 |obj _ _=>cases e
 |fn _=>cases e
theorem Zc(ha:lx X B E a g)(he:∀whole,isTrue a X.env whole=(do let v ←whole;standAt a.pos;holding [v] (truthy v)):=by intro _;rfl):E3 X B E a (g1 (λd=>bD (Ew d)) g):=
 PT.imp (Zd ha he) λσ H Q ⟨G,δ,R,q⟩=>⟨G,δ,R,(ResP.bind q).mono λdx _ qx x G1 H1 e1 ax=>by
  obtain⟨d,ed,b,eb,qb⟩:=ResP.of qx;dsimp only at ed;cases et:Ew dx with
  |none=>rw[et]at ed;cases ed
  |some b'=>
   rw[et]at ed;cases ed;cases eb;exact⟨b,zee e1.gh ax et,qb G1 H1 e1⟩⟩
noncomputable def Ri(c a b:En→Res):En→Res:=λδ=>(c δ).bind λd=>match d with
 |.bl true=>a δ
 |.bl false=>b δ
 |_=>.st
noncomputable def i9(c:En→Res):En→Res:=λδ=>(c δ).bind λd=>match d with
 |.bl b=>.ok (.bl !b)
 |_=>.st
noncomputable def m6(a b:En→Res):En→Res:=Ri a b (gC (.bl false))
noncomputable def wj(a b:En→Res):En→Res:=Ri a (gC (.bl true)) b
theorem ifP{K:KA}{P:D→Prop}{c:En→Res}{δ:En}{a b:En→Res}{G H:Hp}(q:ResP E G H (Ri c a b δ) P):
  ResP E G H (c δ) λd=>∃t,d=.bl t∧(t=true→ResP E G H (a δ) P)∧(t=false→ResP E G H (b δ) P):=
 (ResP.bind q).mono λd _ q=>by
  cases d with
  |bl t=>cases t with
   |true=>exact⟨true,rfl,λ_=>q,λz=>by cases z⟩
   |false=>exact⟨false,rfl,λz=>(by cases z),λ_=>q⟩
  |non=>exact q.elim
  |int _=>exact q.elim
  |str _=>exact q.elim
  |tup _=>exact q.elim
  |lst _=>exact q.elim
  |dct _ _=>exact q.elim
  |obj _ _=>exact q.elim
  |fn _=>exact q.elim
theorem zdb(ha:E3 X B E a g):E3 X B E (.UnaryOp .Not a pos) (i9 g):=PT.imp (zh7 ha) λσ H Q ⟨G,δ,R,q⟩=>⟨G,δ,R,(ResP.bind q).mono λd _ q=>by
 cases d with
 |bl t=>
  obtain⟨b,eb,qb⟩:=q;cases eb;exact⟨t,rfl,qb⟩
 |non=>exact q.elim
 |int _=>exact q.elim
 |str _=>exact q.elim
 |tup _=>exact q.elim
 |lst _=>exact q.elim
 |dct _ _=>exact q.elim
 |obj _ _=>exact q.elim
 |fn _=>exact q.elim⟩
theorem Zn(ha:E3 X B E a g):PuW X B E (.BoolOp .And [a] pos) g:=zdk ha
theorem zdl(ha:E3 X B E a g):PuW X B E (.BoolOp .Or [a] pos) g:=zis ha
theorem zdj{ft:List Expr}(ha:E3 X B E a g)(hb:PuW X B E (.BoolOp .And (b::ft) pos) h):PuW X B E (.BoolOp .And (a::b::ft) pos) (m6 g h):=
 PW.imp (ziq ha hb) λσ H Q ⟨G,δ,R,q⟩=>⟨G,δ,R,(ifP (K:=(kx X)) q).mono λd _ ⟨t,ed,qt⟩=>⟨t,ed,λG1 H1 e1=>by
  cases t with
  |true=>exact⟨G1,δ,R.ext e1,((qt.1 rfl).ext e1).mono λd _ ⟨b,eb,qb⟩=>⟨b,eb,λG2 H2 e2=>qb G2 H2 (e1.trans e2)⟩⟩
  |false=>
   obtain⟨b,eb,qb⟩:=(qt.2 rfl);cases eb;exact qb G1 H1 e1⟩⟩
theorem zir{ft:List Expr}(ha:E3 X B E a g)(hb:PuW X B E (.BoolOp .Or (b::ft) pos) h):PuW X B E (.BoolOp .Or (a::b::ft) pos) (wj g h):=
 PW.imp (zlu ha hb) λσ H Q ⟨G,δ,R,q⟩=>⟨G,δ,R,(ifP (K:=(kx X)) q).mono λd _ ⟨t,ed,qt⟩=>⟨t,ed,λG1 H1 e1=>by
  cases t with
  |false=>exact⟨G1,δ,R.ext e1,((qt.2 rfl).ext e1).mono λd _ ⟨b,eb,qb⟩=>⟨b,eb,λG2 H2 e2=>qb G2 H2 (e1.trans e2)⟩⟩
  |true=>
   obtain⟨b,eb,qb⟩:=(qt.1 rfl);cases eb;exact qb G1 H1 e1⟩⟩
theorem zll(h:PuW X B E e g):E3 X B E e g:=PW.pt h
theorem Zi{op}(h:ji X B E a g):ji X B E (.BoolOp op [a] pos) g:=zhx h
theorem zia{ft:List Expr}(ha:ji X B E a g)(hb:ji X B E (.BoolOp .And (b::ft) pos) h):ji X B E (.BoolOp .And (a::b::ft) pos) (m6 g h):=
 PE.imp (zht ha hb) λσ H Q ⟨G,δ,R,q⟩=>⟨G,δ,R,(ifP (K:=(kx X)) q).mono λd _ ⟨t,ed,qt⟩ v G1 H1 e1 dn=>by
  subst ed;refine⟨t,dn,?_⟩;cases t with
  |true=>exact⟨G1,δ,R.ext e1,((qt.1 rfl).ext e1).mono λd _ qb v G2 H2 e2 dn=>qb v G2 H2 (e1.trans e2) dn⟩
  |false=>exact(qt.2 rfl) _ G1 H1 e1 rfl⟩
theorem zls{ft:List Expr}(ha:ji X B E a g)(hb:ji X B E (.BoolOp .Or (b::ft) pos) h):ji X B E (.BoolOp .Or (a::b::ft) pos) (wj g h):=
 PE.imp (zli ha hb) λσ H Q ⟨G,δ,R,q⟩=>⟨G,δ,R,(ifP (K:=(kx X)) q).mono λd _ ⟨t,ed,qt⟩ v G1 H1 e1 dn=>by
  subst ed;refine⟨t,dn,?_⟩;cases t with
  |false=>exact⟨G1,δ,R.ext e1,((qt.2 rfl).ext e1).mono λd _ qb v G2 H2 e2 dn=>qb v G2 H2 (e1.trans e2) dn⟩
  |true=>exact(qt.1 rfl) _ G1 H1 e1 rfl⟩
theorem zik(ha:ji X B E a g):ji X B E (.UnaryOp .Not a pos) (i9 g):=PE.imp (zhw ha) λσ H Q ⟨G,δ,R,q⟩=>⟨G,δ,R,(ResP.bind q).mono λd _ q v G1 H1 e1 dn=>by
 cases d with
 |bl t=>exact⟨t,dn,q _ G1 H1 e1 rfl⟩
 |non=>exact q.elim
 |int _=>exact q.elim
 |str _=>exact q.elim
 |tup _=>exact q.elim
 |lst _=>exact q.elim
 |dct _ _=>exact q.elim
 |obj _ _=>exact q.elim
 |fn _=>exact q.elim⟩
theorem zlp{c:Expr}(hc:E3 X B E c k)(ha:ji X B E a g)(hb:ji X B E b h):ji X B E (.IfExp c a b pos) (Ri k g h):=
 PE.imp (M5 hc ha hb) λσ H Q ⟨G,δ,R,q⟩=>⟨G,δ,R,(ifP (K:=(kx X)) q).mono λd _ ⟨t,ed,qt⟩=>⟨t,ed,λG1 H1 e1=>by
  cases t with
  |true=>exact⟨G1,δ,R.ext e1,((qt.1 rfl).ext e1).mono λd _ qb v G2 H2 e2 dn=>qb v G2 H2 (e1.trans e2) dn⟩
  |false=>exact⟨G1,δ,R.ext e1,((qt.2 rfl).ext e1).mono λd _ qb v G2 H2 e2 dn=>qb v G2 H2 (e1.trans e2) dn⟩⟩⟩
noncomputable def bc:En→ResL:=λ_=>.ok []
noncomputable def ae(g:En→Res)(r:En→ResL):En→ResL:=λδ=>match g δ with
 | .ok d => (match r δ with
  |.ok ds=>.ok (d::ds)
  |.er c=>.er c
  |.st=>.st)
 |.er c=>.er c
 |.st=>.st
theorem ze0{G H:Hp}{δ:En}{r:En→ResL}{P:List D→Prop}(q:ResLP E G H (ae g r δ) P):ResP E G H (g δ) λd=>ResLP E G H (r δ) λds=>P (d::ds):=by
 unfold ae at q;cases e:g δ with
 |ok d=>
  rw[e]at q;cases e2:r δ with
  |ok ds=>rw[e2]at q;exact q
  |er c=>rw[e2]at q;exact q
  |st=>rw[e2]at q;exact q
 |er c=>rw[e]at q;exact q
 |st=>rw[e]at q;exact q
theorem ky:Qw X B E [] [] bc:=PA.imp Pz λσ H Q ⟨G,δ,R,q⟩=>q [] G H (Ext.refl R.gh) ⟨rfl,rfl⟩
theorem ju{ms:List Bool}{r:En→ResL}(ha:lx X B E e g)(hr:Qw X B E ms es r)(hs:starEach (e::es) X.env=(false,eval e X.env)::starEach es X.env:=by rfl):Qw X B E (true::ms) (e::es) (ae g r):=
 PA.imp (yi ha hr hs) λσ H Q ⟨G,δ,R,q⟩=>⟨G,δ,R,(ze0 q).mono λd _ q x G1 H1 e1 ax=>⟨G1,δ,R.ext e1,(q.ext e1).mono λds _ q vs G2 H2 e2 al=>
  q (x::vs) G2 H2 (e1.trans e2) ⟨d,ds,x,vs,rfl,rfl,ax.ext e2,al⟩⟩⟩
theorem Cn{ms:List Bool}{r:En→ResL}(ha:ji X B E e g)(hr:Qw X B E ms es r)(hs:starEach (e::es) X.env=(false,eval e X.env)::starEach es X.env:=by rfl):Qw X B E (false::ms) (e::es) (ae g r):=
 PA.imp (yi ha hr hs) λσ H Q ⟨G,δ,R,q⟩=>⟨G,δ,R,(ze0 q).mono λd _ q x G1 H1 e1 ax=>⟨G1,δ,R.ext e1,(q.ext e1).mono λds _ q vs G2 H2 e2 al=>
  q (x::vs) G2 H2 (e1.trans e2) ⟨d,ds,x,vs,rfl,rfl,ax.mono e2.gg,al⟩⟩⟩
noncomputable def Hw:List Bool→Bool
 |[]=>true
 |b::r=> !b && Hw r
theorem ArgsM.den{K:KA}{G H:Hp}:∀{ms:List Bool}{ds:List D}{vs:List V},Hw ms=true→ArgsM K G H ms ds vs→DenL K G ds vs
 |[],_,_,_,⟨h1,h2⟩=>by subst h1;subst h2;exact rfl
 |true::_,_,_,h,_=>by simp[Hw]at h
 |false::ms,_,_,h,⟨d,dr,v,vr,h1,h2,h3,h4⟩=>by
  subst h1;subst h2;exact⟨v,vr,rfl,h3,ArgsM.den (by simpa[Hw]using h) h4⟩
noncomputable def jt(r:En→ResL):En→Res:=λδ=>match r δ with
 |.ok ds=>if ds.length≤sizeLine then .ok (.tup ds)else .st
 |.er c=>.er c
 |.st=>.st
noncomputable def mv(r:En→ResL):En→Res:=λδ=>match r δ with
 |.ok ds=>if ds.length≤sizeLine then .ok (.lst ds)else .st
 |.er c=>.er c
 |.st=>.st
theorem zpk{G H:Hp}{δ:En}{r:En→ResL}{P:D→Prop}(q:ResP E G H (jt r δ) P):ResLP E G H (r δ) λds=>ds.length≤sizeLine∧P (.tup ds):=by
 unfold jt at q;cases e:r δ with
 |ok ds=>
  rw[e]at q
  by_cases hl:ds.length≤sizeLine
  ·simp only[if_pos hl]at q;exact⟨hl,q⟩
  ·simp only[if_neg hl]at q;exact q.elim
 |er c=>rw[e]at q;exact q
 |st=>rw[e]at q;exact q
theorem zoz{G H:Hp}{δ:En}{r:En→ResL}{P:D→Prop}(q:ResP E G H (mv r δ) P):ResLP E G H (r δ) λds=>ds.length≤sizeLine∧P (.lst ds):=by
 unfold mv at q;cases e:r δ with
 |ok ds=>
  rw[e]at q
  by_cases hl:ds.length≤sizeLine
  ·simp only[if_pos hl]at q;exact⟨hl,q⟩
  ·simp only[if_neg hl]at q;exact q.elim
 |er c=>rw[e]at q;exact q
 |st=>rw[e]at q;exact q
theorem DenL.upd{K:KA}{G:Hp}{p:Addr}{ds:List D}{vs:List V}(h:DenL K G ds vs)(n:G p=none)(o:HO):DenL K (upd G p o) ds vs:=h.mono (i7 n o)
theorem ik{G H:Hp}{p:Addr}(s:Same G H)(n:H p=none):G p=none:=by
 cases e:G p with
 |none=>rfl
 |some u=>rw[s p u e]at n;cases n
theorem oo{K:KA}{G H:Hp}{p:Addr}{ds:List D}{vs:List V}(s:Same G H)(n:H p=none)(h:DenL K G ds vs):Den K (upd G p (.tup vs)) (.tup ds) (.ref p):=
 ⟨p,vs,rfl,d8,h.upd (ik s n) _⟩
theorem x8{K:KA}{G H:Hp}{p:Addr}{ds:List D}{vs:List V}(s:Same G H)(n:H p=none)(h:DenL K G ds vs):Den K (upd G p (.lst vs)) (.lst ds) (.ref p):=
 ⟨p,vs,rfl,SqL.of d8,h.upd (ik s n) _⟩
theorem zin{x1}{ms:List Bool}{r:En→ResL}(hm:Hw ms=true)(h:Qw X B E ms es r):ji X B E (.Tuple es x1 pos) (jt r):=
 PE.imp (zhz h) λσ H Q ⟨G,δ,R,q⟩=>⟨G,δ,R,(zpk q).mono λds _ ⟨hl,q⟩ vs G1 H1 e1 al=>by
  have dl:=al.den hm;refine⟨by rw[←dl.length];exact hl,λp hp=>q _ (upd G1 p (.tup vs)) _ (e1.trans (Ext.new e1.gh _ hp)) (oo e1.gh hp dl)⟩⟩
theorem Yo{ms:List Bool}{r:En→ResL}(hm:Hw ms=true)(h:Qw X B E ms es r):OwE X B E (.List es pos) (mv r):=
 PE.imp (zhu h) λσ H Q ⟨G,δ,R,q⟩=>⟨G,δ,R,(zoz q).mono λds _ ⟨hl,ds',ed,q⟩ vs G1 H1 e1 al=>by
  cases ed;have dl:=al.den hm;refine⟨by rw[←dl.length];exact hl,λp hp=>q p vs G1 _ (e1.trans (Ext.own e1.gh _ hp)) (ik e1.hh hp) (ik e1.gh hp) d8 dl⟩⟩
theorem Ext.freeze{G H G' H':Hp}{a:Addr}{vs:List V}(e:Ext G H G' H')(hn:H a=none)(gn:G' a=none)(h:H' a=some (.lst vs)):Ext G H (upd G' a (.lst vs)) H':=by
 refine⟨e.gg.trans (i7 gn _),e.hh,λb u q=>?_,λb u q g z=>?_⟩
 ·by_cases z:b=a
  ·subst z;rw[d8]at q;rw[h];exact q
  ·rw[bu z]at q;exact e.gh b u q
 ·rw[bu (d9 q hn)];exact e.fr b u q g z
def IsL(g:En→Res):Prop:=∀δ d,g δ=.ok d→∃ds,d=.lst ds
theorem zbv{r:En→ResL}:IsL (mv r):=λδ d h=>by
 unfold mv at h;cases e:r δ with
 |ok ds=>
  rw[e]at h
  by_cases hl:ds.length≤sizeLine
  ·simp only[if_pos hl]at h;cases h;exact⟨ds,rfl⟩
  ·simp only[if_neg hl]at h;cases h
 |er c=>rw[e]at h;cases h
 |st=>rw[e]at h;cases h
theorem Yp(h:OwE X B E e g)(hl:IsL g):ji X B E e g:=PE.imp h λσ H Q ⟨G,δ,R,q⟩=>⟨G,δ,R,q.mono λd ed q=>by
 obtain⟨ds,rfl⟩:=hl δ d ed;exact⟨ds,rfl,λa vs G' H' e1 hn gn hh dl=>q _ (upd G' a (.lst vs)) H' (e1.freeze hn gn hh) ⟨a,vs,rfl,SqL.of d8,dl.mono (i7 gn _)⟩⟩⟩
theorem zig{ms:List Bool}{r:En→ResL}(hm:Hw ms=true)(h:Qw X B E ms es r):ji X B E (.List es pos) (mv r):=Yp (Yo hm h) zbv
end
inductive Out where
 |nx (δ:En)
 |bk (δ:En)
 |ct (δ:En)
 |rt (d:D)
 |er (c:Str)
 |st
def OutP(K:KA)(G0 B:Hp)(E:EK)(G:Hp)(o:Out)(D:Ends):Prop:=match o with
 |.nx δ=>∀σ' G' H',Same G G'→EnvR K B G' H' σ' δ→Ext G0 B G' H'→D.nx σ' H'
 |.bk δ=>∀σ' G' H',Same G G'→EnvR K B G' H' σ' δ→Ext G0 B G' H'→D.bk σ' H'
 |.ct δ=>∀σ' G' H',Same G G'→EnvR K B G' H' σ' δ→Ext G0 B G' H'→D.ct σ' H'
 |.rt d=>∀v G' H',Ext G0 B G' H'→Den K G' d v→D.rt v H'
 |.er c=>∀G' H',Ext G0 B G' H'→E c H'
 |.st=>False
noncomputable def tSt(K:KA)(G0 B:Hp)(E:EK)(F:En→Out):TS:=λD σ H=>∃G δ,EnvR K B G H σ δ∧Ext G0 B G H∧OutP K G0 B E G (F δ) D
abbrev qo(X:Cx)(G0 B:Hp)(E:EK)(st:Stmt)(F:En→Out):Prop:=PS X st (tSt (kx X) G0 B E F)
abbrev xo(X:Cx)(G0 B:Hp)(E:EK)(st:List Stmt)(F:En→Out):Prop:=PSs X st (tSt (kx X) G0 B E F)
theorem PS.imp{X:Cx}{st:Stmt}{t t':TS}(h:PS X st t)(i:∀D σ H,t' D σ H→t D σ H):PS X st t':=λpins s σ H D I q=>h pins s σ H D I (i D σ H q)
theorem PSs.imp{X:Cx}{st:List Stmt}{t t':TS}(h:PSs X st t)(i:∀D σ H,t' D σ H→t D σ H):PSs X st t':=λpins s σ H D I q=>h pins s σ H D I (i D σ H q)
theorem OutP.same{K:KA}{G0 B:Hp}{E:EK}{G G1:Hp}{o:Out}{D:Ends}(s:Same G G1)(h:OutP K G0 B E G o D):OutP K G0 B E G1 o D:=by
 cases o with
 |nx δ=>exact λσ' G' H' q=>h σ' G' H' (s.trans q)
 |bk δ=>exact λσ' G' H' q=>h σ' G' H' (s.trans q)
 |ct δ=>exact λσ' G' H' q=>h σ' G' H' (s.trans q)
 |rt d=>exact h
 |er c=>exact h
 |st=>exact h
noncomputable def Res.then(r:Res)(f:D→Out):Out:=match r with
 |.ok d=>f d
 |.er c=>.er c
 |.st=>.st
theorem o7{K:KA}{G0 B:Hp}{E:EK}{G H:Hp}{r:Res}{f:D→Out}{D:Ends}(e:Ext G0 B G H)(h:OutP K G0 B E G (r.then f) D):ResP E G H r λd=>OutP K G0 B E G (f d) D:=by
 cases r with
 |ok d=>exact h
 |er c=>exact λG' H' q=>h G' H' (e.trans q)
 |st=>exact h
section
variable{X:Cx}{G0 B:Hp}{E:EK}{e c:Expr}{st:Stmt}{ft ss tt:List Stmt}{F F1 F2:En→Out}{g:En→Res}{pos:Pos}
noncomputable def ia:En→Out:=λδ=>.nx δ
noncomputable def br(F1 F2:En→Out):En→Out:=λδ=>match F1 δ with
 |.nx δ'=>F2 δ'
 |o=>o
theorem zja:xo X G0 B E [] ia:=PSs.imp zc9 λD σ H ⟨G,δ,R,e,q⟩=>q σ G H (Same.refl G) R e
theorem zo9{K:KA}{D:Ends}{σ:St}{H:Hp}(q:tSt K G0 B E (br F1 F2) D σ H):zmm (tSt K G0 B E F1) (tSt K G0 B E F2) D σ H:=by
 obtain⟨G,δ,R,e,q⟩:=q;refine⟨G,δ,R,e,?_⟩;unfold br at q;cases ef:F1 δ with
 |nx δ'=>
  rw[ef]at q;exact λσ' G' H' s R' e'=>⟨G',δ',R',e',OutP.same s q⟩
 |bk δ'=>rw[ef]at q;exact q
 |ct δ'=>rw[ef]at q;exact q
 |rt d=>rw[ef]at q;exact q
 |er c=>rw[ef]at q;exact q
 |st=>rw[ef]at q;exact q
theorem zd6(h1:qo X G0 B E st F1)(h2:xo X G0 B E ft F2):xo X G0 B E (st::ft) (br F1 F2):=PSs.imp (Za h1 h2) λD σ H q=>zo9 q
theorem zjb(h1:qo X G0 B E st F1):xo X G0 B E [st] F1:=Sm h1
noncomputable def Ss:En→Out:=λδ=>.nx δ
theorem zl8{x j pos pos'}:qo X G0 B E (.Expr (.Constant (.str x) j pos) pos') Ss:=PS.imp zh4 λD σ H ⟨G,δ,R,e,q⟩=>q σ G H (Same.refl G) R e
noncomputable def d4(g:En→Res):En→Out:=λδ=>(g δ).then .rt
theorem zmc(h:ji X B E e g):qo X G0 B E (.Return (some e) pos) (d4 g):=PS.imp (Y8 h) λD σ H ⟨G,δ,R,e,q⟩=>⟨G,δ,R,(o7 e q).mono λd _ q v G' H' e1 dn=>q v G' H' (e.trans e1) dn⟩
noncomputable def ki(c:En→Res)(a b:En→Out):En→Out:=λδ=>(c δ).then λd=>match d with
 |.bl true=>a δ
 |.bl false=>b δ
 |_=>.st
theorem zo8(hc:E3 X B E c g)(ha:xo X G0 B E ss F1)(hb:xo X G0 B E tt F2):qo X G0 B E (.If c ss tt pos) (ki g F1 F2):=
 PS.imp (zff hc ha hb) λD σ H ⟨G,δ,R,e,q⟩=>⟨G,δ,R,(o7 e q).mono λd _ q=>by
  cases d with
  |bl t=>cases t with
   |true=>exact⟨true,rfl,λG1 H1 e1=>⟨G1,δ,R.ext e1,e.trans e1,OutP.same e1.gg q⟩⟩
   |false=>exact⟨false,rfl,λG1 H1 e1=>⟨G1,δ,R.ext e1,e.trans e1,OutP.same e1.gg q⟩⟩
  |non=>exact q.elim
  |int _=>exact q.elim
  |str _=>exact q.elim
  |tup _=>exact q.elim
  |lst _=>exact q.elim
  |dct _ _=>exact q.elim
  |obj _ _=>exact q.elim
  |fn _=>exact q.elim⟩
theorem EnvR.set{K:KA}{G H:Hp}{σ:St}{δ:En}{i:Nat}{d:D}{v:V}(R:EnvR K B G H σ δ)(h:Den K G d v):EnvR K B G H (σ.set i (some v)) (δ.set i (.pu d)) where
 bh:=R.bh
 gb:=R.gb
 gh:=R.gh
 len:=by rw[kAo,kAo];exact R.len
 sl:=λj s q=>by
  by_cases z:i=j
  ·subst z;have hl:i<δ.length:=by
    have:=(kAq.mp q).1;rwa [kAo]at this
   rw[kAg hl]at q;cases q;exact⟨some v,kAg (by rw[R.len];exact hl),v,rfl,h⟩
  ·rw[kAe z]at q⊢;exact R.sl j s q
 own:=λj s a q1 q2 q3=>by
  by_cases z:i=j
  ·subst z;have hl:i<δ.length:=by
    have:=(kAq.mp q1).1;rwa [kAo]at this
   rw[kAg hl]at q1;cases q1;cases q2
  ·rw[kAe z]at q1 q3;exact R.own j s a q1 q2 q3
 dis:=λj k s t a q1 q2 q3 q4 q5 q6=>by
  have hj:i≠j:=by
   rintro rfl
   have hl:i<δ.length:=by
    have:=(kAq.mp q1).1;rwa [kAo]at this
   rw[kAg hl]at q1;cases q1;cases q3
  have hk:i≠k:=by
   rintro rfl
   have hl:i<δ.length:=by
    have:=(kAq.mp q2).1;rwa [kAo]at this
   rw[kAg hl]at q2;cases q2;cases q4
  rw[kAe hj]at q1 q5;rw[kAe hk]at q2 q6;exact R.dis j k s t a q1 q2 q3 q4 q5 q6
noncomputable def gr(i:Nat)(g:En→Res):En→Out:=λδ=>(g δ).then λd=>.nx (δ.set i (.pu d))
theorem zmd{i:Nat}{x:Str}{pos':Pos}(h:ji X B E e g)(hs:PS X (.Assign [.Name x pos'] e pos) (Nn (tPu (kx X) B E g) (ua i))):qo X G0 B E (.Assign [.Name x pos'] e pos) (gr i g):=
 PS.imp hs λD σ H ⟨G,δ,R,e,q⟩=>⟨G,δ,R,(o7 e q).mono λd _ q v G' H' e1 dn=>q _ G' H' e1.gg ((R.ext e1).set dn) (e.trans e1)⟩
theorem EnvR.setO{K:KA}{G H G' H':Hp}{σ:St}{δ:En}{i:Nat}{ds:List D}{a:Addr}{vs:List V}(R:EnvR K B G H σ δ)(e:Ext G H G' H')(hn:H a=none)(gn:G' a=none)(hh:H' a=some (.lst vs))(dl:DenL K G' ds vs):
  EnvR K B G' H' (σ.set i (some (.ref a))) (δ.set i (.ow ds)):=by
 have R':=R.ext e;have bn:B a=none:=ik R.bh hn;have oth:∀(j:Nat) s,δ[j]?=some s→s.own=true→σ[j]?=some (some (.ref a))→False:=λj s q1 q2 q3=>by
  obtain⟨o,z1,z2⟩:=R.sl j s q1;rw[q3]at z1;cases z1;obtain⟨a',z,u,z3,_⟩:=z2.ref q2;cases z;rw[hn]at z3;cases z3
 have at_i:∀{s:Sl},(δ.set i (.ow ds))[i]?=some s→s=.ow ds∧i<δ.length:=λq=>by
  have hl:i<δ.length:=by
   have:=(kAq.mp q).1;rwa [kAo]at this
  rw[kAg hl]at q;cases q;exact⟨rfl,hl⟩
 refine⟨R'.bh,R'.gh,by rw[kAo,kAo];exact R.len,λj s q=>?_,λj s b q1 q2 q3=>?_,λj k s t b q1 q2 q3 q4 q5 q6=>?_,R.gb⟩
 ·by_cases z:i=j
  ·subst z;obtain⟨rfl,hl⟩:=at_i q;exact⟨some (.ref a),kAg (by rw[R.len];exact hl),a,vs,rfl,hh,dl⟩
  ·rw[kAe z]at q⊢;exact R'.sl j s q
 ·by_cases z:i=j
  ·subst z;obtain⟨rfl,hl⟩:=at_i q1;rw[kAg (by rw[R.len];exact hl)]at q3;cases q3;exact⟨gn,bn⟩
  ·rw[kAe z]at q1 q3;exact R'.own j s b q1 q2 q3
 ·by_cases zj:i=j
  ·subst zj;obtain⟨rfl,hl⟩:=at_i q1;rw[kAg (by rw[R.len];exact hl)]at q5;cases q5
   by_cases zk:i=k
   ·exact zk
   ·rw[kAe zk]at q2 q6;exact(oth k t q2 q4 q6).elim
  ·rw[kAe zj]at q1 q5
   by_cases zk:i=k
   ·subst zk;obtain⟨rfl,hl⟩:=at_i q2;rw[kAg (by rw[R.len];exact hl)]at q6;cases q6;exact(oth j s q1 q3 q5).elim
   ·rw[kAe zk]at q2 q6;exact R'.dis j k s t b q1 q2 q3 q4 q5 q6
noncomputable def qg(i:Nat)(g:En→Res):En→Out:=λδ=>(g δ).then λd=>match d with
 |.lst ds=>.nx (δ.set i (.ow ds))
 |_=>.st
theorem Zx{i:Nat}{x:Str}{pos':Pos}(h:OwE X B E e g)(hs:PS X (.Assign [.Name x pos'] e pos) (Nn (tOw (kx X) B E g) (ua i))):qo X G0 B E (.Assign [.Name x pos'] e pos) (qg i g):=
 PS.imp hs λD σ H ⟨G,δ,R,e,q⟩=>⟨G,δ,R,(o7 e q).mono λd _ q=>by
  cases d with
  |lst ds=>exact⟨ds,rfl,λa vs G' H' e1 hn gn hh dl=>q _ G' H' e1.gg (R.setO e1 hn gn hh dl) (e.trans e1)⟩
  |non=>exact q.elim
  |bl _=>exact q.elim
  |int _=>exact q.elim
  |str _=>exact q.elim
  |tup _=>exact q.elim
  |dct _ _=>exact q.elim
  |obj _ _=>exact q.elim
  |fn _=>exact q.elim⟩
theorem EnvR.wr{K:KA}{G H:Hp}{σ:St}{δ:En}{i:Nat}{ds es:List D}{a:Addr}{vs ws:List V}(R:EnvR K B G H σ δ)(hi:δ[i]?=some (.ow ds))(hs:σ[i]?=some (some (.ref a)))(ha:H a=some (.lst vs))(dl:DenL K G es ws):
  EnvR K B G (upd H a (.lst ws)) σ (δ.set i (.ow es)):=by
 obtain⟨gn,bn⟩:=R.own i _ a hi rfl hs;have hl:i<δ.length:=(kAq.mp hi).1;have sb:∀{F:Hp},F a=none→Same F H→Same F (upd H a (.lst ws)):=λfn s b u q=>by
  rw[bu (d9 q fn)];exact s b u q
 have ownEq:∀{j:Nat}{s:Sl},(δ.set i (.ow es))[j]?=some s→s.own=true→∃s',δ[j]?=some s'∧s'.own=true:=λ{j s} q o=>by
  by_cases z:i=j
  ·subst z;exact⟨_,hi,rfl⟩
  ·rw[kAe z]at q;exact⟨s,q,o⟩
 refine⟨sb bn R.bh,sb gn R.gh,by rw[kAo];exact R.len,λj s q=>?_,λj s b q1 q2 q3=>?_,λj k s t b q1 q2 q3 q4 q5 q6=>?_,R.gb⟩
 ·by_cases z:i=j
  ·subst z;rw[kAg hl]at q;cases q;exact⟨_,hs,a,ws,rfl,d8,dl⟩
  ·rw[kAe z]at q;obtain⟨o,z1,z2⟩:=R.sl j s q;refine⟨o,z1,?_⟩;cases s with
   |no=>trivial
   |pu d=>exact z2
   |bo d=>exact z2
   |ow fs=>
    obtain⟨b,us,y1,y2,y3⟩:=z2;have nb:b≠a:=by
     rintro rfl
     subst y1;exact z (R.dis i j _ _ b hi q rfl rfl hs z1)
    exact⟨b,us,y1,by rw[bu nb];exact y2,y3⟩
   |od t fs=>
    cases t with
    |false=>
     obtain⟨b,us,y1,y2,y3⟩:=z2;have nb:b≠a:=by
      rintro rfl
      rw[ha]at y2;cases y2
     exact⟨b,us,y1,by rw[bu nb];exact y2,y3⟩
    |true=>
     obtain⟨b,us,y1,y2,y3⟩:=z2;have nb:b≠a:=by
      rintro rfl
      rw[ha]at y2;cases y2
     exact⟨b,us,y1,by rw[bu nb];exact y2,y3⟩
 ·obtain⟨s',z1,z2⟩:=ownEq q1 q2;exact R.own j s' b z1 z2 q3
 ·obtain⟨s',z1,z2⟩:=ownEq q1 q3;obtain⟨t',y1,y2⟩:=ownEq q2 q4;exact R.dis j k s' t' b z1 y1 z2 y2 q5 q6
theorem Ext.wr{G H:Hp}{a:Addr}{o:HO}(e:Ext G0 B G H)(gn:G a=none)(bn:B a=none):Ext G0 B G (upd H a o):=
 ⟨e.gg,λb u q=>by rw[bu (d9 q bn)];exact e.hh b u q,λb u q=>by rw[bu (d9 q gn)];exact e.gh b u q,e.fr⟩
noncomputable def xb:D→Option (List D)
 |.lst ds=>some ds
 |.tup ds=>some ds
 |_=>none
noncomputable def gx(tg:D→En→Option En)(F:En→Out):List D→En→Out
 |[],δ=>.nx δ
 |d::r,δ=>match tg d δ with
  |none=>.st
  |some δ1=>match F δ1 with
   |.nx δ'=>gx tg F r δ'
   |.ct δ'=>gx tg F r δ'
   |.bk δ'=>.nx δ'
   |.rt d=>.rt d
   |.er c=>.er c
   |.st=>.st
end
section
variable{X:Cx}{G0 B:Hp}{E:EK}{e c tg iter:Expr}{st:Stmt}{ft ss tt:List Stmt}{F F1 F2:En→Out}{g:En→Res}{pos:Pos}
noncomputable def Bp(i:Nat):En→Res:=λδ=>match δ[i]? with
 |some (.pu d)=>.ok d
 |some (.bo d)=>.ok d
 |_=>.st
noncomputable def tBo(K:KA)(B:Hp)(E:EK)(g:En→Res):TE:=λσ H Q=>∃G δ,EnvR K B G H σ δ∧ResP E G H (g δ) λd=>∀v G' H',Ext G H G' H'→Arg K G' B d v→Q v H'
abbrev BoE(X:Cx)(B:Hp)(E:EK)(e:Expr)(g:En→Res):Prop:=PE X e (tBo (kx X) B E g)
theorem zgb(i:Nat){x:Str}(h:PE X (.Name x pos) (F7 i)):BoE X B E (.Name x pos) (Bp i):=PE.imp h λσ H Q ⟨G,δ,R,q⟩=>by
 unfold Bp at q;cases e:δ[i]? with
 |none=>rw[e]at q;exact q.elim
 |some s=>
  rw[e]at q;obtain⟨o,q1,q2⟩:=R.sl i _ e;cases s with
  |pu d=>
   obtain⟨v,q3,q4⟩:=q2;exact⟨v,by rw[q1,q3],q v G H (Ext.refl R.gh) (.inl q4)⟩
  |bo d=>
   obtain⟨v,q3,q4⟩:=q2;exact⟨v,by rw[q1,q3],q v G H (Ext.refl R.gh) q4⟩
  |no=>exact q.elim
  |ow d=>exact q.elim
  |od t d=>exact q.elim
theorem zkj(h:ji X B E e g):BoE X B E e g:=PE.imp h λσ H Q ⟨G,δ,R,q⟩=>⟨G,δ,R,q.mono λd _ q v G' H' x y=>q v G' H' x (.inl y)⟩
def Bf(K:KA)(J:It)(ds:List D)(S:Hp→Hp→Prop):Prop:=∀(i:Nat) G H,S G H→Same G H→
 (∀d,ds[i]?=some d→J.go i H∧∀x H',J.yld i H x H'→∃G',Ext G H G' H'∧Den K G' d x)∧(ds.length≤i→J.stop i H)
noncomputable def tIt(K:KA)(B:Hp)(E:EK)(g:En→ResL):TI:=λσ H R=>∃G δ,EnvR K B G H σ δ∧ResLP E G H (g δ) λds=>∀J G' H',Ext G H G' H'→Bf K J ds (λG2 H2=>Same G' G2∧Same B H2)→R J H'
noncomputable def tIc(K:KA)(B:Hp)(E:EK)(g:En→ResL):TI:=λσ H R=>∃G δ,EnvR K B G H σ δ∧ResLP E G H (g δ) λds=>∀J G' H',Ext G H G' H'→Bf K J ds (λG2 H2=>Ext G' H' G2 H2)→R J H'
abbrev PuI(X:Cx)(B:Hp)(E:EK)(tg iter:Expr)(g:En→ResL):Prop:=PI X tg iter (tIt (kx X) B E g)
abbrev Tg(X:Cx)(B:Hp)(E:EK)(tg iter:Expr)(g:En→ResL):Prop:=PI X tg iter (tIc (kx X) B E g)
theorem PI.imp{wi wi':TI}(h:PI X tg iter wi)(i:∀σ H R,wi' σ H R→wi σ H R):PI X tg iter wi':=λpins s σ H R I q=>h pins s σ H R I (i σ H R q)
theorem Oy{K:KA}{a:Addr}{G1:Hp}{ds:List D}{vs:List V}{S:Hp→Hp→Prop}(h:∀G H,S G H→Same G H→SqL K H a vs∧Same G1 G)(dl:DenL K G1 ds vs):Bf K (Itl K a) ds S:=λi G H hS sg=>by
 obtain⟨q,g⟩:=h G H hS sg;refine⟨λd ed=>?_,λhl=>⟨vs,q,by rw[←dl.length];exact hl⟩⟩;obtain⟨v,ev,dv⟩:=dl.get ed;refine⟨⟨vs,v,q,ev⟩,λx H' ⟨e,y⟩=>?_⟩;subst e;have z:=y vs q;rw[ev]at z;cases z;exact⟨G,Ext.refl sg,dv.mono g⟩
theorem Xs{K:KA}{a:Addr}{G1:Hp}{ds:List D}{vs:List V}{S:Hp→Hp→Prop}(h:∀G H,S G H→Same G H→SqT K H a vs∧Same G1 G)(dl:DenL K G1 ds vs):Bf K (Itt K a) ds S:=λi G H hS sg=>by
 obtain⟨q,g⟩:=h G H hS sg;refine⟨λd ed=>?_,λhl=>⟨vs,q,by rw[←dl.length];exact hl⟩⟩;obtain⟨v,ev,dv⟩:=dl.get ed;refine⟨⟨vs,v,q,ev⟩,λx H' ⟨e,y⟩=>?_⟩;subst e;have z:=y vs q;rw[ev]at z;cases z;exact⟨G,Ext.refl sg,dv.mono g⟩
noncomputable def kh(lo:Int)(n:Nat):List D:=(kAj n).map λ(i:Nat)=>.int (lo+i)
noncomputable def j7(r:En→ResL):En→ResL:=λδ=>match r δ with
 |.ok [.int j]=>if -(2 ^ 62)≤j∧j<2 ^ 62 then .ok (kh 0 j.toNat)else .st
 |.ok [.int i,.int j]=>if(-(2 ^ 62)≤i∧i<2 ^ 62)∧(-(2 ^ 62)≤j∧j<2 ^ 62)then .ok (kh i (j - i).toNat)else .st
 |.ok _=>.st
 |.er c=>.er c
 |.st=>.st
theorem zgr{K:KA}{lo:Int}{n:Nat}{S:Hp→Hp→Prop}:Bf K (Itr lo n) (kh lo n) S:=λi G H hS sg=>by
 refine⟨λd ed=>?_,λhl=>?_⟩
 ·unfold kh at ed;rw[kAr]at ed;cases e:(kAj n)[i]? with
  |none=>rw[e]at ed;cases ed
  |some j=>
   rw[e]at ed;have hi:i<n:=by
    have:=(kAq.mp e).1;rwa [List.length_range]at this
   rw[List.getElem?_range hi]at e;cases e;cases ed;exact⟨hi,λx H' ⟨z,y⟩=>by subst z;exact⟨G,Ext.refl sg,y⟩⟩
 ·unfold kh at hl;rw[kA2,List.length_range]at hl;exact hl
theorem ArgsM.one{K:KA}{G H:Hp}{m:Bool}{d:D}{vs:List V}(h:ArgsM K G H [m] [d] vs):∃v,vs=[v]∧Arg K G H d v:=by
 obtain⟨d',dr,v,vr,h1,h2,h3,h4,h5⟩:=h;cases h1;subst h5;refine⟨v,h2,?_⟩;cases m
 ·exact .inl h3
 ·exact h3
theorem ArgsM.two{K:KA}{G H:Hp}{m m':Bool}{d d':D}{vs:List V}(h:ArgsM K G H [m,m'] [d,d'] vs):∃v u,vs=[v,u]∧Arg K G H d v∧Arg K G H d' u:=by
 obtain⟨d1,dr,v,vr,h1,h2,h3,h4⟩:=h;cases h1;obtain⟨u,z,au⟩:=ArgsM.one h4;subst z;refine⟨v,u,h2,?_,au⟩;cases m
 ·exact .inl h3
 ·exact h3
theorem ziv{G H:Hp}{δ:En}{r:En→ResL}{P:List D→Prop}(q:ResLP E G H (j7 r δ) P):ResLP E G H (r δ) λds=>
  (∃j,ds=[.int j]∧-(2 ^ 62)≤j∧j<2 ^ 62∧P (kh 0 j.toNat))∨∃i j,ds=[.int i,.int j]∧(-(2 ^ 62)≤i∧i<2 ^ 62∧-(2 ^ 62)≤j∧j<2 ^ 62)∧P (kh i (j - i).toNat):=by
 unfold j7 at q;cases e:r δ with
 |ok ds=>
  rw[e]at q;show _∨_;split at q
  ·rename_i z;cases z;split at q
   ·rename_i hc;exact .inl ⟨_,rfl,hc.1,hc.2,q⟩
   ·exact q.elim
  ·rename_i z;cases z;split at q
   ·rename_i hc;exact .inr ⟨_,_,rfl,⟨hc.1.1,hc.1.2,hc.2.1,hc.2.2⟩,q⟩
   ·exact q.elim
  ·exact q.elim
  ·rename_i z;cases z
  ·rename_i z;cases z
 |er c=>rw[e]at q;exact q
 |st=>rw[e]at q;exact q
theorem Sf{a:Expr}{m:Bool}{r:En→ResL}{p:Pos}(hg:Gl X "range")(hm:X.mg "range"=none)(ha:Qw X B E [m] [a] r)(hs:starEach [a] X.env=[(false,eval a X.env)]:=by rfl):PuI X B E tg (.Call (.Name "range" p) [a] [] pos) (j7 r):=
 PI.imp (U7 hg hm ha hs) λσ H R ⟨G,δ,Rr,q⟩=>⟨G,δ,Rr,(ziv q).mono λds _ q vs G1 H1 e1 al=>by
  rcases q with ⟨j,rfl,h1,h2,q⟩|⟨i,j,rfl,_⟩
  ·obtain⟨v,rfl,av⟩:=ArgsM.one al;exact⟨j,by rw[av.int],h1,h2,q _ G1 H1 e1 zgr⟩
  ·have:=al.length.1;simp at this⟩
theorem Y2{r:En→ResL}(h:PuI X B E tg iter r):Tg X B E tg iter r:=PI.imp h λσ H R ⟨G,δ,Rr,q⟩=>⟨G,δ,Rr,q.mono λds _ q J G' H' e ok=>q J G' H' e λi G2 H2 x sg=>ok i G2 H2 ⟨x.gg,(Rr.bh.trans e.hh).trans x.hh⟩ sg⟩
structure TgOk(X:Cx)(B:Hp)(tge:Expr)(gl:TG)(tgD:D→En→Option En):Prop where
 pg:PG X tge gl
 ok:∀{G H:Hp}{σ:St}{δ δ':En}{d:D}{v:V}{Q:St→Hp→Prop},EnvR (kx X) B G H σ δ→Den (kx X) G d v→tgD d δ=some δ'→(∀σ',EnvR (kx X) B G H σ' δ'→Q σ' H)→gl v σ H Q
noncomputable def bz(i:Nat):D→En→Option En:=λd δ=>some (δ.set i (.pu d))
theorem zec{i:Nat}{x:Str}{p:Pos}(h:PG X (.Name x p) (ua i)):TgOk X B (.Name x p) (ua i) (bz i):=⟨h,λR dn e q=>by
 cases e;exact q _ (R.set dn)⟩
noncomputable def i5(tgD:D→En→Option En)(r:En→ResL)(F:En→Out):En→Out:=λδ=>match r δ with
 |.ok ds=>gx tgD F ds δ
 |.er c=>.er c
 |.st=>.st
theorem zot{K:KA}{tgD:D→En→Option En}{r:En→ResL}{G H:Hp}{δ:En}{D:Ends}(e:Ext G0 B G H)(q:OutP K G0 B E G (i5 tgD r F δ) D):ResLP E G H (r δ) λds=>OutP K G0 B E G (gx tgD F ds δ) D:=by
 unfold i5 at q;cases er:r δ with
 |ok ds=>rw[er]at q;exact q
 |er c=>rw[er]at q;exact λG' H' x=>q G' H' (e.trans x)
 |st=>rw[er]at q;exact q
theorem zl9{gl:TG}{tgD:D→En→Option En}{r:En→ResL}(hp:PassesOwn (model X.prog X.w) X.A X.env X.xe)(hc:X.calm=true)(hi:PuI X B E tg iter r)(hg:TgOk X B tg gl tgD)(hb:xo X G0 B E ss F)
  (hs:∀x,foldedSetIterable iter X.env x=pure x:=by intro _;rfl):qo X G0 B E (.For tg iter ss [] pos) (i5 tgD r F):=
 PS.imp (zh5 hp hc hi hg.pg hb hs) λD σ H ⟨G,δ,R,e,q⟩=>⟨G,δ,R,(zot e q).mono λds _ q J G1 H1 e1 ok=>by
  refine⟨λi m σ H=>m=ds.length - i∧i≤ds.length∧∃G2 δ2,Same G1 G2∧EnvR (kx X) B G2 H σ δ2∧Ext G0 B G2 H∧OutP (kx X) G0 B E G2 (gx tgD F (ds.drop i) δ2) D,
   ⟨ds.length,by simp,kAl _,G1,δ,Same.refl G1,R.ext e1,e.trans e1,OutP.same e1.gg q⟩,?_⟩
  rintro i m σ2 H2 ⟨rfl,hi2,G2,δ2,s2,R2,x2,q2⟩
  obtain⟨okg,oks⟩:=ok i G2 H2 ⟨s2,R2.bh⟩ R2.gh
  by_cases hl:i<ds.length
  ·obtain⟨go,yl⟩:=okg ds[i] (by simp[hl]);rw[List.drop_eq_getElem_cons hl]at q2;refine .inr ⟨go,λσ' H'=>i+1≤ds.length∧∃G3 δ3,Same G1 G3∧EnvR (kx X) B G3 H' σ' δ3∧Ext G0 B G3 H'∧OutP (kx X) G0 B E G3 (gx tgD F (ds.drop (i+1)) δ3) D,
    λσ' H' ⟨n1,n2⟩=>⟨ds.length - (i+1),by omega,rfl,n1,n2⟩,λx H3 y=>?_⟩
   obtain⟨G3,e3,dn⟩:=yl x H3 y;unfold gx at q2;cases et:tgD ds[i] δ2 with
   |none=>rw[et]at q2;exact q2.elim
   |some δ3=>
    rw[et]at q2;dsimp only at q2;refine hg.ok (R2.ext e3) dn et λσ3 R3=>⟨G3,δ3,R3,x2.trans e3,?_⟩;have s3:Same G1 G3:=s2.trans e3.gg;cases ef:F δ3 with
    |nx δ4=>
     rw[ef]at q2;exact λσ' G' H' s R' x'=>⟨hl,G',δ4,s3.trans s,R',x',OutP.same (e3.gg.trans s) q2⟩
    |ct δ4=>
     rw[ef]at q2;exact λσ' G' H' s R' x'=>⟨hl,G',δ4,s3.trans s,R',x',OutP.same (e3.gg.trans s) q2⟩
    |bk δ4=>
     rw[ef]at q2;exact λσ' G' H' s R' x'=>q2 σ' G' H' (e3.gg.trans s) R' x'
    |rt d=>rw[ef]at q2;exact q2
    |er c=>rw[ef]at q2;exact q2
    |st=>rw[ef]at q2;exact q2
  ·have z:i=ds.length:=by omega
   subst z;rw[List.drop_length]at q2;exact .inl ⟨oks (kA1 _),q2 σ2 G2 H2 (Same.refl G2) R2 x2⟩⟩
noncomputable def fb:List Bool→List D→En
 |_,[]=>[]
 |true::ms,d::ds=>.bo d::fb ms ds
 |false::ms,d::ds=>.pu d::fb ms ds
 |[],_::_=>[]
noncomputable def gy:Out→Res
 |.rt d=>.ok d
 |.nx _=>.ok .non
 |.er c=>.er c
 |_=>.st
noncomputable def fnD(ms:List Bool)(n:Nat)(F:En→Out)(ds:List D):Res:=gy (F (fb ms ds++kAa (n - ds.length) .no))
noncomputable def Qb(K:KA)(ms:List Bool)(f:List D→Res):Sp:=λvs H Q E=>vs.length=ms.length∧GOk H∧∃G ds,Same G H∧ArgsM K G H ms ds vs∧ResP (ek K E) G H (f ds) λd=>∀v G' H',Ext G H G' H'→Den K G' d v→Q v H'
theorem Gm{K:KA}{G H:Hp}:∀{ms:List Bool}{ds:List D}{vs:List V},ArgsM K G H ms ds vs→(fb ms ds).length=vs.length
 |[],_,_,⟨h1,h2⟩=>by subst h1;subst h2;rfl
 |m::ms,_,_,⟨d,dr,v,vr,h1,h2,h3,h4⟩=>by
  subst h1;subst h2;have ih:=Gm h4;cases m<;>simp only[fb,kA5,ih]
theorem rg{K:KA}{G H:Hp}:∀{ms:List Bool}{ds:List D}{vs:List V},ArgsM K G H ms ds vs→∀(i:Nat) s,(fb ms ds)[i]?=some s→s.own=false∧∃v,vs[i]?=some v∧SlOk K H G H s (some v)
 |[],_,_,⟨h1,h2⟩,i,s,q=>by subst h1;simp[fb]at q
 |m::ms,_,_,⟨d,dr,v,vr,h1,h2,h3,h4⟩,i,s,q=>by
  subst h1;subst h2;cases i with
  |zero=>
   cases m with
   |true=>
    simp only[fb,List.getElem?_cons_zero,kAi.injEq]at q;subst q;exact⟨rfl,v,rfl,v,rfl,h3⟩
   |false=>
    simp only[fb,List.getElem?_cons_zero,kAi.injEq]at q;subst q;exact⟨rfl,v,rfl,v,rfl,h3⟩
  |succ i=>
   cases m with
   |true=>
    simp only[fb,kB3]at q;obtain⟨q1,u,q2,q3⟩:=rg h4 i s q;exact⟨q1,u,by simpa using q2,q3⟩
   |false=>
    simp only[fb,kB3]at q;obtain⟨q1,u,q2,q3⟩:=rg h4 i s q;exact⟨q1,u,by simpa using q2,q3⟩
theorem Oq{K:KA}{G H:Hp}{ms:List Bool}{ds:List D}{vs:List V}{N:List Str}(gb:GOk H)(s:Same G H)(al:ArgsM K G H ms ds vs):EnvR K H G H (L2.qi N vs) (fb ms ds++kAa (N.length - ds.length) .no):=by
 have l1:=Gm al;obtain⟨l2,l3⟩:=al.length;have key:∀(i:Nat) t,(fb ms ds++kAa (N.length - ds.length) Sl.no)[i]?=some t→t=.no∨(i<vs.length∧(fb ms ds)[i]?=some t):=λi t q=>by
  by_cases z:i<(fb ms ds).length
  ·rw[List.getElem?_append_left z]at q;exact .inr ⟨by rw[←l1];exact z,q⟩
  ·rw[List.getElem?_append_right (by omega)]at q;have:=List.mem_of_getElem? q;exact .inl (List.eq_of_mem_replicate this)
 refine⟨Same.refl H,s,?_,λi t q=>?_,λi t a q1 q2 q3=>?_,λi j t u a q1 q2 q3 q4 q5 q6=>?_,gb⟩
 ·unfold L2.qi;rw[kAf,kAf,kA2,kB2,kB2,l1,l2,l3]
 ·rcases key i t q with rfl|⟨hi,qe⟩
  ·have hl:i<(L2.qi N vs).length:=by
    have:=(kAq.mp q).1;rw[kAf,kB2,l1]at this;unfold L2.qi;rw[kAf,kA2,kB2];omega
   exact⟨_,kB4 hl,trivial⟩
  ·obtain⟨_,v,ev,ok⟩:=rg al i t qe;refine⟨some v,?_,ok⟩;unfold L2.qi;rw[List.getElem?_append_left (by rw[kA2];exact hi),kAr,ev];rfl
 ·rcases key i t q1 with rfl|⟨hi,qe⟩
  ·cases q2
  ·obtain⟨z,_⟩:=rg al i t qe;rw[z]at q2;cases q2
 ·rcases key i t q1 with rfl|⟨hi,qe⟩
  ·cases q3
  ·obtain⟨z,_⟩:=rg al i t qe;rw[z]at q3;cases q3
theorem zct{K:KA}{G H:Hp}{E:EK}{Q:VK}{o:Out}(s:Same G H)(h:ResP E G H (gy o) λd=>∀v G' H',Ext G H G' H'→Den K G' d v→Q v H'):
  OutP K G H E G o {nx:=λ_ H'=>Q .non H',rt:=Q}:=by
 cases o with
 |nx δ=>exact λσ' G' H' _ _ e=>h .non G' H' e rfl
 |bk δ=>exact h.elim
 |ct δ=>exact h.elim
 |rt d=>exact λv G' H' e dn=>h v G' H' e dn
 |er c=>exact h
 |st=>exact h
end
section
variable{X:Cx}{B:Hp}{E:EK}{e:Expr}{es:List Expr}{pos p:Pos}{x:Str}
noncomputable def bb(f:List D→Res)(r:En→ResL):En→Res:=λδ=>match r δ with
 |.ok ds=>f ds
 |.er c=>.er c
 |.st=>.st
theorem zex{G H:Hp}{δ:En}{r:En→ResL}{f:List D→Res}{P:D→Prop}(q:ResP E G H (bb f r δ) P):ResLP E G H (r δ) λds=>ResP E G H (f ds) P:=by
 unfold bb at q;cases e:r δ with
 |ok ds=>rw[e]at q;exact q
 |er c=>rw[e]at q;exact q
 |st=>rw[e]at q;exact q
theorem zdc{CX:Tf}{k:Nat}{f:Addr}{fd:FuncData}{ps:List Str}{ms:List Bool}{fD:List D→Res}{r:En→ResL}{E:XK}(F:FnOk X.prog X.w X.K X.mg X.base CX k f fd ps (Qb (kx X) ms fD))(hr:Room k X.A)(hg:Gl X x)(hm:X.mg x=some (.ref f))(hk:kA9 X.K (.ref f)=true)
  (hb:Binds X.K fd ps [])(hx:qm CX X E)(ha:Qw X B (ek (kx X) E) ms (e::es) r)(hdb:(x==("__debug__":Str))=false:=by decide)(he:starEach (e::es) X.env=(false,eval e X.env)::starEach es X.env:=by rfl)(hpl:(backTo pos (starEach es X.env)).any (·.1)=false:=by rfl):
  ji X B (ek (kx X) E) (.Call (.Name x p) (e::es) [] pos) (bb fD r):=
 PE.imp (zcw F hr hg hm hk hb .nil hx ha hdb he hpl) λσ H Q ⟨G,δ,R,q⟩=>⟨G,δ,R,(zex q).mono λds _ q vs G1 H1 e1 al=>
  ⟨by rw[List.append_nil];exact al.length.2,R.gb.same (R.bh.trans e1.hh),G1,ds,e1.gh,by rw[List.append_nil];exact al,(q.ext e1).mono λd _ q v G' H' e2 dn=>q v G' H' (e1.trans e2) dn⟩⟩
theorem Ze{CX:Tf}{k:Nat}{f:Addr}{fd:FuncData}{ps:List Str}{fD:List D→Res}{E:XK}(F:FnOk X.prog X.w X.K X.mg X.base CX k f fd ps (Qb (kx X) [] fD))(hr:Room k X.A)(hg:Gl X x)(hm:X.mg x=some (.ref f))(hk:kA9 X.K (.ref f)=true)
  (hb:Binds X.K fd ps [])(hx:qm CX X E)(hdb:(x==("__debug__":Str))=false:=by decide):ji X B (ek (kx X) E) (.Call (.Name x p) [] [] pos) (λ_=>fD []):=
 PE.imp (Ys F hr hg hm hk hb .nil hx hdb) λσ H Q ⟨G,δ,R,q⟩=>⟨rfl,R.gb.same R.bh,G,[],R.gh,⟨rfl,rfl⟩,q⟩
end
mutual
noncomputable def ij:D→Option PyData
 |.non=>some .none
 |.bl b=>some (.bool b)
 |.int i=>some (.int i)
 |.str x=>some (.str x)
 |.tup ds=>match gw ds with
  |some ps=>some (.tuple ps)
  |none=>none
 |.lst ds=>match gw ds with
  |some ps=>some (.list ps)
  |none=>none
 |.dct _ _=>none
 |.obj _ _=>none
 |.fn _=>none
noncomputable def gw:List D→Option (List PyData)
 |[]=>some []
 |d::ds=>match ij d with
  | some p => (match gw ds with
   |some ps=>some (p::ps)
   |none=>none)
  |none=>none
end
section
variable{X:Cx}{pins:List (Addr×Obj)}{σ:St}{G H:Hp}{s:Shared}
mutual
theorem ym(I:Inv X pins σ H s)(sg:Same G H):∀{d:D}{v:V}{u:Value}{p:PyData},Den (kx X) G d v→RelV v u→ij d=some p→∃as,Reads s.heap u p as
 |.non,v,u,p,h,r,e=>by
  cases (show v=.non from h);cases (show u=Value.none from r);cases e;exact⟨_,Reads.none⟩
 |.bl b,v,u,p,h,r,e=>by
  cases (show v=.bl b from h);cases (show u=Value.bool b from r);cases e;exact⟨_,Reads.bool b⟩
 |.int i,v,u,p,h,r,e=>by
  cases (show v=.int i from h);obtain⟨t,q⟩:=(show∃t,u=Value.int i t from r);cases q;cases e;exact⟨_,Reads.int i t⟩
 |.str x,v,u,p,h,r,e=>by
  cases (show v=.str x from h);obtain⟨t,q⟩:=(show∃t,u=Value.str x t from r);cases q;cases e;exact⟨_,Reads.str x t⟩
 |.tup ds,v,u,p,h,r,e=>by
  obtain⟨a,vs,rfl,sq,dl⟩:=h;cases (show u=Value.ref a from r);unfold ij at e;cases e2:gw ds with
  |none=>rw[e2]at e;cases e
  |some ps=>
   rw[e2]at e;cases e;obtain⟨its,rv,⟨o,ho,hc,n,hd⟩,_⟩:=I.tuple (SqT.of (sg _ _ sq));obtain⟨as,ra⟩:=vz I sg dl rv e2;exact⟨as,Reads.tuple ho hc hd (by simpa using ra)⟩
 |.lst ds,v,u,p,h,r,e=>by
  obtain⟨a,vs,rfl,sq,dl⟩:=h;cases (show u=Value.ref a from r);unfold ij at e;cases e2:gw ds with
  |none=>rw[e2]at e;cases e
  |some ps=>
   rw[e2]at e;cases e;obtain⟨its,rv,pl,_⟩:=I.list (SqL.mono sg sq);obtain⟨o,ho,hc,n,hd⟩:=pl.isList;obtain⟨as,ra⟩:=vz I sg dl rv e2;exact⟨_,Reads.list ho hc hd (by simpa using ra)⟩
 |.dct _ _,_,_,_,_,_,e=>by cases e
 |.obj _ _,_,_,_,_,_,e=>by cases e
 |.fn _,_,_,_,_,_,e=>by cases e
theorem vz(I:Inv X pins σ H s)(sg:Same G H):∀{ds:List D}{vs:List V}{us:List Value}{ps:List PyData},DenL (kx X) G ds vs→Vals vs us→gw ds=some ps→∃as,ReadsAll s.heap us ps as
 |[],vs,us,ps,h,r,e=>by
  cases (show vs=[]from h);cases r;cases e;exact⟨_,ReadsAll.nil⟩
 |d::ds,vs,us,ps,h,r,e=>by
  obtain⟨v,vr,rfl,dv,dl⟩:=h;cases r with
  |cons rv rr=>
   unfold gw at e;cases e1:ij d with
   |none=>rw[e1]at e;cases e
   |some p=>
    rw[e1]at e;dsimp only at e;cases e2:gw ds with
    |none=>rw[e2]at e;cases e
    |some ps'=>
     rw[e2]at e;cases e;obtain⟨as,ra⟩:=ym I sg dv rv e1;obtain⟨bs,rb⟩:=vz I sg dl rr e2;exact⟨_,ReadsAll.cons ra rb⟩
end
theorem i6(I:Inv X pins σ H s)(sg:Same G H){d:D}{v:V}{u:Value}{p:PyData}(h:Arg (kx X) G H d v)(r:RelV v u)(e:ij d=some p):∃as,Reads s.heap u p as:=by
 rcases h with h|⟨ds,a,vs,rfl,rfl,sq,dl⟩|⟨t,kvs,a,rfl,_⟩
 ·exact ym I sg h r e
 ·cases (show u=Value.ref a from r);unfold ij at e;cases e2:gw ds with
  |none=>rw[e2]at e;cases e
  |some ps=>
   rw[e2]at e;cases e;obtain⟨its,rv,pl,_⟩:=I.list sq;obtain⟨o,ho,hc,n,hd⟩:=pl.isList;obtain⟨as,ra⟩:=vz I sg dl rv e2;exact⟨_,Reads.list ho hc hd (by simpa using ra)⟩
 ·cases e
end
noncomputable def Rc(d e:D):Option Bool:=match ij d,ij e with
 |some p,some q=>if SeqAt.shaped p && SeqAt.shaped q then some (PyData.eqv p q)else none
 |_,_=>none
noncomputable def jn(d e:D):Option D:=(Rc d e).map .bl
noncomputable def jl(d e:D):Option D:=(Rc d e).map λb=>.bl !b
theorem Ll{d e:D}{b:Bool}(h:Rc d e=some b):∃p q,ij d=some p∧ij e=some q∧SeqAt.shaped p=true∧SeqAt.shaped q=true∧b=PyData.eqv p q:=by
 unfold Rc at h;cases e1:ij d with
 |none=>rw[e1]at h;cases h
 |some p=>
  cases e2:ij e with
  |none=>rw[e1,e2]at h;cases h
  |some q=>
   rw[e1,e2]at h;dsimp only at h
   by_cases hs:(SeqAt.shaped p && SeqAt.shaped q)=true
   ·rw[if_pos hs]at h;cases h;rw[kA4]at hs;exact⟨p,q,rfl,rfl,hs.1,hs.2,rfl⟩
   ·rw[if_neg hs]at h;cases h
section
variable{X:Cx}{B:Hp}{E:EK}{e a b:Expr}{es:List Expr}{g h:En→Res}{pos:Pos}
noncomputable def zdn(K:KA)(neg:Bool):R2:=λx y H Q=>∃G dx dy b,Same G H∧Arg K G H dx x∧Arg K G H dy y∧Rc dx dy=some b∧Q (.bl (if neg then !b else b)) H
theorem zhk(hu:X.A.units+64<cLine):OpR X (compareOp .Eq) (zdn (kx X) false):=by
 intro pins s σ H x y v u Q I rx ry q;obtain⟨G,dx,dy,b,sg,ax,ay,eb,q⟩:=q;obtain⟨p,p',e1,e2,s1,s2,rfl⟩:=Ll eb;obtain⟨as,ra⟩:=i6 I sg ax rx e1;obtain⟨bs,rb⟩:=i6 I sg ay ry e2;exact eq_dataH ra rb s1 s2 hu ⟨.bl (PyData.eqv p p'),H,I,rfl,q⟩
theorem zhq(hu:X.A.units+64<cLine):OpR X (compareOp .NotEq) (zdn (kx X) true):=by
 intro pins s σ H x y v u Q I rx ry q;obtain⟨G,dx,dy,b,sg,ax,ay,eb,q⟩:=q;obtain⟨p,p',e1,e2,s1,s2,rfl⟩:=Ll eb;obtain⟨as,ra⟩:=i6 I sg ax rx e1;obtain⟨bs,rb⟩:=i6 I sg ay ry e2;exact ne_dataH ra rb s1 s2 hu ⟨.bl (!PyData.eqv p p'),H,I,rfl,q⟩
theorem zc3{K:KA}:j3 K jn (zdn K false):=λG H x y dx dy d sg ax ay ed Q q=>by
 unfold jn at ed;cases e:Rc dx dy with
 |none=>rw[e]at ed;cases ed
 |some b=>rw[e]at ed;cases ed;exact⟨G,dx,dy,b,sg,ax,ay,e,q _ G H (Ext.refl sg) rfl⟩
theorem zc6{K:KA}:j3 K jl (zdn K true):=λG H x y dx dy d sg ax ay ed Q q=>by
 unfold jl at ed;cases e:Rc dx dy with
 |none=>rw[e]at ed;cases ed
 |some b=>rw[e]at ed;cases ed;exact⟨G,dx,dy,b,sg,ax,ay,e,q _ G H (Ext.refl sg) rfl⟩
theorem Jm{o:Option Bool}{d:D}{f:Bool→Bool}(h:(o.map λb=>D.bl (f b))=some d):∃b,d=.bl b:=by
 cases o with
 |none=>cases h
 |some b=>cases h;exact⟨_,rfl⟩
noncomputable def pyI(f:Int→Int→Option D):D→D→Option D
 |.int i,.int j=>f i j
 |_,_=>none
noncomputable def Sr:D→D→Option D:=pyI λi j=>some (.int (i - j))
noncomputable def A8:D→D→Option D:=pyI λi j=>if 0<j then some (.int (i % j))else none
noncomputable def P5:D→D→Option D:=pyI λi j=>if 0<j∧j<1073741824 then some (.int (i / j))else none
theorem Y4{K:KA}{f:Int→Int→Option D}{C:Int→Int→Prop}{r:Int→Int→V}(hf:∀i j d,f i j=some d→C i j∧∀G,Den K G d (r i j)):j3 K (pyI f) (rI C r):=λG H x y dx dy d sg ax ay ed Q q=>by
 cases dx with
 |int i=>
  cases dy with
  |int j=>
   obtain⟨c,dn⟩:=hf i j d ed;exact⟨i,j,ax.int,ay.int,c,q _ G H (Ext.refl sg) (dn G)⟩
  |_=>cases ed
 |_=>cases ed
theorem Sj{K:KA}{f:Int→Int→Option D}{r:Int→Int→V}(hf:∀i j d,f i j=some d→∀G,Den K G d (r i j)):j3 K (pyI f) (rI0 r):=λG H x y dx dy d sg ax ay ed Q q=>by
 cases dx with
 |int i=>
  cases dy with
  |int j=>exact⟨i,j,ax.int,ay.int,q _ G H (Ext.refl sg) (hf i j d ed G)⟩
  |_=>cases ed
 |_=>cases ed
theorem zim(ha:lx X B E a g)(hb:lx X B E b h):ji X B E (.BinOp a .Sub b pos) (g2 Sr g h):=M7 zhr (Sj λi j d e G=>by cases e;rfl) ha hb
theorem zih(ha:lx X B E a g)(hb:lx X B E b h):ji X B E (.BinOp a .Mod b pos) (g2 A8 g h):=M7 zho (Y4 λi j d e=>by
 by_cases hj:0<j
 ·rw[if_pos hj]at e;cases e;exact⟨hj,λ_=>rfl⟩
 ·rw[if_neg hj]at e;cases e) ha hb
theorem zdd(ha:lx X B E a g)(hb:lx X B E b h):ji X B E (.BinOp a .FloorDiv b pos) (g2 P5 g h):=M7 zcp (Y4 λi j d e=>by
 by_cases hj:0<j∧j<1073741824
 ·rw[if_pos hj]at e;cases e;exact⟨hj,λ_=>rfl⟩
 ·rw[if_neg hj]at e;cases e) ha hb
noncomputable def Hh(f:Int→Int→Bool):D→D→Option D:=pyI λi j=>some (.bl (f i j))
noncomputable def Vh:D→D→Option D:=Hh λi j=>decide (i≤j)
noncomputable def Ve:D→D→Option D:=Hh λi j=>decide (j<i)
noncomputable def zlv:D→D→Option D:=Hh λi j=>decide (j≤i)
noncomputable def u7:D→D→Option D:=Hh λi j=>decide (i<j)
theorem yk{K:KA}{f:Int→Int→Bool}:j3 K (Hh f) (rI0 λi j=>.bl (f i j)):=Sj λi j d e G=>by cases e;rfl
theorem Ih{f:Int→Int→Bool}:∀x y d,Hh f x y=some d→∃b,d=.bl b:=λx y d h=>by
 cases x<;>cases y<;>first|(cases h;exact⟨_,rfl⟩)|cases h
noncomputable def xa(f f':D→D→Option D)(g h k:En→Res):En→Res:=λδ=>(g δ).bind λx=>(h δ).bind λy=>(Res.of (f x y)).bind λz=>match z with
 |.bl true=>(k δ).bind λw=>Res.of (f' y w)
 |.bl false=>.ok (.bl false)
 |_=>.st
theorem Wk{K:KA}{k:En→Res}{f f':D→D→Option D}{r r':R2}(hp:j3 K f r)(hp':j3 K f' r'){σ:St}{H:Hp}{Q:VK}(q:tPu K B E (xa f f' g h k) σ H Q):Qi r r' (tAr K B E g) (tAr K B E h) (tAr K B E k) σ H Q:=by
 obtain⟨G,δ,R,q⟩:=q;refine⟨G,δ,R,(ResP.bind q).mono λdx _ qx x G1 H1 e1 ax=>⟨G1,δ,R.ext e1,((ResP.bind qx).ext e1).mono λdy _ qy y G2 H2 e2 ay=>?_⟩⟩;have e12:=e1.trans e2;obtain⟨d,ed,qd⟩:=ResP.of (ResP.bind qy);refine hp G2 H2 x y dx dy d e2.gh (ax.ext e2) ay ed _ λv G3 H3 e3 dn=>?_;cases d with
 |bl t=>
  refine⟨t,dn,?_⟩;cases t with
  |true=>
   show tAr K B E k σ H3 _;refine⟨G3,δ,R.ext (e12.trans e3),((ResP.bind qd).ext (e12.trans e3)).mono λdw _ qw w G4 H4 e4 aw=>?_⟩;obtain⟨d',ed',qd'⟩:=ResP.of qw;exact hp' G4 H4 y w dy dw d' e4.gh ((ay.ext e3).ext e4) aw ed' Q λv G5 H5 e5 dn=>qd' v G5 H5 (((e12.trans e3).trans e4).trans e5) dn
  |false=>exact qd _ G3 H3 (e12.trans e3) rfl
 |non=>exact qd.elim
 |int _=>exact qd.elim
 |str _=>exact qd.elim
 |tup _=>exact qd.elim
 |lst _=>exact qd.elim
 |dct _ _=>exact qd.elim
 |obj _ _=>exact qd.elim
 |fn _=>exact qd.elim
theorem Zf{c:Expr}{k:En→Res}{op op':CmpOp}{f f':D→D→Option D}{r r':R2}(ho:OpR X (compareOp op) r)(hp:j3 (kx X) f r)(ho':OpR X (compareOp op') r')(hp':j3 (kx X) f' r')(ha:lx X B E a g)(hb:lx X B E b h)(hc:lx X B E c k)
  (hm:lastMarks [op,op'] [b,c]=false:=by with_unfolding_all rfl):ji X B E (.Compare a [op,op'] [b,c] pos) (xa f f' g h k):=PE.imp (Yt ho ho' ha hb hc hm) λσ H Q q=>Wk hp hp' q
theorem Vb{c:Expr}{k:En→Res}{op op':CmpOp}{f f':D→D→Option D}{r r':R2}(ho:OpR X (compareOp op) r)(hp:j3 (kx X) f r)(ho':OpR X (compareOp op') r')(hp':j3 (kx X) f' r')(hb1:∀x y d,f' x y=some d→∃b,d=.bl b)(ha:lx X B E a g)(hb:lx X B E b h)(hc:lx X B E c k)
  (hm:lastMarks [op,op'] [b,c]=false:=by with_unfolding_all rfl):E3 X B E (.Compare a [op,op'] [b,c] pos) (xa f f' g h k):=
 PT.imp (Zb ho ho' ha hb hc hm) λσ H Q ⟨G,δ,R,q⟩=>Wk hp hp' ⟨G,δ,R,q.mono λd ed ⟨b,eb,qb⟩ v G' H' e3 dn=>by
  subst eb;exact⟨b,dn,qb G' H' e3⟩⟩
noncomputable def cw:D→D→Option D
 |.int i,.int j=>some (.int (i+j))
 |.str x,.str y=>if x.length+y.length≤sizeLine then some (.str (x++y))else none
 |.lst xs,.lst ys=>if xs.length+ys.length≤sizeLine then some (.lst (xs++ys))else none
 |.tup xs,.tup ys=>if xs.length+ys.length≤sizeLine then some (.tup (xs++ys))else none
 |_,_=>none
noncomputable def zfh(K:KA):R2:=λx y H Q=>∃G dx dy d,Same G H∧Arg K G H dx x∧Arg K G H dy y∧cw dx dy=some d∧∀v G' H',Ext G H G' H'→Den K G' d v→Q v H'
theorem V1{prog:Program}{w:World}{A:Around}{E:Value→Shared→Prop}{s:Shared}{l b:Addr}{its its2:List Value}{Q:Value→Shared→Prop}(hl:PlainL s.heap l its.toArray)(hb:PlainL s.heap b its2.toArray)(hz:its.length+its2.length≤sizeLine)
  (h:Q (.ref s.heap.objs.size) {s with heap:=s.heap.push {cls:=.type "list",data:=.seq (its++its2).toArray}}):wpAny (model prog w) A (binaryOp .Add (.ref l) (.ref b)) Q E s:=by
 obtain⟨⟨cls,dd,data,sl⟩,n,ho,c,d,q⟩:=hl;obtain⟨⟨cls2,dd2,data2,sl2⟩,n2,ho2,c2,d2,q2⟩:=hb;simp only at c d q c2 d2 q2;subst c d q c2 d2 q2;have ea:its.toArray++its2.toArray=(its++its2).toArray:=by simp
 refine concat_meets ⟨_,ho,rfl⟩ ⟨_,ho2,rfl⟩ noFill_list_add seq_list_add PySem.F.slot_list_add PySem.F.entry_list_add (PySem.F.args_list_add_2 _ _) (list_addW l b its.toArray its2.toArray n n2 _ _ sl sl2 (by simpa using hz)) ⟨ho,ho2,?_⟩;rw[ea];exact h
theorem Wi{prog:Program}{w:World}{A:Around}{E:Value→Shared→Prop}{s:Shared}{t b:Addr}{vs ws:List Value}{Q:Value→Shared→Prop}(ht:IsTup s.heap t vs.toArray)(hb:IsTup s.heap b ws.toArray)(hv:vs=[])(h1:Q (.ref b) s):
  wpAny (model prog w) A (binaryOp .Add (.ref t) (.ref b)) Q E s:=by
 obtain⟨⟨cls,dd,data,sl⟩,ho,hc,n,hd⟩:=id ht;obtain⟨⟨cls2,dd2,data2,sl2⟩,ho2,hc2,n2,hd2⟩:=id hb;simp only at hc hd hc2 hd2;subst hc hd hc2 hd2;exact concat_meets ⟨_,ho,rfl⟩ ⟨_,ho2,rfl⟩ noFill_tuple_add seq_tuple_add PySem.F.slot_tuple_add PySem.F.entry_tuple_add (PySem.F.args_tuple_add_2 _ _)
  (tuple_addW0 t b vs.toArray ws.toArray n n2 dd dd2 sl sl2 (by simp[hv])) ⟨ho,ho2,h1⟩
theorem zcn:OpR X (binaryOp .Add) (zfh (kx X)):=by
 intro pins s σ H x y v u Q I rx ry q;obtain⟨G,dx,dy,d,sg,ax,ay,ed,q⟩:=q;unfold cw at ed;split at ed
 ·cases ed;rw[ax.int]at rx;rw[ay.int]at ry;exact zhj pins s σ H _ _ _ _ Q I rx ry ⟨_,_,rfl,rfl,q _ G H (Ext.refl sg) rfl⟩
 ·split at ed
  ·rename_i hz;cases ed;rw[ax.str]at rx;rw[ay.str]at ry;exact Py pins s σ H _ _ _ _ Q I rx ry ⟨_,_,rfl,rfl,hz,q _ G H (Ext.refl sg) rfl⟩
  ·cases ed
 ·split at ed
  ·rename_i xs ys hz;cases ed;obtain⟨l,vs,rfl,sq,dl⟩:=ax.lst sg;obtain⟨b,ws,rfl,sq2,dl2⟩:=ay.lst sg;cases rx;cases ry;obtain⟨its,rv,pl,_⟩:=I.list sq;obtain⟨its2,rv2,pl2,_⟩:=I.list sq2;have l1:=dl.length;have l2:=dl2.length;have l3:=rv.length;have l4:=rv2.length;refine V1 pl pl2 (by omega) ⟨.ref _,_,I.lnew (t':=s.toks) (rv.append rv2) (by rw[kAf];omega),rfl,?_⟩;exact q _ (upd G s.heap.objs.size (.lst (vs++ws))) _ (Ext.new sg _ I.fresh) (x8 sg I.fresh (dl.append dl2))
  ·cases ed
 ·split at ed
  ·rename_i xs ys hz;cases ed;obtain⟨l,vs,rfl,sq,dl⟩:=ax.tup sg;obtain⟨b,ws,rfl,sq2,dl2⟩:=ay.tup sg;have l1:=dl.length;have l2:=dl2.length
   by_cases hx:vs=[]
   ·cases rx;cases ry;obtain⟨its,rv,p1,_⟩:=I.tuple sq;obtain⟨its2,rv2,p2,_⟩:=I.tuple sq2;refine Wi p1 p2 (rv.nil_iff.mpr hx) ⟨.ref b,H,I,rfl,?_⟩;subst hx;have:xs=[]:=by cases xs with
     |nil=>rfl
     |cons _ _=>simp at l1
    subst this;rcases ay with ad|⟨_,_,_,z,_⟩|⟨_,_,_,z,_⟩
    ·exact q _ G H (Ext.refl sg) ad
    ·cases z
    ·cases z
   ·refine zco pins s σ H _ _ _ _ Q I rx ry ⟨l,b,vs,ws,rfl,rfl,sq,sq2,hx,by omega,λz=>?_,λz p hp=>?_⟩
    ·subst z;have:ys=[]:=by cases ys with
      |nil=>rfl
      |cons _ _=>simp at l2
     subst this;rw[List.append_nil]at q;rcases ax with ad|⟨_,_,_,z,_⟩|⟨_,_,_,z,_⟩
     ·exact q _ G H (Ext.refl sg) ad
     ·cases z
     ·cases z
    ·exact q _ (upd G p (.tup (vs++ws))) _ (Ext.new sg _ hp) (oo sg hp (dl.append dl2))
  ·cases ed
 ·cases ed
theorem Y5{K:KA}:j3 K cw (zfh K):=λG H x y dx dy d sg ax ay ed Q q=>⟨G,dx,dy,d,sg,ax,ay,ed,q⟩
theorem zh8(ha:lx X B E a g)(hb:lx X B E b h):ji X B E (.BinOp a .Add b pos) (g2 cw g h):=M7 zcn Y5 ha hb
theorem DenL.atI{K:KA}{G:Hp}{ds:List D}{vs:List V}{i:Int}{d:D}(dl:DenL K G ds vs)(h:atI ds i=some d):∃v,atI vs i=some v∧Den K G d v:=by
 unfold L2.atI at h⊢;rw[dl.length]at h;cases e:ixN vs.length i with
 |none=>rw[e]at h;cases h
 |some j=>
  rw[e]at h;exact dl.get h
theorem cb1{K:KA}{f:D→Option D}{rr:List V→Hp→VK→Prop}(hp:∀G H x dx d,Same G H→Arg K G H dx x→f dx=some d→∀Q:VK,(∀v G' H',Ext G H G' H'→Den K G' d v→Q v H')→rr [x] H Q){σ:St}{H:Hp}{Q:VK}(q:tPu K B E (g1 f g) σ H Q):
  tCB rr (tAl K B E [true] (ae g bc)) σ H Q:=by
 obtain⟨G,δ,R,q⟩:=q;refine⟨G,δ,R,?_⟩;unfold ae;unfold g1 at q;cases e:g δ with
 |ok dx=>
  rw[e]at q;obtain⟨d,ed,qd⟩:=ResP.of (show ResP E G H (Res.of (f dx)) _ from q);intro vs G1 H1 e1 al;obtain⟨v,rfl,av⟩:=ArgsM.one al;exact hp G1 H1 v dx d e1.gh av ed Q λv G' H' e2 dn=>qd v G' H' (e1.trans e2) dn
 |er c=>rw[e]at q;exact q
 |st=>rw[e]at q;exact q
noncomputable def fc:D→Option D
 |.str x=>if x.length≤sizeLine then some (.int x.length)else none
 |.tup ds=>some (.int ds.length)
 |.lst ds=>some (.int ds.length)
 |_=>none
theorem zif{p:Pos}(hg:Gl X "len")(hm:X.mg "len"=none)(ha:lx X B E e g)(he:starEach [e] X.env=(false,eval e X.env)::starEach [] X.env:=by rfl)(hpl:(backTo pos (starEach [] X.env)).any (·.1)=false:=by rfl):ji X B E (.Call (.Name "len" p) [e] [] pos) (g1 fc g):=
 PE.imp (yj Wh hg hm PySem.boot_len (ju ha ky he) (by decide) (by decide) he hpl) λσ H Q q=>cb1 (λG H x dx d sg ax ed Q q=>by
  unfold fc at ed;split at ed
  ·split at ed
   ·rename_i hz;cases ed;rw[ax.str];exact⟨_,_,rfl,⟨hz,rfl⟩,q _ G H (Ext.refl sg) rfl⟩
   ·cases ed
  ·cases ed;obtain⟨l,vs,rfl,sq,dl⟩:=ax.tup sg;exact⟨_,_,rfl,.inr ⟨vs,sq,dl.length⟩,q _ G H (Ext.refl sg) rfl⟩
  ·cases ed;obtain⟨l,vs,rfl,sq,dl⟩:=ax.lst sg;exact⟨_,_,rfl,.inl ⟨vs,sq,dl.length⟩,q _ G H (Ext.refl sg) rfl⟩
  ·cases ed) q
noncomputable def tyD:D→Option String
 |.non=>some "NoneType"
 |.bl _=>some "bool"
 |.int _=>some "int"
 |.str _=>some "str"
 |.tup _=>some "tuple"
 |.lst _=>some "list"
 |.dct _ _=>some "dict"
 |_=>none
noncomputable def isT(t c:String):Bool:=t==c||(t=="bool" && c=="int")
noncomputable def cq(c:String)(d:D):Option D:=match tyD d with
 |some t=>some (.bl (isT t c))
 |none=>none
end
theorem vw{a b:Nat}(h:a<b):a≠b+1:=by omega
theorem Yc{b:Nat}:b+1≠b:=by omega
instance:Inhabited D:=⟨.non⟩
theorem Ii{prog:Program}{w:World}{A:Around}{R:Result→Shared→Prop}{s:Shared}{elt target iter:Expr}{ifs:List Expr}{scope:Scope}{pos:Pos}{it acc:Value}{env:Env}(I:Nat→Shared→Prop)
   (turn:∀n s,I n s→wpAny (model prog w) A (pyNext it) (λr s₁=>match r with
   |none=>R (.ok .next) s₁
   |some v=>wpAny (model prog w) A (letOwnedTupleGo target it v) (λ_ s₁=>wpAny (model prog w) A (assign target env v) (λ_ s₂=>
     wpAny (model prog w) A (forIn ifs true λc r=>if r=true then do let ok ←isTrue c env (eval c env);pure (ForInStep.yield ok)else pure (ForInStep.yield r)) (λok s₃=>
      if ok=true then wpAny (model prog w) A (eval elt env) (λx s₄=>
       wpAny (model prog w) A (call (.builtin "list.append") [acc,x]) (λ_ s₅=>∃m,m<n∧I m s₅) (notedBy (model prog w) A env λe s'=>R (.error e) s') s₄) (notedBy (model prog w) A env λe s'=>R (.error e) s') s₃
      else∃m,m<n∧I m s₃) (notedBy (model prog w) A env λe s'=>R (.error e) s') s₂) (notedBy (model prog w) A env λe s'=>R (.error e) s') s₁) (notedBy (model prog w) A env λe s'=>R (.error e) s') s₁) (notedBy (model prog w) A env λe s'=>R (.error e) s') s)
  (n:Nat) (h:I n s):
  codeAny (model prog w) A (.compLoop (.ListComp elt [⟨target,iter,ifs,0⟩] scope pos) 0 it acc env) R s:=by
 refine codeAny_loop rfl I (λn s hI=>?_) n h;show wpAny _ A ((compTurn (.ListComp elt [⟨target,iter,ifs,0⟩] scope pos) 0 it acc env).onRaise (λx=>do noteFrame x env;theTreesLotGoes x)) _ _ s;refine wpAny_noted ?_;rw[compTurn_list];refine wpAny_bind (wpAny_standAt (wpAny_bind (wpAny_mono (turn n s hI) (λr s₁ h₁=>?_) λ_ _ h'=>h')));cases r with
 |none=>exact wpAny_pure h₁
 |some v=>
  refine wpAny_bind (wpAny_mono h₁ (λ_ s₁' h₁=>?_) λ_ _ h'=>h');refine wpAny_bind (wpAny_mono h₁ (λ_ s₂ h₂=>wpAny_bind (wpAny_mono h₂ (λok s₃ h₃=>?_) λ_ _ h'=>h')) λ_ _ h'=>h');cases ok with
  |false=>exact wpAny_pure ⟨rfl,h₃⟩
  |true=>
   exact wpAny_bind (wpAny_bind (wpAny_mono h₃ (λx s₄ h₄=>wpAny_bind (wpAny_mono h₄ (λ_ s₅ h₅=>wpAny_pure (wpAny_pure ⟨rfl,h₅⟩)) λ_ _ h'=>h')) λ_ _ h'=>h'))
noncomputable def ly(env:Env):List (Str×NameKind)→List (Str×Addr)→Option (List (Str×Addr))
 |[],cs=>some cs
 | (n, k) :: r, cs => if k = .free then (match env.cells.lookup n with
  |some c=>ly env r ((n,c)::cs)
  |none=>none)else ly env r cs
theorem zi(env:Env):∀(names:List (Str×NameKind))(cs cl:List (Str×Addr)),ly env names cs=some cl→
  (forIn names cs λx (c:List (Str×Addr))=>(if(x.2==NameKind.free)=true then do let a ←cellOf env x.1;pure (ForInStep.yield ((x.1,a)::c))else pure (ForInStep.yield c):Sem _))=pure cl
 |[],cs,cl,h=>by cases h;rfl
 |(n,k)::r,cs,cl,h=>by
  unfold ly at h;rw[List.forIn_cons]
  by_cases hk:k=.free
  ·subst hk;simp only[if_true]at h;cases hc:env.cells.lookup n with
   |none=>rw[hc]at h;cases h
   |some c=>
    rw[hc]at h;have:cellOf env n=pure c:=by unfold cellOf;rw[hc]
    simp only[beq_self_eq_true,if_true,this,pure_bind];exact zi env r _ cl h
  ·rw[if_neg hk]at h;have hb:(k==NameKind.free)=false:=by simpa using hk
   simp only[hb,kAn,if_false,pure_bind];exact zi env r _ cl h
theorem we{scope:Scope}{env:Env}{cl:List (Str×Addr)}(h:ly env scope.names []=some cl):closureFor scope env=pure cl:=by
 have q:=zi env scope.names [] cl h;unfold closureFor;exact(congrArg (λt=>t>>=λcs=>pure cs) q).trans (pure_bind _ _)
theorem w8(env:Env):∀(names:List (Str×NameKind))(cs cl:List (Str×Addr)),ly env names cs=some cl→(∀p∈cs,env.cells.lookup p.1=some p.2)→∀p∈cl,env.cells.lookup p.1=some p.2
 |[],cs,cl,h,q=>by cases h;exact q
 |(n,k)::r,cs,cl,h,q=>by
  unfold ly at h
  by_cases hk:k=.free
  ·subst hk;simp only[if_true]at h;cases hc:env.cells.lookup n with
   |none=>rw[hc]at h;cases h
   |some c=>
    rw[hc]at h;refine w8 env r _ cl h λp hp=>?_;rcases kA8.mp hp with rfl|hp
    ·exact hc
    ·exact q p hp
  ·rw[if_neg hk]at h;exact w8 env r _ cl h q
theorem su{β:Type}:∀{l:List (Str×β)}{x:Str}{c:β},l.lookup x=some c→(x,c)∈l
 |[],_,_,h=>by simp at h
 |(n,b)::r,x,c,h=>by
  rw[List.lookup_cons]at h
  by_cases e:x=n
  ·subst e;simp only[beq_self_eq_true]at h;cases h;exact kA6
  ·have hb:(x==n)=false:=by simpa using e
   rw[hb]at h;exact kA7 _ (su h)
noncomputable def jc(X:Cx)(scope:Scope)(cl:List (Str×Addr))(N:List Str)(xs:List Str)(C:Addr)(s₀:Shared)(H₀:Hp)(ex:List Addr)(pn:List (Addr×Obj)):Cx where
 prog:=X.prog
 w:=X.w
 K:=(kx X)
 mg:=X.mg
 base:=X.base
 A:=X.A
 N:=N
 s₀:=s₀
 H₀:=H₀
 env:=compEnvC scope cl C X.env
 outer:=X.stack
 stack:=X.stack
 ex:=ex
 fn:=λy=>decide (y∈xs)
 calm:=X.calm
 pn:=pn
 xe:=λ_ _=>False
structure CapOk(X:Cx)(scope:Scope)(cl:List (Str×Addr))(y:Str)(i:Nat):Prop where
 at_:X.N[i]?=some y
 vis:Vis X.env.scope y
 nloc:X.env.kindOf y≠some .local
 cell:∃c,cl.lookup y=some c
 kind:(relabel scope X.env).names.lookup y=some .cell∨(relabel scope X.env).names.lookup y=some .free
noncomputable def Caps(X:Cx)(scope:Scope)(cl:List (Str×Addr)):List Str→List Nat→Prop
 |[],ix=>ix=[]
 |y::M,ix=>∃i r,ix=i::r∧CapOk X scope cl y i∧Caps X scope cl M r
theorem Caps.get{X:Cx}{scope:Scope}{cl:List (Str×Addr)}:∀{M:List Str}{ix:List Nat},Caps X scope cl M ix→∀(j:Nat) y,M[j]?=some y→∃i,ix[j]?=some i∧CapOk X scope cl y i
 |[],_,_,j,y,h=>by simp at h
 |_::_,_,⟨i,r,h1,h2,h3⟩,0,y,h=>by
  simp at h;subst h;subst h1;exact⟨i,rfl,h2⟩
 |_::_,_,⟨i,r,h1,h2,h3⟩,j+1,y,h=>by
  subst h1;obtain⟨k,q1,q2⟩:=Caps.get h3 j y (by simpa using h);exact⟨k,by simpa using q1,q2⟩
theorem Caps.length{X:Cx}{scope:Scope}{cl:List (Str×Addr)}:∀{M:List Str}{ix:List Nat},Caps X scope cl M ix→M.length=ix.length
 |[],_,h=>by rw[show _=[]from h];rfl
 |_::_,_,⟨i,r,h1,h2,h3⟩=>by rw[h1,kA5,kA5,Caps.length h3]
structure CompOk(X:Cx)(scope:Scope)(cl:List (Str×Addr))(xs:List Str)(M:List Str)(ix:List Nat):Prop where
 clos:ly X.env scope.names []=some cl
 kind:scope.kind=.function
 ncell:∀y∈scope.names,y.2≠.cell
 names:∀y∈scope.names,y.2=.local→scope.names.lookup y.1=some .local
 loc:∀x∈xs,scope.names.lookup x=some .local
 xcl:∀x∈xs,cl.lookup x=none
 nd:(xs++M).Nodup
 ixd:ix.Nodup
 cap:Caps X scope cl M ix
section
variable{X:Cx}{scope:Scope}{cl:List (Str×Addr)}{xs:List Str}{M:List Str}{ix:List Nat}{pins:List (Addr×Obj)}{σ:St}{H:Hp}{s:Shared}{fp:List Addr}
theorem p5(env:Env):∀(names:List (Str×NameKind))(cs cl:List (Str×Addr)),ly env names cs=some cl→∀y,((∃c,cs.lookup y=some c)∨(y,NameKind.free)∈names)→∃c,cl.lookup y=some c
 |[],cs,cl,h,y,q=>by
  cases h;rcases q with q|q
  ·exact q
  ·simp at q
 |(n,k)::r,cs,cl,h,y,q=>by
  unfold ly at h
  by_cases hk:k=.free
  ·subst hk;simp only[if_true]at h;cases hc:env.cells.lookup n with
   |none=>rw[hc]at h;cases h
   |some c=>
    rw[hc]at h;refine p5 env r _ cl h y ?_
    by_cases e:y=n
    ·subst e;exact .inl ⟨c,by simp⟩
    ·rcases q with ⟨c',q⟩|q
     ·refine .inl ⟨c',?_⟩;have hb:(y==n)=false:=by simpa using e
      rw[List.lookup_cons,hb];exact q
     ·rcases kA8.mp q with z|z
      ·cases z;exact absurd rfl e
      ·exact .inr z
  ·rw[if_neg hk]at h;refine p5 env r _ cl h y ?_;rcases q with q|q
   ·exact .inl q
   ·rcases kA8.mp q with z|z
    ·cases z;exact absurd rfl hk
    ·exact .inr z
theorem CompOk.free(O:CompOk X scope cl xs M ix):∀y,(y,NameKind.free)∈scope.names→∃c,cl.lookup y=some c:=λy h=>p5 X.env _ _ cl O.clos y (.inr h)
theorem CompOk.cells(O:CompOk X scope cl xs M ix){y:Str}{c:Addr}(h:cl.lookup y=some c):X.env.cells.lookup y=some c:=
 w8 X.env _ _ cl O.clos (λp hp=>by simp at hp) (y,c) (su h)
theorem Je{env:Env}{scope:Scope}{y:Str}(h:(relabel scope env).names.lookup y=some .cell∨(relabel scope env).names.lookup y=some .free)(hn:∀z∈scope.names,z.2≠.cell):(y,NameKind.free)∈scope.names:=by
 have key:∃k,(y,k)∈(relabel scope env).names∧(k=.cell∨k=.free):=by
  rcases h with h|h
  ·exact⟨_,su h,.inl rfl⟩
  ·exact⟨_,su h,.inr rfl⟩
 obtain⟨k,hm,hk⟩:=key;obtain⟨⟨n,k'⟩,hm',e⟩:=kAv.mp hm
 by_cases hc:(k'==NameKind.free && env.scope.kind==.function && env.kindOf n==some .cell)=true
 ·simp only[hc,if_true]at e;cases e;have:k'=.free:=by
   simp only[kA4]at hc;simpa using hc.1.1
  subst this;exact hm'
 ·simp only[hc,if_false]at e;cases e;rcases hk with hk|hk
  ·exact absurd hk (hn _ hm')
  ·subst hk;exact hm'
theorem zbl(O:CompOk X scope cl xs M ix)(I:Inv X pins σ H s)(hf:∀b∈fp,Ci X pins H b)(hfs:∀b∈fp,b<s.heap.objs.size){h1:Heap}(hk:∀b o,s.heap.get? b=some o→h1.get? b=some o)(hz:h1.objs.size=s.heap.objs.size+1){tk:Nat}:
  (jc X scope cl (xs++M) xs (s.heap.objs.size+1) {s with heap:=h1,toks:=tk} (upd H s.heap.objs.size (.lst [])) fp (X.pn++pins)).Ok:=by
 have fresh:H s.heap.objs.size=none:=I.hok.fresh (kA1 _);have old:∀{b:Addr}{o:Obj},s.heap.get? b=some o→b≠s.heap.objs.size:=λe z=>by
  have:=Heap.lt_size e;rw[z]at this;exact kAu _ this
 have cne:∀y c,cl.lookup y=some c→c<s.heap.objs.size:=λy c e=>by
  obtain⟨v,q⟩:=I.cell y c (O.cells e);exact q.lt
 have kO:=I.ok;refine⟨kO.mod,O.kind,kO.glob,kO.blt,?_,?_,?_,?_,kO.hd,kO.frames,.inl rfl,?_,?_,?_,?_,?_,?_,?_⟩
 ·show h1.objs.size≤s.heap.objs.size+1;omega
 ·intro a b c h1 h2;exact kO.inj a b c (O.cells h1) (O.cells h2)
 ·intro y hy;have:=Je (env:=X.env) (scope:=scope) (y:=y) hy O.ncell;exact O.free _ this
 ·intro y c hy hc;have hm:y∈xs:=of_decide_eq_true hy;rw[show(jc X scope cl (xs++M) xs (s.heap.objs.size+1) {s with heap:=h1,toks:=tk} (upd H s.heap.objs.size (.lst [])) fp (X.pn++pins)).env.cells=cl from rfl,O.xcl y hm]at hc;cases hc
 ·intro b hb;have:=hfs b hb;refine⟨?_,λy c e=>?_⟩
  ·exact vw this
  ·exact(hf b hb).2.2.2.2.1 y c (O.cells e)
 ·intro b o e;obtain⟨q1,q2⟩:=I.bs b o e;refine⟨hk b o q1,?_⟩;show upd H s.heap.objs.size (.lst []) b=none;rw[bu (old q1)];exact q2
 ·show X.base.objs.size≤h1.objs.size;have:=kO.bsz;have:=I.sz;omega
 ·intro b o e hb;rcases(hf b hb).2.2.2.1 with q|q
  ·exact kO.noex b o e q
  ·exact absurd (kAp (Heap.lt_size e) (kAk kO.bsz q)) (kAu _)
 ·intro b hb hfb;rcases kA8.mp (I.stkSub b hfb)with e|e
  ·exact(hf b hb).2.1 e
  ·exact(hf b hb).2.2.1 e
 ·exact I.stack.of_keeps λb o e _=>⟨o,hk b o e,rfl⟩
 ·intro b hb;show upd H s.heap.objs.size (.lst []) b=none;have q:=I.stkFree b hb;obtain⟨_,o,ho,_⟩:=I.stack.mem hb;rw[bu (old ho)];exact q
noncomputable def j5(σ:St)(ix:List Nat)(os:List (Option V)):St:=os++ix.map λi=>(σ[i]?).join
theorem Oe{σ:St}{os:List (Option V)}(hn:os.length=xs.length)(O:CompOk X scope cl xs M ix):(j5 σ ix os).length=(xs++M).length:=by
 unfold j5;rw[kAf,kAf,kA2,hn,O.cap.length]
theorem Wn(O:CompOk X scope cl xs M ix)(I:Inv X pins σ H s)(hf:∀b∈fp,Ci X pins H b)(hfs:∀b∈fp,b<s.heap.objs.size){h1 h2:Heap}(hk:∀b o,s.heap.get? b=some o→h1.get? b=some o)(hz:h1.objs.size=s.heap.objs.size+1){tk tk2:Nat}
  (ha:h1.get? s.heap.objs.size=some {cls:=.type "list",data:=.seq #[] 0})(hk2:∀b o,h1.get? b=some o→h2.get? b=some o){m:Str→Option Value}(hn:h2.Ns (s.heap.objs.size+1) m):
  Inv (jc X scope cl (xs++M) xs (s.heap.objs.size+1) {s with heap:=h1,toks:=tk} (upd H s.heap.objs.size (.lst [])) fp (X.pn++pins)) [] (j5 σ ix (kAa xs.length none)) (upd H s.heap.objs.size (.lst [])) {s with heap:=h2,toks:=tk2}:=by
 have fresh:H s.heap.objs.size=none:=I.hok.fresh (kA1 _);have old:∀{b:Addr}{o:Obj},s.heap.get? b=some o→b≠s.heap.objs.size:=λe z=>by
  have:=Heap.lt_size e;rw[z]at this;exact kAu _ this
 have hn1:h1.get? (s.heap.objs.size+1)=none:=Heap.get?_none_of_le (by omega);have frC:H (s.heap.objs.size+1)=none:=I.hok.fresh (Nat.le_succ _);refine⟨zbl O I hf hfs hk hz,rfl,I.bare,Un.kept hk2,⟨m,hn,?_⟩,?_,?_,?_,?_,?_,Oe kB2 O⟩
 ·intro i y v hi hv _
  by_cases hx:i<xs.length
  ·unfold j5 at hv;rw[List.getElem?_append_left (by rw[kB2];exact hx),List.getElem?_replicate_of_lt hx]at hv;cases hv
  ·obtain⟨j,rfl⟩:∃j,i=xs.length+j:=⟨i - xs.length,by omega⟩;have hy:M[j]?=some y:=by
    have q:(xs++M)[xs.length+j]?=some y:=hi;rw[List.getElem?_append_right (Nat.le_add_right _ _)]at q;simpa using q
   obtain⟨k,hk',C⟩:=O.cap.get j y hy;have hv':((ix.map λi=>(σ[i]?).join)[j]?)=some (some v):=by
    unfold j5 at hv;rw[List.getElem?_append_right (by rw[kB2];exact Nat.le_add_right _ _)]at hv;simpa using hv
   rw[kAr,hk']at hv';have hs:(σ[k]?).join=some v:=by simpa using hv'
   have hs':σ[k]?=some (some v):=by
    cases e:σ[k]? with
    |none=>rw[e]at hs;simp at hs
    |some o=>rw[e]at hs;simp at hs;rw[hs]
   obtain⟨mX,_,hl⟩:=I.loc;obtain⟨u,r,lk⟩:=hl k y v C.at_ hs' C.vis;refine⟨u,r,.inr ⟨C.kind,?_⟩⟩;rcases lk with ⟨q,_⟩|⟨_,c,hc,hcell⟩
   ·exact absurd q C.nloc
   ·obtain⟨c',hc'⟩:=C.cell;have:=O.cells hc';rw[hc]at this;cases this;exact⟨c,hc',hcell.keeps λb o e=>hk2 b o (hk b o e)⟩
 ·intro y c hc;obtain⟨v,q⟩:=I.cell y c (O.cells hc);exact⟨v,q.keeps λb o e=>hk2 b o (hk b o e)⟩
 ·show upd H s.heap.objs.size (.lst []) (s.heap.objs.size+1)=none;rw[bu Yc];exact frC
 ·intro y c hc;obtain⟨v,q⟩:=I.cell y c (O.cells hc);have hne:(jc X scope cl (xs++M) xs (s.heap.objs.size+1) {s with heap:=h1,toks:=tk} (upd H s.heap.objs.size (.lst [])) fp (X.pn++pins)).fn y=false:=decide_eq_false λz=>by
   have hc':cl.lookup y=some c:=hc;rw[O.xcl y z]at hc';cases hc'
  rcases I.freeC y c (O.cells hc)with fr|⟨_,o,fr⟩
  ·refine .inl ?_;show upd H s.heap.objs.size (.lst []) c=none;rw[bu (kAd q.lt)];exact fr
  ·refine .inr ⟨hne,o,?_⟩;show upd H s.heap.objs.size (.lst []) c=_;rw[bu (kAd q.lt)];exact fr
 ·intro p hp;have hp':p∈X.pn++pins:=by simpa[jc]using hp
  obtain⟨q1,q2,q3,q4,q5⟩:=I.pin p hp';refine⟨hk2 _ _ (hk _ _ q1),?_,?_,?_,q5⟩
  ·show upd H s.heap.objs.size (.lst []) p.1=none;rw[bu (old q1)];exact q2
  ·exact vw (Heap.lt_size q1)
  ·intro hfb;rcases kA8.mp (I.stkSub p.1 hfb)with e|e
   ·exact q3 e
   ·exact q4 e
 ·refine I.hok.laid (λb o e=>hk2 b o (hk b o e)) (kA1 _) ⟨kAl _,[],0,.nil,hk2 _ _ ha⟩
end
noncomputable def lz(f:D→Option (Option D)):List D→Option (List D)
 |[]=>some []
 |d::r=>match f d with
  |none=>none
  |some o=>match lz f r with
   |none=>none
   |some ys=>some (o.toList++ys)
noncomputable def ic(ix:List Nat)(δ:En)(s:Sl):En:=s::ix.map λi=>(δ[i]?).getD .no
noncomputable def Bc(ix:List Nat)(t:En→Res)(g:En→Res)(δ:En)(d:D):Option (Option D):=match t (ic ix δ (.pu d))with
 |.ok (.bl true)=>(match g (ic ix δ (.pu d))with
  |.ok y=>some (some y)
  |_=>none)
 |.ok (.bl false)=>some none
 |_=>none
noncomputable def gz(r:En→ResL)(ix:List Nat)(t:En→Res)(g:En→Res):En→Res:=λδ=>match r δ with
 | .ok ds => if ds.length ≤ sizeLine then (match lz (Bc ix t g δ) ds with
  |some ys=>.ok (.lst ys)
  |none=>.st)else .st
 |.er c=>.er c
 |.st=>.st
noncomputable def oq(r:En→ResL)(f:En→D→Option (Option D)):En→Res:=λδ=>match r δ with
 | .ok ds => if ds.length ≤ sizeLine then (match lz (f δ) ds with
  |some ys=>.ok (.lst ys)
  |none=>.st)else .st
 |.er c=>.er c
 |.st=>.st
theorem Ub{r:En→ResL}{f:En→D→Option (Option D)}:IsL (oq r f):=λδ d h=>by
 unfold oq at h;split at h
 ·split at h
  ·split at h
   ·cases h;exact⟨_,rfl⟩
   ·cases h
  ·cases h
 ·cases h
 ·cases h
theorem zey{E:EK}{G H:Hp}{r:En→ResL}{f:En→D→Option (Option D)}{δ:En}{P:D→Prop}(q:ResP E G H (oq r f δ) P):
  ResLP E G H (r δ) λds=>ds.length≤sizeLine∧∃ys,lz (f δ) ds=some ys∧P (.lst ys):=by
 unfold oq at q;cases e:r δ with
 |ok ds=>
  rw[e]at q;dsimp only at q
  by_cases hl:ds.length≤sizeLine
  ·rw[if_pos hl]at q;cases e2:lz (f δ) ds with
   |none=>rw[e2]at q;exact q.elim
   |some ys=>rw[e2]at q;exact⟨hl,ys,e2,q⟩
  ·rw[if_neg hl]at q;exact q.elim
 |er c=>rw[e]at q;exact q
 |st=>rw[e]at q;exact q
noncomputable def om(ix:List Nat)(δ:En):En:=ix.map λi=>(δ[i]?).getD .no
theorem zbn{K:KA}{G:Hp}:∀{ds:List D}{vs:List V},DenL K G ds vs→∀{j:Nat}{t:Sl},(ds.map Sl.pu)[j]?=some t→∃d v,t=.pu d∧(vs.map some)[j]?=some (some v)∧Den K G d v:=λ{ds vs} dl j t h=>by
 rw[kAr]at h;cases e:ds[j]? with
 |none=>rw[e]at h;cases h
 |some d=>
  rw[e]at h;cases h;obtain⟨v,ev,dv⟩:=dl.get e;exact⟨d,v,rfl,by rw[kAr,ev];rfl,dv⟩
theorem Od{K:KA}{B G H:Hp}{σ:St}{δ:En}{ix:List Nat}{ds:List D}{vs:List V}(R:EnvR K B G H σ δ)(nd:ix.Nodup)(dl:DenL K G ds vs):EnvR K B G H (j5 σ ix (vs.map some)) (ds.map Sl.pu++om ix δ):=by
 have key:∀(j:Nat) t,(om ix δ)[j]?=some t→∃i,ix[j]?=some i∧((t=.no)∨δ[i]?=some t)∧(ix.map λi=>(σ[i]?).join)[j]?=some ((σ[i]?).join):=λj t h=>by
  unfold om at h;rw[kAr]at h;cases e:ix[j]? with
  |none=>rw[e]at h;cases h
  |some i=>
   rw[e]at h;refine⟨i,rfl,?_,by rw[kAr,e];rfl⟩;cases e2:δ[i]? with
   |none=>rw[Option.map_some,e2]at h;cases h;exact .inl rfl
   |some u=>rw[Option.map_some,e2]at h;cases h;exact .inr rfl
 have jo:∀(i:Nat) a,(σ[i]?).join=some (V.ref a)→σ[i]?=some (some (.ref a)):=λi a h=>by
  cases e:σ[i]? with
  |none=>rw[e]at h;simp at h
  |some o=>rw[e]at h;simp at h;rw[h]
 have hl:(vs.map some).length=(ds.map Sl.pu).length:=by rw[kA2,kA2,dl.length]
 have at_:∀{j:Nat}{t:Sl},(ds.map Sl.pu++om ix δ)[j]?=some t→(∃d v,t=.pu d∧(j5 σ ix (vs.map some))[j]?=some (some v)∧Den K G d v)∨∃k,j=ds.length+k∧(om ix δ)[k]?=some t∧(j5 σ ix (vs.map some))[j]?=(ix.map λi=>(σ[i]?).join)[k]?:=λ{j t} h=>by
  unfold j5
  by_cases hj:j<(ds.map Sl.pu).length
  ·rw[List.getElem?_append_left hj]at h;rw[List.getElem?_append_left (by rw[hl];exact hj)];exact .inl (zbn dl h)
  ·obtain⟨k,rfl⟩:∃k,j=ds.length+k:=⟨j - ds.length,by rw[kA2]at hj;omega⟩;rw[List.getElem?_append_right (by rw[kA2];exact Nat.le_add_right _ _),kA2,Nat.add_sub_cancel_left]at h;exact .inr ⟨k,rfl,h,by rw[List.getElem?_append_right (by rw[hl,kA2];exact Nat.le_add_right _ _),hl,kA2,Nat.add_sub_cancel_left]⟩
 refine⟨R.bh,R.gh,?_,λj t h=>?_,λj t a h1 h2 h3=>?_,λj k t u a h1 h2 h3 h4 h5 h6=>?_,R.gb⟩
 ·unfold j5 om;rw[kAf,kAf,hl,kA2 (as:=ix),kA2 (as:=ix)]
 ·rcases at_ h with ⟨d,v,rfl,e,dv⟩|⟨k,rfl,h,e⟩
  ·exact⟨some v,e,v,rfl,dv⟩
  ·obtain⟨i,q1,q2,q3⟩:=key k t h;refine⟨_,e.trans q3,?_⟩;rcases q2 with rfl|q2
   ·trivial
   ·obtain⟨o',z1,z2⟩:=R.sl i t q2;rw[z1];exact z2
 ·rcases at_ h1 with ⟨d,v,rfl,e,dv⟩|⟨k,rfl,h,e⟩
  ·cases h2
  ·obtain⟨i,q1,q2,q3⟩:=key k t h;rw[e,q3]at h3;rcases q2 with rfl|q2
   ·cases h2
   ·exact R.own i t a q2 h2 (jo i a (kAi.inj h3))
 ·rcases at_ h1 with ⟨d,v,rfl,e,dv⟩|⟨j',rfl,h,e⟩
  ·cases h3
  ·rcases at_ h2 with ⟨d,v,rfl,e',dv⟩|⟨k',rfl,h',e'⟩
   ·cases h4
   ·obtain⟨i,q1,q2,q3⟩:=key j' t h;obtain⟨i',y1,y2,y3⟩:=key k' u h';rw[e,q3]at h5;rw[e',y3]at h6;rcases q2 with rfl|q2
    ·cases h3
    ·rcases y2 with rfl|y2
     ·cases h4
     ·have z:=R.dis i i' t u a q2 y2 h3 h4 (jo i a (kAi.inj h5)) (jo i' a (kAi.inj h6));subst z;have lj:j'<ix.length:=(kAq.mp q1).1;rw[(List.getElem?_inj lj nd).mp (q1.trans y1.symm)]
structure TgB(X:Cx)(n:Nat)(tg:Expr)(td:D→Option (List D)):Prop where
 ex:∃gl,PG X tg gl∧∀{G H:Hp}{os:List (Option V)}{cs:St}{d:D}{v:V}{ds:List D}{Q:St→Hp→Prop},os.length=n→Same G H→Den (kx X) G d v→td d=some ds→(∀vs,DenL (kx X) G ds vs→vs.length=n→Q (vs.map some++cs) H)→gl v (os++cs) H Q
section
variable{X:Cx}{B:Hp}{E:EK}{scope:Scope}{cl:List (Str×Addr)}{xs:List Str}{M:List Str}{ix:List Nat}{elt iter:Expr}{ifs:List Expr}{pos:Pos}{r:En→ResL}{t g:En→Res}{tg:Expr}{td:D→Option (List D)}
noncomputable abbrev EF:EK:=λ_ _=>False
structure BlockOk(X:Cx)(B:Hp)(E:EK)(scope:Scope)(cl:List (Str×Addr))(xs:List Str)(M:List Str)(tg:Expr)(td:D→Option (List D))(elt:Expr)(ifs:List Expr)(t g:En→Res):Prop where
 tgt:∀C s₀ H₀ ex pn,TgB (jc X scope cl (xs++M) xs C s₀ H₀ ex pn) xs.length tg td
 test:(ifs=[]∧t=gC (.bl true))∨∃c,ifs=[c]∧∀C s₀ H₀ ex pn,E3 (jc X scope cl (xs++M) xs C s₀ H₀ ex pn) B EF c t
 elt:∀C s₀ H₀ ex pn,ji (jc X scope cl (xs++M) xs C s₀ H₀ ex pn) B EF elt g
noncomputable def td1(d:D):Option (List D):=some [d]
theorem S4{x:Str}{px:Pos}(O:CompOk X scope cl [x] M ix)(C s₀ H₀ ex pn):TgB (jc X scope cl ([x]++M) [x] C s₀ H₀ ex pn) 1 (.Name x px) td1:=
 ⟨_,Cb (i:=0) O.nd rfl (.inl (lookup_relabel_local (O.loc x kA6))) (.inl (decide_eq_true kA6)),λ{G H os cs d v ds Q} h0 sg dn e q=>by
  cases e
  match os,h0 with
  |[o],_=>exact q [v] (DenL.one dn) rfl⟩
noncomputable def td2:D→Option (List D)
 |.tup [a,b]=>some [a,b]
 |_=>none
theorem zai{x y:Str}{px py tp:Pos}{k:Nat}(O:CompOk X scope cl [x,y] M ix)(hc:X.calm=true)(C s₀ H₀ ex pn):TgB (jc X scope cl ([x,y]++M) [x,y] C s₀ H₀ ex pn) 2 (.Tuple [.Name x px,.Name y py] k tp) td2:=
 ⟨_,Y0 (X:=jc X scope cl ([x,y]++M) [x,y] C s₀ H₀ ex pn) hc (D7 (Cb (i:=0) O.nd rfl (.inl (lookup_relabel_local (O.loc x kA6))) (.inl (decide_eq_true kA6)))
  (D7 (Cb (i:=1) O.nd rfl (.inl (lookup_relabel_local (O.loc y (kA7 _ kA6)))) (.inl (decide_eq_true (kA7 _ kA6)))) Se)),λ{G H os cs d v ds Q} h0 sg dn e q=>by
  unfold td2 at e;split at e
  ·rename_i a b;cases e;obtain⟨l,vs,rfl,sq,dl⟩:=dn;obtain⟨v1,r1,rfl,d1,v2,r2,rfl,d2,e3⟩:=dl;cases e3
   match os,h0 with
   |[o1,o2],_=>exact⟨l,[v1,v2],rfl,SqT.of (sg _ _ sq),rfl,v1,_,rfl,v2,_,rfl,rfl,q [v1,v2] ⟨v1,_,rfl,d1,v2,_,rfl,d2,rfl⟩ rfl⟩
  ·cases e⟩
def F9(td:D→Option (List D))(cap:En)(t g:En→Res)(f:D→Option (Option D)):Prop:=∀d o,f d=some o→∃ds,td d=some ds∧
 ((t (ds.map Sl.pu++cap)=.ok (.bl true)∧∃y,g (ds.map Sl.pu++cap)=.ok y∧o=some y)∨(t (ds.map Sl.pu++cap)=.ok (.bl false)∧o=none))
noncomputable def Bb(ix:List Nat)(g:En→Res)(δ:En)(d:D):Option (Option D):=match td2 d with
 |some ds=>(match g (ds.map Sl.pu++ix.map λi=>(δ[i]?).getD .no)with
  |.ok y=>some (some y)
  |_=>none)
 |none=>none
theorem zjk{ix:List Nat}{δ:En}{g:En→Res}:F9 td2 (om ix δ) (gC (.bl true)) g (Bb ix g δ):=λd o h=>by
 unfold Bb at h;split at h
 ·rename_i ds e;split at h
  ·rename_i y hg;cases h;exact⟨ds,e,.inl ⟨rfl,y,hg,rfl⟩⟩
  ·cases h
 ·cases h
theorem zao{ix:List Nat}{δ:En}{t g:En→Res}:F9 td1 (om ix δ) t g (Bc ix t g δ):=λd o h=>by
 refine⟨[d],rfl,?_⟩
 ·unfold Bc at h;have e:[d].map Sl.pu++om ix δ=ic ix δ (.pu d):=rfl;rw[e];split at h
  ·rename_i ht;split at h
   ·rename_i y hg;cases h;exact .inl ⟨ht,y,hg,rfl⟩
   ·cases h
  ·rename_i ht;cases h;exact .inr ⟨ht,rfl⟩
  ·cases h
theorem ResP.ok0{G H:Hp}{r:Res}{P:D→Prop}(d:D)(e:r=.ok d)(h:P d):ResP EF G H r P:=by rw[e];exact h
theorem La(O:CompOk X scope cl xs M ix)(hc:X.calm=true)(Bk:BlockOk X B E scope cl xs M tg td elt ifs t g){pins:List (Addr×Obj)}{σ:St}{δ:En}{G H:Hp}{s:Shared}{it:Addr}{fp:List Addr}{tn:Nat→Heap→Prop}{J:It}{ds ys:List D}{f:D→Option (Option D)}
  (I:Inv X pins σ H s)(T:Turn X.prog X.w (kx X) tg J fp it tn)(st:tn 0 s.heap)(hf:∀b∈fp,Ci X pins H b)(R:EnvR (kx X) B G H σ δ)(ok:Bf (kx X) J ds (λG2 H2=>Ext G H G2 H2))(hl:ds.length≤sizeLine)(hF:F9 td (om ix δ) t g f)(ey:lz f ds=some ys)
  {RR:Value→Addr→Result→Shared→Prop}
  (fin:∀s1 H1 G1 vs m,Inv X pins σ H1 s1→s1.heap.Ns (s.heap.objs.size+1) m→H1 (s.heap.objs.size+1)=none→Ext G H G1 H1→G1 s.heap.objs.size=none→H1 s.heap.objs.size=some (.lst vs)→DenL (kx X) G1 ys vs→RR (.ref s.heap.objs.size) (s.heap.objs.size+1) (.ok .next) s1):
  wpAny (model X.prog X.w) X.A (newList []) (λacc s₃=>wpAny (model X.prog X.w) X.A (newFunctionEnv scope X.env.globals cl [] X.env.qual none .none (some X.env)) (λcenv s₄=>
   codeAny (model X.prog X.w) X.A (.compStart (.ListComp elt [⟨tg,iter,ifs,0⟩] scope pos) 0 (.ref it) acc {cenv with scope:=relabel scope X.env}) (RR acc cenv.locals) s₄) X.xe s₃) X.xe s:=by
 have hfs:∀b∈fp,b<s.heap.objs.size:=λb hb=>by
  obtain⟨o,e,_⟩:=T.obj 0 _ st b hb;exact Heap.lt_size e
 refine wpAny_newObj_type (wpAny_newFunctionEnv O.ncell (by intro y hy;simp at hy) (λh₂ hns₂ hsb₂=>?_) O.kind);dsimp only at hns₂ hsb₂⊢;generalize hH2:s.heap.push {cls:=.type "list",dict:=none,data:=.seq ([]:List Value).toArray}=h₁ at hns₂ hsb₂⊢;have hz:h₁.objs.size=s.heap.objs.size+1:=by rw[←hH2,Heap.size_push]
 rw[hz]at hns₂ hsb₂⊢;have hk:∀b o,s.heap.get? b=some o→h₁.get? b=some o:=λb o e=>by rw[←hH2];exact Heap.get?_push_of_some _ e
 have hk2:∀b o,h₁.get? b=some o→h₂.get? b=some o:=λb o e=>by
  have:b<s.heap.objs.size+1:=by rw[←hz];exact Heap.lt_size e
  exact hsb₂.extBut b o (kAd this) (Heap.get?_push_of_some _ e)
 have ha:h₁.get? s.heap.objs.size=some {cls:=.type "list",data:=.seq #[] 0}:=by rw[←hH2];exact Heap.get?_push_size _ rfl
 have I0:=Wn (tk:=s.toks) (tk2:=s.toks+([]:List (Str×Value)).length) O I hf hfs hk hz ha hk2 hns₂;have fresh:H s.heap.objs.size=none:=I.hok.fresh (kA1 _);have e0:Ext G H G (upd H s.heap.objs.size (.lst [])):=Ext.own R.gh _ fresh;have g0:G s.heap.objs.size=none:=ik R.gh fresh;have hfC:∀{H1:Hp},(∀b∈fp,H1 b=none)→∀b∈fp,Ci (jc X scope cl (xs++M) xs (s.heap.objs.size+1) {s with heap:=h₁,toks:=s.toks} (upd H s.heap.objs.size (.lst [])) fp (X.pn++pins)) [] H1 b:=λ{H1} hn b hb=>by
  obtain⟨f0,f1,f2,f3,f4,f5⟩:=hf b hb;refine⟨hn b hb,?_,?_,.inl hb,λy c e=>f4 y c (O.cells e),λp hp=>f5 p (by simpa[jc]using hp)⟩
  ·exact vw (hfs b hb)
  ·intro hfb;rcases kA8.mp (I.stkSub b hfb)with e|e
   ·exact f1 e
   ·exact f2 e
 have loop:codeAny (model X.prog X.w) X.A (.compLoop (.ListComp elt [⟨tg,iter,ifs,0⟩] scope pos) 0 (.ref it) (.ref s.heap.objs.size) (compEnvC scope cl (s.heap.objs.size+1) X.env)) (RR (.ref s.heap.objs.size) (s.heap.objs.size+1))
   {s with heap:=h₂,toks:=s.toks+([]:List (Str×Value)).length}:=by
  refine Ii (λn s1=>∃i os H1 G1 vs zs ft,os.length=xs.length∧n=ds.length - i∧i≤ds.length∧Inv (jc X scope cl (xs++M) xs (s.heap.objs.size+1) {s with heap:=h₁,toks:=s.toks} (upd H s.heap.objs.size (.lst [])) fp (X.pn++pins)) [] (j5 σ ix os) H1 s1∧tn i s1.heap∧(∀b∈fp,H1 b=none)∧
   H1 s.heap.objs.size=some (.lst vs)∧G1 s.heap.objs.size=none∧Ext G H G1 H1∧DenL (kx X) G1 zs vs∧zs.length≤i∧lz f (ds.drop i)=some ft∧ys=zs++ft) ?_ ds.length
   ⟨0,kAa xs.length none,_,G,[],[],ys,kB2,rfl,kAl _,I0,T.keep 0 _ _ st (λb _ o e=>hk2 b o (hk b o e)),λb hb=>by rw[bu (kAd (hfs b hb))];exact(hf b hb).1,d8,g0,e0,rfl,kA1 _,ey,rfl⟩
  rintro n s1 ⟨i,os,H1,G1,vs,zs,ft,hos,rfl,hi,I1,st1,fr1,ha1,ga1,x1,dl1,zl,er,eys⟩
  obtain⟨okg,oks⟩:=ok i G1 H1 x1 x1.gh
  by_cases hlt:i<ds.length
  ·obtain⟨go,yl⟩:=okg ds[i] (by simp[hlt]);rw[List.drop_eq_getElem_cons hlt]at er;unfold lz at er;cases ef:f ds[i]with
   |none=>rw[ef]at er;cases er
   |some oy=>
   rw[ef]at er;dsimp only at er;cases er2:lz f (ds.drop (i+1))with
   |none=>rw[er2]at er;cases er
   |some rest2=>
   rw[er2]at er;have er':ft=oy.toList++rest2:=by cases er;rfl
   subst er';refine wpAny_mono (T.item (jc X scope cl (xs++M) xs (s.heap.objs.size+1) {s with heap:=h₁,toks:=s.toks} (upd H s.heap.objs.size (.lst [])) fp (X.pn++pins)) rfl rfl rfl hc i [] s1 _ H1 _ I1 (hfC fr1) st1 go) (λrr s2 ⟨u,hr,h2⟩=>?_) λ_ _ q=>q;subst hr;refine wpAny_mono h2 (λ_ s3 ⟨xv,H3,I3,r3,y3,st3,fr3⟩=>?_) λ_ _ q=>q;obtain⟨G3,e3,dn⟩:=yl xv H3 y3;have I3':=I3.pinned (hfC fr3) (T.obj _ _ st3);have x3:Ext G H G3 H3:=x1.trans e3;have ha3:H3 s.heap.objs.size=some (.lst vs):=e3.hh _ _ ha1;have ga3:G3 s.heap.objs.size=none:=e3.fr _ _ ha1 ga1 rfl;obtain⟨dx,htd,hor⟩:=hF _ _ ef;obtain⟨gl,TO1,TO2⟩:=(Bk.tgt (s.heap.objs.size+1) {s with heap:=h₁,toks:=s.toks} (upd H s.heap.objs.size (.lst [])) fp (X.pn++pins)).ex;refine wpAny_mono (TO1 _ s3 _ H3 xv u (λσ' H'=>H'=H3∧∃vx,DenL (kx X) G3 dx vx∧vx.length=xs.length∧σ'=j5 σ ix (vx.map some)) I3' r3 (TO2 hos e3.gh dn htd λvx dl hv=>⟨rfl,vx,dl,hv,rfl⟩)) (λ_ s4 ⟨σ4,H4,I4,e4,vx,dlx,hvx,e5⟩=>?_) λ_ _ q=>q.elim;subst e4 e5;have R4:EnvR (kx X) B G3 H4 (j5 σ ix (vx.map some)) (dx.map Sl.pu++om ix δ):=Od (R.ext x3) O.ixd dlx;have next:∀{s5:Shared}{H5:Hp}{G5:Hp}{us:List V}{ws:List D},Inv (jc X scope cl (xs++M) xs (s.heap.objs.size+1) {s with heap:=h₁,toks:=s.toks} (upd H s.heap.objs.size (.lst [])) fp (X.pn++pins)) ([]++Ah fp s3.heap) (j5 σ ix (vx.map some)) H5 s5→
     H5 s.heap.objs.size=some (.lst us)→G5 s.heap.objs.size=none→Ext G H G5 H5→DenL (kx X) G5 ws us→ws=zs++oy.toList→
     ∃m,m<ds.length - i∧∃i os H1 G1 vs zs ft,os.length=xs.length∧m=ds.length - i∧i≤ds.length∧Inv (jc X scope cl (xs++M) xs (s.heap.objs.size+1) {s with heap:=h₁,toks:=s.toks} (upd H s.heap.objs.size (.lst [])) fp (X.pn++pins)) [] (j5 σ ix os) H1 s5∧tn i s5.heap∧(∀b∈fp,H1 b=none)∧
      H1 s.heap.objs.size=some (.lst vs)∧G1 s.heap.objs.size=none∧Ext G H G1 H1∧DenL (kx X) G1 zs vs∧zs.length≤i∧lz f (ds.drop i)=some ft∧ys=zs++ft:=λ{s5 H5 G5 us ws} I5 ha5 ga5 x5 dl5 ew=>by
    refine⟨ds.length - (i+1),by omega,i+1,vx.map some,H5,G5,us,ws,rest2,by rw[kA2];exact hvx,rfl,hlt,I5.unpinned,T.keep _ _ _ st3 λb hb ob e=>(I5.pin (b,ob) (kB0 _ (kB0 _ (sv hb e)))).1,λb hb=>?_,ha5,ga5,x5,dl5,?_,er2,?_⟩
    ·obtain⟨ob,e,d⟩:=T.obj _ _ st3 b hb;exact(I5.pin (b,ob) (kB0 _ (kB0 _ (sv hb e)))).2.1
    ·rw[ew,kAf];have:oy.toList.length≤1:=by cases oy<;>simp
     omega
    ·rw[ew,List.append_assoc];exact eys
   have val:∀{s5:Shared}{H5 G5:Hp},Inv (jc X scope cl (xs++M) xs (s.heap.objs.size+1) {s with heap:=h₁,toks:=s.toks} (upd H s.heap.objs.size (.lst [])) fp (X.pn++pins)) ([]++Ah fp s3.heap) (j5 σ ix (vx.map some)) H5 s5→Ext G3 H4 G5 H5→∀y,g (dx.map Sl.pu++om ix δ)=.ok y→oy=some y→
     wpAny (model X.prog X.w) X.A (eval elt (compEnvC scope cl (s.heap.objs.size+1) X.env)) (λxx s₄=>
       wpAny (model X.prog X.w) X.A (call (.builtin "list.append") [.ref s.heap.objs.size,xx]) (λ_ s₅=>∃m,m<ds.length - i∧∃i os H1 G1 vs zs ft,os.length=xs.length∧m=ds.length - i∧i≤ds.length∧Inv (jc X scope cl (xs++M) xs (s.heap.objs.size+1) {s with heap:=h₁,toks:=s.toks} (upd H s.heap.objs.size (.lst [])) fp (X.pn++pins)) [] (j5 σ ix os) H1 s₅∧tn i s₅.heap∧(∀b∈fp,H1 b=none)∧
      H1 s.heap.objs.size=some (.lst vs)∧G1 s.heap.objs.size=none∧Ext G H G1 H1∧DenL (kx X) G1 zs vs∧zs.length≤i∧lz f (ds.drop i)=some ft∧ys=zs++ft) (λ_ _=>False) s₄) (λ_ _=>False) s5:=λ{s5 H5 G5} I5 e5 y eg eo=>by
     refine wpAny_mono (Bk.elt _ _ _ _ _ _ s5 _ H5 (λv H6=>∃G6,Ext G5 H5 G6 H6∧Den (kx X) G6 y v) I5 ⟨G5,_,R4.ext e5,ResP.ok0 y eg λv G6 H6 e6 d6=>⟨G6,e6,d6⟩⟩) (λxx s6 ⟨v6,H6,I6,r6,G6,e6,d6⟩=>?_) λ_ _ q=>q;have e56:=e5.trans e6;have ha6:H6 s.heap.objs.size=some (.lst vs):=e56.hh _ _ ha3;have ga6:G6 s.heap.objs.size=none:=e56.fr _ _ ha3 ga3 rfl;refine wpAny_mono (G9 (X:=jc X scope cl (xs++M) xs (s.heap.objs.size+1) {s with heap:=h₁,toks:=s.toks} (upd H s.heap.objs.size (.lst [])) fp (X.pn++pins)) _ s6 _ H6 (.ref s.heap.objs.size) [v6] (.ref s.heap.objs.size) [xx] (λ_ H7=>H7=upd H6 s.heap.objs.size (.lst (vs++[v6]))) I6 rfl (.cons r6 .nil) ⟨_,vs,v6,rfl,rfl,ha6,?_,rfl⟩) (λ_ s7 ⟨_,H7,I7,_,e7⟩=>?_) λ_ _ q=>q
     ·have:=dl1.length;omega
     ·subst e7;exact next I7 d8 ga6 ((x3.trans e56).wr ga6 fresh) ((dl1.mono (e3.gg.trans e56.gg)).append (DenL.one d6)) (by rw[eo];rfl)
   have noE:∀{F:Value→Shared→Prop}(v:Value)(s':Shared),False→F v s':=λ_ _ f=>f.elim;rcases Bk.test with ⟨rfl,rfl⟩|⟨c,rfl,ht⟩
   ·refine wpAny_tests_nil ?_;rcases hor with ⟨_,y,eg,eo⟩|⟨hb,_⟩
    ·exact wpAny_mono (val I4 (Ext.refl R4.gh) y eg eo) (λxx s6 q6=>wpAny_mono q6 (λ_ _ q=>q) noE) noE
    ·cases hb
   ·refine wpAny_tests_one ?_;rcases hor with ⟨et,y,eg,eo⟩|⟨et,eo⟩
    ·refine wpAny_mono (ht _ _ _ _ _ _ s4 _ H4 (λb H6=>b=true∧∃G6,Ext G3 H4 G6 H6) I4 ⟨G3,_,R4,ResP.ok0 (.bl true) et ⟨true,rfl,λG6 H6 e6=>⟨rfl,G6,e6⟩⟩⟩) (λb s6 ⟨H6,I6,eb,G6,e6⟩=>?_) noE;subst eb;exact wpAny_mono (val I6 e6 y eg eo) (λxx s7 q7=>wpAny_mono q7 (λ_ _ q=>q) noE) noE
    ·refine wpAny_mono (ht _ _ _ _ _ _ s4 _ H4 (λb H6=>b=false∧∃G6,Ext G3 H4 G6 H6) I4 ⟨G3,_,R4,ResP.ok0 (.bl false) et ⟨false,rfl,λG6 H6 e6=>⟨rfl,G6,e6⟩⟩⟩) (λb s6 ⟨H6,I6,eb,G6,e6⟩=>?_) noE;subst eb;show∃m,m<_∧_;exact next I6 (e6.hh _ _ ha3) (e6.fr _ _ ha3 ga3 rfl) (x3.trans e6) (dl1.mono (e3.gg.trans e6.gg)) (by rw[eo];simp)
  ·have hz2:i=ds.length:=by omega
   subst hz2;rw[List.drop_length]at er;have er':ft=[]:=by cases er;rfl
   subst er';rw[List.append_nil]at eys;subst eys;refine wpAny_mono (T.done (jc X scope cl (xs++M) xs (s.heap.objs.size+1) {s with heap:=h₁,toks:=s.toks} (upd H s.heap.objs.size (.lst [])) fp (X.pn++pins)) rfl rfl rfl hc _ [] s1 _ H1 _ I1 (hfC fr1) st1 (oks (kA1 _))) (λrr s2 ⟨hr,I2⟩=>?_) λ_ _ q=>q;subst hr;obtain⟨m2,hm2,_⟩:=I2.loc;have u1:Un (Bo X.stack) fp H (upd H s.heap.objs.size (.lst [])) s.heap h₁:=Un.laid hk (kA1 _) fresh;have u2:Un (Bo X.stack) fp (upd H s.heap.objs.size (.lst [])) H1 h₁ s2.heap:=I2.base;have IX:Inv X pins σ H1 s2:=I.call' I2.os (u1.trans u2) I2.hok I2.bare λb hb=>by
    obtain⟨f0,f1,f2,f3,f4,f5⟩:=hf b hb;exact⟨f3,f1,f4,f5⟩
   exact fin s2 H1 G1 vs m2 IX hm2 I2.free x1 ga1 ha1 dl1
 exact codeAny_compStart_list loop (T.self _ 0 _ _ _ (T.keep 0 _ _ st (λb _ o e=>hk2 b o (hk b o e))) loop)
theorem zcu{f:En→D→Option (Option D)}(O:CompOk X scope cl xs M ix)(hc:X.calm=true)(Bk:BlockOk X B E scope cl xs M tg td elt ifs t g)(hF:∀δ,F9 td (om ix δ) t g (f δ))(hi:Tg X B E tg iter r)
  (hs:∀x,foldedSetIterable iter X.env x=pure x:=by intro _;rfl):OwE X B E (.ListComp elt [⟨tg,iter,ifs,0⟩] scope pos) (oq r f):=by
 intro pins s σ H Q I q;rw[eval_ListComp];obtain⟨G,δ,R,q⟩:=q;refine wpAny_comprehension_free (use:=none) rfl hs (we O.clos) O.kind O.names ?_;refine wpAny_mono (hi pins s σ H (λJ H1=>∃G1 ds ys,Ext G H G1 H1∧Bf (kx X) J ds (λG2 H2=>Ext G1 H1 G2 H2)∧ds.length≤sizeLine∧lz (f δ) ds=some ys∧
  ∀a vs G' H',Ext G H G' H'→H a=none→G' a=none→H' a=some (.lst vs)→DenL (kx X) G' ys vs→Q (.ref a) H') I
  ⟨G,δ,R,(zey q).mono λds _ ⟨hl,ys,ey,ds',ed,q⟩ J G1 H1 e1 ok=>⟨G1,ds,ys,e1,ok,hl,ey,by cases ed;exact q⟩⟩) (λv s1 h1=>wpAny_mono h1 (λitv s2 h2=>?_) λ_ _ e=>e) λ_ _ e=>e
 obtain⟨it,fp,tn,J,H1,rfl,I1,T,st,hf,G1,ds,ys,e1,ok,hl,ey,q⟩:=h2;refine La (RR:=λacc C=>compPost (model X.prog X.w) X.A X.xe none (EP X pins σ Q) acc C) O hc Bk I1 T st hf (R.ext e1) ok hl (hF δ) ey ?_;intro s3 H3 G3 vs m I3 hm hC e3 g3 h3 dl;refine⟨m,hm,λh' hs'=>⟨.ref s2.heap.objs.size,H3,?_,rfl,q _ vs G3 H3 (e1.trans e3) (ik e1.hh (I1.hok.fresh (kA1 _))) g3 h3 dl⟩⟩;have hsz:s2.heap.objs.size≤s2.heap.objs.size+1:=Nat.le_succ _;refine I3.turned (t':=s3.toks) (it:=s2.heap.objs.size+1) (λb o hb e=>hs'.extBut b o hb e) hC ?_ (.inr (kAk I1.sz hsz)) ?_ ?_
 ·exact λz=>absurd (kAp I1.lt (kAk hsz (Nat.le_of_eq z))) (kAu _)
 ·intro y c hc' z;obtain⟨v',q'⟩:=I1.cell y c hc';exact absurd (kAp q'.lt (kAk hsz (Nat.le_of_eq z.symm))) (kAu _)
 ·intro p hp z;exact absurd (kAp (Heap.lt_size (I1.pin p hp).1) (kAk hsz (Nat.le_of_eq z.symm))) (kAu _)
end
section
variable{K:KA}
theorem zb2{d:D}{t:String}(h:tyD d=some t):PySem.W.kitOne K (.type t) (.type "int")=some (isT t "int"):=by cases d<;>cases h<;>rfl
theorem Xx{d:D}{t:String}(h:tyD d=some t):PySem.W.kitOne K (.type t) (.type "bool")=some (isT t "bool"):=by cases d<;>cases h<;>rfl
theorem zb3{d:D}{t:String}(h:tyD d=some t):PySem.W.kitOne K (.type t) (.type "str")=some (isT t "str"):=by cases d<;>cases h<;>rfl
theorem Xy{d:D}{t:String}(h:tyD d=some t):PySem.W.kitOne K (.type t) (.type "list")=some (isT t "list"):=by cases d<;>cases h<;>rfl
theorem Ui{d:D}{t:String}(h:tyD d=some t):PySem.W.kitOne K (.type t) (.type "tuple")=some (isT t "tuple"):=by cases d<;>cases h<;>rfl
end
section
variable{X:Cx}{B:Hp}{E:EK}{e a b:Expr}{es:List Expr}{g h:En→Res}{pos:Pos}
def zkc(K:KA)(c:String):Prop:=∀{d:D}{t:String},tyD d=some t→PySem.W.kitOne K (.type t) (.type c)=some (isT t c)
noncomputable def zo4(K:KA)(c:String):List V→Hp→VK→Prop:=λxs H Q=>∃G d x t,xs=[x,.ty c]∧Same G H∧Arg K G H d x∧tyD d=some t∧Q (.bl (isT t c)) H
theorem Wg{c:String}(hk:zkc (kx X) c):CallR X (.builtin "isinstance") (zo4 (kx X) c):=by
 intro pins s σ H xs us Q I r q;obtain⟨G,d,x,t,rfl,sg,ax,et,q⟩:=q;obtain⟨u,u2,rfl,ru,ru2⟩:=zm4 r;cases ru2;have e:=hk et;have fin:∀tk,EP X pins σ Q (.bool (isT t c)) {s with toks:=tk}:=λtk=>⟨.bl (isT t c),H,I.tok tk,rfl,q⟩;cases d with
 |non=>
  cases et;rw[ax.non]at ru;cases ru;exact PySem.W.kia_one PySem.W.kitx_none I.kIn True.intro e (λz=>nomatch z) fin
 |bl y=>
  cases et;rw[ax.bl]at ru;cases ru;exact PySem.W.kia_one PySem.W.kitx_bool I.kIn True.intro e (λz=>nomatch z) fin
 |int i=>
  cases et;rw[ax.int]at ru;obtain⟨t,rfl⟩:=ru;exact PySem.W.kia_one PySem.W.kitx_int I.kIn True.intro e (λz=>nomatch z) fin
 |str y=>
  cases et;rw[ax.str]at ru;obtain⟨t,rfl⟩:=ru;exact PySem.W.kia_one PySem.W.kitx_str I.kIn True.intro e (λz=>nomatch z) fin
 |tup ds=>
  cases et;obtain⟨l,vs,rfl,sq,dl⟩:=ax.tup sg;cases ru;obtain⟨its,rv,⟨o,ho,hc,n,hd⟩,_⟩:=I.tuple sq;exact PySem.W.kia_one PySem.W.kitx_tuple I.kIn ⟨o,ho,hc⟩ e (λz=>nomatch z) fin
 |lst ds=>
  cases et;obtain⟨l,vs,rfl,sq,dl⟩:=ax.lst sg;cases ru;obtain⟨its,rv,pl,_⟩:=I.list sq;obtain⟨o,ho,hc,_⟩:=pl.isList;exact PySem.W.kia_one PySem.W.kitx_list I.kIn ⟨o,ho,hc⟩ e (λz=>nomatch z) fin
 |dct tt kvs=>
  cases et;have key:∃a,x=.ref a∧((∃es,H a=some (.dK es))∨∃es,H a=some (.dT es)):=by
   rcases ax with ⟨a,h1,h2⟩|⟨_,_,_,z,_⟩|⟨t',kvs',a,z,h1,h2⟩
   ·exact⟨a,h1,h2.elim (λ⟨_,es,q,_⟩=>.inl ⟨es,sg _ _ q⟩) λ⟨_,es,q,_⟩=>.inr ⟨es,sg _ _ q⟩⟩
   ·cases z
   ·exact⟨a,h1,h2.elim (λ⟨_,es,q,_⟩=>.inl ⟨es,q⟩) λ⟨_,es,q,_⟩=>.inr ⟨es,q⟩⟩
  obtain⟨a,rfl,h2⟩:=key;cases ru;rcases h2 with ⟨es,ea⟩|⟨es,ea⟩
  ·obtain⟨_,_,vs,_,p⟩:=(show ObjOk X.prog X.w H s.heap a (.dK es)from I.hok a _ ea);obtain⟨o,es',ep,h1,h2,_⟩:=p;exact PySem.W.kia_one PySem.W.kitx_dict I.kIn ⟨o,h1,h2.1⟩ e (λz=>nomatch z) fin
  ·obtain⟨_,_,xs,_,o,es',ep,h1,h2,_⟩:=(show ObjOk X.prog X.w H s.heap a (.dT es)from I.hok a _ ea);exact PySem.W.kia_one PySem.W.kitx_dict I.kIn ⟨o,h1,h2.1⟩ e (λz=>nomatch z) fin
 |obj _ _=>cases et
 |fn _=>cases et
theorem D9{c:String}{x:Str}{p p2:Pos}(hk:zkc (kx X) c)(hg:Gl X "isinstance")(hm:X.mg "isinstance"=none)(hg2:Gl X x)(hm2:X.mg x=none)(hv2:bootBuiltins x=some (.type c))(ha:lx X B E e g)
  (hn2:x≠"__name__":=by decide)(hd2:(x==("__debug__":Str))=false:=by decide)
  (he:starEach [e,.Name x p2] X.env=(false,eval e X.env)::starEach [.Name x p2] X.env:=by rfl) (he2:starEach [.Name x p2] X.env=(false,eval (.Name x p2) X.env)::starEach [] X.env:=by rfl) (hpl:(backTo pos (starEach [.Name x p2] X.env)).any (·.1)=false:=by rfl):
  ji X B E (.Call (.Name "isinstance" p) [e,.Name x p2] [] pos) (g1 (cq c) g):=
 PE.imp (yj (Wg hk) hg hm boot_isinstance (yi ha (yi (zcv (v:=.ty c) hg2 hm2 hv2 rfl hn2 hd2) Pz he2) he) (by decide) (by decide) he hpl) λσ H Q ⟨G,δ,R,q⟩=>⟨G,δ,R,(ResP.bind q).mono λdx _ qx x G1 H1 e1 ax=>by
  obtain⟨d,ed,qd⟩:=ResP.of qx;unfold cq at ed;cases et:tyD dx with
  |none=>rw[et]at ed;cases ed
  |some t=>
   rw[et]at ed;cases ed;exact⟨G1,dx,x,t,rfl,e1.gh,ax,et,qd _ G1 H1 e1 rfl⟩⟩
noncomputable def A7(d:D):D→Option Bool
 |.lst xs=>match gw xs,ij d with
  |some ps,some q=>if PyData.canLayAll0 ps && SeqAt.shaped q then some (ps.any λy=>PyData.eqv y q)else none
  |_,_=>none
 |.tup xs=>match gw xs,ij d with
  |some ps,some q=>if PyData.canLayAll0 ps && SeqAt.shaped q then some (ps.any λy=>PyData.eqv y q)else none
  |_,_=>none
 |.str z=>match d with
  |.str x=>some (!(Builtin.Str.occurrences z x 0 z.length 1).isEmpty)
  |_=>none
 |_=>none
noncomputable def M9(d e:D):Option D:=(A7 d e).map .bl
noncomputable def i8(d e:D):Option D:=(A7 d e).map λb=>.bl !b
theorem B8{d:D}{xs:List D}{b:Bool}(h:(match gw xs,ij d with
  |some ps,some q=>if PyData.canLayAll0 ps && SeqAt.shaped q then some (ps.any λy=>PyData.eqv y q)else none
  |_,_=>none)=some b):∃ps q,gw xs=some ps∧ij d=some q∧PyData.canLayAll0 ps=true∧SeqAt.shaped q=true∧b=ps.any λy=>PyData.eqv y q:=by
 cases e1:gw xs with
 |none=>rw[e1]at h;cases h
 |some ps=>
  cases e2:ij d with
  |none=>rw[e1,e2]at h;cases h
  |some q=>
   rw[e1,e2]at h;dsimp only at h
   by_cases hs:(PyData.canLayAll0 ps && SeqAt.shaped q)=true
   ·rw[if_pos hs]at h;cases h;rw[kA4]at hs;exact⟨ps,q,rfl,rfl,hs.1,hs.2,rfl⟩
   ·rw[if_neg hs]at h;cases h
noncomputable def zdo(K:KA)(neg:Bool):R2:=λx y H Q=>∃G dx dy b,Same G H∧Arg K G H dx x∧Arg K G H dy y∧A7 dx dy=some b∧Q (.bl (if neg then !b else b)) H
theorem zhl(hu:X.A.units+65<cLine):OpR X (compareOp .In) (zdo (kx X) false):=by
 intro pins s σ H x y v u Q I rx ry q;obtain⟨G,dx,dy,b,sg,ax,ay,eb,q⟩:=q;cases dy with
 |lst xs=>
  obtain⟨ps,p,e1,e2,s1,s2,rfl⟩:=B8 eb;obtain⟨as,ra⟩:=i6 I sg ax rx e2;obtain⟨bs,rb⟩:=i6 (p:=.list ps) I sg ay ry (by unfold ij;rw[e1]);exact SeqAt.in_list_reads rb ra s1 (SeqAt.canLay_of_shaped s2) (room_in_shaped s2 hu) ⟨.bl _,H,I,rfl,q⟩
 |tup xs=>
  obtain⟨ps,p,e1,e2,s1,s2,rfl⟩:=B8 eb;obtain⟨as,ra⟩:=i6 I sg ax rx e2;obtain⟨bs,rb⟩:=i6 (p:=.tuple ps) I sg ay ry (by unfold ij;rw[e1]);exact SeqAt.in_tuple_reads rb ra s1 (SeqAt.canLay_of_shaped s2) (room_in_shaped s2 hu) ⟨.bl _,H,I,rfl,q⟩
 |str z=>
  cases dx with
  |str w=>
   cases eb;rw[ax.str]at rx;rw[ay.str]at ry;exact U5 pins s σ H _ _ _ _ Q I rx ry ⟨_,_,rfl,rfl,q⟩
  |_=>cases eb
 |_=>cases eb
theorem U6(hu:X.A.units+65<cLine):OpR X (compareOp .NotIn) (zdo (kx X) true):=by
 intro pins s σ H x y v u Q I rx ry q;obtain⟨G,dx,dy,b,sg,ax,ay,eb,q⟩:=q;cases dy with
 |lst xs=>
  obtain⟨ps,p,e1,e2,s1,s2,rfl⟩:=B8 eb;obtain⟨as,ra⟩:=i6 I sg ax rx e2;obtain⟨bs,rb⟩:=i6 (p:=.list ps) I sg ay ry (by unfold ij;rw[e1]);exact SeqAt.notIn_list_reads rb ra s1 (SeqAt.canLay_of_shaped s2) (room_in_shaped s2 hu) ⟨.bl _,H,I,rfl,q⟩
 |tup xs=>
  obtain⟨ps,p,e1,e2,s1,s2,rfl⟩:=B8 eb;obtain⟨as,ra⟩:=i6 I sg ax rx e2;obtain⟨bs,rb⟩:=i6 (p:=.tuple ps) I sg ay ry (by unfold ij;rw[e1]);exact SeqAt.notIn_tuple_reads rb ra s1 (SeqAt.canLay_of_shaped s2) (room_in_shaped s2 hu) ⟨.bl _,H,I,rfl,q⟩
 |str z=>
  cases dx with
  |str w=>
   cases eb;rw[ax.str]at rx;rw[ay.str]at ry;exact J1 pins s σ H _ _ _ _ Q I rx ry ⟨_,_,rfl,rfl,q⟩
  |_=>cases eb
 |_=>cases eb
theorem zc4:j3 (kx X) M9 (zdo (kx X) false):=λG H x y dx dy d sg ax ay ed Q q=>by
 unfold M9 at ed;cases e:A7 dx dy with
 |none=>rw[e]at ed;cases ed
 |some b=>rw[e]at ed;cases ed;exact⟨G,dx,dy,b,sg,ax,ay,e,q _ G H (Ext.refl sg) rfl⟩
theorem P3:j3 (kx X) i8 (zdo (kx X) true):=λG H x y dx dy d sg ax ay ed Q q=>by
 unfold i8 at ed;cases e:A7 dx dy with
 |none=>rw[e]at ed;cases ed
 |some b=>rw[e]at ed;cases ed;exact⟨G,dx,dy,b,sg,ax,ay,e,q _ G H (Ext.refl sg) rfl⟩
noncomputable def ku:D→Option D
 |.lst ds=>some (.tup ds)
 |.tup ds=>some (.tup ds)
 |_=>none
noncomputable def Hi:D→Option D
 |.int i=>some (.int i)
 |.bl b=>some (.int (if b then 1 else 0))
 |_=>none
theorem Zj{p:Pos}(hg:Gl X "tuple")(hm:X.mg "tuple"=none)(ha:lx X B E e g)(he:starEach [e] X.env=(false,eval e X.env)::starEach [] X.env:=by rfl)(hpl:(backTo pos (starEach [] X.env)).any (·.1)=false:=by rfl):ji X B E (.Call (.Name "tuple" p) [e] [] pos) (g1 ku g):=
 PE.imp (rk Fg hg hm PyProof.Rows.boot_tuple (ju ha ky he) (by decide) (by decide) he hpl) λσ H Q q=>cb1 (λG H x dx d sg ax ed Q q=>by
  unfold ku at ed;split at ed
  ·cases ed;obtain⟨l,vs,rfl,sq,dl⟩:=ax.lst sg;exact⟨l,vs,rfl,.inl ⟨sq,λp hp=>q _ (upd G p (.tup vs)) _ (Ext.new sg _ hp) (oo sg hp dl)⟩⟩
  ·cases ed;have ax':=ax;obtain⟨l,vs,rfl,sq,dl⟩:=ax.tup sg;rcases ax' with ad|⟨_,_,_,z,_⟩|⟨_,_,_,z,_⟩
   ·exact⟨l,vs,rfl,.inr ⟨sq,q _ G H (Ext.refl sg) ad⟩⟩
   ·cases z
   ·cases z
  ·cases ed) q
theorem zdg{p:Pos}(hg:Gl X "int")(hm:X.mg "int"=none)(ha:lx X B E e g)(he:starEach [e] X.env=(false,eval e X.env)::starEach [] X.env:=by rfl)(hpl:(backTo pos (starEach [] X.env)).any (·.1)=false:=by rfl):ji X B E (.Call (.Name "int" p) [e] [] pos) (g1 Hi g):=
 PE.imp (rk Tp hg hm PyProof.Rows.boot_int (ju ha ky he) (by decide) (by decide) he hpl) λσ H Q q=>cb1 (λG H x dx d sg ax ed Q q=>by
  unfold Hi at ed;split at ed
  ·cases ed;rw[ax.int];exact .inl ⟨_,rfl,q _ G H (Ext.refl sg) rfl⟩
  ·cases ed;rw[ax.bl];exact .inr ⟨_,rfl,q _ G H (Ext.refl sg) rfl⟩
  ·cases ed) q
end
section
variable{X:Cx}{G0 B:Hp}{E:EK}{e a b:Expr}{es:List Expr}{g h:En→Res}{pos:Pos}
noncomputable def B2(i:Nat)(g:En→Res):En→Out:=λδ=>match δ[i]? with
 |some (.ow ds)=>(g δ).then λd=>if ds.length<sizeLine then .nx (δ.set i (.ow (ds++[d])))else .st
 |_=>.st
theorem EnvR.owAt{K:KA}{G H:Hp}{σ:St}{δ:En}{i:Nat}{ds:List D}(R:EnvR K B G H σ δ)(h:δ[i]?=some (.ow ds)):∃a vs,σ[i]?=some (some (V.ref a))∧H a=some (.lst vs)∧DenL K G ds vs∧G a=none∧B a=none:=by
 obtain⟨o,q1,a,vs,q2,q3,q4⟩:=R.sl i _ h;subst q2;obtain⟨g,b⟩:=R.own i _ a h rfl q1;exact⟨a,vs,q1,q3,q4,g,b⟩
theorem Zv{i:Nat}{x:Str}{p apos cpos:Pos}(hv:PE X (.Name x p) (F7 i))(ha:ji X B E e g)
  (hbase:attributeBase (.Name x p) "append" X.env (eval (.Name x p) X.env)=eval (.Name x p) X.env:=by rfl)
  (hfew:((backTo cpos (starEach [e] X.env)).all (λx=> !x.1) && (backToKw cpos (keywordEach [] X.env)).all (λx=>x.1.isSome)
   && decide (([e]:List Expr).length+([]:List Keyword).length+(if([]:List Keyword).isEmpty then 0 else 1)<30))=true:=by rfl)
  (hline:(apos.endLine==cpos.line)=true:=by rfl) (hs:starEach [e] X.env=(false,eval e X.env)::starEach [] X.env:=by rfl) (hplain:(backTo cpos (starEach [] X.env)).any (·.1)=false:=by rfl)
  (hsw:swapsWith (.Call (.Attribute (.Name x p) "append" apos) [e] [] cpos) none pos.line X.env=pure false:=by rfl):
  qo X G0 B E (.Expr (.Call (.Attribute (.Name x p) "append" apos) [e] [] cpos) pos) (B2 i g):=
 PS.imp (Cd (Yr PySem.F.plainAttrs_list PySem.F.slot_list_append PySem.F.type_list_append G9 hv (Cn ha ky hs) hbase hfew hline hs hplain) hsw) λD σ H ⟨G,δ,R,ex,q⟩=>by
  unfold B2 at q;cases ed:δ[i]? with
  |none=>rw[ed]at q;exact q.elim
  |some sl=>
   rw[ed]at q;cases sl with
   |ow ds=>
    dsimp only at q;obtain⟨l,vs,q1,q2,q3,q4,q5⟩:=R.owAt ed;refine⟨.ref l,q1,.inl ⟨rfl,vs,SqL.of q2⟩,G,δ,R,?_⟩;have q':=o7 ex q;unfold ae;cases eg:g δ with
    |er c=>rw[eg]at q';exact q'
    |st=>rw[eg]at q';exact q'
    |ok d=>
     rw[eg]at q';have q':OutP (kx X) G0 B E G (if ds.length<sizeLine then .nx (δ.set i (.ow (ds++[d])))else .st) D:=q'
     by_cases hl:ds.length<sizeLine
     ·rw[if_pos hl]at q';intro ws G1 H1 e1 al;obtain⟨d',dr,v,vr,z1,z2,dv,z3,z4⟩:=al;cases z1;subst z2 z4;have h1:=e1.hh _ _ q2;have g1:=e1.fr _ _ q2 q4 rfl;refine⟨l,vs,v,rfl,rfl,h1,by rw[←q3.length];exact hl,?_⟩;exact q' σ G1 _ e1.gg (EnvR.wr (R.ext e1) ed q1 h1 ((q3.mono e1.gg).append (DenL.one dv))) (Ext.wr (ex.trans e1) g1 q5)
     ·rw[if_neg hl]at q';exact q'.elim
   |no=>exact q.elim
   |pu _=>exact q.elim
   |bo _=>exact q.elim
   |od _ _=>exact q.elim
theorem Ln(T:String)(hT:T="list"∨T="tuple")(l:Addr)(items:Array Value)(n:Nat)(b:Addr)(items2:Array Value)(n2:Nat)(dd2:Option Addr)(sl2:Array (Option Value))(hs0:¬(!items.isEmpty && Builtin.List.listTooLong (items.size+items2.size))=true)(hs1:items.size≤sizeLine)(hs2:items.size+items2.size≤sizeLine+1):
  Meets (Builtin.«list.extend» ⟨[.ref l,.ref b],[]⟩) (λ_ R s=>s.heap.get? l=some {cls:=.type "list",dict:=none,data:=.seq items n,slots:=#[]}∧s.heap.get? b=some {cls:=.type T,dict:=dd2,data:=.seq items2 n2,slots:=sl2}∧R (.ok (.ret Value.none)) {s with heap:=s.heap.update l (Obj.mapSeq λx=>x++items2),toks:=s.toks}):=
 .of_wp λprog w A R s h=>by
  obtain⟨hp,g,d,tk,os⟩:=s;obtain⟨hl,hb,h⟩:=h;have f1:=AutoSeq1.idx_int;have f2:=AutoSeq1.sub_tuple_tuple;have f3:=AutoSeq1.sub_list_list;have f4:=AutoSeq1.sub_tuple_list;have f5:=AutoSeq1.sub_list_tuple;have hz':(items++items2).size≤sizeLine+1:=by rw[Array.size_append];exact hs2
  rcases hT with rfl|rfl
  ·wp_walk using(wpAny_updateSeq hl rfl (hz:=hs1) (_hz':=hz')),AutoSeq1.wpAny_loadPart' hl,AutoSeq1.wpAny_loadPart' hb;exact⟨_,rfl,h⟩
  ·wp_walk using(wpAny_updateSeq hl rfl (hz:=hs1) (_hz':=hz')),AutoSeq1.wpAny_loadPart' hl,AutoSeq1.wpAny_loadPart' hb;exact⟨_,rfl,h⟩
noncomputable def zly(K:KA):V→List V→Hp→VK→Prop:=λx vs H Q=>∃l b xs zs,x=.ref l∧vs=[.ref b]∧H l=some (.lst xs)∧(SqL K H b zs∨SqT K H b zs)∧xs.length+zs.length≤sizeLine∧Q .non (upd H l (.lst (xs++zs)))
theorem zce:MtM X "list.extend" (zly (kx X)):=by
 intro pins s σ H x vs v us Q I rx rv h;obtain⟨l,b,xs,zs,rfl,rfl,hH,hB,hz,q⟩:=h;cases rx;obtain⟨u,rfl,ru⟩:=rv.one;cases ru;obtain⟨z,its,n,r,hl,e⟩:=I.lstM hH;have key:∃T its2 n2 dd2 sl2,(T="list"∨T="tuple")∧Vals zs its2∧s.heap.get? b=some {cls:=.type T,dict:=dd2,data:=.seq its2.toArray n2,slots:=sl2}:=by
  rcases hB with hB|hB
  ·obtain⟨its2,r2,pl,_⟩:=I.list hB;obtain⟨⟨cls,dd,data,sl⟩,n2,ho,c,d,q⟩:=pl;simp only at c d q;subst c d q;exact⟨_,its2,n2,_,sl,.inl rfl,r2,ho⟩
  ·obtain⟨its2,r2,pl,_⟩:=I.tuple hB;obtain⟨⟨cls,dd,data,sl⟩,ho,c,n2,q⟩:=pl;simp only at c q;subst c q;exact⟨_,its2,n2,_,sl,.inr rfl,r2,ho⟩
 obtain⟨T,its2,n2,dd2,sl2,hT,r2,e2⟩:=key;have hl2:=r2.length;have hsz:its.toArray.size+its2.toArray.size≤sizeLine:=by rw[kAh,kAh];omega
 have hlong:¬(!its.toArray.isEmpty && Builtin.List.listTooLong (its.toArray.size+its2.toArray.size))=true:=by
  rw[Yh hsz,Bool.and_false];exact kAz
 refine call_meets F.slot_list_extend ⟨_,e,rfl⟩ F.entry_list_extend (F.args_list_extend_2 _ _)
  (Ln T hT l its.toArray n b its2.toArray n2 dd2 sl2 hlong (by rw[kAh];omega) (by omega)) ⟨e,e2,?_⟩
 refine⟨.non,_,I.lset (its':=its++its2) hH e (by simp) (r.append r2) ?_,rfl,q⟩;rw[kAf];omega
noncomputable def yn(i:Nat)(g:En→Res):En→Out:=λδ=>match δ[i]? with
 |some (.ow ds)=>(g δ).then λd=>match xb d with
  |some es=>if ds.length+es.length≤sizeLine then .nx (δ.set i (.ow (ds++es)))else .st
  |none=>.st
 |_=>.st
theorem Zw{i:Nat}{x:Str}{p apos cpos:Pos}(hv:PE X (.Name x p) (F7 i))(ha:lx X B E e g)
  (hbase:attributeBase (.Name x p) "extend" X.env (eval (.Name x p) X.env)=eval (.Name x p) X.env:=by rfl)
  (hfew:((backTo cpos (starEach [e] X.env)).all (λx=> !x.1) && (backToKw cpos (keywordEach [] X.env)).all (λx=>x.1.isSome)
   && decide (([e]:List Expr).length+([]:List Keyword).length+(if([]:List Keyword).isEmpty then 0 else 1)<30))=true:=by rfl)
  (hline:(apos.endLine==cpos.line)=true:=by rfl) (hs:starEach [e] X.env=(false,eval e X.env)::starEach [] X.env:=by rfl) (hplain:(backTo cpos (starEach [] X.env)).any (·.1)=false:=by rfl)
  (hsw:swapsWith (.Call (.Attribute (.Name x p) "extend" apos) [e] [] cpos) none pos.line X.env=pure false:=by rfl):
  qo X G0 B E (.Expr (.Call (.Attribute (.Name x p) "extend" apos) [e] [] cpos) pos) (yn i g):=
 PS.imp (Cd (Yr PySem.F.plainAttrs_list PySem.F.slot_list_extend PySem.F.type_list_extend zce hv (ju ha ky hs) hbase hfew hline hs hplain) hsw) λD σ H ⟨G,δ,R,ex,q⟩=>by
  unfold yn at q;cases ed:δ[i]? with
  |none=>rw[ed]at q;exact q.elim
  |some sl=>
   rw[ed]at q;cases sl with
   |ow ds=>
    dsimp only at q;obtain⟨l,vs,q1,q2,q3,q4,q5⟩:=R.owAt ed;refine⟨.ref l,q1,.inl ⟨rfl,vs,SqL.of q2⟩,G,δ,R,?_⟩;have q':=o7 ex q;unfold ae;cases eg:g δ with
    |er c=>rw[eg]at q';exact q'
    |st=>rw[eg]at q';exact q'
    |ok d=>
     rw[eg]at q';cases ei:xb d with
     |none=>
      have q':OutP (kx X) G0 B E G (match xb d with
       |some es=>if ds.length+es.length≤sizeLine then .nx (δ.set i (.ow (ds++es)))else .st
       |none=>.st) D:=q'
      rw[ei]at q';exact q'.elim
     |some es=>
      have q':OutP (kx X) G0 B E G (match xb d with
       |some es=>if ds.length+es.length≤sizeLine then .nx (δ.set i (.ow (ds++es)))else .st
       |none=>.st) D:=q'
      rw[ei]at q';dsimp only at q'
      by_cases hl:ds.length+es.length≤sizeLine
      ·rw[if_pos hl]at q';intro ws G1 H1 e1 al;obtain⟨v,rfl,av⟩:=ArgsM.one al;have h1:=e1.hh _ _ q2;have g1:=e1.fr _ _ q2 q4 rfl;have key:∃b zs,v=.ref b∧(SqL (kx X) H1 b zs∨SqT (kx X) H1 b zs)∧DenL (kx X) G1 es zs:=by
        cases d with
        |lst ds'=>cases ei;obtain⟨b,zs,z1,z2,z3⟩:=av.lst e1.gh;exact⟨b,zs,z1,.inl z2,z3⟩
        |tup ds'=>cases ei;obtain⟨b,zs,z1,z2,z3⟩:=av.tup e1.gh;exact⟨b,zs,z1,.inr z2,z3⟩
        |_=>cases ei
       obtain⟨b,zs,rfl,sq,dl⟩:=key;have l1:=q3.length;have l2:=dl.length;refine⟨l,b,vs,zs,rfl,rfl,h1,sq,by omega,?_⟩;exact q' σ G1 _ e1.gg (EnvR.wr (R.ext e1) ed q1 h1 ((q3.mono e1.gg).append dl)) (Ext.wr (ex.trans e1) g1 q5)
      ·rw[if_neg hl]at q';exact q'.elim
   |no=>exact q.elim
   |pu _=>exact q.elim
   |bo _=>exact q.elim
   |od _ _=>exact q.elim
end
noncomputable def fq:D→Option ja
 |.int i=>some (.inl i)
 |.str x=>some (.inr x)
 |_=>none
theorem ux(k:ja):fq (kD k)=some k:=by cases k<;>rfl
noncomputable def fg:List (D×D)→ja→Option D
 |[],_=>none
 |(k,d)::r,j=>if fq k=some j then some d else fg r j
noncomputable def T6(kvs:List (D×D))(j:ja):Bool:=kvs.any λp=>decide (fq p.1=some j)
noncomputable def pj(kvs:List (D×D))(j:ja)(v:D):List (D×D):=if T6 kvs j=true then kvs.map (λp=>if fq p.1=some j then(p.1,v)else p)else kvs++[(kD j,v)]
section
variable{K:KA}{G:Hp}
theorem DenK.length:∀{kvs:List (D×D)}{es:List (ja×V)},DenK K G kvs es→kvs.length=es.length
 |[],_,h=>by rw[show _=[]from h];rfl
 |(_,_)::_,_,⟨k,v,r,h1,_,_,h3⟩=>by rw[h1,kA5,kA5,DenK.length h3]
theorem DenK.look:∀{kvs:List (D×D)}{es:List (ja×V)},DenK K G kvs es→∀j,(∀d,fg kvs j=some d→∃v,o8 es j=some v∧Den K G d v)∧(fg kvs j=none→o8 es j=none)
 |[],es,h,j=>by
  rw[show es=[]from h];exact⟨λd e=>(by cases e),λ_=>Nr⟩
 |(k,d)::r,es,h,j=>by
  obtain⟨k',v,t,rfl,rfl,dv,dt⟩:=h;obtain⟨i1,i2⟩:=DenK.look dt j;unfold fg;rw[ux]
  by_cases e:k'=j
  ·subst e;rw[if_pos rfl];exact⟨λd' z=>⟨v,vf rfl,by cases z;exact dv⟩,λz=>by cases z⟩
  ·rw[if_neg (λz=>e (kAi.inj z))];refine⟨λd' z=>?_,λz=>?_⟩
   ·obtain⟨u,q1,q2⟩:=i1 d' z;exact⟨u,(o9 e).trans q1,q2⟩
   ·exact(o9 e).trans (i2 z)
theorem DenK.has:∀{kvs:List (D×D)}{es:List (ja×V)},DenK K G kvs es→∀j,T6 kvs j=es.any λkv=>decide (kv.1=j)
 |[],es,h,j=>by rw[show es=[]from h];rfl
 |(k,d')::r,es,h,j=>by
  obtain⟨k',u,t,rfl,rfl,du,dt⟩:=h;have ih:=DenK.has dt j;unfold T6 at ih⊢;rw[List.any_cons,List.any_cons,ih]
  congr 1
  rw[ux]
  by_cases e:k'=j
  ·simp[e]
  ·rw[decide_eq_false e,decide_eq_false λz=>e (kAi.inj z)]
theorem DenK.repl{d:D}{v:V}(dv:Den K G d v):∀{kvs:List (D×D)}{es:List (ja×V)},DenK K G kvs es→∀j,DenK K G (kvs.map λp=>if fq p.1=some j then(p.1,d)else p) (es.map λkv=>if kv.1=j then(kv.1,v)else kv)
 |[],es,h,j=>by rw[show es=[]from h];rfl
 |(k,d')::r,es,h,j=>by
  obtain⟨k',u,t,rfl,rfl,du,dt⟩:=h;have ih:=DenK.repl dv dt j;rw[kA0,kA0];dsimp only;rw[ux]
  by_cases e:k'=j
  ·rw[if_pos e,if_pos (by rw[e])];exact⟨k',v,_,rfl,rfl,dv,ih⟩
  ·rw[if_neg e,if_neg λz=>e (kAi.inj z)];exact⟨k',u,_,rfl,rfl,du,ih⟩
theorem DenK.snoc{d:D}{v:V}(dv:Den K G d v):∀{kvs:List (D×D)}{es:List (ja×V)},DenK K G kvs es→∀j,DenK K G (kvs++[(kD j,d)]) (es++[(j,v)])
 |[],es,h,j=>by rw[show es=[]from h];exact⟨j,v,[],rfl,rfl,dv,rfl⟩
 |(k,d')::r,es,h,j=>by
  obtain⟨k',u,t,rfl,rfl,du,dt⟩:=h;exact⟨k',u,_,rfl,rfl,du,DenK.snoc dv dt j⟩
theorem DenK.put{d:D}{v:V}(dv:Den K G d v){kvs:List (D×D)}{es:List (ja×V)}(h:DenK K G kvs es)(j:ja):DenK K G (pj kvs j d) (pk es j v):=by
 unfold pj pk;rw[h.has j]
 by_cases e:(es.any λkv=>decide (kv.1=j))=true
 ·rw[if_pos e,if_pos e];exact h.repl dv j
 ·rw[if_neg e,if_neg e];exact h.snoc dv j
end
section
variable{X:Cx}{G0 B:Hp}{E:EK}{e a b:Expr}{es:List Expr}{g h k:En→Res}{pos:Pos}
theorem Arg.dctK{K:KA}{G H:Hp}{kvs:List (D×D)}{v:V}(s:Same G H)(h:Arg K G H (.dct false kvs) v):∃a es,v=.ref a∧H a=some (.dK es)∧DenK K G kvs es:=by
 rcases h with ⟨a,h1,h2⟩|⟨_,_,_,z,_⟩|⟨t',kvs',a,z,h1,h2⟩
 ·rcases h2 with ⟨_,es,q,r⟩|⟨z,_⟩
  ·exact⟨a,es,h1,s _ _ q,r⟩
  ·cases z
 ·cases z
 ·cases z;rcases h2 with ⟨_,es,q,r⟩|⟨z,_⟩
  ·exact⟨a,es,h1,q,r⟩
  ·cases z
noncomputable def Eb(i:Nat):En→Out:=λδ=>.nx (δ.set i (.od false []))
theorem EnvR.setD{K:KA}{G H:Hp}{σ:St}{δ:En}{i:Nat}{a:Addr}(R:EnvR K B G H σ δ)(hn:H a=none):EnvR K B G (upd H a (.dK [])) (σ.set i (some (.ref a))) (δ.set i (.od false [])):=by
 have e:Ext G H G (upd H a (.dK [])):=Ext.own R.gh _ hn;have R':=R.ext e;have gn:G a=none:=ik R.gh hn;have bn:B a=none:=ik R.bh hn;have oth:∀(j:Nat) s,δ[j]?=some s→s.own=true→σ[j]?=some (some (V.ref a))→False:=λj s q1 q2 q3=>by
  obtain⟨o,z1,z2⟩:=R.sl j s q1;rw[q3]at z1;cases z1;obtain⟨a',z,u,z3,_⟩:=z2.ref q2;cases z;rw[hn]at z3;cases z3
 have at_i:∀{s:Sl},(δ.set i (.od false []))[i]?=some s→s=.od false []∧i<δ.length:=λq=>by
  have hl:i<δ.length:=by
   have:=(kAq.mp q).1;rwa [kAo]at this
  rw[kAg hl]at q;cases q;exact⟨rfl,hl⟩
 refine⟨R'.bh,R'.gh,by rw[kAo,kAo];exact R.len,λj s q=>?_,λj s b q1 q2 q3=>?_,λj k s t b q1 q2 q3 q4 q5 q6=>?_,R.gb⟩
 ·by_cases z:i=j
  ·subst z;obtain⟨rfl,hl⟩:=at_i q;exact⟨some (.ref a),kAg (by rw[R.len];exact hl),a,[],rfl,d8,rfl⟩
  ·rw[kAe z]at q⊢;exact R'.sl j s q
 ·by_cases z:i=j
  ·subst z;obtain⟨rfl,hl⟩:=at_i q1;rw[kAg (by rw[R.len];exact hl)]at q3;cases q3;exact⟨gn,bn⟩
  ·rw[kAe z]at q1 q3;exact R'.own j s b q1 q2 q3
 ·by_cases zj:i=j
  ·subst zj;obtain⟨rfl,hl⟩:=at_i q1;rw[kAg (by rw[R.len];exact hl)]at q5;cases q5
   by_cases zk:i=k
   ·exact zk
   ·rw[kAe zk]at q2 q6;exact(oth k t q2 q4 q6).elim
  ·rw[kAe zj]at q1 q5
   by_cases zk:i=k
   ·subst zk;obtain⟨rfl,hl⟩:=at_i q2;rw[kAg (by rw[R.len];exact hl)]at q6;cases q6;exact(oth j s q1 q3 q5).elim
   ·rw[kAe zk]at q2 q6;exact R'.dis j k s t b q1 q2 q3 q4 q5 q6
theorem zi2{i:Nat}{x:Str}{pos' p:Pos}(hs:PS X (.Assign [.Name x pos'] (.Dict [] [] p) pos) (Nn zac (ua i))):qo X G0 B E (.Assign [.Name x pos'] (.Dict [] [] p) pos) (Eb i):=
 PS.imp hs λD σ H ⟨G,δ,R,e,q⟩=>λa ha=>q _ G _ (Same.refl G) (R.setD ha) (e.trans (Ext.own R.gh _ ha))
theorem EnvR.odAt{K:KA}{G H:Hp}{σ:St}{δ:En}{i:Nat}{kvs:List (D×D)}(R:EnvR K B G H σ δ)(h:δ[i]?=some (.od false kvs)):∃a es,σ[i]?=some (some (V.ref a))∧H a=some (.dK es)∧DenK K G kvs es∧G a=none∧B a=none:=by
 obtain⟨o,q1,a,vs,q2,q3,q4⟩:=R.sl i _ h;subst q2;obtain⟨g,b⟩:=R.own i _ a h rfl q1;exact⟨a,vs,q1,q3,q4,g,b⟩
theorem EnvR.wrD{K:KA}{G H:Hp}{σ:St}{δ:En}{i:Nat}{kvs kvs':List (D×D)}{a:Addr}{es es':List (ja×V)}(R:EnvR K B G H σ δ)(hi:δ[i]?=some (.od false kvs))(hs:σ[i]?=some (some (V.ref a)))(ha:H a=some (.dK es))(dl:DenK K G kvs' es'):
  EnvR K B G (upd H a (.dK es')) σ (δ.set i (.od false kvs')):=by
 obtain⟨gn,bn⟩:=R.own i _ a hi rfl hs;have hl:i<δ.length:=(kAq.mp hi).1;have sb:∀{F:Hp},F a=none→Same F H→Same F (upd H a (.dK es')):=λfn s b u q=>by
  rw[bu (d9 q fn)];exact s b u q
 have ownEq:∀{j:Nat}{s:Sl},(δ.set i (.od false kvs'))[j]?=some s→s.own=true→∃s',δ[j]?=some s'∧s'.own=true:=λ{j s} q o=>by
  by_cases z:i=j
  ·subst z;exact⟨_,hi,rfl⟩
  ·rw[kAe z]at q;exact⟨s,q,o⟩
 refine⟨sb bn R.bh,sb gn R.gh,by rw[kAo];exact R.len,λj s q=>?_,λj s b q1 q2 q3=>?_,λj k s t b q1 q2 q3 q4 q5 q6=>?_,R.gb⟩
 ·by_cases z:i=j
  ·subst z;rw[kAg hl]at q;cases q;exact⟨_,hs,a,es',rfl,d8,dl⟩
  ·rw[kAe z]at q;obtain⟨o,z1,z2⟩:=R.sl j s q;refine⟨o,z1,?_⟩;cases s with
   |no=>trivial
   |pu d=>exact z2
   |bo d=>exact z2
   |ow fs=>
    obtain⟨b,us,y1,y2,y3⟩:=z2;have nb:b≠a:=by
     rintro rfl
     rw[ha]at y2;cases y2
    exact⟨b,us,y1,by rw[bu nb];exact y2,y3⟩
   |od t fs=>
    cases t with
    |false=>
     obtain⟨b,us,y1,y2,y3⟩:=z2;have nb:b≠a:=by
      rintro rfl
      subst y1;exact z (R.dis i j _ _ b hi q rfl rfl hs z1)
     exact⟨b,us,y1,by rw[bu nb];exact y2,y3⟩
    |true=>
     obtain⟨b,us,y1,y2,y3⟩:=z2;have nb:b≠a:=by
      rintro rfl
      rw[ha]at y2;cases y2
     exact⟨b,us,y1,by rw[bu nb];exact y2,y3⟩
 ·obtain⟨s',z1,z2⟩:=ownEq q1 q2;exact R.own j s' b z1 z2 q3
 ·obtain⟨s',z1,z2⟩:=ownEq q1 q3;obtain⟨t',y1,y2⟩:=ownEq q2 q4;exact R.dis j k s' t' b z1 y1 z2 y2 q5 q6
theorem sr{K:KA}{G H:Hp}{d:D}{v:V}{k:ja}(h:Arg K G H d v)(e:fq d=some k):v=kV k:=by
 cases d with
 |int i=>cases e;exact h.int
 |str x=>cases e;exact h.str
 |_=>cases e
noncomputable def A9(i:Nat)(gk gv:En→Res):En→Out:=λδ=>match δ[i]? with
 |some (.od false kvs)=>(gv δ).then λv=>(gk δ).then λk=>match fq k with
  |some j=>if kvs.length<sizeLine then .nx (δ.set i (.od false (pj kvs j v)))else .st
  |none=>.st
 |_=>.st
theorem ziy{i:Nat}{x:Str}{p pos':Pos}{kxx vx:Expr}(hu:X.A.units+5<cLine)(hv:PE X (.Name x p) (F7 i))(hk:lx X B E kxx g)(hval:ji X B E vx h)
  (hs:swapsWith vx (some (.Subscript (.Name x p) kxx pos')) pos.line X.env=pure false:=by rfl):qo X G0 B E (.Assign [.Subscript (.Name x p) kxx pos'] vx pos) (A9 i g h):=
 PS.imp (Sk hu hv hk hval hs) λD σ H ⟨G,δ,R,ex,q⟩=>by
  unfold A9 at q;cases ed:δ[i]? with
  |none=>rw[ed]at q;exact q.elim
  |some sl=>
   rw[ed]at q;cases sl with
   |od t kvs=>
    cases t with
    |true=>exact q.elim
    |false=>
     dsimp only at q;obtain⟨l,es,q1,q2,q3,q4,q5⟩:=R.odAt ed;refine⟨G,δ,R,(o7 ex q).mono λdv _ q v G1 H1 e1 dn=>⟨.ref l,q1,G1,δ,R.ext e1,(o7 (K:=(kx X)) (ex.trans e1) (OutP.same e1.gg q)).mono λdk _ q y G2 H2 e2 ay=>?_⟩⟩;have e12:=e1.trans e2;cases ej:fq dk with
     |none=>rw[ej]at q;exact q.elim
     |some j=>
      rw[ej]at q;dsimp only at q
      by_cases hl:kvs.length<sizeLine
      ·rw[if_pos hl]at q;have h2:=e12.hh _ _ q2;have g2:=e12.fr _ _ q2 q4 rfl;rw[sr ay ej];refine⟨l,_,rfl,DPut.k h2 (by rw[←q3.length];exact hl),?_⟩;exact q σ G2 _ e2.gg (EnvR.wrD (R.ext e12) ed q1 h2 ((q3.mono e12.gg).put (dn.mono e2.gg) j)) (Ext.wr (ex.trans e12) g2 q5)
      ·rw[if_neg hl]at q;exact q.elim
   |no=>exact q.elim
   |pu _=>exact q.elim
   |bo _=>exact q.elim
   |ow _=>exact q.elim
noncomputable def p7(d k x:En→Res):En→Res:=λδ=>(d δ).bind λdd=>match dd with
 |.dct false kvs=>(k δ).bind λdk=>(x δ).bind λdx=>match fq dk with
  |some j=>.ok ((fg kvs j).getD dx)
  |none=>.st
 |_=>.st
theorem zde{o ke xe:Expr}{apos cpos:Pos}(hu:X.A.units+5<cLine)(ho:lx X B E o g)(hk:lx X B E ke h)(hx:ji X B E xe k)(m:M2 X o "get" apos ke xe cpos):
  ji X B E (.Call (.Attribute o "get" apos) [ke,xe] [] cpos) (p7 g h k):=
 PE.imp (Yu hu ho hk hx m) λσ H Q ⟨G,δ,R,q⟩=>⟨G,δ,R,(ResP.bind q).mono λdd _ q v G1 H1 e1 av=>by
  cases dd with
  |dct t kvs=>
   cases t with
   |true=>exact q.elim
   |false=>
    obtain⟨l,es,rfl,h1,dl⟩:=Arg.dctK e1.gh av;refine⟨l,rfl,.inl ⟨es,.inl h1⟩,G1,δ,R.ext e1,((ResP.bind q).ext e1).mono λdk _ q y G2 H2 e2 ay=>⟨G2,δ,R.ext (e1.trans e2),((ResP.bind q).ext (e1.trans e2)).mono λdx _ q z G3 H3 e3 dz=>?_⟩⟩;have e13:=(e1.trans e2).trans e3;cases ej:fq dk with
    |none=>rw[ej]at q;exact q.elim
    |some j=>
     rw[ej]at q;have q:∀v G' H',Ext G H G' H'→Den (kx X) G' ((fg kvs j).getD dx) v→Q v H':=q;rw[sr ay ej];have h3:=(e2.trans e3).hh _ _ h1;refine⟨_,DGet.k h3,?_⟩;obtain⟨k1,k2⟩:=(dl.mono (e2.trans e3).gg).look j;cases el:fg kvs j with
     |none=>
      rw[k2 el];rw[el]at q;exact q _ G3 H3 e13 dz
     |some d'=>
      obtain⟨v',z1,z2⟩:=k1 d' el;rw[z1];rw[el]at q;exact q _ G3 H3 e13 z2
  |non=>exact q.elim
  |bl _=>exact q.elim
  |int _=>exact q.elim
  |str _=>exact q.elim
  |tup _=>exact q.elim
  |lst _=>exact q.elim
  |obj _ _=>exact q.elim
  |fn _=>exact q.elim⟩
end
noncomputable def jz:Expr→Bool
 |.Starred _ _=>false
 |_=>true
theorem cj{e:Expr}{es:List Expr}{env:Env}(h:jz e=true):starEach (e::es) env=(false,eval e env)::starEach es env:=by
 cases e<;>first|rfl|cases h
theorem rn:∀{es:List Expr}{env:Env}{pos:Pos},es.all jz=true→(backTo pos (starEach es env)).any (·.1)=false
 |[],_,_,_=>rfl
 |e::es,env,pos,h=>by
  rw[kAm,kA4]at h;rw[cj h.1];show((false||(backTo pos (starEach es env)).any (·.1)))=false;rw[rn h.2];rfl
theorem vc:∀{es:List Expr}{env:Env}{pos:Pos},es.all jz=true→(backTo pos (starEach es env)).all (λx=> !x.1)=true
 |[],_,_,_=>rfl
 |e::es,env,pos,h=>by
  rw[kAm,kA4]at h;rw[cj h.1];show((true && (backTo pos (starEach es env)).all (λx=> !x.1)))=true;rw[vc h.2];rfl
theorem Nj{e f:Expr}{env:Env}{pos:Pos}(h:jz e=true)(h2:jz f=true):backTo pos (starEach [e,f] env)=[(false,eval e env),(false,eval f env)]:=by
 rw[cj h,cj h2];rfl
noncomputable def J4:Expr→Bool
 |.UnaryOp .Not _ _=>false
 |.BoolOp _ _ _=>false
 |.IfExp _ _ _ _=>false
 |.Compare _ _ _ _=>false
 |_=>true
theorem Hg{a:Expr}{env:Env}(h:J4 a=true):∀whole,isTrue a env whole=(do let v ←whole;standAt a.pos;holding [v] (truthy v)):=by
 intro whole;cases a<;>first|rfl|(cases h;done)|skip
 rename_i op x p;cases op<;>first|rfl|cases h
noncomputable def xg:Expr→Bool
 |.Slice _ _ _ _=>false
 |_=>true
theorem U9{b:Expr}(h:xg b=true):Hu b:=by
 intro o i;cases b<;>first|rfl|cases h
noncomputable def nq:Expr→Bool
 |.Set _ _ _=>false
 |_=>true
theorem p9{op:CmpOp}{b:Expr}(h:nq b=true):behindInMarks op b=false:=by
 cases b<;>first|rfl|cases h
theorem s9{e:Expr}{env:Env}(h:nq e=true):∀x,foldedSetIterable e env x=pure x:=by
 intro x;cases e<;>first|rfl|cases h
theorem D1{op op':CmpOp}{b c:Expr}(h:nq c=true):lastMarks [op,op'] [b,c]=false:=p9 h
noncomputable def m7:Expr→Bool
 |.ListComp _ _ _ _=>false
 |.SetComp _ _ _ _=>false
 |.DictComp _ _ _ _ _=>false
 |_=>true
theorem jf{e:Expr}{t:Option Expr}{n:Nat}{env:Env}(h:m7 e=true):swapsWith e t n env=pure false:=by
 cases e<;>first|rfl|cases h
noncomputable def Ab:Expr→Bool
 |.Call _ _ _ _=>false
 |_=>true
theorem A3{o:Expr}{a:Str}{env:Env}{w:Sem Value}(h:Ab o=true):attributeBase o a env w=w:=by
 cases o<;>first|rfl|cases h
end Pu
end
section
namespace L2
open PySem PySem.Spec PyProof.Rows
structure Noted(fr:List Addr)(e:Addr)(h h':Heap):Prop where
 keep:∀b o,b≠e→b∉fr→h.get? b=some o→h'.get? b=some o
 slot:∀b o,b≠e→h.get? b=some o→∃sl,h'.get? b=some {o with slots:=sl}
structure Rec(h:Heap)(e T:Addr)(cls:Value):Prop where
 exc:∃oe vs,h.get? e=some oe∧oe.cls=cls∧oe.data=.fields vs∧vs[1]?=some (.ref T)
 tb:∃oT ts,h.get? T=some oT∧oT.data=.fields ts∧ts[3]?=some .none
 ne:T≠e
section
variable{M:Model}{A:Around}{E:Value→Shared→Prop}{s:Shared}
theorem Mq{base:Heap}{env:Env}{outer:List Env}{L e:Addr}{oe:Obj}{vs:Array Value}{head:Value}{nx:Bool}{Q:Unit→Shared→Prop}
  (hfr:A.frames=some (env::outer))(hl:s.heap.FunFrames base (env::outer))(hf:env.frame=some L)(he:s.heap.get? e=some oe)(hd:oe.data=.fields vs)(hsz:1<vs.size)
  (h:∀h' T,s.heap.objs.size≤T→Noted (Bo (env::outer)) e s.heap h'→Rec h' e T oe.cls→Q () {s with heap:=h'}):
  wpAny M A (do let a ←frameOf env;let pl ←entryPlaceOf L nx;let b ←EntryCells.newEntry head a .none (rawInt L) .none pl;setField (.ref e) 1 b) (λ_ s'=>wpAny M A (setFlight (.ref e) none) Q E s') E s:=by
 have nfr:e∉Bo (env::outer):=λz=>by
  obtain⟨_,u,hu,nf⟩:=hl.mem z;rw[he]at hu;cases hu;exact nf vs hd
 refine wpAny_bind (wpAny_frameOf_fun hfr hl hf λh1 k1=>wpAny_bind (wpAny_entryPlaceOf λpl ipl=>?_));unfold EntryCells.newEntry newFields;refine wpAny_bind (wpAny_newObj_type ?_ (ipl.sizeOk5 _ _ _ _ _));have g1:h1.get? e=some oe:=(k1.2.1 e nfr).trans he;generalize hto:({cls:=Value.type "traceback",dict:=none,data:=.fields ([head,Value.ref L,Value.none,rawInt L,Value.none]++(if pl.isEmpty then kAa 6 Value.none else pl)).toArray}:Obj)=tO;have g2:=Heap.get?_push_of_some (h:=h1) tO g1;refine wpAny_setField g2 hd hsz ?_;have ne:h1.objs.size≠e:=Nat.ne_of_gt (Heap.lt_size g1);have d3:=Obj.data_mapFields hd (·.setIfInBounds 1 (Value.ref h1.objs.size));have g3:=Heap.get?_update_self (Obj.mapFields (·.setIfInBounds 1 (Value.ref h1.objs.size))) g2 (Obj.isFreed_of_fields d3);have hfreed:tO.isFreed=false:=by rw[←hto];rfl
 have t3:=(Heap.get?_update_other (h1.push tO) (Obj.mapFields (·.setIfInBounds 1 (Value.ref h1.objs.size))) (Ne.symm ne)).trans (Heap.get?_push_size h1 hfreed);have dT:∃ts,tO.data=.fields ts∧3<ts.size:=by
  rw[←hto];exact⟨_,rfl,by simp only[kAh,kAf,kA5,List.length_nil]<;>omega⟩
 obtain⟨ts,dT,s3⟩:=dT;unfold setFlight;refine wpAny_bind (wpAny_field g3 d3 (x:=.ref h1.objs.size) (by simp[hsz]) ?_);rw[if_pos (show(Value.ref h1.objs.size !=Value.none)=true by simp)];have all:∀b o,b≠e→h1.get? b=some o→(((h1.push tO).update e (Obj.mapFields (·.setIfInBounds 1 (Value.ref h1.objs.size)))).update h1.objs.size (Obj.mapFields (·.setIfInBounds 3 ((none:Option Addr).elim Value.none λf=>rawInt f)))).get? b=some o:=λb o hb q=>by
  rw[Heap.get?_update_other _ _ (Nat.ne_of_gt (Heap.lt_size q)),Heap.get?_update_other _ _ (Ne.symm hb)];exact Heap.get?_push_of_some _ q
 refine wpAny_setField t3 dT s3 (h _ h1.objs.size (by rw[k1.1];exact kA1 _) ⟨λb o hb hn q=>all b o hb ((k1.2.1 b hn).trans q),λb o hb q=>?_⟩ ⟨⟨_,_,?_,?_,d3,by simp[hsz]⟩,⟨_,_,Heap.get?_update_self _ t3 (Obj.isFreed_of_fields (Obj.data_mapFields dT _)),Obj.data_mapFields dT _,by simp[s3]⟩,ne⟩)
 ·obtain⟨sl,q'⟩:=k1.2.2 b o q;exact⟨sl,all b _ hb q'⟩
 ·rw[Heap.get?_update_other _ _ ne];exact g3
 ·exact Obj.cls_mapFields _ _
theorem zk8{base:Heap}{env:Env}{outer:List Env}{L e:Addr}{oe:Obj}{vs:Array Value}{Q:Unit→Shared→Prop}
  (hfr:A.frames=some (env::outer))(hl:s.heap.FunFrames base (env::outer))(hf:env.frame=some L)(he:s.heap.get? e=some oe)(hd:oe.data=.fields vs)(hsz:1<vs.size)
  (htb:vs[1]?=some .none∨∃T oT ts,vs[1]?=some (.ref T)∧T≠e∧s.heap.get? T=some oT∧oT.data=.fields ts∧ts[3]?=some .none)
  (h:∀h' T,s.heap.objs.size≤T→(∀b o,b≠e→vs[1]?≠some (.ref b)→b∉Bo (env::outer)→s.heap.get? b=some o→h'.get? b=some o)→(∀b o,b≠e→vs[1]?≠some (.ref b)→s.heap.get? b=some o→∃sl,h'.get? b=some {o with slots:=sl})→Rec h' e T oe.cls→Q () {s with heap:=h'}):
  wpAny M A (noteFrame (.ref e) env) (λ_ s'=>wpAny M A (setFlight (.ref e) none) Q E s') E s:=by
 unfold noteFrame;simp only[hf];rcases htb with h1|⟨T,oT,ts,h1,hne,hT,hdT,h3⟩
 ·refine wpAny_bind (wpAny_field he hd h1 ?_);rw[if_neg (by decide)];exact Mq hfr hl hf he hd hsz λh' T a b c=>h h' T a (λb' o q _ r z=>b.keep b' o q r z) (λb' o q _ z=>b.slot b' o q z) c
 ·refine wpAny_bind (wpAny_field he hd h1 ?_);rw[if_pos (show(Value.ref T !=Value.none)=true by simp)];refine wpAny_bind (wpAny_field hT hdT h3 ?_);rw[if_neg (show¬((Value.none==rawInt L)=true) by simp[rawInt])];refine wpAny_bind (wpAny_setField hT hdT (Array.getElem?_eq_some_iff.mp h3).1 ?_);have oth:∀b,b≠T→(s.heap.update T (Obj.mapFields (·.setIfInBounds 3 Value.none))).get? b=s.heap.get? b:=λb hb=>Heap.get?_update_other _ _ (Ne.symm hb);have hrec:∀b o,s.heap.get? b=some o→(∀vs,o.data≠.fields vs)→b≠T:=λb o q nf z=>by rw[z,hT]at q;cases q;exact nf ts hdT
  refine Mq hfr (hl.of_keeps λb o q nf=>⟨o,(oth b (hrec b o q nf)).trans q,rfl⟩) hf ((oth e (Ne.symm hne)).trans he) hd hsz λh' T' a b c=>h h' T' ?_ (λb' o q r z w=>b.keep b' o q z ((oth b' λy=>r (y▸h1)).trans w)) (λb' o q r w=>b.slot b' o q ((oth b' λy=>r (y▸h1)).trans w)) c;exact kAk (Nat.le_of_eq (Heap.size_update ..).symm) a
theorem zkx{base:Heap}{env:Env}{outer:List Env}{L e:Addr}{oe:Obj}{vs:Array Value}{Q:Unit→Shared→Prop}
  (hfr:A.frames=some (env::outer))(hl:s.heap.FunFrames base (env::outer))(hf:env.frame=some L)(he:s.heap.get? e=some oe)(hd:oe.data=.fields vs)(hsz:1<vs.size)
  (htb:vs[1]?=some .none∨∃T oT ts,vs[1]?=some (.ref T)∧T≠e∧s.heap.get? T=some oT∧oT.data=.fields ts∧ts[3]?=some .none)
  (h:∀h' T,s.heap.objs.size≤T→(∀b o,b≠e→vs[1]?≠some (.ref b)→b∉Bo (env::outer)→s.heap.get? b=some o→h'.get? b=some o)→(∀b o,b≠e→vs[1]?≠some (.ref b)→s.heap.get? b=some o→∃sl,h'.get? b=some {o with slots:=sl})→Rec h' e T oe.cls→Q () {s with heap:=h'}):
  wpAny M A (leaving env (.ref e)) Q E s:=by
 unfold leaving;exact wpAny_bind (zk8 hfr hl hf he hd hsz htb h)
end
theorem Ms{P:Program}{w:World}{H:Hp}{h:Heap}{a:Addr}{o:HO}(x:ObjOk P w H h a o):∃u,h.get? a=some u:=by
 cases o with
 |lst xs=>obtain⟨_,_,_,_,e⟩:=x;exact⟨_,e⟩
 |tup xs=>obtain⟨_,_,_,u,e,_⟩:=x;exact⟨_,e⟩
 |dK kvs=>obtain⟨_,_,_,_,o,_,_,e,_⟩:=x;exact⟨_,e⟩
 |dT kvs=>obtain⟨_,_,_,_,o,_,_,e,_⟩:=x;exact⟨_,e⟩
 |set S n=>obtain⟨o,_,_,_,e,_⟩:=x;exact⟨_,e⟩
 |ins C dx fs=>obtain⟨_,_,_,e,_⟩:=x;exact⟨_,e⟩
 |own y=>exact x
 |xd fs=>obtain⟨_,⟨_,_,_,e,_⟩,_⟩:=x;exact⟨_,e⟩
 |rng lo hi=>obtain⟨_,_,_,e⟩:=x;exact⟨_,e⟩
 |frz ob u=>obtain⟨e,_⟩:=x;exact⟨_,e⟩
 |tbl q=>obtain⟨ps,e,_⟩:=x;exact⟨_,e⟩
 |met f y=>exact⟨_,x⟩
 |ext φ=>obtain⟨_,e,_⟩:=x;exact e
theorem Xj{P:Program}{w:World}{H:Hp}{h:Heap}{a:Addr}(x:HOk P w H h)(e:h.get? a=none):H a=none:=by
 cases q:H a with
 |none=>rfl
 |some o=>
  obtain⟨u,z⟩:=Ms (x a o q);rw[e]at z;cases z
structure ExAt(h0 h:Heap)(H:Hp)(a:Addr)(cls:Value):Prop where
 new:h0.get? a=none
 free:H a=none
 obj:∃oe vs,h.get? a=some oe∧oe.cls=cls∧oe.data=.fields vs∧1<vs.size∧(vs[1]?=some .none∨∃T oT ts,vs[1]?=some (.ref T)∧h0.get? T=none∧T≠a∧H T=none∧h.get? T=some oT∧oT.data=.fields ts∧ts[3]?=some .none)
noncomputable def F8(P:Program)(w:World):Tf:=λouter H s E e s'=>∃a cls H',e=.ref a∧s'.os=s.os∧AllBare s'.gens∧Un (Bo outer) [] H H' s.heap s'.heap∧HOk P w H' s'.heap∧ExAt s.heap s'.heap H' a cls∧E cls none H'
theorem Ag{P:Program}{w:World}{X:Cx}:qm (F8 P w) X E0:=λ_ _ _ _ _ _ _ h=>by
 obtain⟨_,_,_,_,_,_,_,_,_,q⟩:=h;exact q.elim
theorem Hf{P:Program}{w:World}{K:PySem.W.Frag}{mg:Str→Option Value}{base:Heap}{N:List Str}{qual:Str}{scope:Scope}{f:Addr}{cd:Value}{A:Around}{outer:List Env}{s₀:Shared}{H₀:Hp}{E:XK}:
  qm (F8 P w) (zq (F8 P w) P w K mg base N qual scope f cd A outer s₀ H₀ E) E:=λpins σ H s e s' I c=>by
 obtain⟨a,cls,H',rfl,os,bare,un,hok,ex,q⟩:=c;have J:=I.call' os un hok bare (λb z=>absurd z (by simp));obtain⟨oe,vs,he,rfl,hd,hsz,htb⟩:=ex.obj;show wpAny _ _ (leaving _ (.ref a)) _ _ _;have tb:vs[1]?=some .none∨∃T oT ts,vs[1]?=some (.ref T)∧T≠a∧s'.heap.get? T=some oT∧oT.data=.fields ts∧ts[3]?=some .none:=by
  rcases htb with z|⟨T,oT,ts,z1,_,z2,_,z3,z4,z5⟩
  ·exact .inl z
  ·exact .inr ⟨T,oT,ts,z1,z2,z3,z4,z5⟩
 have tbn:∀b,vs[1]?=some (.ref b)→s.heap.get? b=none∧H' b=none:=λb z=>by
  rcases htb with z'|⟨T,oT,ts,z1,z0,z2,zf,z3,z4,z5⟩
  ·rw[z']at z;cases z
  ·rw[z1]at z;cases z;exact⟨z0,zf⟩
 have nox:∀b:Addr,b∉(zq (F8 P w) P w K mg base N qual scope f cd A outer s₀ H₀ E).ex:=λb z=>absurd (show b∈([]:List Addr)from z) (by simp);have nw:∀b,s.heap.get? b=none→s₀.heap.get? b=none:=λb z=>by
  cases r:s₀.heap.get? b with
  |none=>rfl
  |some o=>
   obtain⟨o',r'⟩:=I.base.there b o r (nox b);rw[z]at r';cases r'
 refine zkx J.ok.frames J.stack rfl he hd hsz tb λh' T hT k1 k2 hR=>?_;have old:∀b o,s₀.heap.get? b=some o→b≠a∧vs[1]?≠some (.ref b):=λb o q=>by
  refine⟨λz=>?_,λz=>?_⟩
  ·rw[z,nw a ex.new]at q;cases q
  ·rw[nw b (tbn b z).1]at q;cases q
 have nofr:∀b o,s₀.heap.get? b=some o→b∉Bo outer→b∉Bo (envOfC qual scope s₀.heap.objs.size f cd::outer):=λb o q n z=>by
  rcases kA8.mp (J.stkSub b z)with z|z
  ·have z':b=s₀.heap.objs.size:=z;exact absurd (z'▸Heap.lt_size q) (kAu _)
  ·exact n z
 have jb:Un (Bo outer) [] H₀ H' s₀.heap s'.heap:=J.base;refine⟨a,oe.cls,H',rfl,J.os,bare,⟨λb o q n hb hx=>?_,λb o q n hb hx=>?_,jb.free,λb o q hx=>?_,jb.tups,jb.frzs,jb.tbls⟩,λb o q=>?_,⟨nw a ex.new,ex.free,?_⟩,q⟩
 ·exact k1 b o (old b o q).1 (old b o q).2 (nofr b o q hb) (jb.keep b o q n hb hx)
 ·obtain⟨sl,e1⟩:=jb.slot b o q n hb hx;obtain⟨sl',e2⟩:=k2 b _ (old b o q).1 (old b o q).2 e1;exact⟨sl',e2⟩
 ·obtain⟨o',e1⟩:=jb.there b o q hx;obtain⟨sl,e2⟩:=k2 b o' (old b o q).1 (old b o q).2 e1;exact⟨_,e2⟩
 ·refine(hok b o q).stay (λc u hc r=>?_) (λ_ z=>z) λ_ _ z=>z;have tr:∃v,H' c=some v:=by
   rcases hc with rfl|hc
   ·exact⟨o,q⟩
   ·exact⟨_,hc⟩
  obtain⟨v,tr⟩:=tr;refine k1 c u (λz=>?_) (λz=>?_) (λz=>?_) r
  ·rw[z,ex.free]at tr;cases tr
  ·rw[(tbn c z).2]at tr;cases tr
  ·rw[J.stkFree c z]at tr;cases tr
 ·obtain⟨⟨oe',vs',x1,x2,x3,x4⟩,⟨oT,ts,y1,y2,y3⟩,hne⟩:=hR;exact⟨oe',vs',x1,x2,x3,(Array.getElem?_eq_some_iff.mp x4).1,.inr ⟨T,oT,ts,x4,Heap.get?_none_of_le (kAk J.sz hT),hne,hok.fresh hT,y1,y2,y3⟩⟩
theorem zhs{K:PySem.W.Frag}{h:Heap}{mg:Str→Option Value}{x:Str}{C:Addr}{bmB:List Value}{newId:String}(X:K.In h)(hm:mg x=some (.ref C))(q:PySem.W.excIn K C bmB newId=true):OwnCls x C bmB newId mg h:=by
 refine⟨hm,?_⟩;unfold PySem.W.excIn at q;split at q
 ·rename_i dd cd sl ho;split at q
  ·rename_i C' bm k0 k1 k2 k3 n k5 hro hs;simp only[kA4,beq_iff_eq,Bool.not_eq_true']at q;obtain⟨⟨⟨⟨⟨rfl,rfl⟩,hdel⟩,ht⟩,hk⟩,hni⟩:=q;obtain⟨nm,bs,mro,ns,qn,hd,sn,sub,ab,col,del⟩:=cd;dsimp only at hro hdel hk hni;subst hro hdel;obtain⟨l⟩:=sl;obtain rfl:l=[k0,k1,k2,k3,some (.builtin n),k5]:=hs;exact⟨bm,ns,nm,qn,bs,hd,sn,sub,ab,col,dd,k0,k1,k2,k3,k5,_,X _ _ ho,.of_isNs (PySem.W.isNs_of_in X hk),PySem.W.nsMap_none_of_in X hk hni,PySem.W.tail_of_in X ht⟩
  ·cases q
 ·cases q
structure ExBase(bmB:List Value)(newId:String):Prop where
 facts:∃Bn inN bmN B nid initId,ExcBaseFacts Bn newId inN bmN∧bmB.contains (.type Bn)=true∧ExcBaseFacts B nid initId bmB
noncomputable def zjf(C:Addr)(E:XK)(t:TA):TS:=λ_ σ H=>t σ H λvs H1=>vs.length≤sizeLine∧E (.ref C) none H1
theorem Y7{X:Cx}{x:Str}{C:Addr}{bmB:List Value}{newId:String}{E:XK}{e₀:Expr}{ft:List Expr}{t:TA}{np cpos pos:Pos}(hc:X.calm=true)(hg:Gl X x)(hm:X.mg x=some (.ref C))(hx:PySem.W.excIn X.K C bmB newId=true)(B:ExBase bmB newId)
  (hp:qm (F8 X.prog X.w) X E)(ha:PA X (e₀::ft) t)(hdb:(x==("__debug__":Str))=false:=by decide)(he:starEach (e₀::ft) X.env=(false,eval e₀ X.env)::starEach ft X.env:=by rfl)(hpl:(backTo cpos (starEach ft X.env)).any (·.1)=false:=by rfl):
  PS X (.Raise (some (.Call (.Name x np) (e₀::ft) [] cpos)) none pos) (zjf C E t):=by
 intro pins s σ H D I h;obtain⟨Bn,inN,bmN,B',nid,initId,Fn,hBn,FB⟩:=B.facts;obtain⟨tl,N,nm,q,bs,hdct,sn,sub,ab,col,dd,k0,k1,k2,k3,k5,mN,hC,hN,hni,T⟩:=(zhs I.ok.mod.kin hm hx).obj;refine wpAny_Raise_call_subU (C:=C) (nm:=nm) (q:=q) (N:=N) (bs:=bs) (bm:=tl) (hdct:=hdct) (sn:=sn) (sub:=sub) (ab:=ab) (col:=col) (dd:=dd) (k0:=k0) (k1:=k1) (k2:=k2) (k3:=k3) (k5:=k5) Fn hBn FB (mN:=mN) (T.hasType FB.hasBase) (I.ok.hd hc)
  (by rw[he];show(false||(backTo cpos (starEach ft X.env)).any (·.1))=false;rw[hpl];rfl) hni (vq I hg hm ⟨rfl,?_⟩ hdb)
 have h2:=ha cpos pins s σ H _ I h;rw[he]at h2⊢;refine Calls.evalArgs_plain (wpAny_mono h2 (λus s2 ⟨vs,H1,I1,r,hl,qE⟩=>⟨rfl,?_,I1.bk _ _ hC,hN.keeps I1.bk,T.keeps I1.bk,λh' e made=>?_⟩) λ_ _ y=>y)
 ·show us.length≤sizeLine;rw[←r.length];exact hl
 ·obtain⟨tt,ge,_,_⟩:=made.there;refine hp pins σ H1 s2 (.ref e) _ I1 ⟨e,.ref C,H1,rfl,rfl,I1.bare,Un.kept made.keeps,I1.hok.kept made.keeps,⟨made.new,Xj I1.hok made.new,⟨_,_,ge,rfl,rfl,by simp,.inl (by simp)⟩⟩,qE⟩
section
variable{X:Cx}{pins:List (Addr×Obj)}{σ:St}{H:Hp}{s:Shared}
theorem Inv.noted(J:Inv X pins σ H s){h':Heap}(ch:Addr→Prop)(hch:∀b,ch b→X.s₀.heap.get? b=none∧H b=none∧b≠X.env.locals∧(∀x c,X.env.cells.lookup x=some c→c≠b)∧∀p∈X.pn++pins,p.1≠b)
  (k1:∀b o,¬ch b→b∉Bo X.stack→s.heap.get? b=some o→h'.get? b=some o)(k2:∀b o,¬ch b→s.heap.get? b=some o→∃sl,h'.get? b=some {o with slots:=sl}):Inv X pins σ H {s with heap:=h'}:=by
 have nch:∀b o,X.s₀.heap.get? b=some o→¬ch b:=λb o e z=>by rw[(hch b z).1]at e;cases e
 have jz:∀b,b≠X.env.locals→b∉X.fs→b∉Bo X.stack:=λb h1 h2 z=>(kA8.mp (J.stkSub b z)).elim h1 h2;have neL:∀b o,X.s₀.heap.get? b=some o→b≠X.env.locals:=λb o e=>kAd (kAp (Heap.lt_size e) J.ok.above);have cellK:∀x c,X.env.cells.lookup x=some c→∀v,s.heap.IsCell c v→h'.IsCell c v:=λx c e v ⟨o,ho,hd⟩=>by
  obtain⟨sl,q⟩:=k2 c o (λz=>(hch c z).2.2.2.1 x c e rfl) ho;exact⟨_,q,hd⟩
 refine⟨J.ok,J.os,J.bare,⟨λb o e n hb hx=>?_,λb o e n hb hx=>?_,J.base.free,λb o e hx=>?_,J.base.tups,J.base.frzs,J.base.tbls⟩,?_,λx c e=>?_,J.free,J.freeC,λp hp=>?_,λb o q=>?_,J.len⟩
 ·exact k1 b o (nch b o e) (jz b (neL b o e) hb) (J.base.keep b o e n hb hx)
 ·obtain⟨sl,e1⟩:=J.base.slot b o e n hb hx;obtain⟨sl',e2⟩:=k2 b _ (nch b o e) e1;exact⟨sl',e2⟩
 ·obtain⟨o',e1⟩:=J.base.there b o e hx;obtain⟨sl,e2⟩:=k2 b o' (nch b o e) e1;exact⟨_,e2⟩
 ·obtain⟨m,⟨o,es,ep,ho,r⟩,hl⟩:=J.loc;obtain⟨sl,q⟩:=k2 X.env.locals o (λz=>(hch _ z).2.2.1 rfl) ho;refine⟨m,⟨_,es,ep,q,r⟩,λi x v e1 e2 e3=>?_⟩;obtain⟨u,rv,l⟩:=hl i x v e1 e2 e3;refine⟨u,rv,?_⟩;rcases l with l|⟨k,c,e,z⟩
  ·exact .inl l
  ·exact .inr ⟨k,c,e,cellK x c e _ z⟩
 ·obtain⟨v,z⟩:=J.cell x c e;exact⟨v,cellK x c e v z⟩
 ·obtain⟨a1,a2,a3,a4,a5⟩:=J.pin p hp;exact⟨k1 p.1 p.2 (λz=>(hch _ z).2.2.2.2 p hp rfl) (jz _ a3 a4) a1,a2,a3,a4,a5⟩
 ·refine(J.hok b o q).stay (λc u hc r=>?_) (λ_ z=>z) λ_ _ z=>z;have tr:∃v,H c=some v:=by
   rcases hc with rfl|hc
   ·exact⟨o,q⟩
   ·exact⟨_,hc⟩
  obtain⟨v,tr⟩:=tr;refine k1 c u (λz=>?_) (λz=>?_) r
  ·rw[(hch c z).2.1]at tr;cases tr
  ·rw[J.stkFree c z]at tr;cases tr
noncomputable abbrev Cx.marked(X:Cx)(a:Addr):Cx:={X with A:=X.A.mark (some (.ref a)),calm:=false}
theorem Cx.Ok.marked(ok:X.Ok)(a:Addr):(X.marked a).Ok:=
 ⟨ok.mod,ok.kind,ok.glob,ok.blt,ok.above,ok.inj,ok.has,ok.cab,λz=>absurd (show false=true from z) (by decide),ok.frames,ok.stk,ok.exf,ok.bs,ok.bsz,ok.noex,ok.exfs,ok.funs,ok.frf⟩
theorem Inv.marked(I:Inv X pins σ H s)(a:Addr):Inv (X.marked a) pins σ H s:=⟨I.ok.marked a,I.os,I.bare,I.base,I.loc,I.cell,I.free,I.freeC,I.pin,I.hok,I.len⟩
theorem Inv.unmarked{a:Addr}(ok:X.Ok)(I:Inv (X.marked a) pins σ H s):Inv X pins σ H s:=⟨ok,I.os,I.bare,I.base,I.loc,I.cell,I.free,I.freeC,I.pin,I.hok,I.len⟩
theorem ExAt.tb{h0 h:Heap}{H:Hp}{a:Addr}{cls:Value}(x:ExAt h0 h H a cls):∃oe vs,h.get? a=some oe∧oe.cls=cls∧oe.data=.fields vs∧1<vs.size∧(vs[1]?=some .none∨∃T oT ts,vs[1]?=some (.ref T)∧T≠a∧h.get? T=some oT∧oT.data=.fields ts∧ts[3]?=some .none)∧∀b,vs[1]?=some (.ref b)→h0.get? b=none∧H b=none:=by
 obtain⟨oe,vs,he,hc,hd,hsz,htb⟩:=x.obj;refine⟨oe,vs,he,hc,hd,hsz,?_,λb z=>?_⟩
 ·rcases htb with z|⟨T,oT,ts,z1,_,z2,_,z3,z4,z5⟩
  ·exact .inl z
  ·exact .inr ⟨T,oT,ts,z1,z2,z3,z4,z5⟩
 ·rcases htb with z'|⟨T,oT,ts,z1,z0,z2,zf,z3,z4,z5⟩
  ·rw[z']at z;cases z
  ·rw[z1]at z;cases z;exact⟨z0,zf⟩
theorem Inv.young{H1:Hp}{s1:Shared}(I:Inv X pins σ H1 s1)(hx:X.ex=[]){b:Addr}(z:s1.heap.get? b=none):X.s₀.heap.get? b=none∧b≠X.env.locals∧(∀x c,X.env.cells.lookup x=some c→c≠b)∧∀p∈X.pn++pins,p.1≠b:=by
 refine⟨?_,?_,λx c e y=>?_,λp hp y=>?_⟩
 ·cases r:X.s₀.heap.get? b with
  |none=>rfl
  |some o=>
   obtain⟨o',r'⟩:=I.base.there b o r (by rw[hx];simp);rw[z]at r';cases r'
 ·rintro rfl
  obtain⟨m,⟨o,es,ep,ho,r⟩,hl⟩:=I.loc;rw[z]at ho;cases ho
 ·subst y;obtain⟨v,o,ho,_⟩:=I.cell x c e;rw[z]at ho;cases ho
 ·subst y;rw[(I.pin p hp).1]at z;cases z
theorem zgc{H1 H':Hp}{s1 s':Shared}{a:Addr}{cls:Value}{Q:Unit→Shared→Prop}{E:Value→Shared→Prop}(hstk:X.stack=X.env::X.outer)(hfr:X.env.frame=some X.env.locals)(hx:X.ex=[])(I:Inv X pins σ H1 s1)(J:Inv X pins σ H' s')(un:Un (Bo X.stack) [] H1 H' s1.heap s'.heap)(ex:ExAt s1.heap s'.heap H' a cls)
  (h:∀h',Inv X pins σ H' {s' with heap:=h'}→ExAt s1.heap h' H' a cls→Q () {s' with heap:=h'}):
  wpAny (model X.prog X.w) X.A (noteFrame (.ref a) X.env) (λ_ s2=>wpAny (model X.prog X.w) X.A (setFlight (.ref a) none) Q E s2) E s':=by
 obtain⟨oe,vs,he,rfl,hd,hsz,tb,tbn⟩:=ex.tb;have fr:=J.ok.frames;have st:=J.stack;rw[hstk]at fr st;refine zk8 fr st hfr he hd hsz tb λh' T hT k1 k2 hR=>h h' ?_ ?_
 ·refine J.noted (λb=>b=a∨vs[1]?=some (.ref b)) (λb hb=>?_) (λb o hb hn q=>k1 b o (λz=>hb (.inl z)) (λz=>hb (.inr z)) (by rw[←hstk];exact hn) q) λb o hb q=>k2 b o (λz=>hb (.inl z)) (λz=>hb (.inr z)) q;rcases hb with rfl|hb
  ·have y:=I.young hx ex.new;exact⟨y.1,ex.free,y.2⟩
  ·have y:=I.young hx (tbn b hb).1;exact⟨y.1,(tbn b hb).2,y.2⟩
 ·obtain⟨⟨oe',vs',x1,x2,x3,x4⟩,⟨oT,ts,y1,y2,y3⟩,hne⟩:=hR;have hz:s1.heap.get? T=none:=by
   cases r:s1.heap.get? T with
   |none=>rfl
   |some o=>
    obtain⟨o',r'⟩:=un.there T o r (by simp);exact absurd (kAp (Heap.lt_size r') hT) (kAu _)
  exact⟨ex.new,ex.free,oe',vs',x1,x2,x3,(Array.getElem?_eq_some_iff.mp x4).1,.inr ⟨T,oT,ts,x4,hz,hne,J.hok.fresh hT,y1,y2,y3⟩⟩
theorem zgl{M:Model}{A':Around}{H1 H':Hp}{s1 s':Shared}{a:Addr}{cls:Value}{Q:Unit→Shared→Prop}{E:Value→Shared→Prop}(hx:X.ex=[])(I:Inv X pins σ H1 s1)(J:Inv X pins σ H' s')(ex:ExAt s1.heap s'.heap H' a cls)
  (h:∀h',Inv X pins σ H' {s' with heap:=h'}→ExAt s1.heap h' H' a cls→Q () {s' with heap:=h'}):wpAny M A' (setFlight (.ref a) none) Q E s':=by
 obtain⟨oe,vs,he,hc,hd,hsz,tb,tbn⟩:=ex.tb;unfold setFlight;rcases tb with h1|⟨T,oT,ts,h1,hne,hT,hdT,h3⟩
 ·refine wpAny_bind (wpAny_field he hd h1 ?_);rw[if_neg (by decide)];exact wpAny_pure (h s'.heap J ex)
 ·refine wpAny_bind (wpAny_field he hd h1 ?_);rw[if_pos (show(Value.ref T !=Value.none)=true by simp)];have s3:3<ts.size:=(Array.getElem?_eq_some_iff.mp h3).1;refine wpAny_setField hT hdT s3 (h _ ?_ ?_)
  ·have y:=I.young hx (tbn T h1).1;refine J.noted (λb=>b=T) (λb hb=>?_) (λb o hb _ q=>?_) λb o hb q=>⟨o.slots,?_⟩
   ·subst hb;exact⟨y.1,(tbn b h1).2,y.2⟩
   ·rw[Heap.get?_update_other _ _ (Ne.symm hb)];exact q
   ·rw[Heap.get?_update_other _ _ (Ne.symm hb)];exact q
  ·refine⟨ex.new,ex.free,oe,vs,?_,hc,hd,hsz,.inr ⟨T,_,_,h1,(tbn T h1).1,hne,(tbn T h1).2,Heap.get?_update_self _ hT (Obj.isFreed_of_fields (Obj.data_mapFields hdT _)),Obj.data_mapFields hdT _,by simp[s3]⟩⟩;rw[Heap.get?_update_other _ _ hne];exact he
end
theorem SP.unmarked{X:Cx}{pins:List (Addr×Obj)}{a:Addr}{D:Ends}{f:Flow}{s':Shared}(ok:X.Ok)(h:SP (X.marked a) pins D f s'):SP X pins D f s':=by
 cases f with
 |next=>obtain⟨σ',H',I,q⟩:=h;exact⟨σ',H',I.unmarked ok,q⟩
 |brk=>obtain⟨σ',H',I,q⟩:=h;exact⟨σ',H',I.unmarked ok,q⟩
 |cont=>obtain⟨σ',H',I,q⟩:=h;exact⟨σ',H',I.unmarked ok,q⟩
 |ret u=>obtain⟨v,σ',H',I,r,q⟩:=h;exact⟨v,σ',H',I.unmarked ok,r,q⟩
section
variable{X:Cx}{k:Nat}{f Cy:Addr}{fd:FuncData}{ps:List Str}{sp:Sp}{x y:Str}{p yp cpos epos hpos pos:Pos}{e:Expr}{es:List Expr}{t:TA}{u:TS}{b₀:Stmt}{suite:List Stmt}
theorem zal{pins:List (Addr×Obj)}{σ:St}{H:Hp}{s:Shared}{Q:VK}{E1:XK}{Qf:Value→Shared→Prop}{Ef:Value→Shared→Prop}(F:FnOk X.prog X.w X.K X.mg X.base (F8 X.prog X.w) k f fd ps sp)(hr:Room k X.A)(hg:Gl X x)(hm:X.mg x=some (.ref f))(hk:kA9 X.K (.ref f)=true)(hb:Binds X.K fd ps [])
  (ha:PA X.nox (e::es) t)(I:Inv X pins σ H s)(h:t σ H λvs H1=>sp vs H1 Q E1)(hdb:(x==("__debug__":Str))=false)(he:starEach (e::es) X.env=(false,eval e X.env)::starEach es X.env)(hpl:(backTo cpos (starEach es X.env)).any (·.1)=false)
  (hq:∀v H2 u s2,Inv X pins σ H2 s2→RelV v u→Q v H2→Qf u s2) (hx:∀H1 s1 H2 s2 a cls,Inv X pins σ H1 s1→Inv X pins σ H2 s2→Un (Bo X.stack) [] H1 H2 s1.heap s2.heap→ExAt s1.heap s2.heap H2 a cls→E1 cls none H2→Ef (.ref a) s2):
  wpAny (model X.prog X.w) X.A (eval (.Call (.Name x p) (e::es) [] cpos) X.env) Qf Ef s:=by
 refine wpAny_Call_Name_kw (vq I hg hm ?_ hdb);refine PySem.W.callWith_K (h₀:=X.base) I.ok.mod.kin hk (wpAny_mono (ha cpos pins s σ H _ (I.wish _) h) (λus s1 ⟨vs,H1,I1,r,q⟩=>⟨I1.kIn,?_⟩) λ_ _ z=>False.elim z) he hpl;have I1:=I1.unwish;have hl:us.length=ps.length:=by rw[←r.length];exact F.len _ _ _ _ q
 have hbd:=hb s1 us I1.kIn (by rw[List.append_nil];exact hl);rw[List.append_nil]at hbd;refine wpAny_call (codeAny_mono (F.run X.A X.stack s1 H1 ⟨us,[]⟩ us vs Q E1 hr I1.env0 hbd r q) λrs s2 z=>?_);cases rs with
 |ok fl=>
  cases fl with
  |ret u=>
   obtain⟨v,H2,I2,rv,qv⟩:=I1.after z;exact hq v H2 u s2 I2 rv qv
  |next=>exact False.elim z
  |brk=>exact False.elim z
  |cont=>exact False.elim z
 |error ev=>
  obtain⟨a,cls,H2,rfl,os,bare,un,hok,ex,qE⟩:=z;exact hx H1 s1 H2 s2 a cls I1 (I1.call' os un hok bare λb z=>absurd z (by simp)) un ex qE
end
section
variable{P:Program}{w:World}{K:PySem.W.Frag}{mg:Str→Option Value}{base:Heap}
theorem Fun.okE{x qual:Str}{st:Stmt}{f:Addr}{fd:FuncData}{N ps:List Str}{k:Nat}{sp:Sp}(F:Fun K x qual st f fd)(S:FnScope N ps (bf st))(len:∀vs H Q E,sp vs H Q E→vs.length=ps.length)
   (hbody:∀(cdv:Value)(A:Around)(outer:List Env)(s:Shared)(H:Hp)(vs:List V)(Q:VK)(E:XK),fd.code=cdv→Room k (A.deeper (envOfC qual (bf st) s.heap.objs.size f cdv))→sp vs H Q E→
   ∃t,PSs (zq (F8 P w) P w K mg base N qual (bf st) f cdv A outer s H E) (ar st) t∧t {nx:=λ_ H'=>Q .non H',rt:=Q} (qi N vs) H):FnOk P w K mg base (F8 P w) (k+1) f fd ps sp:=by
 obtain⟨oc,od,kV,doc,pm,an,cdv,ct,osl,rfl,lk,hcd⟩:=F.ex;exact ze5 lk hcd S len λA outer s H vs Q E hr hsp=>hbody cdv A outer s H vs Q E rfl hr hsp
theorem FnOk.calm{k:Nat}{f:Addr}{fd:FuncData}{ps:List Str}{sp:Sp}(F:FnOk P w K mg base (F8 P w) k f fd ps sp):FnOk P w K mg base CX0 k f fd ps (λvs H Q _=>sp vs H Q E0):=by
 refine⟨λvs H Q E h=>F.len vs H Q E0 h,λA outer s H args us vs Q E hr e0 hb r h=>codeAny_mono (F.run A outer s H args us vs Q E0 hr e0 hb r h) λrs s' z=>?_⟩;cases rs with
 |ok fl=>cases fl<;>exact z
 |error e=>
  obtain⟨_,_,_,_,_,_,_,_,_,q⟩:=z;exact q.elim
end
end L2
namespace Pu
open PySem PySem.Spec PyProof.Rows L2
theorem W8{P:Program}{w:World}{Kf:PySem.W.Frag}{mg:Str→Option Value}{base:Heap}{x qual:Str}{st:Stmt}{f:Addr}{fd:FuncData}{N ps:List Str}{k:Nat}{ms:List Bool}{Fb:En→Out}(F:Fun Kf x qual st f fd)(S:FnScope N ps (bf st))(hm:ms.length=ps.length)
   (hbody:∀(cdv:Value)(A:Around)(outer:List Env)(s:Shared)(H G0:Hp)(E:XK),fd.code=cdv→Room k (A.deeper (envOfC qual (bf st) s.heap.objs.size f cdv))→
   xo (zq (F8 P w) P w Kf mg base N qual (bf st) f cdv A outer s H E) G0 H (ek ⟨Kf,E6 mg⟩ E) (ar st) Fb):
  FnOk P w Kf mg base (F8 P w) (k+1) f fd ps (Qb ⟨Kf,E6 mg⟩ ms (fnD ms N.length Fb)):=by
 refine F.okE S (λvs H Q E h=>h.1.trans hm) λcdv A outer s H vs Q E hc hr h=>?_;obtain⟨hl,gb,G,ds,sg,al,q⟩:=h;exact⟨_,hbody cdv A outer s H G E hc hr,G,_,Oq gb sg al,Ext.refl sg,zct sg q⟩
end Pu
end
section
namespace Pu
open PySem PySem.Spec PyProof.Rows L2
structure SC where
 N:List Str
 sc:Scope
 td:List Str
 lam:Bool
structure FS where
 ms:List Bool
 f:List D→Res
structure XT where
 exc:Str→Bool
 sub:Str→Str→Bool
 ve:Str→Bool
 nsub:Str→Str→Bool
structure GT where
 fns:Str→Option FS
 gstr:Str→Option Str
 xs:XT
 lam:Expr→List (Str×D)→List D→Res
noncomputable def zg:List Str:=["len","list","tuple","int","isinstance","range","all","any","sorted","set","min","max","abs","str","bool","dict","enumerate","zip","reversed","ValueError"]
def Vy(X:Cx):Prop:=∃c P,(c,P,X.env.qual++"<lambda>")∈Qj∧X.env.code=.ref c∧PySem.W.CodeHd X.base c P∧
 (∃bm o,X.mg "__builtins__"=some (.ref bm)∧bm≠builtinsNs∧bm≠mainGlobals∧X.base.get? bm=some o∧o.cls=.type "module"∧o.dict=some builtinsNs∧o.data=.plain)∧
 (∀y c,X.env.cells.lookup y=some c→X.s₀.heap.objs.size≤c)∧∀y∈vo,X.fn y=false
structure RoomL(k:Nat)(A:Around):Prop where
 hd:A.handled=none
 dp:A.depth+3 * k+5<recursionLimit
 un:A.units+16 * k+190<cLine
theorem RoomL.of{k:Nat}{A:Around}(r:Room k A):RoomL k A:=⟨r.hd,r.dp,by have:=r.un;omega⟩
theorem RoomL.depth{k:Nat}{A:Around}(r:RoomL k A):A.depth<recursionLimit:=by have:=r.dp;omega
theorem RoomL.deeper{k:Nat}{A:Around}(r:RoomL (k+1) A)(env:Env):Room k (A.deeper env):=
 ⟨r.hd,by have:=r.dp;show A.depth+1+3 * k+5<_;omega,by have:=r.un;show A.units+3+16 * k+200<_;omega⟩
noncomputable def Vz(P:Program)(w:World)(K:PySem.W.Frag)(mg:Str→Option Value)(base:Heap)(k:Nat)(e:Expr)(fs:List (Str×D))(ds:List D)(d:D):Prop:=
 ∀(A:Around)(outer:List Env)(s:Shared)(H G:Hp)(a:Addr)(us:List Value)(vs:List V)(Q:VK),RoomL k A→Env0 P w K mg base A outer s H→GOk H→Same G H→Den ⟨K,E6 mg⟩ G (.obj e fs) (.ref a)→DenL ⟨K,E6 mg⟩ G ds vs→Vals vs us→
  (∀v G' H',Ext G H G' H'→Den ⟨K,E6 mg⟩ G' d v→Q v H')→codeAny (model P w) A (.call (.ref a) ⟨us,[]⟩) (CR (F8 P w) outer P w H s Q E0) s
structure XOk(X:Cx)(C:SC)(T:GT)(E:XK):Prop where
 n:X.N=C.N
 s:X.env.scope=C.sc
 nd:C.N.Nodup
 calm:X.calm=true
 units:X.A.units+65<cLine
 fns:∀x s,T.fns x=some s→∃k f fd ps,Room k X.A∧X.mg x=some (.ref f)∧kA9 X.K (.ref f)=true∧Binds X.K fd ps []∧FnOk X.prog X.w X.K X.mg X.base (F8 X.prog X.w) k f fd ps (Qb (kx X) s.ms s.f)
 gstr:∀x y,T.gstr x=some y→∃t,X.mg x=some (.str y t)
 bl:∀x∈zg,X.mg x=none
 exc:∀x,T.xs.exc x=true→∃C bm newId,X.mg x=some (.ref C)∧PySem.W.excIn X.K C bm newId=true∧ExBase bm newId
 sub:∀c y,T.xs.sub c y=true→∃Cy,X.mg y=some (.ref Cy)∧kAy X.K (.ref (E6 X.mg c)) (.ref Cy)=some true
 ve:∀c,T.xs.ve c=true→PySem.W.kitCls X.K (.ref (E6 X.mg c)) (.type "ValueError")=some true
 nsub:∀c y,T.xs.nsub c y=true→∃Cy,X.mg y=some (.ref Cy)∧kAy X.K (.ref (E6 X.mg c)) (.ref Cy)=some false
 goes:qm (F8 X.prog X.w) X E
 lamc:C.lam=true→Vy X
 lams:∀e fs ds d,T.lam e fs ds=.ok d→∃k,Room k X.A∧Vz X.prog X.w X.K X.mg X.base k e fs ds d
noncomputable def vis(sc:Scope)(x:Str):Bool:=match sc.names.lookup x with
 |some .local=>true
 |some .cell=>true
 |some .free=>true
 |_=>false
theorem zay{sc:Scope}{x:Str}(h:vis sc x=true):Vis sc x:=by
 unfold vis at h;unfold Vis;cases e:sc.names.lookup x with
 |none=>rw[e]at h;cases h
 |some k=>rw[e]at h;cases k<;>first|exact .inl rfl|exact .inr (.inl rfl)|exact .inr (.inr rfl)|cases h
noncomputable def Lu(sc:Scope)(x:Str):Bool:=match sc.names.lookup x with
 |some .local=>true
 |some .cell=>true
 |_=>false
theorem uw{sc:Scope}{x:Str}(h:Lu sc x=true):L2.Loc sc x:=by
 unfold Lu at h;unfold L2.Loc;cases e:sc.names.lookup x with
 |none=>rw[e]at h;cases h
 |some k=>rw[e]at h;cases k<;>first|exact .inl rfl|exact .inr rfl|cases h
noncomputable def qu(x:Str):Bool:= !(x==("__debug__":Str)) && !(x==("__classdict__":Str))
theorem Mt{x:Str}(h:qu x=true):(x==("__debug__":Str))=false:=by
 unfold qu at h;simp only[kA4,Bool.not_eq_true']at h;exact h.1
theorem Yi{x:Str}(h:qu x=true):(x==("__classdict__":Str))=false:=by
 unfold qu at h;simp only[kA4,Bool.not_eq_true']at h;exact h.2
noncomputable def Xt(x:Str):List Str→Nat→Option Nat
 |[],_=>none
 |y::r,i=>if x=y then some i else Xt x r (i+1)
theorem Jb{x:Str}:∀{l:List Str}{i j:Nat},Xt x l i=some j→i≤j∧l[j - i]?=some x
 |[],_,_,h=>by cases h
 |y::r,i,j,h=>by
  unfold Xt at h
  by_cases e:x=y
  ·rw[if_pos e]at h;cases h;subst e;exact⟨kA1 _,by simp⟩
  ·rw[if_neg e]at h;obtain⟨h1,h2⟩:=Jb h;refine⟨by omega,?_⟩;rw[show j - i=(j - (i+1))+1 by omega];simpa using h2
noncomputable def slot(C:SC)(x:Str):Option Nat:=if vis C.sc x && qu x then Xt x C.N 0 else none
theorem Kc{C:SC}{x:Str}{i:Nat}(h:slot C x=some i):C.N[i]?=some x∧vis C.sc x=true∧qu x=true:=by
 unfold slot at h
 by_cases e:(vis C.sc x && qu x)=true
 ·rw[if_pos e]at h;rw[kA4]at e;obtain⟨_,q⟩:=Jb h;exact⟨by simpa using q,e.1,e.2⟩
 ·rw[if_neg e]at h;cases h
noncomputable def Ez(C:SC)(x:Str):Bool:=decide (C.sc.names.lookup x=some .globalImplicit) && qu x
section
variable{X:Cx}{C:SC}{T:GT}{B:Hp}{E:EK}{x:Str}{i:Nat}{pos:Pos}
theorem XOk.var{E':XK}(O:XOk X C T E')(h:slot C x=some i):PE X (.Name x pos) (F7 i):=by
 obtain⟨h1,h2,h3⟩:=Kc h;exact zh0 (by rw[O.n];exact h1) (by rw[O.s];exact zay h2) (Mt h3) (Yi h3)
theorem XOk.gl{E':XK}(O:XOk X C T E')(h:Ez C x=true):Gl X x∧(x==("__debug__":Str))=false:=by
 unfold Ez at h;rw[kA4]at h;refine⟨?_,Mt h.2⟩;show X.env.scope.names.lookup x=_;rw[O.s];exact of_decide_eq_true h.1
end
noncomputable def lu:En→Res:=λ_=>.st
noncomputable def zgm:En→ResL:=λ_=>.st
noncomputable def tu:En→Out:=λ_=>.st
section
variable{X:Cx}{B G0:Hp}{E:EK}{e tg:Expr}{es:List Expr}
theorem gq:ji X B E e lu:=λpins s σ H Q I ⟨G,δ,R,q⟩=>q.elim
theorem zlf:OwE X B E e lu:=λpins s σ H Q I ⟨G,δ,R,q⟩=>q.elim
theorem A5:E3 X B E e lu:=λpins s σ H Q I ⟨G,δ,R,q⟩=>q.elim
theorem zet{ms:List Bool}:Qw X B E ms es zgm:=λpos pins s σ H Q I ⟨G,δ,R,q⟩=>q.elim
theorem nc{st:Stmt}:qo X G0 B E st tu:=λpins s σ H D I ⟨G,δ,R,x,q⟩=>q.elim
end
theorem zt{y:Str}:∀{l:List (Str×NameKind)},(y,NameKind.free)∈l↔y∈jg l
 |[]=>by simp[jg]
 |(n,k)::r=>by
  unfold jg
  by_cases h:k=.free
  ·subst h;rw[if_pos rfl,kA8,kA8,zt];constructor
   ·rintro (z|z)
    ·cases z;exact .inl rfl
    ·exact .inr z
   ·rintro (z|z)
    ·subst z;exact .inl rfl
    ·exact .inr z
  ·rw[if_neg h,kA8,zt];constructor
   ·rintro (z|z)
    ·cases z;exact absurd rfl h
    ·exact z
   ·exact .inr
noncomputable def o3(scope sc:Scope):Scope:=
 {scope with names:=scope.names.map λ(n,k)=>if(k==.free && sc.kind==.function && sc.names.lookup n==some .cell)then(n,.cell)else(n,k)}
noncomputable def slots(C:SC):List Str→Option (List Nat)
 |[]=>some []
 |y::r=>match slot C y,slots C r with
  |some i,some is=>some (i::is)
  |_,_=>none
noncomputable def Q2(C:SC)(scope:Scope)(y:Str):Bool:=
 (decide (C.sc.names.lookup y=some .cell)||decide (C.sc.names.lookup y=some .free)) &&
 (decide ((o3 scope C.sc).names.lookup y=some .cell)||decide ((o3 scope C.sc).names.lookup y=some .free))
noncomputable def uo(C:SC)(scope:Scope)(xs:List Str):Bool:=
 decide (scope.kind=.function) && (scope.names.all λy=>decide (y.2≠.cell)) && (scope.names.all λy=> !decide (y.2=.local)||decide (scope.names.lookup y.1=some .local)) &&
 (xs.all λx=>decide (scope.names.lookup x=some .local)) && decide ((xs++jg scope.names).Nodup) && (jg scope.names).all (Q2 C scope)
theorem Nf{C:SC}:∀{M:List Str}{ix:List Nat},slots C M=some ix→∀{X:Cx}{scope:Scope}{cl:List (Str×Addr)},X.N=C.N→X.env.scope=C.sc→(∀y∈M,∃c,cl.lookup y=some c)→M.all (Q2 C scope)=true→Caps X scope cl M ix
 |[],ix,h,X,scope,cl,_,_,_,_=>by cases h;exact rfl
 |y::r,ix,h,X,scope,cl,hn,hs,hc,ha=>by
  unfold slots at h;cases e1:slot C y with
  |none=>rw[e1]at h;cases h
  |some i=>
   cases e2:slots C r with
   |none=>rw[e1,e2]at h;cases h
   |some is=>
    rw[e1,e2]at h;cases h;rw[kAm,kA4]at ha;obtain⟨q1,q2,q3⟩:=Kc e1;have q4:=ha.1;unfold Q2 at q4;rw[kA4,Bool.or_eq_true,Bool.or_eq_true,decide_eq_true_eq,decide_eq_true_eq,decide_eq_true_eq,decide_eq_true_eq]at q4;refine⟨i,is,rfl,⟨by rw[hn];exact q1,by rw[hs];exact zay q2,?_,hc y (kA6),?_⟩,Nf e2 hn hs (λz hz=>hc z (kA7 _ hz)) ha.2⟩
    ·show X.env.scope.names.lookup y≠_;rw[hs];rcases q4.1 with z|z<;>rw[z]<;>decide
    ·have:relabel scope X.env=o3 scope C.sc:=by
      unfold relabel o3;rw[←hs];rfl
     rw[this];exact q4.2
theorem Nd{C:SC}(nd:C.N.Nodup):∀{M:List Str}{ix:List Nat},slots C M=some ix→M.Nodup→ix.Nodup∧∀i∈ix,∃y∈M,C.N[i]?=some y
 |[],ix,h,_=>by cases h;exact⟨List.nodup_nil,λi hi=>by simp at hi⟩
 |y::r,ix,h,hM=>by
  unfold slots at h;cases e1:slot C y with
  |none=>rw[e1]at h;cases h
  |some i=>
   cases e2:slots C r with
   |none=>rw[e1,e2]at h;cases h
   |some is=>
    rw[e1,e2]at h;cases h;obtain⟨m1,m2⟩:=List.nodup_cons.mp hM;obtain⟨n1,n2⟩:=Nd nd e2 m2;obtain⟨q1,_,_⟩:=Kc e1;refine⟨List.nodup_cons.mpr ⟨λhi=>?_,n1⟩,λj hj=>?_⟩
    ·obtain⟨z,hz,ez⟩:=n2 i hi;rw[q1]at ez;cases ez;exact m1 hz
    ·rcases kA8.mp hj with rfl|hj
     ·exact⟨y,kA6,q1⟩
     ·obtain⟨z,hz,ez⟩:=n2 j hj;exact⟨z,kA7 _ hz,ez⟩
theorem um(env:Env):∀(names:List (Str×NameKind))(cs:List (Str×Addr)),(∀y∈jg names,∃c,env.cells.lookup y=some c)→∃cl,ly env names cs=some cl
 |[],cs,_=>⟨cs,rfl⟩
 |(n,k)::r,cs,h=>by
  unfold ly
  by_cases hk:k=.free
  ·subst hk;rw[if_pos rfl];obtain⟨c,e⟩:=h n (by unfold jg;rw[if_pos rfl];exact kA6);rw[e];exact um env r _ λy hy=>h y (by unfold jg;rw[if_pos rfl];exact kA7 _ hy)
  ·rw[if_neg hk];exact um env r cs λy hy=>h y (by unfold jg;rw[if_neg hk];exact hy)
theorem uj(env:Env):∀(names:List (Str×NameKind))(cs cl:List (Str×Addr)),ly env names cs=some cl→∀y,(cs.lookup y=none)→y∉jg names→cl.lookup y=none
 |[],cs,cl,h,y,q,_=>by cases h;exact q
 |(n,k)::r,cs,cl,h,y,q,m=>by
  unfold ly at h
  by_cases hk:k=.free
  ·subst hk;rw[if_pos rfl]at h;unfold jg at m;rw[if_pos rfl,kA8,not_or]at m;cases hc:env.cells.lookup n with
   |none=>rw[hc]at h;cases h
   |some c=>
    rw[hc]at h;refine uj env r _ cl h y ?_ m.2;have hb:(y==n)=false:=by simpa using m.1
    rw[List.lookup_cons,hb];exact q
  ·rw[if_neg hk]at h;unfold jg at m;rw[if_neg hk]at m;exact uj env r cs cl h y q m
theorem uq{X:Cx}{C:SC}{T:GT}{scope:Scope}{xs:List Str}{ix:List Nat}{E':XK}(O:XOk X C T E')(ok:X.Ok)(h:uo C scope xs=true)(hx:slots C (jg scope.names)=some ix):∃cl,CompOk X scope cl xs (jg scope.names) ix:=by
 unfold uo at h;simp only[kA4,decide_eq_true_eq]at h;obtain⟨⟨⟨⟨⟨h1,h2⟩,h3⟩,h4⟩,h5⟩,h6⟩:=h;have hcells:∀y∈jg scope.names,∃c,X.env.cells.lookup y=some c:=λy hy=>by
  have q:=kAx.mp h6 y hy;unfold Q2 at q;rw[kA4,Bool.or_eq_true,decide_eq_true_eq,decide_eq_true_eq,←O.s]at q;exact ok.has y q.1
 obtain⟨cl,hcl⟩:=um X.env scope.names [] hcells;obtain⟨n0,n2,n1⟩:=List.nodup_append.mp h5;have hfree:∀y∈jg scope.names,∃c,cl.lookup y=some c:=λy hy=>p5 X.env _ _ cl hcl y (.inr (zt.mpr hy));refine⟨cl,hcl,h1,λy hy=>?_,λy hy e=>?_,λx hx=>of_decide_eq_true (kAx.mp h4 x hx),λx hx=>uj X.env _ _ cl hcl x rfl (λhm=>n1 x hx x hm rfl),h5,(Nd O.nd hx n2).1,Nf hx O.n O.s hfree h6⟩
 ·exact of_decide_eq_true (kAx.mp h2 y hy)
 ·have q:=kAx.mp h3 y hy;rw[decide_eq_true e]at q;exact of_decide_eq_true (by simpa using q)
noncomputable def so(C:SC)(scope:Scope)(xs:List Str):SC:=⟨xs++jg scope.names,o3 scope C.sc,[],false⟩
theorem xu{X:Cx}{C:SC}{T:GT}{scope:Scope}{cl:List (Str×Addr)}{xs:List Str}{E':XK}(O:XOk X C T E')(h:uo C scope xs=true)(Cc s₀ H₀ ex pn):XOk (jc X scope cl (xs++jg scope.names) xs Cc s₀ H₀ ex pn) (so C scope xs) T E0 where
 n:=rfl
 s:=by
  show relabel scope X.env=_;unfold relabel;show _=o3 scope C.sc;unfold o3;rw[←O.s];rfl
 nd:=by
  unfold uo at h;simp only[kA4,decide_eq_true_eq]at h;exact h.1.2
 calm:=O.calm
 units:=O.units
 fns:=O.fns
 gstr:=O.gstr
 bl:=O.bl
 exc:=O.exc
 sub:=O.sub
 ve:=O.ve
 nsub:=O.nsub
 goes:=Ag
 lamc:=λh=>by cases h
 lams:=O.lams
theorem XOk.none{X:Cx}{C:SC}{T:GT}{E:XK}(O:XOk X C T E):XOk X C T E0:=⟨O.n,O.s,O.nd,O.calm,O.units,O.fns,O.gstr,O.bl,O.exc,O.sub,O.ve,O.nsub,Ag,O.lamc,O.lams⟩
theorem XOk.nox{X:Cx}{C:SC}{T:GT}{E:XK}(O:XOk X C T E):XOk X.nox C T E0:=⟨O.n,O.s,O.nd,O.calm,O.units,O.fns,O.gstr,O.bl,O.exc,O.sub,O.ve,O.nsub,Ag,O.lamc,O.lams⟩
noncomputable abbrev Ev:=SC→Expr→En→Res
def j2(T:GT)(ev:Ev):Prop:=∀X C B (E:XK) e,XOk X C T E→ji X B (ek (kx X) E) e (ev C e)
def E4(T:GT)(tv:Ev):Prop:=∀X C B (E:XK) e,XOk X C T E→E3 X B (ek (kx X) E) e (tv C e)
section
variable{X:Cx}{B:Hp}{E:EK}{e a b:Expr}{es:List Expr}{g h:En→Res}{pos:Pos}
noncomputable def ot:D→Bool
 |.non=>true
 |_=>false
noncomputable def qf:D→D→Option D
 |d,.non=>some (.bl (ot d))
 |.bl b,.bl c=>some (.bl (b==c))
 |.non,.bl _=>some (.bl false)
 |_,_=>none
noncomputable def j9:D→D→Option D
 |d,.non=>some (.bl (!ot d))
 |.bl b,.bl c=>some (.bl (!(b==c)))
 |.non,.bl _=>some (.bl true)
 |_,_=>none
theorem Ap{K:KA}{G H:Hp}{d:D}{v:V}(h:Arg K G H d v):decide (v=.non)=ot d:=by
 rcases h with h|⟨ds,a,vs,rfl,rfl,_⟩|⟨t,kvs,a,rfl,rfl,_⟩
 ·cases d with
  |non=>cases (show v=.non from h);rfl
  |bl b=>cases (show v=.bl b from h);rfl
  |int b=>cases (show v=.int b from h);rfl
  |str b=>cases (show v=.str b from h);rfl
  |tup ds=>obtain⟨a,vs,rfl,_⟩:=h;rfl
  |lst ds=>obtain⟨a,vs,rfl,_⟩:=h;rfl
  |dct t kvs=>obtain⟨a,rfl,_⟩:=h;rfl
  |obj C fs=>obtain⟨a,vs,rfl,_⟩:=h;rfl
  |fn f=>cases (show v=.ref _ from h);rfl
 ·rfl
 ·rfl
noncomputable def zdp(f:Bool→Bool):R2:=λx y H Q=>(∃b c,x=.bl b∧y=.bl c∧Q (.bl (f (b==c))) H)∨∃c,x=.non∧y=.bl c∧Q (.bl (f false)) H
theorem zhm:OpR X (compareOp .Is) (zdp id):=by
 intro pins s σ H x y v u Q I rx ry h;rcases h with ⟨b,c,rfl,rfl,q⟩|⟨c,rfl,rfl,q⟩
 ·cases rx;cases ry;exact wpAny_is_plain rfl ⟨.bl (b==c),H,I,(by cases b<;>cases c<;>rfl),q⟩
 ·cases rx;cases ry;exact wpAny_is_plain rfl ⟨.bl false,H,I,rfl,q⟩
theorem zcr:OpR X (compareOp .IsNot) (zdp λb=> !b):=by
 intro pins s σ H x y v u Q I rx ry h;rcases h with ⟨b,c,rfl,rfl,q⟩|⟨c,rfl,rfl,q⟩
 ·cases rx;cases ry;exact wpAny_isNot_plain rfl ⟨.bl (!(b==c)),H,I,(by cases b<;>cases c<;>rfl),q⟩
 ·cases rx;cases ry;exact wpAny_isNot_plain rfl ⟨.bl true,H,I,rfl,q⟩
theorem Y6{K:KA}:j3 K qf (λx y H Q=>(y=.non∧Q (.bl (decide (x=.non))) H)∨zdp id x y H Q):=λG H x y dx dy d sg ax ay ed Q q=>by
 unfold qf at ed;split at ed
 ·cases ed;refine .inl ⟨ay.non,?_⟩;rw[Ap ax];exact q _ G H (Ext.refl sg) rfl
 ·cases ed;exact .inr (.inl ⟨_,_,ax.bl,ay.bl,q _ G H (Ext.refl sg) rfl⟩)
 ·cases ed;exact .inr (.inr ⟨_,ax.non,ay.bl,q _ G H (Ext.refl sg) rfl⟩)
 ·cases ed
theorem M6{K:KA}:j3 K j9 (λx y H Q=>(y=.non∧Q (.bl (!decide (x=.non))) H)∨zdp (λb=> !b) x y H Q):=λG H x y dx dy d sg ax ay ed Q q=>by
 unfold j9 at ed;split at ed
 ·cases ed;refine .inl ⟨ay.non,?_⟩;rw[Ap ax];exact q _ G H (Ext.refl sg) rfl
 ·cases ed;exact .inr (.inl ⟨_,_,ax.bl,ay.bl,q _ G H (Ext.refl sg) rfl⟩)
 ·cases ed;exact .inr (.inr ⟨_,ax.non,ay.bl,q _ G H (Ext.refl sg) rfl⟩)
 ·cases ed
theorem Xn{f:D→D→Option D}(hf:f=qf∨f=j9)(x y d:D)(h:f x y=some d):∃b,d=.bl b:=by
 rcases hf with rfl|rfl
 ·unfold qf at h;split at h<;>first|(cases h;exact⟨_,rfl⟩)|cases h
 ·unfold j9 at h;split at h<;>first|(cases h;exact⟨_,rfl⟩)|cases h
noncomputable def Ig:CmpOp→Option (D→D→Option D)
 |.Eq=>some jn
 |.NotEq=>some jl
 |.Lt=>some u7
 |.LtE=>some Vh
 |.Gt=>some Ve
 |.GtE=>some zlv
 |.In=>some M9
 |.NotIn=>some i8
 |.Is=>some qf
 |.IsNot=>some j9
theorem B4{op:CmpOp}{f:D→D→Option D}(hf:Ig op=some f)(hu:X.A.units+65<cLine):∃r,OpR X (compareOp op) r∧j3 (kx X) f r∧∀x y d,f x y=some d→∃b,d=.bl b:=by
 cases op<;>cases hf
 ·exact⟨_,zhk (by omega),zc3,λ_ _ _ h=>Jm (f:=id) h⟩
 ·exact⟨_,zhq (by omega),zc6,λ_ _ _ h=>Jm (f:=λb=> !b) h⟩
 ·exact⟨_,zld,yk,Ih⟩
 ·exact⟨_,zlc,yk,Ih⟩
 ·exact⟨_,zlb,yk,Ih⟩
 ·exact⟨_,zla,yk,Ih⟩
 ·exact⟨_,zhn.or zhm,Y6,Xn (.inl rfl)⟩
 ·exact⟨_,zcs.or zcr,M6,Xn (.inr rfl)⟩
 ·exact⟨_,zhl hu,zc4,λ_ _ _ h=>Jm (f:=id) h⟩
 ·exact⟨_,U6 hu,P3,λ_ _ _ h=>Jm (f:=λb=> !b) h⟩
end
noncomputable def pb(ev:Ev)(C:SC)(e:Expr):En→Res:=match e with
 | .Name x _ => (match slot C x with
  |some i=>af i
  |none=>ev C e)
 |_=>ev C e
noncomputable def gAL(ev:Ev)(C:SC):List Bool→List Expr→En→ResL
 |[],[]=>bc
 |m::ms,e::es=>ae (if m then pb ev C e else ev C e) (gAL ev C ms es)
 |_,_=>zgm
noncomputable def wg(ev:Ev)(C:SC):List Expr→En→ResL
 |[]=>bc
 |e::es=>ae (ev C e) (wg ev C es)
noncomputable def Ep(T:GT)(C:SC)(x:Str):En→Res:=match slot C x with
 |some i=>cn i
 | none => if Ez C x then (match T.gstr x with
  |some y=>gC (.str y)
  | none => (match T.fns x with
   |some _=>gC (.fn x)
   |none=>lu))else lu
noncomputable def Lq(f:Expr→En→Res):List Expr→En→Res
 |[]=>lu
 |[a]=>f a
 |a::r=>m6 (f a) (Lq f r)
noncomputable def Xb(f:Expr→En→Res):List Expr→En→Res
 |[]=>lu
 |[a]=>f a
 |a::r=>wj (f a) (Xb f r)
noncomputable def yt(ev:Ev)(C:SC)(l:Expr)(ops:List CmpOp)(rs:List Expr):En→Res:=match ops,rs with
 | [op], [r] => (match Ig op with
  |some f=>if nq r then g2 f (pb ev C l) (pb ev C r)else lu
  |none=>lu)
 | [op, op'], [m, r] => (match Ig op, Ig op' with
  |some f,some f'=>if nq r then xa f f' (pb ev C l) (pb ev C m) (pb ev C r)else lu
  |_,_=>lu)
 |_,_=>lu
section
variable{T:GT}{ev tv:Ev}{X:Cx}{C:SC}{B:Hp}{E:XK}{pos:Pos}
theorem iu(h:j2 T ev)(O:XOk X C T E)(e:Expr):lx X B (ek (kx X) E) e (pb ev C e):=by
 have d:lx X B (ek (kx X) E) e (ev C e):=zlm (h X C B E e O);cases e with
 |Name x p=>
  show lx X B _ _ (match slot C x with
   |some i=>af i
   |none=>ev C (.Name x p))
  cases es:slot C x with
  |none=>exact d
  |some i=>exact zf4 i (O.var es)
 |_=>exact d
theorem Ck(h:j2 T ev)(O:XOk X C T E):∀{ms:List Bool}{es:List Expr},es.all jz=true→Qw X B (ek (kx X) E) ms es (gAL ev C ms es)
 |[],[],_=>ky
 |[],_::_,_=>zet
 |_::_,[],_=>zet
 |m::ms,e::es,hs=>by
  rw[kAm,kA4]at hs;cases m with
  |true=>exact ju (iu h O e) (Ck h O hs.2) (cj hs.1)
  |false=>exact Cn (h X C B E e O) (Ck h O hs.2) (cj hs.1)
theorem xw(h:j2 T ev)(O:XOk X C T E):∀{es:List Expr},es.all jz=true→Qw X B (ek (kx X) E) (es.map λ_=>false) es (wg ev C es)
 |[],_=>ky
 |e::es,hs=>by
  rw[kAm,kA4]at hs;exact Cn (h X C B E e O) (xw h O hs.2) (cj hs.1)
theorem xq:∀{es:List Expr},Hw (es.map λ_=>false)=true
 |[]=>rfl
 |_::es=>by
  show(!false && Hw (es.map λ_=>false))=true;rw[xq (es:=es)];rfl
theorem zcg(O:XOk X C T E){x:Str}:ji X B (ek (kx X) E) (.Name x pos) (Ep T C x):=by
 unfold Ep;cases es:slot C x with
 |some i=>exact zio i (O.var es)
 |none=>
  dsimp only
  by_cases hg:Ez C x=true
  ·rw[if_pos hg];obtain⟨g1,g2⟩:=O.gl hg;cases e1:T.gstr x with
   |some y=>
    obtain⟨t,q⟩:=O.gstr x y e1;exact zdf g1 q g2
   |none=>
    cases e2:T.fns x with
    |some s=>
     obtain⟨k,f,fd,ps,_,q,_⟩:=O.fns x s e2;exact zid g1 q g2
    |none=>exact gq
  ·rw[if_neg hg];exact gq
theorem Qy{f:Expr→En→Res}{E:EK}(h:∀e,ji X B E e (f e)):∀{vs:List Expr},ji X B E (.BoolOp .And vs pos) (Lq f vs)
 |[]=>gq
 |[a]=>Zi (h a)
 |a::b::r=>zia (h a) (Qy h (vs:=b::r))
theorem Yl{f:Expr→En→Res}{E:EK}(h:∀e,ji X B E e (f e)):∀{vs:List Expr},ji X B E (.BoolOp .Or vs pos) (Xb f vs)
 |[]=>gq
 |[a]=>Zi (h a)
 |a::b::r=>zls (h a) (Yl h (vs:=b::r))
theorem zfg{E:EK}{e:Expr}:PuW X B E e lu:=λwh pins s σ H Q I ⟨G,δ,R,q⟩=>q.elim
theorem Qz{f:Expr→En→Res}{E:EK}(h:∀e,E3 X B E e (f e)):∀{vs:List Expr},PuW X B E (.BoolOp .And vs pos) (Lq f vs)
 |[]=>zfg
 |[a]=>Zn (h a)
 |a::b::r=>zdj (h a) (Qz h (vs:=b::r))
theorem Ym{f:Expr→En→Res}{E:EK}(h:∀e,E3 X B E e (f e)):∀{vs:List Expr},PuW X B E (.BoolOp .Or vs pos) (Xb f vs)
 |[]=>zfg
 |[a]=>zdl (h a)
 |a::b::r=>zir (h a) (Ym h (vs:=b::r))
theorem Wm(h:j2 T ev)(O:XOk X C T E){l:Expr}{ops:List CmpOp}{rs:List Expr}:ji X B (ek (kx X) E) (.Compare l ops rs pos) (yt ev C l ops rs)∧E3 X B (ek (kx X) E) (.Compare l ops rs pos) (yt ev C l ops rs):=by
 unfold yt;split
 ·rename_i op r;cases hf:Ig op with
  |none=>exact⟨gq,A5⟩
  |some f=>
   dsimp only
   by_cases hs:nq r=true
   ·rw[if_pos hs];obtain⟨rr,h1,h2,h3⟩:=B4 (X:=X) hf O.units;exact⟨zic h1 h2 (iu h O l) (iu h O r) (p9 hs),zda h1 h2 h3 (iu h O l) (iu h O r) (p9 hs)⟩
   ·rw[if_neg hs];exact⟨gq,A5⟩
 ·rename_i op op' m r;cases hf:Ig op with
  |none=>exact⟨gq,A5⟩
  |some f=>
   cases hf':Ig op' with
   |none=>exact⟨gq,A5⟩
   |some f'=>
    dsimp only
    by_cases hs:nq r=true
    ·rw[if_pos hs];obtain⟨rr,h1,h2,h3⟩:=B4 (X:=X) hf O.units;obtain⟨rr',h1',h2',h3'⟩:=B4 (X:=X) hf' O.units;exact⟨Zf h1 h2 h1' h2' (iu h O l) (iu h O m) (iu h O r) (D1 hs),Vb h1 h2 h1' h2' h3' (iu h O l) (iu h O m) (iu h O r) (D1 hs)⟩
    ·rw[if_neg hs];exact⟨gq,A5⟩
 ·exact⟨gq,A5⟩
end
section
variable{X:Cx}{pins:List (Addr×Obj)}{σ:St}{G H:Hp}{s:Shared}{B:Hp}{E:EK}{e a b:Expr}{g h:En→Res}{pos p:Pos}
noncomputable def nr:List D→Option (List Bool)
 |[]=>some []
 |.bl b::r=>(nr r).map (b::·)
 |_::_=>none
theorem Aq{K:KA}:∀{ds:List D}{bs:List Bool}{vs:List V}{us:List Value},nr ds=some bs→DenL K G ds vs→Vals vs us→us=bs.map Value.bool
 |[],bs,vs,us,h,d,r=>by cases h;cases (show vs=[]from d);cases r;rfl
 |d::ds,bs,vs,us,h,dl,r=>by
  obtain⟨v,vr,rfl,dv,dr⟩:=dl;cases d with
  |bl b=>
   unfold nr at h;cases e:nr ds with
   |none=>rw[e]at h;cases h
   |some bs'=>
    rw[e]at h;cases h;cases r with
    |cons r1 rr=>
     cases (show v=.bl b from dv);cases (show _=Value.bool b from r1);rw[kA0,Aq e dr rr]
  |_=>cases h
theorem E7(bs:List Bool)(f:List Bool→(Nat→Bool))(hf:f=λbs i=>bs.getD i false):(kAj bs.length).all (f bs)=bs.all id∧(kAj bs.length).any (f bs)=bs.any id:=by
 subst hf;have e:(kAj bs.length).map (λi=>bs.getD i false)=bs:=by
  apply List.ext_getElem
  ·simp
  ·intro i h1 h2;simp[List.getD_eq_getElem?_getD,h2]
 constructor
 ·have:=congrArg (λl=>l.all id) e;simp only[List.all_map]at this;simpa[Function.comp_def]using this
 ·have:=congrArg (λl=>l.any id) e;simp only[List.any_map]at this;simpa[Function.comp_def]using this
noncomputable def zlw(K:KA)(an:Bool):List V→Hp→VK→Prop:=λxs H Q=>∃G l vs ds bs,xs=[.ref l]∧SqL K H l vs∧DenL K G ds vs∧nr ds=some bs∧Q (.bl (if an then bs.any id else bs.all id)) H
theorem K3{A:Around}{prog:Program}{w:World}{bs:List Bool}{items:Array Value}(e:items.toList=bs.map Value.bool):TruthOf prog w A (λi v=>items[i]?=some v) (λi=>bs.getD i false):=by
 intro i v s Q E hv hQ;have hv':items.toList[i]?=some v:=by simpa using hv
 rw[e,kAr]at hv';cases eb:bs[i]? with
 |none=>rw[eb]at hv';cases hv'
 |some b=>
  rw[eb]at hv';cases hv';have hQ':Q (bs.getD i false) s:=hQ;rw[List.getD_eq_getElem?_getD,eb]at hQ';exact wpAny_truthy_bool hQ'
theorem To(hc:X.calm=true):CallR X (.builtin "all") (zlw (kx X) false):=by
 intro pins s σ H xs us Q I r q;obtain⟨G,l,vs,ds,bs,rfl,sq,dl,eb,q⟩:=q;obtain⟨u,rfl,ru⟩:=qj r;cases ru;obtain⟨its,rv,pl,_⟩:=I.list sq;have e:=Aq eb dl rv;have hl:l<s.heap.objs.size:=by obtain⟨o,ho,_⟩:=pl.isList;exact Heap.lt_size ho
 have W:=Walks.list (prog:=X.prog) (w:=X.w) (A:=X.A.in1) (show X.A.in1.handled=none from I.ok.hd hc) s.heap.objs.size l (kAd hl) its.toArray;refine call_all_walk (wpAny_pyIter_list pl.isList ⟨s.heap.objs.size,_,_,_,_,_,λi=>bs.getD i false,rfl,W,⟨⟨_,Heap.get?_push_size _ rfl,rfl,rfl⟩,pl.isList.at λo ho=>Heap.get?_push_of_some _ ho⟩,K3 (by simpa using e),λh' tk hk=>?_⟩);refine⟨.bl _,H,I.kept λb o e=>hk b o (by simpa using kAd (Heap.lt_size e)) (Heap.get?_push_of_some _ e),?_,q⟩;have hsz:its.toArray.size=bs.length:=by rw[kAh,e,kA2]
 rw[hsz,(E7 bs _ rfl).1];rfl
noncomputable def A6:D→Option D
 |.lst ds=>(nr ds).map λbs=>.bl (bs.all id)
 |_=>none
theorem zh9(hc:X.calm=true)(hg:Gl X "all")(hm:X.mg "all"=none)(ha:lx X B E e g)(he:starEach [e] X.env=(false,eval e X.env)::starEach [] X.env):ji X B E (.Call (.Name "all" p) [e] [] pos) (g1 A6 g):=
 PE.imp (yj (To hc) hg hm PyProof.Rows.boot_all (ju ha ky he) (by decide) (by decide) he rfl) λσ H Q q=>cb1 (λG H x dx d sg ax ed Q q=>by
  cases dx with
  |lst ds=>
   unfold A6 at ed;dsimp only at ed;cases eb:nr ds with
   |none=>rw[eb]at ed;cases ed
   |some bs=>
    rw[eb]at ed;cases ed;obtain⟨l,vs,rfl,sq,dl⟩:=ax.lst sg;exact⟨G,l,vs,ds,bs,rfl,sq,dl,eb,q _ G H (Ext.refl sg) rfl⟩
  |_=>cases ed) q
end
noncomputable def Z4(x:Str):List D:=x.cps.toList.map λc=>.str ⟨#[c]⟩
noncomputable def Its(x:Str):It:=⟨λi _=>i<x.cps.size,λi H v H'=>H'=H∧∃c,x.cps[i]?=some c∧v=.str ⟨#[c]⟩,λi _=>x.cps.size≤i⟩
theorem Qn{P:Program}{w:World}{K:PySem.W.Frag}{tg:Expr}(it:Addr)(x:Str)(t:Tok):Turn P w K tg (Its x) [it] it (λi h=>h.IsStrIter it "str_ascii_iterator" x t i) where
 mem:=by simp
 obj:=λi h st b hb=>by
  have e:b=it:=by simpa using hb
  subst e;obtain⟨o,e,c,d⟩:=st;exact⟨o,e,λv z=>by rw[d]at z;cases z⟩
 keep:=λi h h' st k=>let ⟨o,ho,r⟩:=st;⟨o,k it (by simp) o ho,r⟩
 item:=by
  intro X hP hw hK hc i pins s σ H E I hf st hg;subst hP hw hK;obtain⟨f0,f1,f2,f3,f4,f5⟩:=hf it (by simp);have hg':i<x.cps.size:=hg;refine wpAny_pyNext_ascii_item st (c:=x.cps[i]) (by simp[hg']) λh' st' sb=>?_;have I1:Inv X pins σ H {s with heap:=h',toks:=s.toks+1}:=I.turned (t':=s.toks+1) (λb o hb e=>(sb.2 b hb).trans e) f0 f1 f3 f4 f5;obtain⟨o,e,c,d⟩:=id st';exact⟨_,rfl,Ls (s:={s with heap:=h',toks:=s.toks+1}) e c d (by decide) ⟨.str ⟨#[x.cps[i]]⟩,H,I1,⟨_,rfl⟩,⟨rfl,_,by simp[hg'],rfl⟩,st',λb hb=>(hf b hb).1⟩⟩
 done:=by
  intro X hP hw hK hc i pins s σ H E I hf st hg;subst hP hw hK;obtain⟨f0,f1,f2,f3,f4,f5⟩:=hf it (by simp);have hg':x.cps.size≤i:=hg;exact wpAny_pyNext_ascii_end (I.ok.hd hc) st (by simp[hg']) λh' eb=>⟨rfl,I.turned (t':=s.toks) (λb o hb e=>eb b o hb e) f0 f1 f3 f4 f5⟩
 self:=λ_ _ _ _ _ st h=>wpAny_pyIter_striter_ascii st h
theorem Vp{P:Program}{w:World}{K:PySem.W.Frag}{tg:Expr}(it:Addr)(x:Str)(t:Tok):Turn P w K tg (Its x) [it] it (λi h=>h.IsStrIter it "str_iterator" x t i) where
 mem:=by simp
 obj:=λi h st b hb=>by
  have e:b=it:=by simpa using hb
  subst e;obtain⟨o,e,c,d⟩:=st;exact⟨o,e,λv z=>by rw[d]at z;cases z⟩
 keep:=λi h h' st k=>let ⟨o,ho,r⟩:=st;⟨o,k it (by simp) o ho,r⟩
 item:=by
  intro X hP hw hK hc i pins s σ H E I hf st hg;subst hP hw hK;obtain⟨f0,f1,f2,f3,f4,f5⟩:=hf it (by simp);have hg':i<x.cps.size:=hg;refine wpAny_pyNext_wide_item st (c:=x.cps[i]) (by simp[hg']) λh' st' sb=>?_;have I1:Inv X pins σ H {s with heap:=h',toks:=s.toks+1}:=I.turned (t':=s.toks+1) (λb o hb e=>(sb.2 b hb).trans e) f0 f1 f3 f4 f5;obtain⟨o,e,c,d⟩:=id st';exact⟨_,rfl,Ls (s:={s with heap:=h',toks:=s.toks+1}) e c d (by decide) ⟨.str ⟨#[x.cps[i]]⟩,H,I1,⟨_,rfl⟩,⟨rfl,_,by simp[hg'],rfl⟩,st',λb hb=>(hf b hb).1⟩⟩
 done:=by
  intro X hP hw hK hc i pins s σ H E I hf st hg;subst hP hw hK;obtain⟨f0,f1,f2,f3,f4,f5⟩:=hf it (by simp);have hg':x.cps.size≤i:=hg;exact wpAny_pyNext_wide_end (I.ok.hd hc) st (by simp[hg']) λh' eb=>⟨rfl,I.turned (t':=s.toks) (λb o hb e=>eb b o hb e) f0 f1 f3 f4 f5⟩
 self:=λ_ _ _ _ _ st h=>wpAny_pyIter_striter_wide st h
theorem Xr{K:KA}{x:Str}{S:Hp→Hp→Prop}:Bf K (Its x) (Z4 x) S:=λi G H hS sg=>by
 unfold Z4;refine⟨λd ed=>?_,λhl=>?_⟩
 ·rw[kAr]at ed;cases e:x.cps.toList[i]? with
  |none=>rw[e]at ed;cases ed
  |some c=>
   rw[e]at ed;cases ed;have hi:i<x.cps.size:=by simpa using(kAq.mp e).1
   refine⟨hi,λv H' ⟨z,c',ec,ev⟩=>?_⟩;subst z;have:x.cps.toList[i]?=some c':=by simpa using ec
   rw[e]at this;cases this;exact⟨G,Ext.refl sg,ev⟩
 ·rw[kA2]at hl;show x.cps.size≤i;simpa using hl
section
variable{X:Cx}{G0 B:Hp}{E:EK}{e a b c tg iter:Expr}{g h:En→Res}{pos p:Pos}
noncomputable def zks(K:PySem.W.Frag)(tl:TE):TI:=λσ H R=>tl σ H λx H1=>(∃a,x=.ref a∧(((∃xs,SqL K H1 a xs)∧R (Itl K a) H1)∨((∃xs,SqT K H1 a xs)∧R (Itt K a) H1)))∨∃z,x=.str z∧R (Its z) H1
theorem Sg{l:Expr}{tl:TE}(hl:PE X l tl):PI X tg l (zks X.K tl):=by
 intro pins s σ H R I h;refine kc (hl pins s σ H _ I h) λv s1 ⟨x,H1,I1,r1,q1⟩=>?_;rcases q1 with ⟨a,e,⟨⟨xs,hq⟩,q⟩|⟨⟨xs,hq⟩,q⟩⟩|⟨z,e,q⟩
 ·subst e;cases r1;obtain⟨its,rv,p,hz⟩:=I1.list hq;refine wpAny_pyIter_list p.isList ?_;refine⟨s1.heap.objs.size,[s1.heap.objs.size],_,_,H1,rfl,I1.kept (t':=s1.toks) λb o e=>Heap.get?_push_of_some _ e,Vo a _,⟨_,Heap.get?_push_size _ rfl,rfl,rfl⟩,λb hb=>?_,q⟩;have e:b=s1.heap.objs.size:=by simpa using hb
  subst e;exact I1.fpOk (kA1 _) (I1.hok.fresh (kA1 _))
 ·subst e;cases r1;obtain⟨its,rv,p,hz⟩:=I1.tuple hq;refine wpAny_pyIter_tuple (show s1.heap.IsTuple a its.toArray from p) ?_;refine⟨s1.heap.objs.size,[s1.heap.objs.size],_,_,H1,rfl,I1.kept (t':=s1.toks) λb o e=>Heap.get?_push_of_some _ e,Qq a _,⟨_,Heap.get?_push_size _ rfl,rfl,rfl⟩,λb hb=>?_,q⟩;have e:b=s1.heap.objs.size:=by simpa using hb
  subst e;exact I1.fpOk (kA1 _) (I1.hok.fresh (kA1 _))
 ·subst e;obtain⟨t,rfl⟩:=r1;cases ha:z.cps.all (· <128)
  ·refine wpAny_pyIter_wide ha ⟨s1.heap.objs.size,[s1.heap.objs.size],_,_,H1,rfl,I1.kept (t':=s1.toks) λb o e=>Heap.get?_push_of_some _ e,Vp _ z t,⟨_,Heap.get?_push_size _ rfl,rfl,rfl⟩,λb hb=>?_,q⟩;have e:b=s1.heap.objs.size:=by simpa using hb
   subst e;exact I1.fpOk (kA1 _) (I1.hok.fresh (kA1 _))
  ·refine wpAny_pyIter_ascii ha ⟨s1.heap.objs.size,[s1.heap.objs.size],_,_,H1,rfl,I1.kept (t':=s1.toks) λb o e=>Heap.get?_push_of_some _ e,Qn _ z t,⟨_,Heap.get?_push_size _ rfl,rfl,rfl⟩,λb hb=>?_,q⟩;have e:b=s1.heap.objs.size:=by simpa using hb
   subst e;exact I1.fpOk (kA1 _) (I1.hok.fresh (kA1 _))
noncomputable def Hr:D→Option (List D)
 |.lst ds=>some ds
 |.tup ds=>some ds
 |.str x=>some (Z4 x)
 |_=>none
noncomputable def de(g:En→Res):En→ResL:=λδ=>match g δ with
 | .ok d => (match Hr d with
  |some ds=>.ok ds
  |none=>.st)
 |.er c=>.er c
 |.st=>.st
theorem zfw{G H:Hp}{δ:En}{P:List D→Prop}(q:ResLP E G H (de g δ) P):ResP E G H (g δ) λd=>∃ds,Hr d=some ds∧P ds:=by
 unfold de at q;cases e:g δ with
 |ok d=>
  rw[e]at q;dsimp only at q;cases e2:Hr d with
  |some ds=>rw[e2]at q;exact⟨ds,e2,q⟩
  |none=>rw[e2]at q;exact q.elim
 |er c=>rw[e]at q;exact q
 |st=>rw[e]at q;exact q
theorem Y1(h:BoE X B E e g):PuI X B E tg e (de g):=PI.imp (Sg h) λσ H R ⟨G,δ,Rr,q⟩=>⟨G,δ,Rr,(zfw q).mono λd _ ⟨ds,ed,q⟩ v G1 H1 e1 ax=>by
 have bh:Same B H1:=Rr.bh.trans e1.hh;cases d with
 |lst ds'=>
  cases ed;rcases ax with ⟨a,vs,rfl,s,dl⟩|⟨ds2,a,vs,z,rfl,s,dl⟩|⟨t,kvs,a,z,_⟩
  ·exact .inl ⟨a,rfl,.inl ⟨⟨vs,SqL.mono e1.gh s⟩,q _ G1 H1 e1 (Oy (λG2 H2 ⟨x1,x2⟩ sg=>⟨SqL.mono (x1.trans sg) s,x1⟩) dl)⟩⟩
  ·cases z;exact .inl ⟨a,rfl,.inl ⟨⟨vs,SqL.mono bh s⟩,q _ G1 H1 e1 (Oy (λG2 H2 ⟨x1,x2⟩ sg=>⟨SqL.mono x2 s,x1⟩) dl)⟩⟩
  ·cases z
 |tup ds'=>
  cases ed;rcases ax with ⟨a,vs,rfl,s,dl⟩|⟨ds2,a,vs,z,rfl,s,dl⟩|⟨t,kvs,a,z,_⟩
  ·exact .inl ⟨a,rfl,.inr ⟨⟨vs,SqT.of (e1.gh _ _ s)⟩,q _ G1 H1 e1 (Xs (λG2 H2 ⟨x1,x2⟩ sg=>⟨SqT.of ((x1.trans sg) _ _ s),x1⟩) dl)⟩⟩
  ·cases z
  ·cases z
 |str z=>cases ed;exact .inr ⟨z,ax.str,q _ G1 H1 e1 Xr⟩
 |non=>cases ed
 |bl _=>cases ed
 |int _=>cases ed
 |dct _ _=>cases ed
 |obj _ _=>cases ed
 |fn _=>cases ed⟩
theorem Si(h:lx X B E e g):Tg X B E tg e (de g):=PI.imp (Sg h) λσ H R ⟨G,δ,Rr,q⟩=>⟨G,δ,Rr,(zfw q).mono λd _ ⟨ds,ed,q⟩ v G1 H1 e1 ax=>by
 cases d with
 |lst ds'=>
  cases ed;obtain⟨a,vs,rfl,s,dl⟩:=ax.lst e1.gh;exact .inl ⟨a,rfl,.inl ⟨⟨vs,s⟩,q _ G1 H1 e1 (Oy (λG2 H2 x sg=>⟨SqL.mono x.hh s,x.gg⟩) dl)⟩⟩
 |tup ds'=>
  cases ed;obtain⟨a,vs,rfl,s,dl⟩:=ax.tup e1.gh;exact .inl ⟨a,rfl,.inr ⟨⟨vs,s⟩,q _ G1 H1 e1 (Xs (λG2 H2 x sg=>⟨SqT.mono x.hh s,x.gg⟩) dl)⟩⟩
 |str z=>cases ed;exact .inr ⟨z,ax.str,q _ G1 H1 e1 Xr⟩
 |non=>cases ed
 |bl _=>cases ed
 |int _=>cases ed
 |dct _ _=>cases ed
 |obj _ _=>cases ed
 |fn _=>cases ed⟩
noncomputable def W7(ps:List PyData)(q:PyData):Option Nat:=ps.findIdx? λy=>PyData.eqv y q
noncomputable def qc:D→D→Option D
 | .lst xs, d => (match gw xs, ij d with
  |some ps,some q=>if PyData.canLayAll0 ps && SeqAt.shaped q && decide (xs.length≤sizeLine)then(W7 ps q).map λj=>.int (j:Nat)else none
  |_,_=>none)
 |_,_=>none
noncomputable def rMt(K:KA)(f:D→D→Option D):V→List V→Hp→VK→Prop:=λx vs H Q=>∃G dx dy y d,Same G H∧Arg K G H dx x∧vs=[y]∧Arg K G H dy y∧f dx dy=some d∧∀v,Den K G d v→Q v H
theorem Uv(hu:X.A.units+65<cLine):MtR X "list.index" (rMt (kx X) qc):=by
 intro pins s σ H x vs v us Q I rx rv q;obtain⟨G,dx,dy,y,d,sg,ax,rfl,ay,ed,q⟩:=q;obtain⟨u,rfl,ru⟩:=rv.one;cases dx with
 |lst xs=>
  unfold qc at ed;dsimp only at ed;cases e1:gw xs with
  |none=>rw[e1]at ed;cases ed
  |some ps=>
   cases e2:ij dy with
   |none=>rw[e1,e2]at ed;cases ed
   |some q'=>
    rw[e1,e2]at ed;dsimp only at ed
    by_cases hs:(PyData.canLayAll0 ps && SeqAt.shaped q' && decide (xs.length≤sizeLine))=true
    ·rw[if_pos hs]at ed;simp only[kA4,decide_eq_true_eq]at hs;obtain⟨⟨h1,h2⟩,h3⟩:=hs;cases ej:W7 ps q' with
     |none=>rw[ej]at ed;cases ed
     |some j=>
      rw[ej]at ed;cases ed;obtain⟨as,ra⟩:=i6 (p:=.list ps) I sg ax rx (by unfold ij;rw[e1]);obtain⟨bs,rb⟩:=i6 I sg ay ru e2;cases ra with
      |@list l o items n _ _ g1 g2 g3 g4=>
       obtain⟨cls,dd,data,sl⟩:=o;simp only at g2 g3;subst g2 g3;have hm:=SeqAt.readsAll_map ps _ _ h1 g4;have hlen:items.size=ps.length:=by rw[←hm,kA2];simp
       unfold W7 at ej;obtain⟨w1,w2,w3⟩:=List.findIdx?_eq_some_iff_getElem.mp ej;have at_:∀(k:Nat)(hk:k<items.size),PyData.eqv (SeqAt.readOf s.heap items[k]) q'=PyData.eqv (ps[k]'(by omega)) q':=λk hk=>by
        congr 1
        have:(items.toList.map (SeqAt.readOf s.heap))[k]?=ps[k]?:=by rw[hm]
        rw[kAr,kB4 (by simpa using hk),kB4 (by omega)]at this;simpa using this
       have hz:ps.length≤sizeLine:=by
        have:xs.length=ps.length:=by
         obtain⟨l',vs',rfl,sq,dl⟩:=ax.lst sg;cases rx;obtain⟨its,rv',pl,_⟩:=I.list sq;obtain⟨o',ho',hc',n',hd'⟩:=pl.isList;rw[g1]at ho';cases ho';cases hd';rw[dl.length,rv'.length,←hlen];simp
        omega
       have hbig:(sizeLine:Int)<2 ^ 63 - 1:=by decide
       refine call_meets PySem.F.slot_list_index ⟨_,g1,rfl⟩ PySem.F.entry_list_index (PySem.F.args_list_index_2 _ _)
        (PySem.SeqAt.list_indexAt l items n dd sl u (λy=>PyData.eqv (SeqAt.readOf s.heap y) q') j (by omega) (by omega) ?_ ?_) ⟨g1,λy hy=>SeqAt.items_eqAt g4 rb h1 (SeqAt.canLay_of_shaped h2) (room_in_shaped h2 hu) y hy,?_⟩
       ·show PyData.eqv (SeqAt.readOf s.heap items[j]) q'=true;rw[at_ j (by omega)];exact w2
       ·intro k hk hlt;show PyData.eqv (SeqAt.readOf s.heap items[k]) q'=false;rw[at_ k hk];have:=w3 k hlt;simpa using this
       ·exact⟨.int j,H,I.tok _,⟨_,rfl⟩,q _ rfl⟩
    ·rw[if_neg hs]at ed;cases ed
 |_=>cases ed
end
section
variable{X:Cx}{G0 B:Hp}{E:EK}{e a b c tg iter:Expr}{g h:En→Res}{pos p:Pos}
noncomputable def gM(f:D→D→Option D)(g h:En→Res):En→Res:=λδ=>(g δ).bind λx=>match x with
 |.lst xs=>(h δ).bind λy=>Res.of (f (.lst xs) y)
 |_=>.st
theorem zlr{f:D→D→Option D}{m:Str}{id:String}{ap cp:Pos}(slot:Slot "list" m id)(hty:typeOf (.builtin id)=pure (.type "method_descriptor"))(hm:MtR X id (rMt (kx X) f))(ho:lx X B E a g)(he:lx X B E e h)
  (hb:attributeBase a m X.env (eval a X.env)=eval a X.env)(hn:jz e=true)(hl:(ap.endLine==cp.line)=true):ji X B E (.Call (.Attribute a m ap) [e] [] cp) (gM f g h):=
 PE.imp (Yr PySem.F.plainAttrs_list slot hty hm ho (ju he ky (cj hn)) hb (by rw[vc (by rw[kAm,hn];rfl)];rfl) hl (cj hn) rfl) λσ H Q ⟨G,δ,R,q⟩=>⟨G,δ,R,(ResP.bind q).mono λdx _ qx x G1 H1 e1 ax=>by
  cases dx with
  |lst xs=>
   have ax':=ax;obtain⟨l,vs,rfl,sq,dl⟩:=ax.lst e1.gh;refine⟨.inl ⟨rfl,vs,sq⟩,G1,δ,R.ext e1,?_⟩;have qx:ResP E G1 H1 ((h δ).bind λy=>Res.of (f (.lst xs) y)) _:=ResP.ext e1 qx;unfold ae;cases eh:h δ with
   |ok dy=>
    rw[eh]at qx;obtain⟨d,ed,qd⟩:=ResP.of (show ResP E G1 H1 (Res.of (f (.lst xs) dy)) _ from qx);intro ws G2 H2 e2 al;obtain⟨y,rfl,ay⟩:=ArgsM.one al;exact⟨G2,.lst xs,dy,y,d,e2.gh,ax'.ext e2,rfl,ay,ed,λv dn=>qd v G2 H2 (e1.trans e2) dn⟩
   |er c=>rw[eh]at qx;exact qx
   |st=>rw[eh]at qx;exact qx
  |_=>exact qx.elim⟩
theorem Zh{ap cp:Pos}(hu:X.A.units+65<cLine)(ho:lx X B E a g)(he:lx X B E e h)(hb:Ab a=true)(hn:jz e=true)(hl:(ap.endLine==cp.line)=true):ji X B E (.Call (.Attribute a "index" ap) [e] [] cp) (gM qc g h):=
 zlr PySem.F.slot_list_index PySem.F.type_list_index (Uv hu) ho he (A3 hb) hn hl
noncomputable def mz:D→D→Option D
 |.int i,.int j=>if(-(2 ^ 64)<i∧i<2 ^ 64)∨(-(2 ^ 64)<j∧j<2 ^ 64)then some (.int (i * j))else none
 |.str x,.int n=>if x.length * n.toNat≤sizeLine∧-(2 ^ 20)≤n∧n<2 ^ 20 then some (.str (Txt.mul x n))else none
 |_,_=>none
theorem zk2{x:Str}{n:Int}(h:x.length * n.toNat≤sizeLine∧-(2 ^ 20)≤n∧n<2 ^ 20):MulOk x n:=by
 obtain⟨h1,h2,h3⟩:=h;refine⟨?_,λa b=>?_,λa b=>?_⟩
 ·simp only[Bool.or_eq_false_iff,decide_eq_false_iff_not];omega
 ·intro hc;have hx:x.length≤sizeLine:=by
   have:1≤n.toNat:=by omega
   exact kAk (Nat.le_mul_of_pos_right _ this) h1
  have hs:(sizeLine:Int)=2 ^ 24:=rfl;have h4:(2 ^ 63 - 1:Int) / n≥2 ^ 43 - 1:=by
   rw[ge_iff_le,Int.le_ediv_iff_mul_le (by omega)];have:(2 ^ 43 - 1:Int) * n≤(2 ^ 43 - 1) * 2 ^ 20:=Int.mul_le_mul_of_nonneg_left (by omega) (by decide);omega
  omega
 ·unfold Builtin.Str.tooLong;simp only[gt_iff_lt,decide_eq_false_iff_not,Nat.not_lt];exact h1
noncomputable def zl3(K:KA):R2:=λx y H Q=>∃G dx dy d,Same G H∧Arg K G H dx x∧Arg K G H dy y∧mz dx dy=some d∧∀v G' H',Ext G H G' H'→Den K G' d v→Q v H'
theorem zcq:OpR X (binaryOp .Mult) (zl3 (kx X)):=by
 intro pins s σ H x y v u Q I rx ry q;obtain⟨G,dx,dy,d,sg,ax,ay,ed,q⟩:=q;unfold mz at ed;split at ed
 ·split at ed
  ·rename_i hc;cases ed;rw[ax.int]at rx;rw[ay.int]at ry;exact zhp pins s σ H _ _ _ _ Q I rx ry ⟨_,_,rfl,rfl,hc,q _ G H (Ext.refl sg) rfl⟩
  ·cases ed
 ·split at ed
  ·rename_i hc;cases ed;rw[ax.str]at rx;rw[ay.int]at ry;obtain⟨t,rfl⟩:=rx;obtain⟨t',rfl⟩:=ry;exact SB.mul (zk2 hc) λt'' k=>⟨.str _,H,I.tok _,⟨_,rfl⟩,q _ G H (Ext.refl sg) rfl⟩
  ·cases ed
 ·cases ed
theorem zii(ha:lx X B E a g)(hb:lx X B E b h):ji X B E (.BinOp a .Mult b pos) (g2 mz g h):=M7 zcq (λG H x y dx dy d sg ax ay ed Q q=>⟨G,dx,dy,d,sg,ax,ay,ed,q⟩) ha hb
theorem Nt:∀{xs:List V}{us:List Value},xs.length=us.length→(∀(i:Nat) x u,xs[i]?=some x→us[i]?=some u→RelV x u)→Vals xs us
 |[],[],_,_=>.nil
 |[],_::_,h,_=>by simp at h
 |_::_,[],h,_=>by simp at h
 |x::xs,u::us,h,f=>.cons (f 0 x u rfl rfl) (Nt (by simpa using h) λi y v e1 e2=>f (i+1) y v (by simpa using e1) (by simpa using e2))
end
inductive ResE where
 |ok (d:D) (δ:En)
 |er (c:Str)
 |st
def Cj(K:KA)(G0 B:Hp)(E:EK)(G:Hp)(σ:St)(r:ResE)(P:D→Hp→Hp→En→Prop):Prop:=match r with
 |.ok d δ'=>∀G' H',Same G G'→EnvR K B G' H' σ δ'→Ext G0 B G' H'→P d G' H' δ'
 |.er c=>∀G' H',Ext G0 B G' H'→E c H'
 |.st=>False
noncomputable def tEf(K:KA)(G0 B:Hp)(E:EK)(g:En→ResE):TE:=λσ H Q=>∃G δ,EnvR K B G H σ δ∧Ext G0 B G H∧Cj K G0 B E G σ (g δ) λd G' H' _=>∀v,Den K G' d v→Q v H'
noncomputable def tEt(K:KA)(G0 B:Hp)(E:EK)(g:En→ResE):TT:=λσ H Q=>∃G δ,EnvR K B G H σ δ∧Ext G0 B G H∧Cj K G0 B E G σ (g δ) λd G' H' _=>∃b,d=.bl b∧Q b H'
abbrev EfE(X:Cx)(G0 B:Hp)(E:EK)(e:Expr)(g:En→ResE):Prop:=PE X e (tEf (kx X) G0 B E g)
abbrev EfT(X:Cx)(G0 B:Hp)(E:EK)(e:Expr)(g:En→ResE):Prop:=PT X e (tEt (kx X) G0 B E g)
noncomputable def Res.ef(r:Res)(δ:En):ResE:=match r with
 |.ok d=>.ok d δ
 |.er c=>.er c
 |.st=>.st
noncomputable def Df(g:En→Res):En→ResE:=λδ=>(g δ).ef δ
section
variable{X:Cx}{G0 B:Hp}{E:EK}{e a b c tg iter:Expr}{g h k:En→Res}{f:En→ResE}{pos p:Pos}{ss tt:List Stmt}{F1 F2:En→Out}
theorem efP{K:KA}{G H:Hp}{σ:St}{δ:En}{r:Res}{P:D→Hp→Hp→En→Prop}(R:EnvR K B G H σ δ)(x:Ext G0 B G H)(q:Cj K G0 B E G σ (r.ef δ) P):ResP E G H r λd=>∀G' H',Ext G H G' H'→P d G' H' δ:=by
 cases r with
 |ok d=>exact λG' H' e=>q G' H' e.gg (R.ext e) (x.trans e)
 |er c=>exact λG' H' e=>q G' H' (x.trans e)
 |st=>exact q
theorem Rb(h:ji X B E e g):EfE X G0 B E e (Df g):=PE.imp h λσ H Q ⟨G,δ,R,x,q⟩=>⟨G,δ,R,(efP R x q).mono λd _ q v G' H' e dn=>q G' H' e v dn⟩
noncomputable def Bq(c:En→Res)(f1 f2:En→ResE):En→ResE:=λδ=>match c δ with
 |.ok (.bl true)=>f1 δ
 |.ok (.bl false)=>f2 δ
 |.ok _=>.st
 |.er c=>.er c
 |.st=>.st
theorem Wz{f1 f2:En→ResE}(hc:E3 X B E c g)(h1:EfE X G0 B E a f1)(h2:EfE X G0 B E b f2):EfE X G0 B E (.IfExp c a b pos) (Bq g f1 f2):=
 PE.imp (M5 hc h1 h2) λσ H Q ⟨G,δ,R,x,q⟩=>⟨G,δ,R,by
  unfold Bq at q;cases eg:g δ with
  |er c=>rw[eg]at q;exact λG' H' e=>q G' H' (x.trans e)
  |st=>rw[eg]at q;exact q
  |ok d=>
   rw[eg]at q;cases d with
   |bl t=>
    cases t with
    |true=>
     refine⟨true,rfl,λG1 H1 e1=>⟨G1,δ,R.ext e1,x.trans e1,?_⟩⟩;dsimp only at q;cases ef:f1 δ with
     |ok d δ'=>rw[ef]at q;exact λG' H' s=>q G' H' (e1.gg.trans s)
     |er c=>rw[ef]at q;exact q
     |st=>rw[ef]at q;exact q
    |false=>
     refine⟨false,rfl,λG1 H1 e1=>⟨G1,δ,R.ext e1,x.trans e1,?_⟩⟩;dsimp only at q;cases ef:f2 δ with
     |ok d δ'=>rw[ef]at q;exact λG' H' s=>q G' H' (e1.gg.trans s)
     |er c=>rw[ef]at q;exact q
     |st=>rw[ef]at q;exact q
   |_=>exact q.elim⟩
noncomputable def Ax(p:D→D→Option D)(f:En→ResE)(h:En→Res):En→ResE:=λδ=>match f δ with
 |.ok x δ'=>((h δ').bind λy=>Res.of (p x y)).ef δ'
 |.er c=>.er c
 |.st=>.st
theorem zgj{op:CmpOp}{f2:D→D→Option D}{r:R2}(ho:OpR X (compareOp op) r)(hp:j3 (kx X) f2 r)(hb':∀x y d,f2 x y=some d→∃b,d=.bl b)(ha:EfE X G0 B E a f)(hb:lx X B E b h)(hm:behindInMarks op b=false):EfT X G0 B E (.Compare a [op] [b] pos) (Ax f2 f h):=
 PT.imp (Sn ho ha hb hm) λσ H Q ⟨G,δ,R,x,q⟩=>⟨G,δ,R,x,by
  unfold Ax at q;cases ef:f δ with
  |er c=>rw[ef]at q;exact q
  |st=>rw[ef]at q;exact q
  |ok dx δ'=>
   rw[ef]at q;intro G1 H1 s1 R1 x1 v dn;have q1:Cj (kx X) G0 B E G1 σ (((h δ').bind λy=>Res.of (f2 dx y)).ef δ') λd G' H' _=>∃b,d=.bl b∧Q b H':=by
    dsimp only at q;cases eh:(h δ').bind λy=>Res.of (f2 dx y)with
    |ok d=>rw[eh]at q;exact λG' H' s=>q G' H' (s1.trans s)
    |er c=>rw[eh]at q;exact q
    |st=>rw[eh]at q;exact q
   have q2:=efP R1 x1 q1;refine⟨G1,δ',R1,(ResP.bind q2).mono λdy _ qy y G2 H2 e2 ay=>?_⟩;obtain⟨d,ed,qd⟩:=ResP.of qy;obtain⟨b,rfl⟩:=hb' _ _ _ ed;refine hp G2 H2 v y dx dy (.bl b) e2.gh (Arg.ext e2 (.inl dn)) ay ed _ λw G3 H3 e3 dw=>?_;obtain⟨b',eb,qb⟩:=qd G3 H3 (e2.trans e3);cases eb;exact⟨b,dw,qb⟩⟩
noncomputable def J8(f:En→ResE)(F1 F2:En→Out):En→Out:=λδ=>match f δ with
 |.ok (.bl true) δ'=>F1 δ'
 |.ok (.bl false) δ'=>F2 δ'
 |.ok _ _=>.st
 |.er c=>.er c
 |.st=>.st
theorem zmb(hc:EfT X G0 B E c f)(ha:xo X G0 B E ss F1)(hb:xo X G0 B E tt F2):qo X G0 B E (.If c ss tt pos) (J8 f F1 F2):=
 PS.imp (zff hc ha hb) λD σ H ⟨G,δ,R,x,q⟩=>⟨G,δ,R,x,by
  unfold J8 at q;cases ef:f δ with
  |er c=>rw[ef]at q;exact q
  |st=>rw[ef]at q;exact q
  |ok d δ'=>
   rw[ef]at q;intro G1 H1 s1 R1 x1;cases d with
   |bl t=>
    refine⟨t,rfl,?_⟩;cases t with
    |true=>exact⟨G1,δ',R1,x1,OutP.same s1 q⟩
    |false=>exact⟨G1,δ',R1,x1,OutP.same s1 q⟩
   |_=>exact q.elim⟩
noncomputable def u9(i:Nat)(f:En→ResE):En→Out:=λδ=>match f δ with
 |.ok d δ'=>.nx (δ'.set i (.pu d))
 |.er c=>.er c
 |.st=>.st
theorem zi3{i:Nat}{x:Str}{pos':Pos}(hs:PS X (.Assign [.Name x pos'] e pos) (Nn (tEf (kx X) G0 B E f) (ua i))):qo X G0 B E (.Assign [.Name x pos'] e pos) (u9 i f):=
 PS.imp hs λD σ H ⟨G,δ,R,x,q⟩=>⟨G,δ,R,x,by
  unfold u9 at q;cases ef:f δ with
  |er c=>rw[ef]at q;exact q
  |st=>rw[ef]at q;exact q
  |ok d δ'=>
   rw[ef]at q;intro G1 H1 s1 R1 x1 v dn;exact q _ G1 H1 s1 (R1.set dn) x1⟩
noncomputable def J7(f:En→ResE):En→Out:=λδ=>match f δ with
 |.ok _ δ'=>.nx δ'
 |.er c=>.er c
 |.st=>.st
theorem zdv(h:EfE X G0 B E e f)(hs:swapsWith e none pos.line X.env=pure false):qo X G0 B E (.Expr e pos) (J7 f):=
 PS.imp (Cd h hs) λD σ H ⟨G,δ,R,x,q⟩=>⟨G,δ,R,x,by
  unfold J7 at q;cases ef:f δ with
  |er c=>rw[ef]at q;exact q
  |st=>rw[ef]at q;exact q
  |ok d δ'=>
   rw[ef]at q;intro G1 H1 s1 R1 x1 v dn;exact q σ G1 H1 s1 R1 x1⟩
theorem Wq{pins:List (Addr×Obj)}{σ:St}{H:Hp}{s:Shared}{a:Addr}{kvs:List (ja×V)}{k:ja}{v:V}{u r:Value}{A:Around}{E:Value→Shared→Prop}{Q:Value→Shared→Prop}(I:Inv X pins σ H s)(e:H a=some (.dK kvs))(hl:kvs.length<sizeLine)(ry:RelV (kV k) u)(rv:RelV v r)
  (h1:∀v' w s',o8 kvs k=some v'→RelV v' w→Inv X pins σ H s'→Q w s')(h2:∀s',o8 kvs k=none→Inv X pins σ (upd H a (.dK (pk kvs k v))) s'→Q r s'):
  wpAny (model X.prog X.w) A (call (.builtin "dict.setdefault") [.ref a,u,r]) Q E s:=by
 obtain⟨z,hd,vs,rel,dd⟩:=Q9 I.hok e;refine call_meetsIn PySem.F.slot_dict_setdefault dd.typeIs PySem.F.entry_dict_setdefault (PySem.F.args_dict_setdefault_3 _ _ _) (kt_meets_setdefault (fo X.prog X.w) a (Dk ry) hd r)
  ⟨vs,dd,by rw[←rel.length];exact z,λw hw=>?_,λhn h' dd' hs=>?_⟩
 ·have:=rel.val k;rw[hw]at this;cases ev:o8 kvs k with
  |none=>rw[ev]at this;cases this
  |some v'=>rw[ev]at this;exact h1 v' w _ ev this (I.tok _)
 ·have hv:=rel.val k;rw[hn]at hv;have ev:o8 kvs k=none:=by
   cases ev:o8 kvs k with
   |none=>rfl
   |some v'=>rw[ev]at hv;cases hv
  refine h2 _ ev ?_;have he:∃q,h'.get? a=some q:=let ⟨q,_,_,hq,_⟩:=dd';⟨q,hq⟩;have hz:(pk kvs k v).length≤sizeLine:=by have:=p8 kvs k v;omega
  exact Ik I (by rw[e];exact True.intro) hs he (Wv hz hd (rel.put k rv) dd')
end
section
variable{X:Cx}{G0 B:Hp}{E:EK}{e a b c tg iter:Expr}{g h k:En→Res}{f:En→ResE}{pos p:Pos}
noncomputable def jv(i:Nat)(gk gv:En→Res):En→ResE:=λδ=>match δ[i]? with
 | some (.od false kvs) => (match gk δ with
  | .ok dk => (match gv δ with
   | .ok dv => (match fq dk with
    | some j => if kvs.length < sizeLine then (match fg kvs j with
     |some d=>.ok d δ
     |none=>.ok dv (δ.set i (.od false (pj kvs j dv))))else .st
    |none=>.st)
   |.er c=>.er c
   |.st=>.st)
  |.er c=>.er c
  |.st=>.st)
 |_=>.st
theorem Vd{K:KA}{G:Hp}{kvs:List (D×D)}{es:List (ja×V)}(dl:DenK K G kvs es){j:ja}(h:o8 es j=none):fg kvs j=none:=by
 cases e:fg kvs j with
 |none=>rfl
 |some d=>
  obtain⟨v,q,_⟩:=(dl.look j).1 d e;rw[h]at q;cases q
theorem T2{i:Nat}{x:Str}{ke ve:Expr}{ap cp:Pos}(hv:PE X (.Name x p) (F7 i))(hk:lx X B E ke g)(hval:ji X B E ve h)(hn:jz ke=true)(hn2:jz ve=true)(hl:(ap.endLine==cp.line)=true):
  EfE X G0 B E (.Call (.Attribute (.Name x p) "setdefault" ap) [ke,ve] [] cp) (jv i g h):=by
 intro pins s σ H Q I ⟨G,δ,R,ex,q⟩;unfold jv at q;cases ed:δ[i]? with
 |none=>rw[ed]at q;exact q.elim
 |some sl=>
  rw[ed]at q;cases sl with
  |od t kvs=>
   cases t with
   |true=>exact q.elim
   |false=>
    dsimp only at q;obtain⟨l,es,q1,q2,q3,q4,q5⟩:=R.odAt ed;have few:((backTo cp (starEach [ke,ve] X.env)).all (λx=> !x.1) && (backToKw cp (keywordEach [] X.env)).all (λx=>x.1.isSome)
     && decide (([ke,ve]:List Expr).length+([]:List Keyword).length+(if([]:List Keyword).isEmpty then 0 else 1)<30))=true:=by
     rw[vc (by rw[kAm,kAm,hn,hn2];rfl)];rfl
    refine wpAny_Call_method rfl few hl PySem.F.plainAttrs_dict PySem.F.slot_dict_setdefault PySem.F.type_dict_setdefault (kc (hv pins s σ H (λv H1=>v=.ref l∧H1=H) I ⟨_,q1,rfl,rfl⟩) λu s1 ⟨v,H1,I1,r1,e1,e2⟩=>?_);subst e1 e2;cases r1;obtain⟨t1,t2,_⟩:=Xm I1 (.inl ⟨es,.inl q2⟩);refine⟨t1,t2,?_⟩;rw[Nj hn hn2];have qk:ResP (E) G H1 (g δ) λdk=>ResP E G H1 (h δ) λdv=>∃j,fq dk=some j∧kvs.length<sizeLine∧Cj (kx X) G0 B E G σ (match fg kvs j with
     |some d=>.ok d δ
     |none=>.ok dv (δ.set i (.od false (pj kvs j dv)))) λd G' H' _=>∀v,Den (kx X) G' d v→Q v H':=by
     cases eg:g δ with
     |er c=>rw[eg]at q;exact λG' H' e=>q G' H' (ex.trans e)
     |st=>rw[eg]at q;exact q
     |ok dk=>
      rw[eg]at q;dsimp only at q;show ResP E G H1 (h δ) _;cases eh:h δ with
      |er c=>rw[eh]at q;exact λG' H' e=>q G' H' (ex.trans e)
      |st=>rw[eh]at q;exact q
      |ok dv=>
       rw[eh]at q;dsimp only at q;cases ej:fq dk with
       |none=>rw[ej]at q;exact q.elim
       |some j=>
        rw[ej]at q;dsimp only at q
        by_cases hl:kvs.length<sizeLine
        ·rw[if_pos hl]at q;exact⟨j,rfl,hl,q⟩
        ·rw[if_neg hl]at q;exact q.elim
    refine Calls.callWith_builtin rfl (Calls.evalArgs_plain (Calls.spliced_cons (kc (hk pins s1 σ H1 (λy H2=>∃G2 dk,Ext G H1 G2 H2∧Arg (kx X) G2 H2 dk y∧ResP E G H1 (h δ) λdv=>∃j,fq dk=some j∧kvs.length<sizeLine∧Cj (kx X) G0 B E G σ (match fg kvs j with
     |some d=>.ok d δ
     |none=>.ok dv (δ.set i (.od false (pj kvs j dv)))) λd G' H' _=>∀v,Den (kx X) G' d v→Q v H') I1 ⟨G,δ,R,qk.mono λdk _ qk y G2 H2 e2 ay=>⟨G2,dk,e2,ay,qk⟩⟩) λyv s2 ⟨y,H2,I2,ry,G2,dk,e2,ay,qv⟩=>?_)))
    refine Calls.spliced_cons (kc (hval pins s2 σ H2 (λz H3=>∃G3 dv j,Ext G2 H2 G3 H3∧Den (kx X) G3 dv z∧fq dk=some j∧kvs.length<sizeLine∧Cj (kx X) G0 B E G σ (match fg kvs j with
     |some d=>.ok d δ
     |none=>.ok dv (δ.set i (.od false (pj kvs j dv)))) λd G' H' _=>∀v,Den (kx X) G' d v→Q v H') I2 ⟨G2,δ,R.ext e2,(qv.ext e2).mono λdv _ ⟨j,ej,hl,q⟩ z G3 H3 e3 dz=>⟨G3,dv,j,e3,dz,ej,hl,q⟩⟩) λzv s3 ⟨z,H3,I3,rz,G3,dv,j,e3,dz,ej,hsz,q⟩=>Calls.spliced_nil ?_)
    have e23:=e2.trans e3;have h3:=e23.hh _ _ q2;have g3:=e23.fr _ _ q2 q4 rfl;have dl3:=q3.mono e23.gg;have R3:=R.ext e23;rw[sr ay ej]at ry;refine Wq I3 h3 (by rw[←dl3.length];exact hsz) ry rz (λv' w s' ev rw' I'=>?_) λs' ev I'=>?_
    ·cases el:fg kvs j with
     |none=>rw[(dl3.look j).2 el]at ev;cases ev
     |some d=>
      rw[el]at q;obtain⟨v2,z1,z2⟩:=(dl3.look j).1 d el;rw[z1]at ev;cases ev;exact⟨v',H3,I',rw',q G3 H3 e23.gg R3 (ex.trans e23) v' z2⟩
    ·have el:=Vd dl3 ev;rw[el]at q;exact⟨z,_,I',rz,q G3 _ e23.gg (EnvR.wrD R3 ed q1 h3 (dl3.put dz j)) (Ext.wr (ex.trans e23) g3 q5) z dz⟩
  |no=>exact q.elim
  |pu _=>exact q.elim
  |bo _=>exact q.elim
  |ow _=>exact q.elim
noncomputable def Ro(kvs:List (D×D)):List D:=kvs.map (·.1)
theorem Gi{K:KA}{G:Hp}:∀{kvs:List (D×D)}{es:List (ja×V)},DenK K G kvs es→DenL K G (Ro kvs) (es.map λp=>kV p.1)
 |[],es,h=>by rw[show es=[]from h];rfl
 |(_,_)::_,es,⟨k,v,r,h1,h0,h2,h3⟩=>by
  subst h1 h0;refine⟨kV k,_,rfl,?_,Gi h3⟩;cases k<;>rfl
noncomputable def jw:D→Option D
 |.lst ds=>some (.lst ds)
 |.tup ds=>some (.lst ds)
 |.dct false kvs=>some (.lst (Ro kvs))
 |_=>none
theorem zkv{P:Program}{w:World}{k:ja}{v:Value}(h:(fo P w).is k v=true):RelV (kV k) v:=by
 rcases i4 (show Az k v=true from h)with ⟨i,t,rfl,rfl⟩|⟨x,t,rfl,rfl⟩
 ·exact⟨t,rfl⟩
 ·exact⟨t,rfl⟩
theorem Ob(hc:X.calm=true):CallR X (.type "list") (λxs H Q=>∃p es,xs=[.ref p]∧H p=some (.dK es)∧∀l,H l=none→Q (.ref l) (upd H l (.lst (es.map λp=>kV p.1)))):=by
 intro pins s σ H xs us Q I r h;obtain⟨p,es,rfl,hp,q⟩:=h;obtain⟨u,rfl,rx⟩:=qj r;cases rx;obtain⟨z,hd,vs,rel,dd⟩:=Q9 I.hok hp;obtain⟨ep,da⟩:=dd.dictAt;refine PySem.W.kdl_call (PySem.W.kdl_dict (knd:=fo X.prog X.w) (kvs:=vs) (ep:=ep) hd) (I.ok.hd hc) da (by rw[←rel.length];exact z) λh' tk acc c' hk hS ⟨hn,hacc⟩=>?_;have hv:Vals (es.map λp=>kV p.1) acc.toList:=by
  refine Nt (by rw[kA2,rel.length];simp[hn]) λi x u e1 e2=>?_;obtain⟨k,y,ek,hk'⟩:=hacc i u (by simpa using e2);rw[kAr]at e1;have key:∀{l:List (ja×V)}{m:List (ja×Value)},KV l m→∀(i:Nat)(p:ja×V)(q:ja×Value),l[i]?=some p→m[i]?=some q→p.1=q.1:=by
   intro l m r;induction r with
   |nil=>intro i p q e;simp at e
   |@cons a b as bs hh t ih=>
    intro i p q e1 e2;cases i with
    |zero=>simp at e1 e2;subst e1 e2;exact hh.1
    |succ i=>exact ih i p q (by simpa using e1) (by simpa using e2)
  cases eo:es[i]? with
  |none=>rw[eo]at e1;cases e1
  |some pr=>
   rw[eo]at e1;cases e1;have:=key rel i pr (k,y) eo ek;show RelV (kV pr.1) u;rw[this];exact zkv hk'
 refine⟨.ref _,_,I.laid (t':=tk) (o:=.lst (es.map λp=>kV p.1)) hk (kA1 _) ⟨by rw[kA2];exact z,acc.toList,c',hv,by simpa using hS⟩,rfl,q _ I.fresh⟩
theorem M1(hc:X.calm=true)(hg:Gl X "list")(hm:X.mg "list"=none)(ha:lx X B E e g)(hn:jz e=true):OwE X B E (.Call (.Name "list" p) [e] [] pos) (g1 jw g):=
 PE.imp (rk (CallR.or Ie (Ob hc)) hg hm PyProof.Rows.boot_list (ju ha ky (cj hn)) (by decide) (by decide) (cj hn) rfl) λσ H Q ⟨G,δ,R,q⟩=>⟨G,δ,R,by
  unfold ae;unfold g1 at q;cases e:g δ with
  |er c=>rw[e]at q;exact q
  |st=>rw[e]at q;exact q
  |ok dx=>
   rw[e]at q;obtain⟨d,ed,ds,e2,qd⟩:=ResP.of (show ResP E G H (Res.of (jw dx)) _ from q);subst e2;intro vs G1 H1 e1 al;obtain⟨v,rfl,ax⟩:=ArgsM.one al;unfold jw at ed;split at ed
   ·cases ed;obtain⟨l,vs,rfl,sq,dl⟩:=ax.lst e1.gh;exact .inl ⟨l,vs,rfl,.inl sq,λp hp=>qd p vs G1 _ (e1.trans (Ext.own e1.gh _ hp)) (ik e1.hh hp) (ik e1.gh hp) d8 dl⟩
   ·cases ed;obtain⟨l,vs,rfl,sq,dl⟩:=ax.tup e1.gh;exact .inl ⟨l,vs,rfl,.inr sq,λp hp=>qd p vs G1 _ (e1.trans (Ext.own e1.gh _ hp)) (ik e1.hh hp) (ik e1.gh hp) d8 dl⟩
   ·cases ed;obtain⟨l,es,rfl,h1,dl⟩:=Arg.dctK e1.gh ax;exact .inr ⟨l,es,rfl,h1,λp hp=>qd p _ G1 _ (e1.trans (Ext.own e1.gh _ hp)) (ik e1.hh hp) (ik e1.gh hp) d8 (Gi dl)⟩
   ·cases ed⟩
theorem Uc:IsL (g1 jw g):=λδ d h=>by
 unfold g1 at h;cases e:g δ with
 |er c=>rw[e]at h;cases h
 |st=>rw[e]at h;cases h
 |ok dx=>
  rw[e]at h;have h':Res.of (jw dx)=.ok d:=h;unfold jw at h';split at h'
  ·cases h';exact⟨_,rfl⟩
  ·cases h';exact⟨_,rfl⟩
  ·cases h';exact⟨_,rfl⟩
  ·cases h'
end
section
variable{X:Cx}{G0 B:Hp}{E:EK}{e a b:Expr}{es:List Expr}{g h k:En→Res}{pos p:Pos}
theorem zlo:ji X B E (.Dict [] [] pos) (gC (.dct false [])):=
 PE.imp M4 λσ H Q ⟨G,δ,R,q⟩ p hp=>q (.ref p) (upd G p (.dK [])) _ (Ext.new R.gh _ hp) ⟨p,rfl,.inl ⟨rfl,[],d8,rfl⟩⟩
theorem N7:CallR X (.type "dict") (λxs H Q=>∃p es,xs=[.ref p]∧H p=some (.dK es)∧∀l,H l=none→Q (.ref l) (upd H l (.dK es))):=by
 intro pins s σ H xs us Q I r h;obtain⟨p,es,rfl,hp,q⟩:=h;obtain⟨u,rfl,rx⟩:=qj r;cases rx;obtain⟨z,hd,vs,rel,dd⟩:=Q9 I.hok hp;refine kt_call_dict hd dd (by rw[←rel.length];exact z) λh' hm hs=>?_;refine⟨.ref _,_,I.laid (t':=s.toks) (o:=.dK es) (λb u e=>?_) (kA1 _) ⟨z,beq_eq_false_iff_ne.mpr (Ne.symm (kAd I.big)),vs,rel,hm⟩,rfl,q _ (I.hok.fresh (kA1 _))⟩;have hb:b≠s.heap.objs.size:=λz=>by
  subst z;exact kAu _ (Heap.lt_size e)
 rw[hs.2 b hb];exact Heap.get?_push_of_some _ e
theorem EnvR.setDc{K:KA}{G G' H H':Hp}{σ:St}{δ:En}{i:Nat}{a:Addr}{kvs:List (D×D)}{es:List (ja×V)}(R:EnvR K B G H σ δ)(e:Ext G H G' H')(hn:H a=none)(gn:G' a=none)(ha:H' a=some (.dK es))(dk:DenK K G' kvs es):EnvR K B G' H' (σ.set i (some (.ref a))) (δ.set i (.od false kvs)):=by
 have R':=R.ext e;have bn:B a=none:=ik R.bh hn;have oth:∀(j:Nat) s,δ[j]?=some s→s.own=true→σ[j]?=some (some (V.ref a))→False:=λj s q1 q2 q3=>by
  obtain⟨o,z1,z2⟩:=R.sl j s q1;rw[q3]at z1;cases z1;obtain⟨a',z,u,z3,_⟩:=z2.ref q2;cases z;rw[hn]at z3;cases z3
 have at_i:∀{s:Sl},(δ.set i (.od false kvs))[i]?=some s→s=.od false kvs∧i<δ.length:=λq=>by
  have hl:i<δ.length:=by
   have:=(kAq.mp q).1;rwa [kAo]at this
  rw[kAg hl]at q;cases q;exact⟨rfl,hl⟩
 refine⟨R'.bh,R'.gh,by rw[kAo,kAo];exact R.len,λj s q=>?_,λj s b q1 q2 q3=>?_,λj k s t b q1 q2 q3 q4 q5 q6=>?_,R'.gb⟩
 ·by_cases z:i=j
  ·subst z;obtain⟨rfl,hl⟩:=at_i q;exact⟨some (.ref a),kAg (by rw[R.len];exact hl),a,es,rfl,ha,dk⟩
  ·rw[kAe z]at q⊢;exact R'.sl j s q
 ·by_cases z:i=j
  ·subst z;obtain⟨rfl,hl⟩:=at_i q1;rw[kAg (by rw[R.len];exact hl)]at q3;cases q3;exact⟨gn,bn⟩
  ·rw[kAe z]at q1 q3;exact R'.own j s b q1 q2 q3
 ·by_cases zj:i=j
  ·subst zj;obtain⟨rfl,hl⟩:=at_i q1;rw[kAg (by rw[R.len];exact hl)]at q5;cases q5
   by_cases zk:i=k
   ·exact zk
   ·rw[kAe zk]at q2 q6;exact(oth k t q2 q4 q6).elim
  ·rw[kAe zj]at q1 q5
   by_cases zk:i=k
   ·subst zk;obtain⟨rfl,hl⟩:=at_i q2;rw[kAg (by rw[R.len];exact hl)]at q6;cases q6;exact(oth j s q1 q3 q5).elim
   ·rw[kAe zk]at q2 q6;exact R'.dis j k s t b q1 q2 q3 q4 q5 q6
noncomputable def tOd(K:KA)(B:Hp)(E:EK)(g:En→Res):TE:=λσ H Q=>∃G δ,EnvR K B G H σ δ∧ResP E G H (g δ) λd=>∃kvs,d=.dct false kvs∧∀a es G' H',Ext G H G' H'→H a=none→G' a=none→H' a=some (.dK es)→DenK K G' kvs es→Q (.ref a) H'
theorem zcj(hg:Gl X "dict")(hm:X.mg "dict"=none)(ha:lx X B E e g)(hn:jz e=true):PE X (.Call (.Name "dict" p) [e] [] pos) (tOd (kx X) B E g):=
 PE.imp (rk N7 hg hm PyProof.Rows.boot_dict (ju ha ky (cj hn)) (by decide) (by decide) (cj hn) rfl) λσ H Q ⟨G,δ,R,q⟩=>⟨G,δ,R,by
  unfold ae;cases e:g δ with
  |er c=>rw[e]at q;exact q
  |st=>rw[e]at q;exact q
  |ok dx=>
   rw[e]at q;obtain⟨kvs,rfl,qd⟩:=q;intro vs G1 H1 e1 al;obtain⟨v,rfl,ax⟩:=ArgsM.one al;obtain⟨l,es,rfl,h1,dl⟩:=Arg.dctK e1.gh ax;exact⟨l,es,rfl,h1,λp hp=>qd p es G1 _ (e1.trans (Ext.own e1.gh _ hp)) (ik e1.hh hp) (ik e1.gh hp) d8 dl⟩⟩
noncomputable def Ed(i:Nat)(g:En→Res):En→Out:=λδ=>(g δ).then λd=>match d with
 |.dct false kvs=>.nx (δ.set i (.od false kvs))
 |_=>.st
theorem zdy{i:Nat}{x:Str}{pos':Pos}(hs:PS X (.Assign [.Name x pos'] e pos) (Nn (tOd (kx X) B E g) (ua i))):qo X G0 B E (.Assign [.Name x pos'] e pos) (Ed i g):=
 PS.imp hs λD σ H ⟨G,δ,R,e,q⟩=>⟨G,δ,R,(o7 e q).mono λd _ q=>by
  cases d with
  |dct t kvs=>
   cases t with
   |false=>exact⟨kvs,rfl,λa es G' H' e1 hn gn hh dl=>q _ G' H' e1.gg (R.setDc e1 hn gn hh dl) (e.trans e1)⟩
   |true=>exact q.elim
  |non=>exact q.elim
  |bl _=>exact q.elim
  |int _=>exact q.elim
  |str _=>exact q.elim
  |tup _=>exact q.elim
  |lst _=>exact q.elim
  |obj _ _=>exact q.elim
  |fn _=>exact q.elim⟩
end
noncomputable def zz(kvs:List (D×D))(more:List (ja×D)):List (D×D):=more.foldl (λacc p=>pj acc p.1 p.2) kvs
noncomputable def PD(K:KA)(G:Hp):List (ja×D)→List (ja×V)→Prop
 |[],[]=>True
 |(j,d)::r,(k,v)::q=>j=k∧Den K G d v∧PD K G r q
 |_,_=>False
theorem PD.length{K:KA}{G:Hp}:∀{l:List (ja×D)}{q:List (ja×V)},PD K G l q→l.length=q.length
 |[],[],_=>rfl
 |_::_,_::_,⟨_,_,h⟩=>by rw[kA5,kA5,PD.length h]
theorem PD.merge{K:KA}{G:Hp}:∀{l:List (ja×D)}{q:List (ja×V)}{kvs:List (D×D)}{es:List (ja×V)},PD K G l q→DenK K G kvs es→DenK K G (zz kvs l) (u3 es q)
 |[],[],_,_,_,h=>h
 |(j,d)::r,(k,v)::q,kvs,es,⟨e,dv,t⟩,h=>by
  subst e;exact PD.merge (l:=r) (q:=q) t (h.put dv j)
theorem Jh:typeLookup (.type "list") "keys"=pure none:=am_miss_of_fast (by decide+kernel)
theorem yf:typeLookup (.type "list") "__getattr__"=pure none:=by rw[typeLookup_type,builtinLookup_eq_fast];kernel_rfl
theorem I8(a:Addr)(its:Array Value)(n:Nat)(sl:Array (Option Value))(u:Tok):
  Meets (Builtin.«object.__getattribute__» ⟨[.ref a,.str "keys" u],[]⟩) (λA R s=>s.heap.get? a=some {cls:=.type "list",dict:=none,data:=.seq its n,slots:=sl}∧raisesAttr (.ref a) "keys" A R s):=
 Meets.of_wp λprog w A R s hs=>by
  obtain⟨hp,g,d,tk,os⟩:=s;obtain⟨hx,hs⟩:=hs;have hT:(⟨hp,g,d,tk,os⟩:Shared).TypeIs (.ref a) "list":=⟨_,hx,rfl⟩;have hmiss:=Jh;unfold Builtin.«object.__getattribute__»
  repeat (any_goals (first|assumption|wp_step))
  exact wpAny_raiseAttrError (A:=A.in1) hs.1 hs.2 (attrMsg_fits (by decide+kernel) (by rw[sizeLine_eq];decide))
theorem Js{prog:Program}{w:World}{A:Around}{E:Value→Shared→Prop}{h:Heap}{g:Array GenState}{d:Drawn}{t:Nat}{os:OsState}{a:Addr}{its:Array Value}{n:Nat}{sl:Array (Option Value)}{Q:Option Value→Shared→Prop}(hx:h.get? a=some {cls:=.type "list",dict:=none,data:=.seq its n,slots:=sl})(hA:A.handled=none)
  (hq:∀h' tk,(∀b ob,h.get? b=some ob→h'.get? b=some ob)→Q none ⟨h',g,d,tk,os⟩):wpAny (model prog w) A (getAttr? (.ref a) "keys") Q E ⟨h,g,d,t,os⟩:=by
 have hT:(⟨h,g,d,t,os⟩:Shared).TypeIs (.ref a) "list":=⟨_,hx,rfl⟩;have f1:=sub_AttributeError;have f3:=F.slot_list_getattribute.lookup;have f4:=F.slot_list_getattribute.bind (.ref a);have f5:=yf;unfold getAttr? getAttrBy? getAttrBy
 repeat (any_goals (first|assumption|((with_reducible show wpAny _ _ (call (Value.builtin "list.__getattribute__") _ _) _ _ _);refine call_meets F.slot_list_getattribute hT F.entry_list_ga (F.args_list_getattribute_2 _ _) (I8 a its n sl _) ⟨hx,hA,λh' tk' e hx'=>?_⟩)|wp_step))
 obtain⟨t',u',he⟩:=hx'.there;show wpAny _ _ (getattributeRaised _ _ _ _ _ _ _) _ _ _;unfold getattributeRaised
 repeat (any_goals (first|assumption|wp_step))
 exact hq h' _ hx'.keeps
theorem t7:entryFor table "dict.update.loop"=some Builtin.«dict.update.loop»:=entryFor_of_tree (by kernel_rfl)
theorem kr:plainId "dict.update.loop"=true:=by decide+kernel
def Ht(prog:Program)(w:World)(h:Heap)(kv:ja×Value)(v:Value):Prop:=∃p o k n,v=.ref p∧h.get? p=some o∧o.cls=.type "tuple"∧o.data=.seq #[k,kv.2] n∧(fo prog w).is kv.1 k=true
section
variable{prog:Program}{w:World}{A:Around}{R:Result→Shared→Prop}{I:Addr}{fp wr:List Addr}{St:Nat→Heap→Prop}{ps:List (ja×Value)}{items:Array Value}
theorem P0(W:Walks prog w A.in1 I fp wr ps.length (λi v=>items[i]?=some v) St)(d:Addr)(hd:d∉fp)(hz:ps.length≤sizeLine):
  ∀(ft:List (ja×Value))(i:Nat)(s:Shared)(kvs:List (ja×Value)),ps.drop i=ft→i≤ps.length→St i s.heap→s.heap.DictOf (fo prog w) d kvs→kvs.length≤i→
   (∀(j:Nat) kv v,ps[j]?=some kv→items[j]?=some v→Ht prog w s.heap kv v∧v≠.ref d∧∀b∈wr,v≠.ref b)→
   (∀h' tk,(∀b o,b≠d→b∉wr→s.heap.get? b=some o→h'.get? b=some o)→h'.DictOf (fo prog w) d (merged kvs ft)→R (.ok (.ret .none)) {s with heap:=h',toks:=tk})→
   codeAny (model prog w) A (.builtin "dict.update.loop" ⟨[.ref d,.ref I,rawInt i,.none],[]⟩) R s:=by
 have haw:d∉wr:=λz=>hd (W.sub _ z);intro ft;induction ft with
 |nil=>
  intro i s kvs hdr hi st hT hk hP hR;have hin:i=ps.length:=by
   have:=congrArg List.length hdr;rw[List.length_drop,List.length_nil]at this;omega
  subst hin;refine codeAny_builtin t7 ?_;rw[Around.under_plainId kr _];show wpAny _ A.in1 (pyNext (.ref I)>>=_) _ _ s;refine wpAny_bind (W.done s _ _ st λh' tk hk=>?_);show wpAny _ A.in1 (Builtin.Dict.addKeywords d []>>=λ_=>ret Value.none) _ _ _;refine wpAny_bind (wpAny_pure (wpAny_pure (hR h' tk (λb o _ hb e=>hk b o hb e) ?_)));obtain⟨o,es,ep,h1,h2⟩:=hT;exact⟨o,es,ep,hk d o haw h1,h2⟩
 |cons n ft ih=>
  intro i s kvs hdr hi st hT hkl hP hR;have hlt:i<ps.length:=by
   have:=congrArg List.length hdr;rw[List.length_drop,kA5]at this;omega
  have hni:ps[i]?=some n:=by
   have:(ps.drop i)[0]?=some n:=by rw[hdr];rfl
   simpa using this
  have hd':ps.drop (i+1)=ft:=by
   have:(ps.drop i).drop 1=ft:=by rw[hdr];rfl
   rw[List.drop_drop]at this;exact this
  refine codeAny_builtin t7 ?_;rw[Around.under_plainId kr _];show wpAny _ A.in1 (pyNext (.ref I)>>=_) _ _ s;refine wpAny_bind (W.item i s _ _ hlt st λv h1 tk1 hv st1 hk1=>?_);have hP':∀(j:Nat) kv v,ps[j]?=some kv→items[j]?=some v→Ht prog w h1 kv v∧v≠.ref d∧∀b∈wr,v≠.ref b:=λj kv v e1 e2=>by
   obtain⟨⟨p,o,k,m,rfl,g1,g2⟩,g3,g4⟩:=hP j kv v e1 e2;exact⟨⟨p,o,k,m,rfl,hk1 p o (λz=>g4 p z rfl) g1,g2⟩,g3,g4⟩
  obtain⟨⟨p,o,k,m,rfl,g1,g2,g3,g4⟩,g5,g6⟩:=hP' i n v hni hv;have hT1:h1.DictOf (fo prog w) d kvs:=by
   obtain⟨o,es,ep,z1,z2⟩:=hT;exact⟨o,es,ep,hk1 d o haw z1,z2⟩
  have hTp:Shared.TypeIs {s with heap:=h1,toks:=tk1} (.ref p) "tuple":=⟨o,g1,g2⟩;show wpAny _ A.in1 (holding [Value.ref p] _>>=_) _ _ _;refine wpAny_bind (wpAny_holding ?_);refine wpAny_bind (wpAny_tryCatch ?_);unfold Builtin.Dict.pairItems;refine wpAny_bind (wpAny_typeOf hTp ?_);rw[if_pos (by decide)];refine wpAny_bind (wpAny_seqItems g1 g3 (wpAny_pure ?_));show wpAny _ A.in1 (holding [k,n.2] (dictSet d k n.2)) _ _ _;refine wpAny_holding (wpAny_dictSet_pairs (hsz:=by omega) g4 hT1 λh2 hT2 sb=>?_);refine wpAny_pure ⟨plainId_quiet kr _,?_⟩;have ei:rawInt ((i:Int)+1)=rawInt ((i+1:Nat):Int):=by push_cast;rfl
  show codeAny (model prog w) A (.builtin "dict.update.loop" ⟨[.ref d,.ref I,rawInt ((i:Int)+1),.none],[]⟩) R _;rw[ei];refine ih (i+1) _ (stored kvs n.1 n.2) hd' hlt (W.frame _ _ _ st1 λc hc o e=>?_) hT2 ?_ (λj kv v e1 e2=>?_) λh' tk hk hT'=>?_
  ·rw[sb.2 c (λz:c=d=>hd (z▸hc))];exact e
  ·have:=stored_length_le kvs n.1 n.2;omega
  ·obtain⟨⟨q,o',k',m',rfl,z1,z2⟩,z3,z4⟩:=hP' j kv v e1 e2;exact⟨⟨q,o',k',m',rfl,(sb.2 q (λz=>z3 (by rw[z]))).trans z1,z2⟩,z3,z4⟩
  ·refine hR h' tk (λc o hc hw e=>hk c o hc hw ?_) hT';show h2.get? c=some o;rw[sb.2 c hc];exact hk1 c o hw e
end
section
variable{prog:Program}{w:World}{A:Around}{E:Value→Shared→Prop}{s:Shared}
theorem N9{l:Addr}{its:Array Value}{n:Nat}{sl:Array (Option Value)}{ps:List (ja×Value)}{Q:Value→Shared→Prop}(hh:A.handled=none)(hl:s.heap.get? l=some {cls:=.type "list",dict:=none,data:=.seq its n,slots:=sl})(hlen:its.size=ps.length)(hz:ps.length≤sizeLine)
  (hP:∀(j:Nat) kv v,ps[j]?=some kv→its[j]?=some v→Ht prog w s.heap kv v)
  (h:∀h' tk,h'.DictOf (fo prog w) s.heap.objs.size (merged [] ps)→(∀c o,s.heap.get? c=some o→h'.get? c=some o)→Q (.ref s.heap.objs.size) {s with heap:=h',toks:=tk}):
  wpAny (model prog w) A (call (.type "dict") [.ref l]) Q E s:=by
 refine callType_codes (Q₁:=λobj s₁=>obj=.ref s.heap.objs.size∧s₁={s with heap:=s.heap.push {cls:=.type "dict",data:=.dict #[]}}) F.kt_called_dict (F.kt_typeCall_dict_1 _) F.entry_dict_init (kt_code_dict_new _ ⟨rfl,rfl⟩) ?_
 rintro obj s₁ ⟨rfl,rfl⟩
 have hnew:(s.heap.push {cls:=.type "dict",data:=.dict #[]}).DictOf (fo prog w) s.heap.objs.size []:=Heap.DictOf.new s.heap;generalize hh1:s.heap.push {cls:=.type "dict",data:=.dict #[]}=h1 at hnew⊢;have k1:∀c o,s.heap.get? c=some o→h1.get? c=some o:=λc o e=>by rw[←hh1];exact Heap.get?_push_of_some _ e
 have hl1:=k1 _ _ hl;have hT:Shared.TypeIs {s with heap:=h1} (.ref l) "list":=⟨_,hl1,rfl⟩;refine⟨hnew.typeIs,F.args_dict_init_2 _ _,?_⟩;unfold Builtin.«dict.__init__»;refine wpAny_bind ?_;unfold Builtin.Dict.selfAndRest;refine wpAny_bind (wpAny_notOrdered_dict hnew.typeIs ?_);show wpAny _ _ (pure (s.heap.objs.size,[Value.ref l])) _ _ _;refine wpAny_pure ?_;show wpAny _ _ (Builtin.Dict.updateFrom "dict.__init__" s.heap.objs.size (.ref l) [] .none) _ _ _;unfold Builtin.Dict.updateFrom;refine wpAny_bind (wpAny_typeOf hT ?_);rw[if_pos (by decide)];obtain⟨hp,g,dr,tk,os⟩:=s;refine wpAny_bind (Js hl1 (by simpa using hh) λh2 tk2 k2=>?_);rw[if_pos (by rfl)];refine wpAny_bind (wpAny_rule ?_);have hl2:=k2 _ _ hl1;refine wpAny_bind (wpAny_pyIter_list (items:=its) ⟨_,hl2,rfl,n,rfl⟩ ?_);refine wpAny_pure ⟨plainId_quiet kr _,?_⟩;have hl2':h2.IsList l its:=⟨_,hl2,rfl,n,rfl⟩;obtain⟨od,es,ep,hod,hrest⟩:=hnew;have hod2:=k2 _ _ hod;have d2:hp.objs.size<h2.objs.size:=Heap.lt_size hod2;have lt:l<hp.objs.size:=Heap.lt_size hl;have hneI:l≠h2.objs.size:=kAd (Nat.lt_trans lt d2);have W:=Walks.list (prog:=prog) (w:=w) (A:=A.in1.in1) hh h2.objs.size l hneI its;rw[hlen]at W;show codeAny _ _ (.builtin "dict.update.loop" ⟨[_,_,rawInt ((0:Nat):Int),.none],[]⟩) _ _;refine P0 W hp.objs.size ?_ hz ps 0 _ [] rfl (kAl _) ⟨⟨_,Heap.get?_push_size _ rfl,rfl,rfl⟩,hl2'.push _⟩ ⟨od,es,ep,Heap.get?_push_of_some _ hod2,hrest⟩ (kAl _) (λj kv v e1 e2=>?_) λh' tk' hk hD=>⟨rfl,h h' tk' hD λc o e=>?_⟩
 ·simp only[kA8,List.not_mem_nil,or_false,not_or];exact⟨kAd d2,Nat.ne_of_gt lt⟩
 ·obtain⟨p,o,k,m,rfl,g1,g2⟩:=hP j kv v e1 e2;have lp:p<hp.objs.size:=Heap.lt_size g1;refine⟨⟨p,o,k,m,rfl,Heap.get?_push_of_some _ (k2 _ _ (k1 _ _ g1)),g2⟩,λz=>?_,λb hb z=>?_⟩
  ·injection z with z
   exact kAd lp z
  ·injection z with z
   have:b=h2.objs.size:=by simpa using hb
   exact kAd (Nat.lt_trans lp d2) (z.trans this)
 ·have lc:c<hp.objs.size:=Heap.lt_size e;refine hk c o (kAd lc) (λhb=>?_) (Heap.get?_push_of_some _ (k2 _ _ (k1 _ _ e)));have:c=h2.objs.size:=by simpa using hb
  exact kAd (Nat.lt_trans lc d2) this
end
noncomputable def m9:List D→Option (List (ja×D))
 |[]=>some []
 | .tup [k, v] :: r => (match fq k, m9 r with
  |some j,some l=>some ((j,v)::l)
  |_,_=>none)
 |_=>none
noncomputable def tm:D→Option D
 |.lst ds=>if ds.length≤sizeLine then(m9 ds).map λl=>.dct false (zz [] l)else none
 |_=>none
theorem M3{d:D}{r:List D}{l:List (ja×D)}(h:m9 (d::r)=some l):∃k v j t,d=.tup [k,v]∧fq k=some j∧m9 r=some t∧l=(j,v)::t:=by
 unfold m9 at h;split at h
 ·rename_i e;cases e
 ·rename_i k v r' e;cases e;cases e1:fq k with
  |none=>rw[e1]at h;cases h
  |some j=>
   cases e2:m9 r with
   |none=>rw[e1,e2]at h;cases h
   |some t=>rw[e1,e2]at h;cases h;exact⟨k,v,j,t,rfl,e1,rfl,rfl⟩
 ·cases h
section
variable{X:Cx}{B:Hp}{E:EK}{e:Expr}{g:En→Res}{pos p:Pos}
theorem Hd{pins:List (Addr×Obj)}{σ:St}{G H:Hp}{s:Shared}(I:Inv X pins σ H s)(sg:Same G H):∀{ds:List D}{l:List (ja×D)}{vs:List V}{its:List Value},m9 ds=some l→DenL (kx X) G ds vs→Vals vs its→
  ∃(kvs:List (ja×V)) (ps:List (ja×Value)),KV kvs ps∧PD (kx X) G l kvs∧ps.length=its.length∧∀(j:Nat) kv v,ps[j]?=some kv→its[j]?=some v→Ht X.prog X.w s.heap kv v
 |[],l,vs,its,h,dl,r=>by
  cases h;cases (show vs=[]from dl);cases r;exact⟨[],[],.nil,True.intro,rfl,λj kv v e=>by simp at e⟩
 |d::ds,l,vs,its,h,dl,r=>by
  obtain⟨k,v,j,t,rfl,ek,et,rfl⟩:=M3 h;obtain⟨v0,vr,rfl,dv,dr⟩:=dl;cases r with
  |cons rv rr=>
   obtain⟨kvs,ps,a1,a2,a3,a4⟩:=Hd I sg et dr rr;obtain⟨b,us,rfl,hb,dl2⟩:=dv;obtain⟨uk,q1,rfl,dk,uv,q2,rfl,du,e0⟩:=dl2;cases e0;have huk:uk=kV j:=sr (H:=G) (.inl dk) ek;subst huk;obtain⟨_,its2,r2,o,h1,h2,n,h3⟩:=(show ObjOk X.prog X.w H s.heap b (.tup [kV j,uv])from I.hok b _ (sg _ _ hb));cases r2 with
   |cons ra rb=>
    cases rb with
    |cons rc rd=>
     cases rd;rename_i kk vv;refine⟨(j,uv)::kvs,(j,vv)::ps,.cons ⟨rfl,rc⟩ a1,⟨rfl,du,a2⟩,by rw[kA5,kA5,a3],λi kv w e1 e2=>?_⟩;cases i with
     |zero=>
      simp at e1 e2;subst e1 e2;exact⟨b,o,kk,n,rv,h1,h2,by simpa using h3,Dk ra⟩
     |succ i=>exact a4 i kv w (by simpa using e1) (by simpa using e2)
noncomputable def zit(X:Cx):List V→Hp→VK→Prop:=λxs H Q=>∃a vs G ds l,xs=[.ref a]∧SqL X.K H a vs∧Same G H∧DenL (kx X) G ds vs∧ds.length≤sizeLine∧m9 ds=some l∧∀p kvs,H p=none→PD (kx X) G l kvs→Q (.ref p) (upd H p (.dK (u3 [] kvs)))
theorem N8(hc:X.calm=true):CallR X (.type "dict") (zit X):=by
 intro pins s σ H xs us Q I r q;obtain⟨a,vs,G,ds,l,rfl,sq,sg,dl,hz,e,q⟩:=q;obtain⟨u,rfl,ru⟩:=qj r;cases ru;obtain⟨its,rv,⟨o,n,h1,h2,h3,h4⟩,_⟩:=I.list sq;obtain⟨ocls,odict,odata,oslots⟩:=o;simp only at h2 h3 h4;subst h2 h3 h4;obtain⟨kvs,ps,a1,a2,a3,a4⟩:=Hd I sg e dl rv;have zl:ps.length≤sizeLine:=by rw[a3,←rv.length,←dl.length];exact hz
 have zk:(u3 [] kvs).length≤sizeLine:=by
  have h1:=wm kvs [];have h2:kvs.length=ps.length:=Paired.length a1;simp only[List.length_nil]at h1;omega
 refine N9 (I.ok.hd hc) h1 (by rw[a3];simp) zl (λj kv v e1 e2=>a4 j kv v e1 (by simpa using e2)) λh' tk hD hk=>?_;exact⟨.ref s.heap.objs.size,_,I.laid (a:=s.heap.objs.size) (o:=.dK (u3 [] kvs)) (t':=tk) (λb o e=>hk b o e) (kA1 _) ⟨zk,beq_eq_false_iff_ne.mpr (Ne.symm (kAd I.big)),_,a1.merge .nil,hD⟩,rfl,q _ kvs (I.hok.fresh (kA1 _)) a2⟩
theorem Zg(hc:X.calm=true)(hg:Gl X "dict")(hm:X.mg "dict"=none)(ha:lx X B E e g)(he:starEach [e] X.env=(false,eval e X.env)::starEach [] X.env):ji X B E (.Call (.Name "dict" p) [e] [] pos) (g1 tm g):=
 PE.imp (rk (N8 hc) hg hm PyProof.Rows.boot_dict (ju ha ky he) (by decide) (by decide) he rfl) λσ H Q q=>cb1 (λG H x dx d sg ax ed Q q=>by
  unfold tm at ed;split at ed
  ·rename_i ds
   by_cases hz:ds.length≤sizeLine
   ·rw[if_pos hz]at ed;cases el:m9 ds with
    |none=>rw[el]at ed;cases ed
    |some l=>
     rw[el]at ed;cases ed;obtain⟨b,vs,rfl,sq,dl⟩:=ax.lst sg;refine⟨b,vs,G,ds,l,rfl,sq,sg,dl,hz,el,λp kvs hp pd=>q _ (upd G p (.dK (u3 [] kvs))) _ (Ext.new sg _ hp) ⟨p,rfl,.inl ⟨rfl,_,d8,?_⟩⟩⟩;exact DenK.mono (i7 (ik sg hp) _) (pd.merge (kvs:=[]) (es:=[]) rfl)
   ·rw[if_neg hz]at ed;cases ed
  ·cases ed) q
end
noncomputable def wk:List D→Option (List ja)
 |[]=>some []
 |d::r=>match fq d,wk r with
  |some k,some ks=>some (k::ks)
  |_,_=>none
theorem Lw:∀ks:List ja,wk (ks.map kD)=some ks
 |[]=>rfl
 |k::ks=>by
  show(match fq (kD k),wk (ks.map kD)with
   |some k,some ks=>some (k::ks)
   |_,_=>none)=_
  rw[ux,Lw ks]
noncomputable def Yf:D→Option NK
 |.tup ds=>(wk ds).map .inr
 |d=>(fq d).map .inl
noncomputable def Pp:List D→Option gm
 |[]=>some []
 |d::r=>match Yf d,Pp r with
  |some k,some ks=>some (k::ks)
  |_,_=>none
noncomputable def ml:D→Option gm
 |.tup ds=>Pp ds
 |_=>none
theorem Yg:∀k:NK,Yf (nkD k)=some k
 |.inl (.inl _)=>rfl
 |.inl (.inr _)=>rfl
 |.inr ks=>by show(wk (ks.map kD)).map Sum.inr=_;rw[Lw];rfl
theorem R7:∀ks:gm,Pp (ks.map nkD)=some ks
 |[]=>rfl
 |k::ks=>by
  show(match Yf (nkD k),Pp (ks.map nkD)with
   |some k,some ks=>some (k::ks)
   |_,_=>none)=_
  rw[Yg,R7 ks]
theorem vn(ks:gm):ml (kT ks)=some ks:=R7 ks
theorem x6{K:KA}{G:Hp}:∀{ds:List D}{vs:List V}{ks:List ja},DenL K G ds vs→wk ds=some ks→vs=ks.map kV
 |[],_,_,h,e=>by cases e;exact h
 |d::r,_,ks,⟨v,t,h1,h2,h3⟩,e=>by
  unfold wk at e;cases e1:fq d with
  |none=>rw[e1]at e;cases e
  |some k=>
   cases e2:wk r with
   |none=>rw[e1,e2]at e;cases e
   |some ks'=>
    rw[e1,e2]at e;cases e;rw[h1,x6 h3 e2,sr (H:=G) (.inl h2) e1];rfl
theorem zge{K:KA}{G:Hp}{d:D}{v:V}{k:NK}(h:Den K G d v)(e:Yf d=some k):nkAt G k v:=by
 have one:∀{d:D},Den K G d v→(fq d).map Sum.inl=some k→nkAt G k v:=λ{d} h e=>by
  cases e1:fq d with
  |none=>rw[e1]at e;cases e
  |some j=>rw[e1]at e;cases e;exact sr (H:=G) (.inl h) e1
 cases d with
 |tup ds=>
  obtain⟨a,vs,rfl,h2,h3⟩:=h;have e:(wk ds).map Sum.inr=some k:=e;cases e1:wk ds with
  |none=>rw[e1]at e;cases e
  |some ks=>rw[e1]at e;cases e;exact⟨a,rfl,by rw[←x6 h3 e1];exact h2⟩
 |_=>exact one h e
theorem Lc{K:KA}{G:Hp}:∀{ds:List D}{vs:List V}{ks:gm},DenL K G ds vs→Pp ds=some ks→NkL G ks vs
 |[],_,_,h,e=>by cases e;exact h
 |d::r,_,ks,⟨v,t,h1,h2,h3⟩,e=>by
  unfold Pp at e;cases e1:Yf d with
  |none=>rw[e1]at e;cases e
  |some k=>
   cases e2:Pp r with
   |none=>rw[e1,e2]at e;cases e
   |some ks'=>
    rw[e1,e2]at e;cases e;exact⟨v,t,h1,zge h2 e1,Lc h3 e2⟩
noncomputable def L1:List (D×D)→gm→Option D
 |[],_=>none
 |(k,d)::r,j=>if ml k=some j then some d else L1 r j
noncomputable def Xe(kvs:List (D×D))(j:gm):Bool:=kvs.any λp=>decide (ml p.1=some j)
noncomputable def Zl(kvs:List (D×D))(j:gm)(v:D):List (D×D):=if Xe kvs j=true then kvs.map (λp=>if ml p.1=some j then(p.1,v)else p)else kvs++[(kT j,v)]
section
variable{K:KA}{G:Hp}
theorem DenT.length:∀{kvs:List (D×D)}{es:List (gm×V)},DenT K G kvs es→kvs.length=es.length
 |[],_,h=>by rw[show _=[]from h];rfl
 |(_,_)::_,_,⟨k,v,r,h1,_,_,h3⟩=>by rw[h1,kA5,kA5,DenT.length h3]
theorem DenT.look:∀{kvs:List (D×D)}{es:List (gm×V)},DenT K G kvs es→∀j,(∀d,L1 kvs j=some d→∃v,o8 es j=some v∧Den K G d v)∧(L1 kvs j=none→o8 es j=none)
 |[],es,h,j=>by
  rw[show es=[]from h];exact⟨λd e=>(by cases e),λ_=>Nr⟩
 |(k,d)::r,es,h,j=>by
  obtain⟨k',v,t,rfl,rfl,dv,dt⟩:=h;obtain⟨i1,i2⟩:=DenT.look dt j;unfold L1;rw[vn k']
  by_cases e:k'=j
  ·subst e;rw[if_pos rfl];exact⟨λd' z=>⟨v,vf rfl,by cases z;exact dv⟩,λz=>by cases z⟩
  ·rw[if_neg (λz=>e (kAi.inj z))];refine⟨λd' z=>?_,λz=>?_⟩
   ·obtain⟨u,q1,q2⟩:=i1 d' z;exact⟨u,(o9 e).trans q1,q2⟩
   ·exact(o9 e).trans (i2 z)
theorem DenT.has:∀{kvs:List (D×D)}{es:List (gm×V)},DenT K G kvs es→∀j,Xe kvs j=es.any λkv=>decide (kv.1=j)
 |[],es,h,j=>by rw[show es=[]from h];rfl
 |(k,d')::r,es,h,j=>by
  obtain⟨k',u,t,rfl,rfl,du,dt⟩:=h;have ih:=DenT.has dt j;unfold Xe at ih⊢;rw[List.any_cons,List.any_cons,ih]
  congr 1
  rw[vn k']
  by_cases e:k'=j
  ·simp[e]
  ·rw[decide_eq_false e,decide_eq_false λz=>e (kAi.inj z)]
theorem DenT.repl{d:D}{v:V}(dv:Den K G d v):∀{kvs:List (D×D)}{es:List (gm×V)},DenT K G kvs es→∀j,DenT K G (kvs.map λp=>if ml p.1=some j then(p.1,d)else p) (es.map λkv=>if kv.1=j then(kv.1,v)else kv)
 |[],es,h,j=>by rw[show es=[]from h];rfl
 |(k,d')::r,es,h,j=>by
  obtain⟨k',u,t,rfl,rfl,du,dt⟩:=h;have ih:=DenT.repl dv dt j;rw[kA0,kA0];dsimp only;rw[vn k']
  by_cases e:k'=j
  ·rw[if_pos e,if_pos (by rw[e])];exact⟨k',v,_,rfl,rfl,dv,ih⟩
  ·rw[if_neg e,if_neg λz=>e (kAi.inj z)];exact⟨k',u,_,rfl,rfl,du,ih⟩
theorem DenT.snoc{d:D}{v:V}(dv:Den K G d v):∀{kvs:List (D×D)}{es:List (gm×V)},DenT K G kvs es→∀j,DenT K G (kvs++[(kT j,d)]) (es++[(j,v)])
 |[],es,h,j=>by rw[show es=[]from h];exact⟨j,v,[],rfl,rfl,dv,rfl⟩
 |(k,d')::r,es,h,j=>by
  obtain⟨k',u,t,rfl,rfl,du,dt⟩:=h;exact⟨k',u,_,rfl,rfl,du,DenT.snoc dv dt j⟩
theorem DenT.put{d:D}{v:V}(dv:Den K G d v){kvs:List (D×D)}{es:List (gm×V)}(h:DenT K G kvs es)(j:gm):DenT K G (Zl kvs j d) (pk es j v):=by
 unfold Zl pk;rw[h.has j]
 by_cases e:(es.any λkv=>decide (kv.1=j))=true
 ·rw[if_pos e,if_pos e];exact h.repl dv j
 ·rw[if_neg e,if_neg e];exact h.snoc dv j
end
section
variable{X:Cx}{G0 B:Hp}{E:EK}{e a b:Expr}{es:List Expr}{g h k:En→Res}{pos p:Pos}
noncomputable def Ec(i:Nat):En→Out:=λδ=>.nx (δ.set i (.od true []))
theorem EnvR.setDT{K:KA}{G H:Hp}{σ:St}{δ:En}{i:Nat}{a:Addr}(R:EnvR K B G H σ δ)(hn:H a=none):EnvR K B G (upd H a (.dT [])) (σ.set i (some (.ref a))) (δ.set i (.od true [])):=by
 have e:Ext G H G (upd H a (.dT [])):=Ext.own R.gh _ hn;have R':=R.ext e;have gn:G a=none:=ik R.gh hn;have bn:B a=none:=ik R.bh hn;have oth:∀(j:Nat) s,δ[j]?=some s→s.own=true→σ[j]?=some (some (V.ref a))→False:=λj s q1 q2 q3=>by
  obtain⟨o,z1,z2⟩:=R.sl j s q1;rw[q3]at z1;cases z1;obtain⟨a',z,u,z3,_⟩:=z2.ref q2;cases z;rw[hn]at z3;cases z3
 have at_i:∀{s:Sl},(δ.set i (.od true []))[i]?=some s→s=.od true []∧i<δ.length:=λq=>by
  have hl:i<δ.length:=by
   have:=(kAq.mp q).1;rwa [kAo]at this
  rw[kAg hl]at q;cases q;exact⟨rfl,hl⟩
 refine⟨R'.bh,R'.gh,by rw[kAo,kAo];exact R.len,λj s q=>?_,λj s b q1 q2 q3=>?_,λj k s t b q1 q2 q3 q4 q5 q6=>?_,R.gb⟩
 ·by_cases z:i=j
  ·subst z;obtain⟨rfl,hl⟩:=at_i q;exact⟨some (.ref a),kAg (by rw[R.len];exact hl),a,[],rfl,d8,rfl⟩
  ·rw[kAe z]at q⊢;exact R'.sl j s q
 ·by_cases z:i=j
  ·subst z;obtain⟨rfl,hl⟩:=at_i q1;rw[kAg (by rw[R.len];exact hl)]at q3;cases q3;exact⟨gn,bn⟩
  ·rw[kAe z]at q1 q3;exact R'.own j s b q1 q2 q3
 ·by_cases zj:i=j
  ·subst zj;obtain⟨rfl,hl⟩:=at_i q1;rw[kAg (by rw[R.len];exact hl)]at q5;cases q5
   by_cases zk:i=k
   ·exact zk
   ·rw[kAe zk]at q2 q6;exact(oth k t q2 q4 q6).elim
  ·rw[kAe zj]at q1 q5
   by_cases zk:i=k
   ·subst zk;obtain⟨rfl,hl⟩:=at_i q2;rw[kAg (by rw[R.len];exact hl)]at q6;cases q6;exact(oth j s q1 q3 q5).elim
   ·rw[kAe zk]at q2 q6;exact R'.dis j k s t b q1 q2 q3 q4 q5 q6
theorem zdx{i:Nat}{x:Str}{pos' p:Pos}(hs:PS X (.Assign [.Name x pos'] (.Dict [] [] p) pos) (Nn zad (ua i))):qo X G0 B E (.Assign [.Name x pos'] (.Dict [] [] p) pos) (Ec i):=
 PS.imp hs λD σ H ⟨G,δ,R,e,q⟩=>λa ha=>q _ G _ (Same.refl G) (R.setDT ha) (e.trans (Ext.own R.gh _ ha))
theorem EnvR.odAtT{K:KA}{G H:Hp}{σ:St}{δ:En}{i:Nat}{kvs:List (D×D)}(R:EnvR K B G H σ δ)(h:δ[i]?=some (.od true kvs)):∃a es,σ[i]?=some (some (V.ref a))∧H a=some (.dT es)∧DenT K G kvs es∧G a=none∧B a=none:=by
 obtain⟨o,q1,a,vs,q2,q3,q4⟩:=R.sl i _ h;subst q2;obtain⟨g,b⟩:=R.own i _ a h rfl q1;exact⟨a,vs,q1,q3,q4,g,b⟩
theorem EnvR.wrDT{K:KA}{G H:Hp}{σ:St}{δ:En}{i:Nat}{kvs kvs':List (D×D)}{a:Addr}{es es':List (gm×V)}(R:EnvR K B G H σ δ)(hi:δ[i]?=some (.od true kvs))(hs:σ[i]?=some (some (V.ref a)))(ha:H a=some (.dT es))(dl:DenT K G kvs' es'):
  EnvR K B G (upd H a (.dT es')) σ (δ.set i (.od true kvs')):=by
 obtain⟨gn,bn⟩:=R.own i _ a hi rfl hs;have hl:i<δ.length:=(kAq.mp hi).1;have sb:∀{F:Hp},F a=none→Same F H→Same F (upd H a (.dT es')):=λfn s b u q=>by
  rw[bu (d9 q fn)];exact s b u q
 have ownEq:∀{j:Nat}{s:Sl},(δ.set i (.od true kvs'))[j]?=some s→s.own=true→∃s',δ[j]?=some s'∧s'.own=true:=λ{j s} q o=>by
  by_cases z:i=j
  ·subst z;exact⟨_,hi,rfl⟩
  ·rw[kAe z]at q;exact⟨s,q,o⟩
 refine⟨sb bn R.bh,sb gn R.gh,by rw[kAo];exact R.len,λj s q=>?_,λj s b q1 q2 q3=>?_,λj k s t b q1 q2 q3 q4 q5 q6=>?_,R.gb⟩
 ·by_cases z:i=j
  ·subst z;rw[kAg hl]at q;cases q;exact⟨_,hs,a,es',rfl,d8,dl⟩
  ·rw[kAe z]at q;obtain⟨o,z1,z2⟩:=R.sl j s q;refine⟨o,z1,?_⟩;cases s with
   |no=>trivial
   |pu d=>exact z2
   |bo d=>exact z2
   |ow fs=>
    obtain⟨b,us,y1,y2,y3⟩:=z2;have nb:b≠a:=by
     rintro rfl
     rw[ha]at y2;cases y2
    exact⟨b,us,y1,by rw[bu nb];exact y2,y3⟩
   |od t fs=>
    cases t with
    |true=>
     obtain⟨b,us,y1,y2,y3⟩:=z2;have nb:b≠a:=by
      rintro rfl
      subst y1;exact z (R.dis i j _ _ b hi q rfl rfl hs z1)
     exact⟨b,us,y1,by rw[bu nb];exact y2,y3⟩
    |false=>
     obtain⟨b,us,y1,y2,y3⟩:=z2;have nb:b≠a:=by
      rintro rfl
      rw[ha]at y2;cases y2
     exact⟨b,us,y1,by rw[bu nb];exact y2,y3⟩
 ·obtain⟨s',z1,z2⟩:=ownEq q1 q2;exact R.own j s' b z1 z2 q3
 ·obtain⟨s',z1,z2⟩:=ownEq q1 q3;obtain⟨t',y1,y2⟩:=ownEq q2 q4;exact R.dis j k s' t' b z1 y1 z2 y2 q5 q6
theorem Arg.keys{K:KA}{G H:Hp}{d:D}{v:V}{ks:gm}(s:Same G H)(h:Arg K G H d v)(e:ml d=some ks):∃b,v=.ref b∧TkAt H ks b:=by
 cases d with
 |tup ds=>
  obtain⟨b,vs,h1,h2,h3⟩:=h.tup0 s;exact⟨b,h1,vs,h2,(Lc h3 e).mono λ_ _ q=>s _ _ q⟩
 |_=>cases e
noncomputable def xi(i:Nat)(gk gv:En→Res):En→Out:=λδ=>match δ[i]? with
 |some (.od true kvs)=>(gv δ).then λv=>(gk δ).then λk=>match ml k with
  |some j=>if kvs.length<sizeLine then .nx (δ.set i (.od true (Zl kvs j v)))else .st
  |none=>.st
 |_=>.st
theorem zdu{i:Nat}{x:Str}{p pos':Pos}{kxx vx:Expr}(hu:X.A.units+5<cLine)(hv:PE X (.Name x p) (F7 i))(hk:lx X B E kxx g)(hval:ji X B E vx h)
  (hs:swapsWith vx (some (.Subscript (.Name x p) kxx pos')) pos.line X.env=pure false:=by rfl):qo X G0 B E (.Assign [.Subscript (.Name x p) kxx pos'] vx pos) (xi i g h):=
 PS.imp (Sk hu hv hk hval hs) λD σ H ⟨G,δ,R,ex,q⟩=>by
  unfold xi at q;cases ed:δ[i]? with
  |none=>rw[ed]at q;exact q.elim
  |some sl=>
   rw[ed]at q;cases sl with
   |od t kvs=>
    cases t with
    |false=>exact q.elim
    |true=>
     dsimp only at q;obtain⟨l,es,q1,q2,q3,q4,q5⟩:=R.odAtT ed;refine⟨G,δ,R,(o7 ex q).mono λdv _ q v G1 H1 e1 dn=>⟨.ref l,q1,G1,δ,R.ext e1,(o7 (K:=(kx X)) (ex.trans e1) (OutP.same e1.gg q)).mono λdk _ q y G2 H2 e2 ay=>?_⟩⟩;have e12:=e1.trans e2;cases ej:ml dk with
     |none=>rw[ej]at q;exact q.elim
     |some j=>
      rw[ej]at q;dsimp only at q
      by_cases hl:kvs.length<sizeLine
      ·rw[if_pos hl]at q;have h2:=e12.hh _ _ q2;have g2:=e12.fr _ _ q2 q4 rfl;obtain⟨b,rfl,hb⟩:=Arg.keys e2.gh ay ej;refine⟨l,_,rfl,DPut.t h2 hb (by rw[←q3.length];exact hl),?_⟩;exact q σ G2 _ e2.gg (EnvR.wrDT (R.ext e12) ed q1 h2 ((q3.mono e12.gg).put (dn.mono e2.gg) j)) (Ext.wr (ex.trans e12) g2 q5)
      ·rw[if_neg hl]at q;exact q.elim
   |no=>exact q.elim
   |pu _=>exact q.elim
   |bo _=>exact q.elim
   |ow _=>exact q.elim
end
noncomputable def zan:Expr→Bool
 |.Call (.Name x _) _ _ _=>decide (x≠"len") && decide (x≠"int") && decide (x≠"str")
 |.Tuple _ _ _=>true
 |_=>false
noncomputable def Qk:Nat→Expr→List Str
 |0,_=>[]
 |n+1,e=>match e with
  |.Call (.Attribute (.Name x _) m _) (k::r) _ _=>(if(m="setdefault"||m="get") && zan k then[x]else[])++(r.flatMap (Qk n))
  |.Call (.Attribute o _ _) _ _ _=>Qk n o
  |.Compare l _ rs _=>Qk n l++rs.flatMap (Qk n)
  |.BoolOp _ es _=>es.flatMap (Qk n)
  |.UnaryOp _ e _=>Qk n e
  |.BinOp l _ r _=>Qk n l++Qk n r
  |_=>[]
noncomputable def Ql:Nat→List Stmt→List Str
 |0,_=>[]
 |n+1,ss=>ss.flatMap λs=>match s with
  |.For _ it b o _=>Qk n it++Ql n b++Ql n o
  |.While c b o _=>Qk n c++Ql n b++Ql n o
  |.If c b o _=>Qk n c++Ql n b++Ql n o
  |.Assign [.Subscript (.Name x _) k _] v _=>(if zan k then[x]else[])++Qk n v
  |.Assign _ v _=>Qk n v
  |.Expr e _=>Qk n e
  |.Return (some e) _=>Qk n e
  |_=>[]
noncomputable def riseF(m:Nat):List Nat→Prop
 |[]=>True
 |k::r=>m≤k∧k<6∧riseF (k+1) r
theorem riseF.mono{m m':Nat}(h:m'≤m):∀{S:List Nat},riseF m S→riseF m' S
 |[],_=>trivial
 |_::_,⟨h1,h2,h3⟩=>⟨kAk h h1,h2,h3⟩
noncomputable def zpj(S:List Nat)(led:Bool):SetTable:={mask:=if S.length<5 then 7 else 31,place:=S.toArray,dummies:=#[],finger:=0,led,moves:=if S.length<5 then 0 else 1,plain:=true}
def SetS(h:Heap)(a:Addr)(S:List Nat)(led:Bool):Prop:=riseF 0 S∧∃(es:Array (Int×Value)) (ep:Nat),h.get? a=some {cls:=.type "set",dict:=none,data:=.set es ep (zpj S led)}∧
 es.toList.map (·.1)=S.map Int.ofNat∧IntsAre (es.toList.map (·.2)) (S.map Int.ofNat)
theorem riseF.len:∀{S:List Nat}{m:Nat},m≤6→riseF m S→S.length+m≤6
 |[],m,h,_=>by simpa using h
 |k::r,m,_,⟨h1,h2,h3⟩=>by
  have:=riseF.len (by omega) h3;rw[kA5];omega
theorem riseF.lt:∀{S:List Nat}{m:Nat},riseF m S→∀k∈S,m≤k∧k<6
 |[],_,_,k,h=>by simp at h
 |a::r,m,⟨h1,h2,h3⟩,k,h=>by
  rcases kA8.mp h with rfl|h
  ·exact⟨h1,h2⟩
  ·have:=riseF.lt h3 k h;exact⟨by omega,this.2⟩
theorem t9{α:Type}(es:Array α):(Array.range es.size).filterMap (es[·]?)=es:=by
 apply Array.toList_inj.mp;rw[Array.toList_filterMap,Array.toList_range];have gen:∀(l:List α),(kAj l.length).filterMap (λi=>l[i]?)=l:=by
  intro l;induction l with
  |nil=>rfl
  |cons a r ih=>
   rw[kA5,List.range_succ_eq_map,kB1,List.filterMap_map];simp only[List.getElem?_cons_zero]
   congr 1
 have:=gen es.toList;rw[Array.length_toList]at this;simpa using this
theorem SetS.keep{h h':Heap}{a:Addr}{S:List Nat}{led:Bool}(x:SetS h a S led)(k:∀o,h.get? a=some o→h'.get? a=some o):SetS h' a S led:=by
 obtain⟨r,es,ep,ho,q⟩:=x;exact⟨r,es,ep,k _ ho,q⟩
def SetIt(h:Heap)(I a:Addr)(slot i n ep:Nat):Prop:=h.get? I=some {cls:=.type "set_iterator",data:=.fields #[rawInt slot,rawInt i,.ref a,rawInt n,rawInt ep]}
section
variable{prog:Program}{w:World}{A:Around}{E:Value→Shared→Prop}{s:Shared}{a I:Addr}{S:List Nat}{es:Array (Int×Value)}{ep i:Nat}
theorem SetIt.ty{slot n:Nat}(h:SetIt s.heap I a slot i n ep):s.TypeIs (.ref I) "set_iterator":=⟨_,h,rfl⟩
end
section
variable{X:Cx}
theorem riseF.pw:∀{S:List Nat}{m:Nat},riseF m S→(S.map Int.ofNat).Pairwise (· ≤·)
 |[],_,_=>List.Pairwise.nil
 |k::r,m,⟨h1,h2,h3⟩=>by
  rw[kA0];refine List.Pairwise.cons (λx hx=>?_) (riseF.pw h3);obtain⟨j,hj,rfl⟩:=kAv.mp hx;have:=(riseF.lt h3 j hj).1;show(k:Int)≤(j:Int);omega
end
noncomputable def Ite(K:PySem.W.Frag)(a:Addr):It:=
 ⟨λi H=>∃xs x,SqL K H a xs∧xs[i]?=some x,λi H v H'=>∃p x,H p=none∧v=.ref p∧H'=upd H p (.tup [.int (i:Int),x])∧∀xs,SqL K H a xs→xs[i]?=some x,λi H=>∃xs,SqL K H a xs∧xs.length≤i⟩
def tnE(e it a:Addr)(i:Nat)(h:Heap):Prop:=(∃old,IsEnum h e it (i:Int) old)∧h.IsListIter it a i
theorem Vn{P:Program}{w:World}{K:PySem.W.Frag}{tes:List Expr}{k1}{tp:Pos}(a e it:Addr)(hne:e≠it):Turn P w K (.Tuple tes k1 tp) (Ite K a) [e,it] e (tnE e it a) where
 mem:=by simp
 obj:=λi h st b hb=>by
  obtain⟨⟨old,he⟩,o,ho,hc,hd⟩:=st;rcases kA8.mp hb with rfl|hb
  ·exact⟨_,he,λv z=>by
    have z':Data.fields _=Data.cell v:=z;cases z'⟩
  ·have e:b=it:=by simpa using hb
   subst e;exact⟨o,ho,λv z=>by rw[hd]at z;cases z⟩
 keep:=λi h h' st k=>⟨let ⟨old,he⟩:=st.1;⟨old,k e (by simp) _ he⟩,st.2.at λo q=>k it (by simp) o q⟩
 item:=by
  intro X hP hw hK hc i pins s σ H E I hf st hg;subst hP hw hK;obtain⟨xs,x,hq,hx⟩:=hg;obtain⟨its,rv,p,hz⟩:=I.list hq;obtain⟨u,hu,ru⟩:=rv.get hx;obtain⟨⟨old,he⟩,hit⟩:=st;obtain⟨f0,f1,f2,f3,f4,f5⟩:=hf e (by simp);obtain⟨g0,g1,g2,g3,g4,g5⟩:=hf it (by simp);have fresh:H s.heap.objs.size=none:=I.hok.fresh (kA1 _);have elt:e<s.heap.objs.size:=Heap.lt_size he;refine wpAny_pyNext_enum_item he hit p.isList (x:=u) (by simpa using hu) hne λh1 he1 hit1 ht1 hz1 hk1=>?_;refine⟨_,rfl,wpAny_letOwnedTupleGo_enum he1 λh2 he2 sb=>?_⟩;have sb':Heap.SameBut e h1 h2:=sb;have k2:∀b o,b≠e→b≠it→s.heap.get? b=some o→h2.get? b=some o:=λb o h1' h2' q=>sb'.extBut b o h1' (hk1 b o h1' h2' q);have t2:h2.get? s.heap.objs.size=some {cls:=.type "tuple",data:=.seq #[.int (i:Int) s.toks,u]}:=sb'.extBut _ _ (Nat.ne_of_gt elt) ht1;have old':∀{b:Addr}{o:HO},H b=some o→b≠s.heap.objs.size∧b≠e∧b≠it:=λ{b o} q=>⟨d9 q fresh,d9 q f0,d9 q g0⟩;have ch:∀b,b∉[e,it]→b≠e∧b≠it:=λb hb=>by simpa using hb
  have I2:Inv X pins σ (upd H s.heap.objs.size (.tup [.int (i:Int),x])) {s with heap:=h2,toks:=s.toks+1}:=by
   refine I.step (g':=s.gens) (d':=s.drawn) (ch:=[e,it]) (λb hb=>?_) (λb o _ _ hc q _=>k2 b o (ch b hc).1 (ch b hc).2 q) (λb o _ _ hc q _=>⟨o.slots,k2 b o (ch b hc).1 (ch b hc).2 q⟩) (λb o _ q n=>?_) (λb o hc q=>⟨o,k2 b o (ch b hc).1 (ch b hc).2 q⟩)
    (λb ys q=>by rw[bu (old' q).1];exact q) (λb o v q=>by rw[bu (old' q).1];exact q) (λb y q=>by rw[bu (old' q).1];exact q) (λm hm=>?_) (λb v q=>?_) I.bare
   ·rcases kA8.mp hb with rfl|hb
    ·exact⟨f3,f1,f4,f5⟩
    ·have z:b=it:=by simpa using hb
     subst z;exact⟨g3,g1,g4,g5⟩
   ·rw[bu (kAd (Heap.lt_size q))];exact n
   ·obtain⟨o,es,ep,ho,r⟩:=hm;exact⟨o,es,ep,k2 _ o (Ne.symm f1) (Ne.symm g1) ho,r⟩
   ·by_cases hb:b=s.heap.objs.size
    ·subst hb;rw[d8]at q;cases q;exact⟨by rw[sizeLine_eq];simp,[.int (i:Int) s.toks,u],.cons ⟨_,rfl⟩ (.cons ru .nil),_,t2,rfl,0,rfl⟩
    ·rw[bu hb]at q;refine(I.hok b v q).stay (λb' v' hb' r=>k2 b' v' ?_ ?_ r) (λb' z=>by rw[bu (old' z).1];exact z) (λb' ys z=>by rw[bu (old' z).1];exact z) λb' o' u' z=>by rw[bu (old' z).1];exact z
     ·rcases hb' with z|z
      ·rw[z];exact(old' q).2.1
      ·exact(old' z).2.1
     ·rcases hb' with z|z
      ·rw[z];exact(old' q).2.2
      ·exact(old' z).2.2
  refine⟨.ref s.heap.objs.size,_,I2,rfl,⟨_,x,fresh,rfl,rfl,λys hy=>by rw[I.list_inj hy hq];exact hx⟩,⟨⟨u,?_⟩,?_⟩,λb hb=>?_⟩
  ·have:((i+1:Nat):Int)=(i:Int)+1:=by push_cast;rfl
   rw[this];exact he2
  ·exact hit1.at λo q=>sb'.extBut it o (Ne.symm hne) q
  ·have z:=(hf b hb).1;have:b<s.heap.objs.size:=by
    rcases kA8.mp hb with rfl|hb
    ·exact elt
    ·have z:b=it:=by simpa using hb
     subst z;obtain⟨o,ho,_⟩:=hit;exact Heap.lt_size ho
   rw[bu (kAd this)];exact z
 done:=by
  intro X hP hw hK hc i pins s σ H E I hf st hg;subst hP hw hK;obtain⟨xs,hq,hx⟩:=hg;obtain⟨its,rv,p,hz⟩:=I.list hq;obtain⟨⟨old,he⟩,hit⟩:=st;obtain⟨g0,g1,g2,g3,g4,g5⟩:=hf it (by simp);have hl:=rv.length;exact wpAny_pyNext_enum_end (I.ok.hd hc) he hit p.isList (by simp;omega) λh' eb=>⟨rfl,I.turned (t':=s.toks) (λb o hb e=>eb b o hb e) g0 g1 g3 g4 g5⟩
 self:=λ_ _ _ _ _ st h=>let ⟨_,he⟩:=st.1;wpAny_pyIter_enum he h
noncomputable def ni:Nat→List D→List D
 |_,[]=>[]
 |i,d::r=>.tup [.int (i:Int),d]::ni (i+1) r
theorem vj:∀(i:Nat)(ds:List D),(ni i ds).length=ds.length
 |_,[]=>rfl
 |i,d::r=>by rw[ni,kA5,kA5,vj]
theorem zr:∀(i j:Nat)(ds:List D),(ni i ds)[j]?=(ds[j]?).map λd=>.tup [.int ((i+j:Nat):Int),d]
 |_,_,[]=>by simp[ni]
 |i,0,d::r=>by simp[ni]
 |i,j+1,d::r=>by
  rw[ni,kB3,kB3,zr (i+1) j r];rw[show i+1+j=i+(j+1) by omega]
section
variable{X:Cx}{B:Hp}{E:EK}{e:Expr}{g:En→Res}{pos p tp:Pos}{tes:List Expr}{k1:Nat}
theorem Xq{K:KA}{a:Addr}{G1:Hp}{ds:List D}{vs:List V}{S:Hp→Hp→Prop}(h:∀G H,S G H→Same G H→SqL K H a vs∧Same G1 G)(dl:DenL K G1 ds vs):Bf K (Ite K a) (ni 0 ds) S:=λi G H hS sg=>by
 obtain⟨q,g⟩:=h G H hS sg;refine⟨λd ed=>?_,λhl=>⟨vs,q,by rw[vj]at hl;rw[←dl.length];exact hl⟩⟩;rw[zr,Nat.zero_add]at ed;cases e0:ds[i]? with
 |none=>rw[e0]at ed;cases ed
 |some d0=>
  rw[e0]at ed;cases ed;obtain⟨v,ev,dv⟩:=dl.get e0;refine⟨⟨vs,v,q,ev⟩,λx H' ⟨p,y,hp,e1,e2,e3⟩=>?_⟩;subst e1 e2;have z:=e3 vs q;rw[ev]at z;cases z;exact⟨_,Ext.new sg (.tup [.int (i:Int),v]) hp,oo sg hp (DenL.append (DenL.one (d:=.int (i:Int)) rfl) (DenL.one (dv.mono g)))⟩
end
end Pu
end
section
namespace Pu
open PySem PySem.Spec PyProof.Rows L2 PySem.SeqAt
noncomputable def zf1(A:Around)(s:Shared)(y x:Value)(b:Bool):Prop:=
 ∀(prog:Program)(w:World)(E:Value→Shared→Prop)(Q:Value→Shared→Prop),Q (.bool b) s→wpAny (model prog w) A (richCompare .Lt y x) Q E s
noncomputable def zx(e c:Nat→Bool)(fin:Bool):List Nat→Bool
 |[]=>fin
 |i::r=>if e i then zx e c fin r else c i
theorem zjj(l m:Addr)(xs ys:Array Value)(n k:Nat)(dd dm:Option Addr)(sl sm:Array (Option Value))(e c:Nat→Bool):
  Meets (Builtin.«tuple.__lt__» ⟨[.ref l,.ref m],[]⟩) (λA R s=>
   s.heap.get? l=some {cls:=.type "tuple",dict:=dd,data:=.seq xs n,slots:=sl}∧
   s.heap.get? m=some {cls:=.type "tuple",dict:=dm,data:=.seq ys k,slots:=sm}∧
   (∀j (p:j<xs.size) (q:j<ys.size),EqAt A.in1 s xs[j] ys[j] (e j)∧(e j=false→zf1 A.in1 s xs[j] ys[j] (c j)))∧
   R (.ok (.ret (.bool (zx e c (decide (xs.size<ys.size)) (kAj (min xs.size ys.size)))))) s):=
 .of_wp λprog w A R s h=>by
  obtain⟨hp,g,d,tk,os⟩:=s;obtain⟨hl,hm,he,h⟩:=h;have f2:=AutoSeq1.sub_tuple_tuple;have hZ:(xs.toList.zip ys.toList).length=min xs.size ys.size:=by simp
  wp_walk using wpAny_loadPart' hl,wpAny_loadPart' hm,wpAny_forIn_list _ (λft b s'=>b.1=none∧s'=⟨hp,g,d,tk,os⟩∧∃i,
   ft=(xs.toList.zip ys.toList).drop i∧R (.ok (.ret (.bool (zx e c (decide (xs.size<ys.size)) ((kAj (min xs.size ys.size)).drop i))))) ⟨hp,g,d,tk,os⟩) _
  case turn=>
   rintro ⟨y,x⟩ ft b s' ⟨hb',rfl,i,hz,hR⟩
   have lt0:i<(xs.toList.zip ys.toList).length:=by
    by_cases z:i<(xs.toList.zip ys.toList).length
    ·exact z
    ·rw[List.drop_of_length_le (Nat.le_of_not_lt z)]at hz;cases hz
   have lt1:i<min xs.size ys.size:=by rw[←hZ];exact lt0
   have p:i<xs.size:=by omega
   have q:i<ys.size:=by omega
   rw[List.drop_eq_getElem_cons lt0]at hz;injection hz with hyx hrest
   obtain rfl:y=xs[i]:=by simpa using congrArg Prod.fst hyx
   obtain rfl:x=ys[i]:=by simpa using congrArg Prod.snd hyx
   have hd:(kAj (min xs.size ys.size)).drop i=i::(kAj (min xs.size ys.size)).drop (i+1):=by simp[List.drop_eq_getElem_cons,lt1]
   rw[hd]at hR;refine wpAny_bind ((he i p q).1 prog w _ _ ?_);cases hy:e i with
   |true=>
    simp only[zx,hy,if_true]at hR
    wp_walk
    exact⟨rfl,rfl,i+1,hrest,hR⟩
   |false=>
    simp only[zx,hy,kAn,if_false]at hR;rw[if_pos (show(!false)=true from rfl)];refine wpAny_bind (wpAny_rule (wpAny_bind ((he i p q).2 hy prog w _ _ ?_)))
    wp_walk
    exact⟨_,rfl,hR⟩
  case fin=>
   rintro ⟨b1,b2⟩ s' ⟨hb',rfl,i,hz,hR⟩
   simp only at hb';subst hb';have ge0:min xs.size ys.size≤i:=by
    by_cases z:i<(xs.toList.zip ys.toList).length
    ·rw[List.drop_eq_getElem_cons z]at hz;cases hz
    ·omega
   rw[List.drop_of_length_le (by simpa using ge0)]at hR
   wp_walk
   exact⟨_,rfl,by simpa[Builtin.Tuple.tupleCompareSizes,zx]using hR⟩
  case h=>exact⟨rfl,rfl,0,rfl,by simpa using h⟩
mutual
noncomputable def ltv:PyData→PyData→Option Bool
 |.int i,.int j=>some (decide (i<j))
 |.str x,.str y=>some (decide (x.cps.toList<y.cps.toList))
 |.tuple xs,.tuple ys=>jk xs ys
 |_,_=>none
noncomputable def jk:List PyData→List PyData→Option Bool
 |[],[]=>some false
 |[],_::_=>some true
 |_::_,[]=>some false
 |x::xs,y::ys=>match ltv x y,jk xs ys with
  |some a,some b=>some (if PyData.eqv x y then b else a)
  |_,_=>none
end
noncomputable def tj(xs ys:List PyData)(j:Nat):Bool:=match xs[j]?,ys[j]? with
 |some x,some y=>(ltv x y).getD false
 |_,_=>false
theorem uz{x y:PyData}{xs ys:List PyData}{c:Bool}(h:jk (x::xs) (y::ys)=some c):∃a b,ltv x y=some a∧jk xs ys=some b∧c=if PyData.eqv x y then b else a:=by
 rw[jk]at h;cases h1:ltv x y with
 |none=>rw[h1]at h;cases h
 |some a=>
  cases h2:jk xs ys with
  |none=>rw[h1,h2]at h;cases h
  |some b=>rw[h1,h2]at h;cases h;exact⟨a,b,rfl,rfl,rfl⟩
theorem Do{e c:Nat→Bool}{fin:Bool}:∀l:List Nat,zx e c fin (l.map (· +1))=zx (λj=>e (j+1)) (λj=>c (j+1)) fin l
 |[]=>rfl
 |i::r=>by
  rw[kA0];unfold zx;rw[Do r]
theorem Rx:∀{xs ys:List PyData}{c:Bool},jk xs ys=some c→zx (pairEq xs ys) (tj xs ys) (decide (xs.length<ys.length)) (kAj (min xs.length ys.length))=c
 |[],[],c,h=>by cases h;rfl
 |[],_::_,c,h=>by cases h;simp[zx]
 |_::_,[],c,h=>by cases h;simp[zx]
 |x::xs,y::ys,c,h=>by
  obtain⟨a,b,h1,h2,rfl⟩:=uz h;have e:min (x::xs).length (y::ys).length=min xs.length ys.length+1:=by simp
  have ih:=Rx h2;rw[e,List.range_succ_eq_map];unfold zx;have e0:pairEq (x::xs) (y::ys) 0=PyData.eqv x y:=rfl;have c0:tj (x::xs) (y::ys) 0=a:=by simp[tj,h1]
  rw[e0,c0,show(Nat.succ:Nat→Nat)=(· +1)from rfl,Do];have d:(decide ((x::xs).length<(y::ys).length))=decide (xs.length<ys.length):=by simp
  rw[d];have e1:(λj=>pairEq (x::xs) (y::ys) (j+1))=pairEq xs ys:=rfl;have c1:(λj=>tj (x::xs) (y::ys) (j+1))=tj xs ys:=rfl;rw[e1,c1,ih]
mutual
theorem Du:∀(da db:PyData)(A:Around)(s:Shared)(a b:Value)(as bs:List Addr)(c:Bool),Reads s.heap a da as→Reads s.heap b db bs→da.canLay0=true→db.canLay0=true→A.units+min da.depth db.depth<cLine→
  ltv da db=some c→zf1 A s a b c
 |.int i,.int j,A,s,_,_,_,_,c,ra,rb,ha,hb,hu,h=>by
  cases ra;cases rb;cases h;exact λprog w E Q q=>(show wpAny _ _ (compareOp .Lt _ _) _ _ _ from PyProof.Rows.lt_int q)
 |.str i,.str j,A,s,_,_,_,_,c,ra,rb,ha,hb,hu,h=>by
  cases ra;cases rb;cases h;exact λprog w E Q q=>(show wpAny _ _ (compareOp .Lt _ _) _ _ _ from PyProof.Rows.lt_str q)
 |.tuple xs,.tuple ys,A,s,_,_,_,_,c,ra,rb,ha,hb,hu,h=>by
  cases ra with
  |@tuple l o vs n _ as₁ h1 h2 h3 h4=>
   cases rb with
   |@tuple l' o' vs' n' _ bs₁ k1 k2 k3 k4=>
    have h':jk xs ys=some c:=h;have n1:vs.size=xs.length:=by simpa using ReadsAll.length _ _ _ h4
    have n2:vs'.size=ys.length:=by simpa using ReadsAll.length _ _ _ k4
    obtain⟨cl,dd,dt,sl⟩:=o;obtain⟨cl',dd',dt',sl'⟩:=o';simp only at h2 h3 k2 k3;subst h2 h3 k2 k3;intro prog w E Q q;refine richCompare_meets_room (op:=.Lt) ⟨_,h1,rfl⟩ ⟨_,k1,rfl⟩ F.slot_tuple_lt F.entry_tuple_lt (F.args_tuple_lt_2 _ _) (zjj l l' vs vs' n n' dd dd' sl sl' (pairEq xs ys) (tj xs ys)) ⟨h1,k1,λj p r=>⟨?_,λ_=>?_⟩,?_⟩ (room_here hu)
    ·have z:=eqAt_readsAll xs ys A.in1 s vs.toList vs'.toList _ _ h4 k4 ha hb (room_in hu) j (by simpa using p) (by simpa using r);simpa using z
    ·have z:=wq xs ys A.in1 s vs.toList vs'.toList _ _ c h4 k4 ha hb (room_in hu) h' j (by simpa using p) (by simpa using r);simpa using z
    ·have e:=Rx h';rw[←n1,←n2]at e;rw[e];exact show Value.bool c≠Value.notImplemented∧Q (.bool c) s from⟨(λx=>nomatch x),q⟩
 |.none,_,_,_,_,_,_,_,_,_,_,_,_,_,h=>by cases h
 |.bool _,_,_,_,_,_,_,_,_,_,_,_,_,_,h=>by cases h
 |.list _,_,_,_,_,_,_,_,_,_,_,_,_,_,h=>by cases h
 |.dict _,_,_,_,_,_,_,_,_,_,_,_,_,_,h=>by cases h
 |.int _,.none,_,_,_,_,_,_,_,_,_,_,_,_,h=>by cases h
 |.int _,.bool _,_,_,_,_,_,_,_,_,_,_,_,_,h=>by cases h
 |.int _,.str _,_,_,_,_,_,_,_,_,_,_,_,_,h=>by cases h
 |.int _,.list _,_,_,_,_,_,_,_,_,_,_,_,_,h=>by cases h
 |.int _,.tuple _,_,_,_,_,_,_,_,_,_,_,_,_,h=>by cases h
 |.int _,.dict _,_,_,_,_,_,_,_,_,_,_,_,_,h=>by cases h
 |.str _,.none,_,_,_,_,_,_,_,_,_,_,_,_,h=>by cases h
 |.str _,.bool _,_,_,_,_,_,_,_,_,_,_,_,_,h=>by cases h
 |.str _,.int _,_,_,_,_,_,_,_,_,_,_,_,_,h=>by cases h
 |.str _,.list _,_,_,_,_,_,_,_,_,_,_,_,_,h=>by cases h
 |.str _,.tuple _,_,_,_,_,_,_,_,_,_,_,_,_,h=>by cases h
 |.str _,.dict _,_,_,_,_,_,_,_,_,_,_,_,_,h=>by cases h
 |.tuple _,.none,_,_,_,_,_,_,_,_,_,_,_,_,h=>by cases h
 |.tuple _,.bool _,_,_,_,_,_,_,_,_,_,_,_,_,h=>by cases h
 |.tuple _,.int _,_,_,_,_,_,_,_,_,_,_,_,_,h=>by cases h
 |.tuple _,.str _,_,_,_,_,_,_,_,_,_,_,_,_,h=>by cases h
 |.tuple _,.list _,_,_,_,_,_,_,_,_,_,_,_,_,h=>by cases h
 |.tuple _,.dict _,_,_,_,_,_,_,_,_,_,_,_,_,h=>by cases h
theorem wq:∀(xs ys:List PyData)(A:Around)(s:Shared)(vs ws:List Value)(as bs:List Addr)(c:Bool),ReadsAll s.heap vs xs as→ReadsAll s.heap ws ys bs→PyData.canLayAll0 xs=true→PyData.canLayAll0 ys=true→
  A.units+min (PyData.depthAll xs) (PyData.depthAll ys)<cLine→jk xs ys=some c→∀j (p:j<vs.length) (q:j<ws.length),zf1 A s vs[j] ws[j] (tj xs ys j)
 |[],_,_,_,_,_,_,_,_,ra,_,_,_,_,_,j,p,_=>by cases ra;exact absurd p (Nat.not_lt_zero _)
 |_::_,[],_,_,_,_,_,_,_,_,rb,_,_,_,_,j,_,q=>by cases rb;exact absurd q (Nat.not_lt_zero _)
 |x::xs,y::ys,A,s,_,_,_,_,c,ra,rb,ha,hb,hu,h,j,p,q=>by
  have ha':x.canLay0=true∧PyData.canLayAll0 xs=true:=by simpa[PyData.canLayAll0]using ha
  have hb':y.canLay0=true∧PyData.canLayAll0 ys=true:=by simpa[PyData.canLayAll0]using hb
  obtain⟨a,b,h1,h2,_⟩:=uz h;cases ra with
  |cons r rs=>
   cases rb with
   |cons r' rs'=>
    cases j with
    |zero=>
     have e:tj (x::xs) (y::ys) 0=a:=by simp[tj,h1]
     rw[e];exact Du x y A s _ _ _ _ a r r' ha'.1 hb'.1 (room_head hu) h1
    |succ j=>exact wq xs ys A s _ _ _ _ b rs rs' ha'.2 hb'.2 (room_tail hu) h2 j (Nat.lt_of_succ_lt_succ p) (Nat.lt_of_succ_lt_succ q)
end
end Pu
end
section
namespace Pu
open PySem PySem.Spec PyProof.Rows L2 PySem.W
noncomputable def GoOk(n:Nat)(cmp:Nat→Nat→Bool){α:Type}:KasT α→(α→Prop)→Prop
 |.ret a,R=>R a
 |.ask i j k,R=>i<n∧j<n∧GoOk n cmp (k (cmp i j)) R
section
variable{n:Nat}{cmp:Nat→Nat→Bool}
theorem GoOk.mono{α:Type}{R R':α→Prop}(h:∀a,R a→R' a):∀{t:KasT α},GoOk n cmp t R→GoOk n cmp t R'
 |.ret a,g=>h a g
 |.ask i j k,⟨g1,g2,g3⟩=>⟨g1,g2,GoOk.mono h g3⟩
theorem GoOk.bind{α β:Type}{f:α→KasT β}{R:β→Prop}:∀{t:KasT α},GoOk n cmp t (λa=>GoOk n cmp (f a) R)→GoOk n cmp (t.bind f) R
 |.ret a,g=>g
 |.ask i j k,⟨g1,g2,g3⟩=>⟨g1,g2,GoOk.bind g3⟩
theorem GoOk.wp{α:Type}{C:Nat→Nat→(Bool→Shared→Prop)→Shared→Prop}{R:α→Prop}{Q:α→Shared→Prop}{s:Shared}(hc:∀i j (K:Bool→Shared→Prop),i<n→j<n→K (cmp i j) s→C i j K s)(hq:∀a,R a→Q a s):
  ∀{t:KasT α},GoOk n cmp t R→t.kasWp C Q s
 |.ret a,g=>hq a g
 |.ask i j k,⟨g1,g2,g3⟩=>hc i j _ g1 g2 (GoOk.wp hc hq g3)
structure Ord(n:Nat)(cmp:Nat→Nat→Bool):Prop where
 as:∀i j,i<n→j<n→i≠j→cmp j i= !cmp i j
 tr:∀i j k,i<n→j<n→k<n→cmp i j=true→cmp j k=true→cmp i k=true
noncomputable def At(p:Array Nat)(i:Nat):Nat:=p.getD i 0
def PermR(n:Nat)(p:Array Nat):Prop:=p.toList.Perm (kAj n)
theorem PermR.size{p:Array Nat}(h:PermR n p):p.size=n:=by
 have:=List.Perm.length_eq h;simpa using this
theorem Co{p:Array Nat}{i:Nat}(h:i<p.size):At p i=p[i]:=by
 unfold At;simp[Array.getD,h]
theorem PermR.lt{p:Array Nat}(h:PermR n p){i:Nat}(hi:i<n):At p i<n:=by
 have hs:i<p.size:=by rw[h.size];exact hi
 rw[Co hs];exact List.mem_range.mp (h.mem_iff.mp (by simp))
theorem PermR.ne{p:Array Nat}(h:PermR n p){i j:Nat}(hi:i<n)(hj:j<n)(e:i≠j):At p i≠At p j:=by
 have hs:i<p.size:=by rw[h.size];exact hi
 have ht:j<p.size:=by rw[h.size];exact hj
 rw[Co hs,Co ht];have nd:p.toList.Nodup:=(h.nodup_iff).mpr List.nodup_range;intro z;have pw:=List.pairwise_iff_getElem.mp nd;rcases Nat.lt_or_gt_of_ne e with q|q
 ·exact pw i j (by simpa using hs) (by simpa using ht) q (by simpa using z)
 ·exact pw j i (by simpa using ht) (by simpa using hs) q (by simpa using z.symm)
def So(cmp:Nat→Nat→Bool)(p:Array Nat)(m:Nat):Prop:=∀a b,a<b→b<m→cmp (At p a) (At p b)=true
def De(cmp:Nat→Nat→Bool)(p:Array Nat)(m:Nat):Prop:=∀a b,a<b→b<m→cmp (At p b) (At p a)=true
theorem So.succ{p:Array Nat}{m:Nat}(O:Ord n cmp)(hp:PermR n p)(h1:1≤m)(hm:m<n)(h:So cmp p m)(hc:cmp (At p m) (At p (m - 1))=false):So cmp p (m+1):=by
 intro a b hab hb
 by_cases hb':b<m
 ·exact h a b hab hb'
 ·obtain rfl:b=m:=by omega
  have e:cmp (At p (b - 1)) (At p b)=true:=by
   have:=O.as (At p b) (At p (b - 1)) (hp.lt hm) (hp.lt (by omega)) (hp.ne hm (by omega) (by omega));rw[this,hc];rfl
  by_cases ha:a=b - 1
  ·rw[ha];exact e
  ·exact O.tr _ _ _ (hp.lt (by omega)) (hp.lt (by omega)) (hp.lt hm) (h a (b - 1) (by omega) (by omega)) e
theorem De.succ{p:Array Nat}{m:Nat}(O:Ord n cmp)(hp:PermR n p)(h1:1≤m)(hm:m<n)(h:De cmp p m)(hc:cmp (At p m) (At p (m - 1))=true):De cmp p (m+1):=by
 intro a b hab hb
 by_cases hb':b<m
 ·exact h a b hab hb'
 ·obtain rfl:b=m:=by omega
  by_cases ha:a=b - 1
  ·rw[ha];exact hc
  ·exact O.tr _ _ _ (hp.lt hm) (hp.lt (by omega)) (hp.lt (by omega)) hc (h a (b - 1) (by omega) (by omega))
theorem Nz{p:Array Nat}(O:Ord n cmp)(hp:PermR n p):∀(f m:Nat),1≤m→m+f≤n→So cmp p m→GoOk n cmp (kas_asc p f m) (λk=>m≤k∧k≤m+f∧So cmp p k∧(k<m+f→cmp (At p k) (At p (k - 1))=true))
 |0,m,h1,h2,h=>⟨kA1 _,kA1 _,h,λz=>by omega⟩
 |f+1,m,h1,h2,h=>by
  refine⟨hp.lt (show m<n by omega),hp.lt (show m - 1<n by omega),?_⟩;show GoOk n cmp (if cmp (At p m) (At p (m - 1))=true then KasT.ret m else kas_asc p f (m+1)) _
  by_cases hc:cmp (At p m) (At p (m - 1))=true
  ·rw[if_pos hc];exact⟨kA1 _,by omega,h,λ_=>hc⟩
  ·rw[if_neg hc];refine(Nz O hp f (m+1) (by omega) (by omega) (h.succ O hp h1 (by omega) (by simpa using hc))).mono λk g=>?_;obtain⟨g1,g2,g3,g4⟩:=g;exact⟨by omega,by omega,g3,λz=>g4 (by omega)⟩
theorem Q8{p:Array Nat}(O:Ord n cmp)(hp:PermR n p):∀(f m:Nat),2≤m→m+f≤n→De cmp p m→GoOk n cmp (kas_desc f p m 0) (λr=>r.1=p∧r.2.2=0∧m≤r.2.1∧r.2.1≤m+f∧De cmp p r.2.1)
 |0,m,h1,h2,h=>⟨rfl,rfl,kA1 _,kA1 _,h⟩
 |f+1,m,h1,h2,h=>by
  have l1:At p m<n:=hp.lt (by omega);have l2:At p (m - 1)<n:=hp.lt (by omega);refine⟨l1,l2,?_⟩;show GoOk n cmp (if cmp (At p m) (At p (m - 1))=true then(if 0>0 then kas_desc f (kas_rev p (m - (0+1)) m) (m+1) 0 else kas_desc f p (m+1) 0)
   else .ask (At p (m - 1)) (At p m) λd=>if d=true then .ret (p,m,0)else kas_desc f p (m+1) (0+1)) _
  by_cases hc:cmp (At p m) (At p (m - 1))=true
  ·rw[if_pos hc,if_neg (by omega)];refine(Q8 O hp f (m+1) (by omega) (by omega) (h.succ O hp (by omega) (by omega) hc)).mono λr g=>?_;obtain⟨g1,g2,g3,g4,g5⟩:=g;exact⟨g1,g2,by omega,by omega,g5⟩
  ·rw[if_neg hc];have e:cmp (At p (m - 1)) (At p m)=true:=by
    have:=O.as (At p m) (At p (m - 1)) l1 l2 (hp.ne (by omega) (by omega) (by omega));rw[this];simpa using hc
   refine⟨l2,l1,?_⟩;dsimp only;rw[if_pos e];exact⟨rfl,rfl,kA1 _,(show m≤m+(f+1) by omega),h⟩
theorem PermR.rev{p:Array Nat}(hp:PermR n p)(i j:Nat):PermR n (kas_rev p i j):=(Array.perm_iff_toList_perm.mp (mirror_perm p i j _)).trans hp
theorem PermR.bub{p:Array Nat}(hp:PermR n p)(i j:Nat):PermR n (bubble p i j):=(Array.perm_iff_toList_perm.mp (bubble_perm p i j)).trans hp
theorem za{p:Array Nat}{i:Nat}:At p i=(p[i]?).getD 0:=by
 unfold At;simp[Array.getD_eq_getD_getElem?]
theorem V8{p:Array Nat}{m:Nat}(hm:m≤p.size){k:Nat}(hk:k<m):At (kas_rev p 0 m) k=At p (m - 1 - k):=by
 rw[za,za];unfold kas_rev;rw[getElem?_mirror_all hm];rw[if_pos (by omega)]
 congr 2
 omega
theorem zag{p:Array Nat}{m:Nat}(O:Ord n cmp)(hp:PermR n p)(h1:1≤m)(h2:m≤n)(h:De cmp p m):GoOk n cmp (kas_tail3 m n p) (λr=>PermR n r.2∧1≤r.1∧r.1≤n∧So cmp r.2 r.1):=by
 unfold kas_tail3;have hr:=hp.rev 0 m;have hs:So cmp (kas_rev p 0 m) m:=λa b hab hb=>by
  have hz:m≤p.size:=by rw[hp.size];exact h2
  rw[V8 hz (by omega),V8 hz hb];exact h _ _ (by omega) (by omega)
 refine GoOk.bind ((Nz O hr (n - m) m h1 (by omega) hs).mono λk g=>?_);obtain⟨g1,g2,g3,_⟩:=g;exact⟨hr,by omega,by omega,g3⟩
theorem Wp{p:Array Nat}(O:Ord n cmp)(hp:PermR n p)(h2:2≤n):GoOk n cmp (kas_count n p) (λr=>PermR n r.2∧1≤r.1∧r.1≤n∧So cmp r.2 r.1):=by
 unfold kas_count;refine GoOk.bind ((Nz O hp (n - 1) 1 (kA1 _) (by omega) (λa b h1 h2=>by omega)).mono λm g=>?_);obtain⟨g1,g2,g3,g4⟩:=g
 by_cases e1:(m==n)=true
 ·rw[if_pos e1];exact⟨hp,g1,by omega,g3⟩
 ·rw[if_neg e1];have ne:m≠n:=λz=>e1 (by rw[z];exact beq_self_eq_true _)
  by_cases e2:m>1
  ·rw[if_pos e2];refine⟨hp.lt (show 0<n by omega),hp.lt (show m - 1<n by omega),?_⟩;have:cmp (At p 0) (At p (m - 1))=true:=g3 0 (m - 1) (by omega) (by omega);show GoOk n cmp (if cmp (At p 0) (At p (m - 1))=true then _ else _) _;rw[if_pos this];exact⟨hp,g1,by omega,g3⟩
  ·rw[if_neg e2];obtain rfl:m=1:=by omega
   have c0:=g4 (by omega);unfold kas_descPart;refine GoOk.bind ((Q8 O hp (n - 2) 2 (kA1 _) (by omega) (λa b h1 h2=>?_)).mono λr g=>?_)
   ·obtain rfl:b=1:=by omega
    obtain rfl:a=0:=by omega
    exact c0
   ·obtain⟨k1,k2,k3,k4,k5⟩:=g;rw[k1,k2,if_neg (by omega)];exact zag O hp (by omega) (by omega) k5
theorem D8{p:Array Nat}{k:Nat}(O:Ord n cmp)(hp:PermR n p)(hk:k<n)(hs:So cmp p k):∀(f l r:Nat),l≤r→r≤k→r - l≤f→(∀a,a<l→cmp (At p a) (At p k)=true)→(∀a,r≤a→a<k→cmp (At p k) (At p a)=true)→
  GoOk n cmp (kas_place p k f l r) (λm=>m≤k∧(∀a,a<m→cmp (At p a) (At p k)=true)∧(∀a,m≤a→a<k→cmp (At p k) (At p a)=true))
 |0,l,r,h1,h2,h3,h4,h5=>by
  obtain rfl:l=r:=by omega
  exact⟨h2,h4,h5⟩
 |f+1,l,r,h1,h2,h3,h4,h5=>by
  unfold kas_place
  by_cases hl:l≥r
  ·rw[if_pos hl];obtain rfl:l=r:=by omega
   exact⟨h2,h4,h5⟩
  ·rw[if_neg hl];have hm:(l+r) / 2<k:=by omega
   refine⟨hp.lt hk,hp.lt (by omega),?_⟩;show GoOk n cmp (if cmp (At p k) (At p ((l+r) / 2))=true then kas_place p k f l ((l+r) / 2)else kas_place p k f ((l+r) / 2+1) r) _
   by_cases hc:cmp (At p k) (At p ((l+r) / 2))=true
   ·rw[if_pos hc];refine D8 O hp hk hs f l _ (by omega) (by omega) (by omega) h4 λa a1 a2=>?_
    by_cases z:a=(l+r) / 2
    ·rw[z];exact hc
    ·exact O.tr _ _ _ (hp.lt hk) (hp.lt (by omega)) (hp.lt (by omega)) hc (hs _ _ (by omega) a2)
   ·rw[if_neg hc];have e:cmp (At p ((l+r) / 2)) (At p k)=true:=by
     have:=O.as (At p k) (At p ((l+r) / 2)) (hp.lt hk) (hp.lt (by omega)) (hp.ne hk (by omega) (by omega));rw[this];simpa using hc
    refine D8 O hp hk hs f _ r (by omega) (by omega) (by omega) (λa ha=>?_) h5
    by_cases z:a=(l+r) / 2
    ·rw[z];exact e
    ·exact O.tr _ _ _ (hp.lt (by omega)) (hp.lt (by omega)) (hp.lt hk) (hs a _ (by omega) (by omega)) e
theorem V6{p:Array Nat}{k l:Nat}(hk:k<p.size)(hl:l≤k)(i:Nat):At (bubble p k (k - l)) i=if i=l then At p k else if l<i∧i≤k then At p (i - 1)else At p i:=by
 rw[za,getElem?_bubble hk (k - l) (by omega),za,za,za];have e:k - (k - l)=l:=by omega
 by_cases h1:i=l
 ·subst h1;simp[e]
 ·by_cases h2:l<i∧i≤k
  ·simp[e,h1,h2]
  ·simp[e,h1,h2]
theorem Q0(O:Ord n cmp):∀(f k:Nat)(p:Array Nat),PermR n p→1≤k→k+f=n→So cmp p k→GoOk n cmp (kas_bin f p k) (λq=>PermR n q∧So cmp q n)
 |0,k,p,hp,h1,h2,hs=>by
  obtain rfl:k=n:=by omega
  exact⟨hp,hs⟩
 |f+1,k,p,hp,h1,h2,hs=>by
  unfold kas_bin;have hk:k<n:=by omega
  refine GoOk.bind ((D8 O hp hk hs k 0 k (kAl _) (kA1 _) (by omega) (λa h=>by omega) (λa h h'=>by omega)).mono λl g=>?_);obtain⟨g1,g2,g3⟩:=g;refine Q0 O f (k+1) _ (hp.bub _ _) (by omega) (by omega) λa b hab hb=>?_;have hz:k<p.size:=by rw[hp.size];exact hk
  rw[V6 hz g1,V6 hz g1]
  by_cases a1:a=l
  ·rw[if_pos a1,if_neg (by omega),if_pos (by omega)];exact g3 _ (by omega) (by omega)
  ·rw[if_neg a1]
   by_cases a2:l<a∧a≤k
   ·rw[if_pos a2,if_neg (by omega),if_pos (by omega)];exact hs _ _ (by omega) (by omega)
   ·rw[if_neg a2]
    by_cases b1:b=l
    ·rw[if_pos b1];exact g2 _ (by omega)
    ·rw[if_neg b1]
     by_cases b2:l<b∧b≤k
     ·rw[if_pos b2];exact hs _ _ (by omega) (by omega)
     ·rw[if_neg b2];exact hs _ _ hab (by omega)
theorem zd4(O:Ord n cmp)(h2:2≤n):GoOk n cmp (kas_sort n) (λq=>PermR n q∧So cmp q n):=by
 unfold kas_sort;refine GoOk.bind ((Wp O (by unfold PermR;simp) h2).mono λr g=>?_);obtain⟨g1,g2,g3,g4⟩:=g
 by_cases hr:r.1<n
 ·rw[if_pos hr];have:max r.1 1=r.1:=by omega
  rw[this];exact Q0 O _ _ _ g1 g2 (by omega) g4
 ·rw[if_neg hr];obtain e:r.1=n:=by omega
  rw[e]at g4;exact⟨g1,g4⟩
end
end Pu
end
section
namespace Pu
open PySem PySem.Spec PyProof.Rows L2 PySem.SeqAt PySem.W
theorem zgi(i j:Int):PyData.eqv (.int i) (.int j)=(i==j):=by rw[PyData.eqv]
theorem Av:∀(c d:List Int),PyData.eqvAll (c.map .int) (d.map .int)=decide (c=d)
 |[],[]=>by simp[PyData.eqvAll]
 |[],_::_=>by simp[PyData.eqvAll]
 |_::_,[]=>by simp[PyData.eqvAll]
 |i::c,j::d=>by
  rw[kA0,kA0,PyData.eqvAll,Av c d,zgi]
  by_cases h:i=j<;>simp[h]
theorem u0:∀(k l:List Int),jk (k.map .int) (l.map .int)=some (decide (k<l))
 |[],[]=>by simp[jk]
 |[],_::_=>by simp[jk]
 |_::_,[]=>by simp[jk]
 |i::k,j::l=>by
  rw[kA0,kA0,jk,u0 k l,zgi];show some (if(i==j)=true then decide (k<l)else decide (i<j))=_
  congr 1
  by_cases h:i=j
  ·subst h;simp[kB5]
  ·have:(i==j)=false:=by simpa using h
   rw[this];simp[kB5,h]
theorem j4:∀k:List Int,PyData.canLayAll0 (k.map .int)=true
 |[]=>rfl
 |i::k=>by
  rw[kA0,PyData.canLayAll0,j4 k];rfl
theorem p6:∀k:List Int,PyData.depthAll (k.map .int)=0
 |[]=>rfl
 |i::k=>by
  rw[kA0,PyData.depthAll,p6 k];rfl
noncomputable def Bl(x:Str)(c:List Int):List Int:=x.cps.toList.map Int.ofNat++(-1)::c
theorem B6:∀(a b:List Nat)(c d:List Int),(a.map Int.ofNat++(-1)::c<b.map Int.ofNat++(-1)::d)↔(a<b∨(a=b∧c<d))
 |[],[],c,d=>by simp[kB5]
 |[],j::b,c,d=>by
  simp only[List.map_nil,List.nil_append,kA0,List.cons_append,kB5];have h1:(-1:Int)<Int.ofNat j:=Int.lt_of_lt_of_le (by decide) (Int.natCast_nonneg j);have h2:([]:List Nat)<j::b:=by simp
  simp only[h1,h2,true_or]
 |i::a,[],c,d=>by
  simp only[List.map_nil,List.nil_append,kA0,List.cons_append,kB5];have h0:(0:Int)≤Int.ofNat i:=Int.natCast_nonneg i;have h1:¬Int.ofNat i<(-1:Int):=λz=>by omega
  have h2:Int.ofNat i≠(-1:Int):=λz=>by omega
  have h3:¬(i::a<([]:List Nat)):=by simp
  simp[h1,h2,h3]
 |i::a,j::b,c,d=>by
  simp only[kA0,List.cons_append,kB5,B6 a b c d];have h1:(Int.ofNat i<Int.ofNat j)↔i<j:=Int.ofNat_lt;have h2:(Int.ofNat i=Int.ofNat j)↔i=j:=Int.ofNat_inj;rw[h1,h2];constructor
  ·rintro (h|⟨rfl,h|⟨rfl,h⟩⟩)
   ·exact .inl (.inl h)
   ·exact .inl (.inr ⟨rfl,h⟩)
   ·exact .inr ⟨rfl,h⟩
  ·rintro ((h|⟨rfl,h⟩)|⟨e,h⟩)
   ·exact .inl h
   ·exact .inr ⟨rfl,.inl h⟩
   ·cases e;exact .inr ⟨rfl,.inr ⟨rfl,h⟩⟩
noncomputable def shp:Nat→List Int→List PyData→Prop
 |0,k,xs=>k≠[]∧xs=k.map .int
 |1,k,xs=>∃i c,k=i::c∧xs=[.int i,.tuple (c.map .int)]
 |_,k,xs=>∃x c,k=Bl x c∧PyData.strOk x=true∧xs=[.str x,.tuple (c.map .int)]
theorem S0{x y:Str}(e:x.cps.toList=y.cps.toList):x=y:=by
 cases x;cases y;exact congrArg _ (Array.toList_inj.mp e)
theorem S7(c d:List Int):jk [.tuple (c.map .int)] [.tuple (d.map .int)]=some (decide (c<d)):=by
 have e1:ltv (.tuple (c.map .int)) (.tuple (d.map .int))=some (decide (c<d)):=by rw[ltv];exact u0 c d
 have e2:PyData.eqv (.tuple (c.map .int)) (.tuple (d.map .int))=decide (c=d):=by rw[PyData.eqv];exact Av c d
 rw[jk,e1,e2];show some (if decide (c=d)=true then false else decide (c<d))=_
 by_cases z:c=d
 ·subst z;simp
 ·simp[z]
theorem zi7{b:Nat}{k l:List Int}{xs ys:List PyData}(h:shp b k xs)(h':shp b l ys):jk xs ys=some (decide (k<l)):=by
 match b,h,h' with
 |0,h,h'=>rw[h.2,h'.2];exact u0 k l
 |1,h,h'=>
  obtain⟨i,c,rfl,rfl⟩:=h;obtain⟨j,d,rfl,rfl⟩:=h';rw[jk,S7,zgi];show some (if(i==j)=true then decide (c<d)else decide (i<j))=_
  congr 1
  by_cases z:i=j
  ·subst z;simp[kB5]
  ·have:(i==j)=false:=by simpa using z
   rw[this];simp[kB5,z]
 |_+2,h,h'=>
  obtain⟨x,c,rfl,_,rfl⟩:=h;obtain⟨y,d,rfl,_,rfl⟩:=h';have ex:ltv (.str x) (.str y)=some (decide (x.cps.toList<y.cps.toList)):=by rw[ltv]
  rw[jk,S7,ex];have e3:PyData.eqv (.str x) (.str y)=decide (x=y):=by rw[PyData.eqv];by_cases e:x=y<;>simp[e]
  rw[e3];show some (if decide (x=y)=true then decide (c<d)else decide (x.cps.toList<y.cps.toList))=_
  congr 1
  have q:decide (Bl x c<Bl y d)=decide (x.cps.toList<y.cps.toList∨(x.cps.toList=y.cps.toList∧c<d)):=decide_eq_decide.mpr (B6 x.cps.toList y.cps.toList c d);rw[q]
  by_cases z:x=y
  ·subst z;simp[List.lt_irrefl]
  ·have z':x.cps.toList≠y.cps.toList:=λe=>z (S0 e);simp[z,z']
def FT(b:Nat)(d:PyData):Prop:=if b<2 then∃i,d=.int i else∃x,d=.str x
theorem Ka{b:Nat}{k:List Int}{xs:List PyData}(h:shp b k xs):PyData.canLayAll0 xs=true∧PyData.depthAll xs≤1∧∃d r,FT b d∧xs=d::r:=by
 match b,h with
 |0,h=>
  obtain⟨h1,rfl⟩:=h;refine⟨j4 k,by rw[p6];omega,?_⟩;cases k with
  |nil=>exact absurd rfl h1
  |cons i c=>exact⟨_,_,⟨i,rfl⟩,rfl⟩
 |1,h=>
  obtain⟨i,c,rfl,rfl⟩:=h;refine⟨?_,?_,_,_,⟨i,rfl⟩,rfl⟩
  ·rw[PyData.canLayAll0,PyData.canLayAll0,PyData.canLayAll0,PyData.canLay0,PyData.canLay0,j4 c];rfl
  ·rw[PyData.depthAll,PyData.depthAll,PyData.depthAll,PyData.depth,PyData.depth,p6 c];simp
 |_+2,h=>
  obtain⟨x,c,rfl,ok,rfl⟩:=h;refine⟨?_,?_,_,_,by unfold FT;rw[if_neg (by omega)];exact⟨x,rfl⟩,rfl⟩
  ·rw[PyData.canLayAll0,PyData.canLayAll0,PyData.canLayAll0,PyData.canLay0,PyData.canLay0,j4 c,ok];rfl
  ·rw[PyData.depthAll,PyData.depthAll,PyData.depthAll,PyData.depth,PyData.depth,p6 c];simp
section
variable{prog:Program}{w:World}{A:Around}{E:Value→Shared→Prop}{s:Shared}
theorem Xv{fin:Bool}{Q:Bool→Shared→Prop}:∀(xs ys:List PyData)(vs ws:List Value)(i:Nat)(as bs:List Addr)(c:Bool),ReadsAll s.heap vs xs as→ReadsAll s.heap ws ys bs→PyData.canLayAll0 xs=true→PyData.canLayAll0 ys=true→
  A.units+min (PyData.depthAll xs) (PyData.depthAll ys)<cLine→jk xs ys=some c→fin=decide (xs.length<ys.length)→(i=0→∀x y,xs.head?=some x→ys.head?=some y→(∃a b,x=.int a∧y=.int b)∨∃a b,x=.str a∧y=.str b)→Q c s→KatLex prog w A true fin Q (vs.zip ws) i s
 |[],[],vs,ws,i,as,bs,c,ra,rb,ha,hb,hu,hl,hf,h0,q=>by
  cases ra;cases rb;cases hl;subst hf;exact kat_nil q
 |[],y::ys,vs,ws,i,as,bs,c,ra,rb,ha,hb,hu,hl,hf,h0,q=>by
  cases ra;cases rb;cases hl;have:fin=true:=by rw[hf];simp
  subst this;exact kat_nil q
 |x::xs,[],vs,ws,i,as,bs,c,ra,rb,ha,hb,hu,hl,hf,h0,q=>by
  cases ra;cases rb;cases hl;have:fin=false:=by rw[hf];simp
  subst this;exact kat_nil q
 |x::xs,y::ys,_,_,i,_,_,c,ra,rb,ha,hb,hu,hl,hf,h0,q=>by
  have ha':x.canLay0=true∧PyData.canLayAll0 xs=true:=by simpa[PyData.canLayAll0]using ha
  have hb':y.canLay0=true∧PyData.canLayAll0 ys=true:=by simpa[PyData.canLayAll0]using hb
  obtain⟨a,b,l1,l2,rfl⟩:=uz hl;cases ra with
  |@cons v vr _ _ as1 as2 r rs=>
   cases rb with
   |@cons v' vr' _ _ bs1 bs2 r' rs'=>
    refine kat_cons (eqAt_reads x y A s _ _ _ _ r r' ha'.1 hb'.1 (room_head hu) prog w _ _ ?_);cases he:PyData.eqv x y with
    |true=>
     rw[he,if_pos rfl]at q;exact kat_yes (Xv xs ys _ _ (i+1) _ _ b rs rs' ha'.2 hb'.2 (room_tail hu) l2 (by rw[hf];simp) (λz=>by omega) q)
    |false=>
     rw[he,if_neg (by simp)]at q;refine kat_no ?_
     by_cases hi:i=0
     ·rcases h0 hi x y rfl rfl with ⟨m,n,rfl,rfl⟩|⟨m,n,rfl,rfl⟩
      ·subst hi;cases r;cases r';cases l1;exact oneLt_int q
      ·subst hi;cases r;cases r';cases l1;exact oneLt_str q
     ·have:(i==0)=false:=by simpa using hi
      rw[this,Bool.and_false];exact kat_one _ _ (Du x y A s _ _ _ _ a r r' ha'.1 hb'.1 (room_head hu) l1 prog w _ _ q)
theorem zg1{b:Nat}{x y:Value}{xs ys:List PyData}{as bs:List Addr}{k l:List Int}{Q:Bool→Shared→Prop}(rx:Reads s.heap x (.tuple xs) as)(ry:Reads s.heap y (.tuple ys) bs)(sx:shp b k xs)(sy:shp b l ys)(hu:A.units+1<cLine)(h:Q (decide (k<l)) s):
  wpAny (model prog w) A (keyLt' (tuples' true) x y) Q E s:=by
 obtain⟨c1,d1,i1,r1,t1,e1⟩:=Ka sx;obtain⟨c2,d2,i2,r2,t2,e2⟩:=Ka sy;have hs:=zi7 sx sy;cases rx with
 |@tuple a o vs n _ as1 h1 h2 h3 h4=>
  cases ry with
  |@tuple a' o' vs' n' _ bs1 k1 k2 k3 k4=>
   have n1:vs.size=xs.length:=by simpa using ReadsAll.length _ _ _ h4
   have n2:vs'.size=ys.length:=by simpa using ReadsAll.length _ _ _ k4
   refine kat_lt h1 h3 k1 k3 (Xv xs ys _ _ 0 _ _ _ h4 k4 c1 c2 ?_ hs (by rw[n1,n2]) (λ_ x y hx hy=>?_) h)
   ·have:min (PyData.depthAll xs) (PyData.depthAll ys)≤1:=kAk (Nat.min_le_left _ _) d1;omega
   ·rw[e1]at hx;rw[e2]at hy;cases hx;cases hy;unfold FT at t1 t2
    by_cases hb:b<2
    ·rw[if_pos hb]at t1 t2;obtain⟨i,rfl⟩:=t1;obtain⟨j,rfl⟩:=t2;exact .inl ⟨_,_,rfl,rfl⟩
    ·rw[if_neg hb]at t1 t2;obtain⟨i,rfl⟩:=t1;obtain⟨j,rfl⟩:=t2;exact .inr ⟨_,_,rfl,rfl⟩
noncomputable def KeysAre(s:Shared)(b:Nat):List Value→List (List Int)→Prop
 |[],[]=>True
 |v::vs,k::ks=>(∃xs as,Reads s.heap v (.tuple xs) as∧shp b k xs)∧KeysAre s b vs ks
 |_,_=>False
theorem KeysAre.len{b:Nat}:∀{vs:List Value}{ks:List (List Int)},KeysAre s b vs ks→ks.length=vs.length
 |[],[],_=>rfl
 |[],_::_,h=>h.elim
 |_::_,[],h=>h.elim
 |v::vs,k::ks,⟨_,h⟩=>by rw[kA5,kA5,KeysAre.len h]
theorem KeysAre.get{b:Nat}:∀{vs:List Value}{ks:List (List Int)},KeysAre s b vs ks→∀{i:Nat},i<vs.length→∃xs as,Reads s.heap (vs.getD i Value.none) (.tuple xs) as∧shp b (ks.getD i []) xs
 |[],_,_,i,h=>by simp at h
 |_::_,[],h,_,_=>h.elim
 |v::vs,k::ks,⟨h0,_⟩,0,_=>h0
 |v::vs,k::ks,⟨_,h⟩,i+1,hi=>by
  have:=KeysAre.get h (i:=i) (by simpa using hi);simpa using this
def FV(b:Nat)(v:Value):Prop:=if b<2 then∃n t,v=Value.int n t else∃x t,v=Value.str x t
theorem KeysAre.firsts{b:Nat}:∀{vs:List Value}{ks:List (List Int)},KeysAre s b vs ks→∃fs,KatTups s.heap vs fs∧fs.length=vs.length∧∀v∈fs,FV b v
 |[],[],_=>⟨[],.nil,rfl,λv h=>by simp at h⟩
 |[],_::_,h=>h.elim
 |_::_,[],h=>h.elim
 |v::vs,k::ks,⟨⟨xs,as,r,sh⟩,h⟩=>by
  obtain⟨fs,f1,f2,f3⟩:=KeysAre.firsts h;obtain⟨_,_,d,q,td,rfl⟩:=Ka sh;cases r with
  |@tuple a o ws n _ as1 h1 h2 h3 h4=>
   cases hw:ws.toList with
   |nil=>rw[hw]at h4;cases h4
   |cons u us=>
    rw[hw]at h4;cases h4 with
    |cons r rs=>
     have fu:FV b u:=by
      unfold FT at td;unfold FV
      by_cases hb:b<2
      ·rw[if_pos hb]at td⊢;obtain⟨i,rfl⟩:=td;cases r with
       |int _ t=>exact⟨_,_,rfl⟩
      ·rw[if_neg hb]at td⊢;obtain⟨i,rfl⟩:=td;cases r with
       |str _ t=>exact⟨_,_,rfl⟩
     refine⟨u::fs,KatTups.cons h1 h2 h3 ?_ f1,by simp[f2],λv hv=>?_⟩
     ·have:ws.toList[0]?=some u:=by rw[hw];rfl
      simpa using this
     ·rcases kA8.mp hv with rfl|hv
      ·exact fu
      ·exact f3 v hv
noncomputable def zm(kz:List (List Int))(i j:Nat):Bool:=decide (kz.getD i []<kz.getD j [])
theorem Yn{kz:List (List Int)}(nd:kz.Nodup):Ord kz.length (zm kz) where
 as:=λi j hi hj ne=>by
  have e:kz.getD i []≠kz.getD j []:=by
   rw[show kz.getD i []=kz[i] by simp[hi],show kz.getD j []=kz[j] by simp[hj]];have pw:=List.pairwise_iff_getElem.mp nd;rcases Nat.lt_or_gt_of_ne ne with q|q
   ·exact pw i j hi hj q
   ·exact(pw j i hj hi q).symm
  unfold zm
  by_cases z:kz.getD i []<kz.getD j []
  ·have:¬kz.getD j []<kz.getD i []:=λy=>List.lt_irrefl _ (List.lt_trans z y);rw[decide_eq_true z,decide_eq_false this];rfl
  ·have:kz.getD j []<kz.getD i []:=Std.lt_of_le_of_ne z (Ne.symm e);rw[decide_eq_true this,decide_eq_false z];rfl
 tr:=λi j k _ _ _ h1 h2=>by
  unfold zm at *;exact decide_eq_true (List.lt_trans (of_decide_eq_true h1) (of_decide_eq_true h2))
noncomputable def Hv(prog:Program)(w:World)(A:Around)(ks vs:List Value)(R:Array Nat→Prop)(s:Shared):Prop:=
 ∀E:Value→Shared→Prop,wpAny (model prog w) A (keyKind' ks.toArray) (λκ s'=>s'=s∧∀E':Value→Shared→Prop,wpAny (model prog w) A (sortRuns'.run (SortSt.mk' κ (ks.toArray.zip vs.toArray) #[] 7 none)) (λr s''=>
  s''=s∧failedOf r.2=none∧∃p:Array Nat,R p∧p.size=vs.length∧(arrOf r.2).map (·.2)=List.toArray (p.toList.map λi=>vs.getD i Value.none)) E' s) E s
theorem ziw{b:Nat}{ks vs:List Value}{kz:List (List Int)}(hl:ks.length=vs.length)(hk:KeysAre s b ks kz)(h2:2≤vs.length)(h64:vs.length<64)(nd:kz.Nodup)(hu:A.units+1<cLine):
  Hv prog w A ks vs (λp=>PermR vs.length p∧So (zm kz) p vs.length) s:=by
 intro E;have hz:=hk.len;obtain⟨fs,f1,f2,f3⟩:=hk.firsts;have go:∀{T:Value},(T==T)=true→(T !=Value.type "tuple")=true→(∀v∈fs,Looks (model prog w) s.heap (typeOf v) T)→wpAny (model prog w) A (keyKind' ks.toArray) (λκ s'=>s'=s∧∀E':Value→Shared→Prop,wpAny (model prog w) A (sortRuns'.run (SortSt.mk' κ (ks.toArray.zip vs.toArray) #[] 7 none)) (λr s''=>
  s''=s∧failedOf r.2=none∧∃p:Array Nat,(PermR vs.length p∧So (zm kz) p vs.length)∧p.size=vs.length∧(arrOf r.2).map (·.2)=List.toArray (p.toList.map λi=>vs.getD i Value.none)) E' s) E s:=λ{T} t1 t2 t3=>by
  refine kat_kind (T:=T) f1 (by omega) t3 t1 ?_;rw[t2];refine⟨rfl,λE'=>?_⟩;have o:=Yn nd;rw[hz,hl]at o;refine wpAny_mono (kat_run (Q:=λst s''=>s''=s∧failedOf st=none∧∃p:Array Nat,(PermR vs.length p∧So (zm kz) p vs.length)∧p.size=vs.length∧(arrOf st).map (·.2)=List.toArray (p.toList.map λi=>vs.getD i Value.none))
   (G:=λp s'=>s'=s∧PermR vs.length p∧So (zm kz) p vs.length) hl h2 h64 (λp st s' g1 g2 g3 g4=>⟨g4.1,g3,p,g4.2,g1,kat_snds hl g2⟩) ?_) (λ_ _ x=>x) (λ_ _ x=>x)
  refine GoOk.wp (cmp:=zm kz) (n:=vs.length) (R:=λp=>PermR vs.length p∧So (zm kz) p vs.length) (λi j K hi hj q=>?_) (λp r=>⟨rfl,r⟩) (zd4 o h2);obtain⟨xs,as,r1,s1⟩:=hk.get (i:=i) (by omega);obtain⟨ys,bs,r2,s2⟩:=hk.get (i:=j) (by omega);exact zg1 r1 r2 s1 s2 hu q
 by_cases hb:b<2
 ·refine go (T:=.type "int") (by decide) (by decide) λv hv=>?_;have:=f3 v hv;unfold FV at this;rw[if_pos hb]at this;obtain⟨n,t,rfl⟩:=this;exact Looks.of_pure rfl
 ·refine go (T:=.type "str") (by decide) (by decide) λv hv=>?_;have:=f3 v hv;unfold FV at this;rw[if_neg hb]at this;obtain⟨n,t,rfl⟩:=this;exact Looks.of_pure rfl
end
noncomputable def Pe(h:Heap)(a:Addr)(vs:List Value):Heap:=((h.update a (Obj.mapSeq λ_=>(#[]:Array Value))).push (seqObj "tuple" vs.toArray 0)).push (seqObj "list" #[] 0)
theorem X8{h:Heap}{a:Addr}{vs:List Value}{b:Addr}{o:Obj}(e:h.get? b=some o)(ne:b≠a):(Pe h a vs).get? b=some o:=by
 unfold Pe;refine Heap.get?_push_of_some _ (Heap.get?_push_of_some _ ?_);rw[Heap.get?_update_ne _ _ _ _ ne];exact e
def OutOf(R:Array Nat→Prop)(vs out:List Value):Prop:=(vs.length<2∧out=vs)∨(2≤vs.length∧∃p:Array Nat,R p∧p.size=vs.length∧out=p.toList.map λi=>vs.getD i Value.none)
theorem OutOf.len{R:Array Nat→Prop}{vs out:List Value}(h:OutOf R vs out):out.length=vs.length:=by
 rcases h with ⟨_,rfl⟩|⟨_,p,_,h1,rfl⟩
 ·rfl
 ·rw[kA2,Array.length_toList,h1]
section
variable{prog:Program}{w:World}{A:Around}{E:Value→Shared→Prop}{s:Shared}
theorem Qa{a:Addr}{vs:List Value}{n:Nat}{P:PySem.Fin→Shared→Prop}{R:Array Nat→Prop}(ho:s.heap.get? a=some (seqObj "list" vs.toArray n))(hz:vs.length≤1000)(hR:2≤vs.length→Hv prog w A vs vs R {s with heap:=Pe s.heap a vs})
  (h:∀out:List Value,OutOf R vs out→P (.done (.ret .none)) {s with heap:=sortedHeap s.heap a vs out.toArray}):wpAny (model prog w) A (Builtin.«list.sort» ⟨[.ref a],[]⟩) P E s:=by
 have ha:a<s.heap.objs.size:=Heap.lt_size ho;have zl:vs.length≤sizeLine:=by rw[sizeLine_eq];omega
 obtain⟨e1,ho1⟩:∃e1,(s.heap.update a (Obj.mapSeq λ_=>(#[]:Array Value))).get? a=some (seqObj "list" #[] e1):=⟨_,get?_update_seq ho λ_=>#[]⟩;have ho6:(Pe s.heap a vs).get? a=some (seqObj "list" #[] e1):=Heap.get?_push_of_some _ (Heap.get?_push_of_some _ ho1);rw[list_sort_plain];refine wpAny_bind (listItems_at ho rfl (wpAny_bind (listUpdate_at ho rfl ?_ (by simpa using zl) (kAl _))));refine wpAny_bind (seqEpoch_at ho1 rfl (wpAny_bind (wpAny_newTuple (wpAny_bind (wpAny_newList (wpAny_holding ?_) (kAl _))) zl)));show wpAny (model prog w) A _ P E {s with heap:=Pe s.heap a vs};dsimp only
 by_cases h2:vs.toArray.size<2
 ·have h2':vs.length<2:=by simpa using h2
  rw[if_pos h2,if_pos h2];refine wpAny_bind (wpAny_pure ?_);rw[StateT.run_pure];refine wpAny_bind (wpAny_pure ?_);dsimp only;have em:Array.map (λx:Keyed=>x.2) (vs.toArray.zip vs.toArray)=vs.toArray:=by
   apply Array.toList_inj.mp;rw[Array.toList_map,Array.toList_zip];exact List.map_snd_zip (kA1 _)
  rw[show(arrOf (SortSt.mk' general' (vs.toArray.zip vs.toArray) #[] 7 none)).map (·.2)=vs.toArray from em];refine wpAny_bind (seqEpoch_at ho6 rfl (wpAny_bind (listUpdate_at ho6 rfl ?_ (kAl _) (kAk (Nat.le_of_eq (kAh ..)) (by omega)))));simp only[bne_self_eq_false,kAn,if_false];exact wpAny_pure (h vs (.inl ⟨h2',rfl⟩))
 ·have h2':2≤vs.length:=by simpa using h2
  rw[if_neg h2,if_neg h2];refine wpAny_bind (wpAny_mono (hR h2' _) (λκ s' g=>?_) λ_ _ x=>x);obtain⟨rfl,g⟩:=g;refine wpAny_bind (wpAny_mono (g _) (λr s' g=>?_) λ_ _ x=>x);obtain⟨rfl,hf,p,hp,hs,ho'⟩:=g;obtain⟨⟨⟩,st⟩:=r;dsimp only at hf ho'⊢;rw[ho',hf];have zo:(p.toList.map λi=>vs.getD i Value.none).length≤sizeLine:=by rw[kA2,Array.length_toList,hs];exact zl
  refine wpAny_bind (seqEpoch_at ho6 rfl (wpAny_bind (listUpdate_at ho6 rfl ?_ (kAl _) (kAk (Nat.le_of_eq (kAh ..)) (by omega)))));simp only[bne_self_eq_false,kAn,if_false];exact wpAny_pure (h _ (.inr ⟨h2',p,hp,hs,rfl⟩))
end
noncomputable def zku:D→Option Int
 |.int i=>some i
 |_=>none
noncomputable def uu:List D→Option (List Int)
 |[]=>some []
 |d::ds=>match zku d,uu ds with
  |some i,some r=>some (i::r)
  |_,_=>none
noncomputable def Xw:D→Option (List Int)
 |.tup ds=>match uu ds with
  |some (i::r)=>some (i::r)
  |_=>none
 |_=>none
noncomputable def ye:List D→Option (List (List Int))
 |[]=>some []
 |d::ds=>match Xw d,ye ds with
  |some k,some r=>some (k::r)
  |_,_=>none
theorem Dh:∀{ds:List D}{ns:List Int},uu ds=some ns→ds=ns.map D.int
 |[],ns,h=>by cases h;rfl
 |d::ds,ns,h=>by
  unfold uu at h;cases e1:zku d with
  |none=>rw[e1]at h;cases h
  |some i=>
   cases e2:uu ds with
   |none=>rw[e1,e2]at h;cases h
   |some r=>
    rw[e1,e2]at h;cases h;cases d<;>first|(cases e1;rw[Dh e2];rfl)|cases e1
theorem zby{d:D}{k:List Int}(h:Xw d=some k):k≠[]∧d=.tup (k.map D.int):=by
 unfold Xw at h;cases d with
 |tup ds=>
  dsimp only at h;cases e:uu ds with
  |none=>rw[e]at h;cases h
  |some ns=>
   rw[e]at h;cases ns with
   |nil=>cases h
   |cons i r=>cases h;exact⟨by simp,by rw[Dh e]⟩
 |_=>cases h
theorem Dl{d:D}{ds:List D}{kz:List (List Int)}(h:ye (d::ds)=some kz):∃k r,Xw d=some k∧ye ds=some r∧kz=k::r:=by
 unfold ye at h;cases e1:Xw d with
 |none=>rw[e1]at h;cases h
 |some k=>
  cases e2:ye ds with
  |none=>rw[e1,e2]at h;cases h
  |some r=>rw[e1,e2]at h;cases h;exact⟨k,r,rfl,rfl,rfl⟩
theorem Al:∀ns:List Int,gw (ns.map D.int)=some (ns.map PyData.int)
 |[]=>rfl
 |i::r=>by
  rw[kA0,gw,Al r];rfl
section
variable{X:Cx}{pins:List (Addr×Obj)}{σ:St}{G H:Hp}{s:Shared}
theorem Lx(I:Inv X pins σ H s)(sg:Same G H):∀{ds:List D}{kz:List (List Int)}{vs:List V}{us:List Value},ye ds=some kz→DenL (kx X) G ds vs→Vals vs us→KeysAre s 0 us kz
 |[],kz,vs,us,h,dl,r=>by
  cases h;cases (show vs=[]from dl);cases r;trivial
 |d::ds,kz,vs,us,h,dl,r=>by
  obtain⟨k,r',h1,h2,rfl⟩:=Dl h;obtain⟨v,vr,rfl,dv,dr⟩:=dl;obtain⟨hn,rfl⟩:=zby h1;cases r with
  |cons rv rr=>
   refine⟨?_,Lx I sg h2 dr rr⟩;obtain⟨as,ra⟩:=ym I sg dv rv (show ij (.tup (k.map D.int))=some (.tuple (k.map PyData.int)) by rw[ij,Al]);exact⟨_,as,ra,hn,rfl⟩
end
noncomputable def Ow(x:List Int×D):List (List Int×D)→List (List Int×D)
 |[]=>[x]
 |y::r=>if x.1<y.1 then x::y::r else y::Ow x r
noncomputable def Ej(l:List (List Int×D)):List (List Int×D):=l.foldr Ow []
theorem zu(x:List Int×D):∀l,(Ow x l).Perm (x::l)
 |[]=>.refl _
 |y::r=>by
  unfold Ow;split
  ·exact .refl _
  ·exact((zu x r).cons y).trans (List.Perm.swap x y r)
theorem xj:∀l,(Ej l).Perm l
 |[]=>.refl _
 |x::r=>(zu x _).trans ((xj r).cons x)
theorem Rl{x:List Int×D}:∀{l:List (List Int×D)},l.Pairwise (λa b=>a.1<b.1)→(∀y∈l,y.1≠x.1)→(Ow x l).Pairwise (λa b=>a.1<b.1)
 |[],_,_=>by unfold Ow;exact List.pairwise_singleton _ _
 |y::r,h,hn=>by
  unfold Ow;obtain⟨h1,h2⟩:=List.pairwise_cons.mp h;split
  ·rename_i c;refine List.pairwise_cons.mpr ⟨λz hz=>?_,h⟩;rcases kA8.mp hz with rfl|hz
   ·exact c
   ·exact List.lt_trans c (h1 z hz)
  ·rename_i c;have lt:y.1<x.1:=Std.lt_of_le_of_ne c (hn y (.head _));refine List.pairwise_cons.mpr ⟨λz hz=>?_,Rl h2 λz hz=>hn z (.tail _ hz)⟩;rcases kA8.mp ((zu x r).mem_iff.mp hz)with rfl|hz
   ·exact lt
   ·exact h1 z hz
theorem Nh:∀{l:List (List Int×D)},(l.map (·.1)).Nodup→(Ej l).Pairwise (λa b=>a.1<b.1)
 |[],_=>List.Pairwise.nil
 |x::r,h=>by
  obtain⟨h1,h2⟩:=List.nodup_cons.mp (show(x.1::r.map (·.1)).Nodup from h);refine Rl (Nh h2) λy hy e=>h1 ?_;rw[←e];exact List.mem_map_of_mem ((xj r).mem_iff.mp hy)
theorem U8{kz:List (List Int)}{ds:List D}{p:Array Nat}(hl:kz.length=ds.length)(nd:kz.Nodup)(hp:PermR ds.length p)(hs:So (zm kz) p ds.length):p.toList.map (λi=>ds.getD i D.non)=(Ej (kz.zip ds)).map (·.2):=by
 have e:p.toList.map (λi=>(kz.getD i [],ds.getD i D.non))=Ej (kz.zip ds):=by
  have pr:(p.toList.map λi=>(kz.getD i [],ds.getD i D.non)).Perm (kz.zip ds):=by
   have:(kAj ds.length).map (λi=>(kz.getD i [],ds.getD i D.non))=kz.zip ds:=by
    refine List.ext_getElem (by simp[hl]) λi h1 h2=>?_;have:i<ds.length:=by simpa using h1
    have:i<kz.length:=by omega
    simp[*]
   rw[←this];exact List.Perm.map _ hp
  have nz:((kz.zip ds).map (·.1)).Nodup:=by
   rw[List.map_fst_zip (by omega)];exact nd
  refine List.Perm.eq_of_pairwise (le:=λa b:List Int×D=>a.1<b.1) (λa b _ _ h1 h2=>absurd (List.lt_trans h1 h2) (List.lt_irrefl _)) ?_ (Nh nz) (pr.trans (xj _).symm);rw[List.pairwise_map,List.pairwise_iff_getElem];intro i j hi hj hij;have hz:=hp.size;have hj':j<ds.length:=by rw[←hz];simpa using hj
  have:=hs i j hij hj';rw[Co (by omega),Co (by omega)]at this;simpa[zm]using this
 rw[←e,kAw];rfl
end Pu
end
section
namespace Pu
open PySem PySem.Spec PyProof.Rows L2
noncomputable def ao:D→D→Option D
 |.lst xs,.int i=>atI xs i
 |.tup xs,.int i=>atI xs i
 | .str z, .int i => if z.length ≤ sizeLine then (match atI z.cps.toList i with
  |some c=>some (.str ⟨#[c]⟩)
  |none=>none)else none
 |.dct false kvs,k=>(fq k).bind (fg kvs)
 |.dct true kvs,k=>(ml k).bind (L1 kvs)
 |_,_=>none
noncomputable def zlz:R2:=λx y H Q=>∃a v,x=.ref a∧DGet H a y (some v)∧Q v H
section
variable{X:Cx}{B:Hp}{E:EK}{a b:Expr}{g h:En→Res}{pos:Pos}
theorem zbx(hu:X.A.units+5<cLine):IxR X zlz:=by
 intro value slice pins s σ H x y v u Q I rx ry q hs;obtain⟨l,w,rfl,dg,q⟩:=q;cases rx;exact tail_any (Ld I dg) PySem.F.slot_dict_getitem.lookup (Tu hu I dg ry λw' s3 I3 rw'=>⟨w,H,I3,rw',q⟩) hs
theorem Arg.dctT{K:KA}{G H:Hp}{kvs:List (D×D)}{v:V}(s:Same G H)(h:Arg K G H (.dct true kvs) v):∃a es,v=.ref a∧H a=some (.dT es)∧DenT K G kvs es:=by
 rcases h with ⟨a,h1,h2⟩|⟨_,_,_,z,_⟩|⟨t',kvs',a,z,h1,h2⟩
 ·rcases h2 with ⟨z,_⟩|⟨_,es,q,r⟩
  ·cases z
  ·exact⟨a,es,h1,s _ _ q,r⟩
 ·cases z
 ·cases z;rcases h2 with ⟨z,_⟩|⟨_,es,q,r⟩
  ·cases z
  ·exact⟨a,es,h1,q,r⟩
theorem zc5{K:KA}:j3 K ao (λx y H Q=>rIx K x y H Q∨zlz x y H Q):=λG H x y dx dy d sg ax ay ed Q q=>by
 unfold ao at ed;split at ed
 ·obtain⟨l,vs,rfl,sq,dl⟩:=ax.lst sg;obtain⟨v,ev,dv⟩:=dl.atI ed;exact .inl (.inl ⟨l,vs,_,v,rfl,ay.int,sq,ev,q _ G H (Ext.refl sg) dv⟩)
 ·obtain⟨l,vs,rfl,sq,dl⟩:=ax.tup sg;obtain⟨v,ev,dv⟩:=dl.atI ed;exact .inl (.inr (.inl ⟨l,vs,_,v,rfl,ay.int,sq,ev,q _ G H (Ext.refl sg) dv⟩))
 ·split at ed
  ·rename_i hz;split at ed
   ·rename_i c ec;cases ed;exact .inl (.inr (.inr ⟨_,_,c,ax.str,ay.int,hz,ec,q _ G H (Ext.refl sg) rfl⟩))
   ·cases ed
  ·cases ed
 ·rename_i kvs;cases ek:fq dy with
  |none=>rw[ek]at ed;cases ed
  |some j=>
   rw[ek]at ed;obtain⟨l,es,rfl,h1,dl⟩:=Arg.dctK sg ax;obtain⟨v,ev,dv⟩:=(dl.look j).1 d ed;rw[sr ay ek];refine .inr ⟨l,v,rfl,?_,q _ G H (Ext.refl sg) dv⟩;rw[←ev];exact DGet.k h1
 ·rename_i kvs;cases ek:ml dy with
  |none=>rw[ek]at ed;cases ed
  |some j=>
   rw[ek]at ed;obtain⟨l,es,rfl,h1,dl⟩:=Arg.dctT sg ax;obtain⟨v,ev,dv⟩:=(dl.look j).1 d ed;obtain⟨b,rfl,hb⟩:=Arg.keys sg ay ek;refine .inr ⟨l,v,rfl,?_,q _ G H (Ext.refl sg) dv⟩;rw[←ev];exact DGet.t h1 hb
 ·cases ed
theorem zlq(hu:X.A.units+5<cLine)(ha:lx X B E a g)(hb:lx X B E b h)(hs:Hu b:=by intro _ _;rfl):ji X B E (.Subscript a b pos) (g2 ao g h):=PE.imp (zlg (zgv.or (zbx hu)) ha hb hs) λσ H Q q=>op2 zc5 q
end
end Pu
end
section
namespace Pu
open PySem PySem.Spec PyProof.Rows L2 PySem.SeqAt PySem.W
theorem Q5{K:KA}{G:Hp}{ds:List D}{vs:List V}(dl:DenL K G ds vs):∀{ps:List Nat},(∀i∈ps,i<ds.length)→DenL K G (ps.map λi=>ds.getD i D.non) (ps.map λi=>vs.getD i V.non)
 |[],_=>rfl
 |i::r,h=>by
  refine⟨_,_,rfl,?_,Q5 dl λj hj=>h j (.tail _ hj)⟩;have key:∀{ds:List D}{vs:List V}(i:Nat),DenL K G ds vs→i<ds.length→Den K G (ds.getD i D.non) (vs.getD i V.non):=by
   intro ds;induction ds with
   |nil=>intro vs i _ h;simp at h
   |cons d ds ih=>
    intro vs i dl h;obtain⟨v,vr,rfl,dv,dr⟩:=dl;cases i with
    |zero=>exact dv
    |succ i=>simpa using ih i dr (by simpa using h)
  exact key i dl (h i (.head _))
theorem Te{vs:List V}{us:List Value}(r:Vals vs us):∀{ps:List Nat},(∀i∈ps,i<vs.length)→Vals (ps.map λi=>vs.getD i V.non) (ps.map λi=>us.getD i Value.none)
 |[],_=>.nil
 |i::q,h=>by
  refine .cons ?_ (Te r λj hj=>h j (.tail _ hj));have key:∀{vs:List V}{us:List Value}(i:Nat),Vals vs us→i<vs.length→RelV (vs.getD i V.non) (us.getD i Value.none):=by
   intro vs us i r;induction r generalizing i with
   |nil=>intro h;simp at h
   |cons hh t ih=>
    intro h;cases i with
    |zero=>exact hh
    |succ i=>simpa using ih i (by simpa using h)
  exact key i r (h i (.head _))
noncomputable def Ue:D→Option (List Int)
 |.tup [.str x,.tup ds]=>if PyData.strOk x then(uu ds).map (Bl x)else none
 |_=>none
noncomputable def ub:List D→Option (List (List Int))
 |[]=>some []
 |d::ds=>match Ue d,ub ds with
  |some k,some r=>some (k::r)
  |_,_=>none
theorem zbz{d:D}{k:List Int}(h:Ue d=some k):∃x c,PyData.strOk x=true∧k=Bl x c∧d=.tup [.str x,.tup (c.map D.int)]:=by
 unfold Ue at h;split at h
 ·rename_i x ds;split at h
  ·rename_i ok;cases e:uu ds with
   |none=>rw[e]at h;cases h
   |some c=>rw[e]at h;cases h;exact⟨x,c,ok,rfl,by rw[Dh e]⟩
  ·cases h
 ·cases h
theorem Dm{d:D}{ds:List D}{kz:List (List Int)}(h:ub (d::ds)=some kz):∃k r,Ue d=some k∧ub ds=some r∧kz=k::r:=by
 unfold ub at h;cases e1:Ue d with
 |none=>rw[e1]at h;cases h
 |some k=>
  cases e2:ub ds with
  |none=>rw[e1,e2]at h;cases h
  |some r=>rw[e1,e2]at h;cases h;exact⟨k,r,rfl,rfl,rfl⟩
noncomputable def qr(ds:List D):Option (Nat×List (List Int)):=match ye ds with
 |some kz=>some (0,kz)
 |none=>(ub ds).map λkz=>(2,kz)
theorem Gx:∀{ds:List D}{kz:List (List Int)},ye ds=some kz→kz.length=ds.length
 |[],kz,h=>by cases h;rfl
 |d::ds,kz,h=>by
  obtain⟨k,r,_,h2,rfl⟩:=Dl h;rw[kA5,kA5,Gx h2]
theorem Gy:∀{ds:List D}{kz:List (List Int)},ub ds=some kz→kz.length=ds.length
 |[],kz,h=>by cases h;rfl
 |d::ds,kz,h=>by
  obtain⟨k,r,_,h2,rfl⟩:=Dm h;rw[kA5,kA5,Gy h2]
theorem Oz{ds:List D}{b:Nat}{kz:List (List Int)}(h:qr ds=some (b,kz)):kz.length=ds.length:=by
 unfold qr at h;split at h
 ·rename_i e;cases h;exact Gx e
 ·cases e:ub ds with
  |none=>rw[e]at h;cases h
  |some k=>rw[e]at h;cases h;exact Gy e
noncomputable def va(ds:List D):Option (List D):=if ds.length<2 then some ds else if ds.length<64 then(match qr ds with
  |some (_,kz)=>if kz.Nodup then some ((Ej (kz.zip ds)).map (·.2))else none
  |none=>none)else none
noncomputable def oz:D→Option D
 |.lst ds=>(va ds).map .lst
 |.dct true kvs=>(va (kvs.map (·.1))).map .lst
 |_=>none
theorem Ng{ds ds':List D}(h:va ds=some ds'):ds.length<64∧((ds.length<2∧ds'=ds)∨(2≤ds.length∧∃b kz,qr ds=some (b,kz)∧kz.Nodup∧ds'=(Ej (kz.zip ds)).map (·.2))):=by
 unfold va at h
 by_cases h2:ds.length<2
 ·rw[if_pos h2]at h;cases h;exact⟨by omega,.inl ⟨h2,rfl⟩⟩
 ·rw[if_neg h2]at h
  by_cases h64:ds.length<64
  ·rw[if_pos h64]at h;cases hk:qr ds with
   |none=>rw[hk]at h;cases h
   |some p=>
    obtain⟨b,kz⟩:=p;rw[hk]at h;dsimp only at h
    by_cases nd:kz.Nodup
    ·rw[if_pos nd]at h;cases h;exact⟨h64,.inr ⟨by omega,b,kz,rfl,nd,rfl⟩⟩
    ·rw[if_neg nd]at h;cases h
  ·rw[if_neg h64]at h;cases h
section
variable{X:Cx}{pins:List (Addr×Obj)}{σ:St}{G H:Hp}{s:Shared}
theorem G7(I:Inv X pins σ H s)(sg:Same G H):∀{ds:List D}{kz:List (List Int)}{vs:List V}{us:List Value},ub ds=some kz→DenL (kx X) G ds vs→Vals vs us→KeysAre s 2 us kz
 |[],kz,vs,us,h,dl,r=>by
  cases h;cases (show vs=[]from dl);cases r;trivial
 |d::ds,kz,vs,us,h,dl,r=>by
  obtain⟨k,r',h1,h2,rfl⟩:=Dm h;obtain⟨v,vr,rfl,dv,dr⟩:=dl;obtain⟨x,c,ok,rfl,rfl⟩:=zbz h1;cases r with
  |cons rv rr=>
   refine⟨?_,G7 I sg h2 dr rr⟩;have e:ij (.tup [.str x,.tup (c.map D.int)])=some (.tuple [.str x,.tuple (c.map PyData.int)]):=by
    rw[ij,gw,gw,gw,ij,ij,Al]
   obtain⟨as,ra⟩:=ym I sg dv rv e;exact⟨_,as,ra,x,c,rfl,ok,rfl⟩
theorem O0(I:Inv X pins σ H s)(sg:Same G H){ds:List D}{b:Nat}{kz:List (List Int)}{vs:List V}{us:List Value}(h:qr ds=some (b,kz))(dl:DenL (kx X) G ds vs)(r:Vals vs us):KeysAre s b us kz:=by
 unfold qr at h;split at h
 ·rename_i e;cases h;exact Lx I sg e dl r
 ·cases e:ub ds with
  |none=>rw[e]at h;cases h
  |some k=>rw[e]at h;cases h;exact G7 I sg e dl r
end
section
variable{X:Cx}{B:Hp}{E:EK}{e:Expr}{g:En→Res}{pos p:Pos}
theorem Ek{pins:List (Addr×Obj)}{σ:St}{G H:Hp}{s:Shared}{a:Addr}{its:List Value}{vs:List V}{ds ds':List D}{Q:VK}(hu:X.A.units+5<cLine)(I:Inv X pins σ H s)(sg:Same G H)(rv:Vals vs its)(dl:DenL (kx X) G ds vs)(e:va ds=some ds')
  (col:∀(Q':List Value→Shared→Prop)(E':Value→Shared→Prop),(∀h' tk,(∀b o,s.heap.get? b=some o→h'.get? b=some o)→Q' its {s with heap:=h',toks:=tk})→wpAny (model X.prog X.w) X.A.in1 (collect (.ref a)) Q' E' s)
  (q:∀p vs',H p=none→DenL (kx X) G ds' vs'→Q (.ref p) (upd H p (.lst vs'))):wpAny (model X.prog X.w) X.A (call (.builtin "sorted") [.ref a]) (EP X pins σ Q) X.xe s:=by
 obtain⟨h64,hh⟩:=Ng e;have n1:its.length=vs.length:=rv.length.symm;have n2:vs.length=ds.length:=dl.length.symm;have zl:its.length≤sizeLine:=by rw[sizeLine_eq];omega
 refine Calls.call_function_entry kind_sorted plain_sorted entry_sorted (args_sorted1 _) ?_;unfold Builtin.«sorted»;refine wpAny_bind (m:=checkCount "sorted" 1 1 _) (wpAny_pure (wpAny_bind (col _ _ λh1 tk k1=>wpAny_bind (wpAny_newList ?_ zl))));have I1:Inv X pins σ H {s with heap:=h1,toks:=tk}:=I.kept k1;have hoL:(h1.push (seqObj "list" its.toArray 0)).get? h1.objs.size=some (seqObj "list" its.toArray 0):=Heap.get?_push_size _ rfl;have k2:∀b o,h1.get? b=some o→(h1.push (seqObj "list" its.toArray 0)).get? b=some o∧b≠h1.objs.size:=λb o e=>⟨Heap.get?_push_of_some _ e,kAd (Heap.lt_size e)⟩;have hR:2≤its.length→Hv X.prog X.w X.A.in1.in1 its its (λp=>PermR its.length p∧∃b kz,qr ds=some (b,kz)∧kz.Nodup∧So (zm kz) p its.length∧ds'=(Ej (kz.zip ds)).map (·.2)) {s with heap:=Pe (h1.push (seqObj "list" its.toArray 0)) h1.objs.size its,toks:=tk}:=λh2=>by
  rcases hh with ⟨z,_⟩|⟨_,b,kz,hk,nd,hd⟩
  ·omega
  ·have I2:Inv X pins σ H {s with heap:=Pe (h1.push (seqObj "list" its.toArray 0)) h1.objs.size its,toks:=tk}:=I1.kept (t':=tk) λb o e=>X8 (k2 b o e).1 (k2 b o e).2;have ka:=O0 I2 sg hk dl rv;intro E';refine wpAny_mono (ziw (prog:=X.prog) (w:=X.w) (A:=X.A.in1.in1) (vs:=its) rfl ka h2 (by omega) nd (by show X.A.units+1+1+1<cLine;omega) E') (λκ s' g=>⟨g.1,λE2=>wpAny_mono (g.2 E2) (λr s2 g2=>?_) λ_ _ x=>x⟩) λ_ _ x=>x;obtain⟨g1,g2,p,⟨g3,g4⟩,g5,g6⟩:=g2;exact⟨g1,g2,p,⟨g3,b,kz,hk,nd,g4,hd⟩,g5,g6⟩
 refine wpAny_bind (wpAny_holding (wpAny_call_entry slot_list_sort ⟨_,hoL,rfl⟩ entry_list_sort (Qa (s:={s with heap:=h1.push (seqObj "list" its.toArray 0),toks:=tk}) hoL (by omega) hR λout ho=>⟨_,rfl,wpAny_pure ⟨_,rfl,?_⟩⟩) (args_list_sort _)));obtain⟨ep,hat⟩:=sortedHeap_at (out:=out.toArray) hoL;have key:∃vs',DenL (kx X) G ds' vs'∧Vals vs' out:=by
  rcases ho with ⟨z,rfl⟩|⟨z,p,⟨hp,b,kz,hk,nd,hs,hd⟩,hps,rfl⟩
  ·rcases hh with ⟨_,rfl⟩|⟨z2,_⟩
   ·exact⟨vs,dl,rv⟩
   ·omega
  ·have hp':PermR ds.length p:=by rw[←n2,←n1];exact hp
   have hs':So (zm kz) p ds.length:=by rw[←n2,←n1];exact hs
   have lt:∀i∈p.toList,i<ds.length:=λi hi=>List.mem_range.mp (hp'.mem_iff.mp hi);rw[hd,←U8 (Oz hk) nd hp' hs'];exact⟨_,Q5 dl lt,Te rv λi hi=>by rw[n2];exact lt i hi⟩
 obtain⟨vs',d',v'⟩:=key;have z:vs'.length≤sizeLine:=by rw[v'.length,ho.len];exact zl
 refine⟨.ref h1.objs.size,_,I1.laid (a:=h1.objs.size) (o:=.lst vs') (t':=tk) (λb o e=>?_) (kA1 _) ⟨z,out,ep,v',hat⟩,rfl,q _ vs' (I1.hok.fresh (kA1 _)) d'⟩;have hlt:=Heap.lt_size e;rw[sortedHeap_old (k2 b o e).2 (by rw[Heap.size_push];exact Nat.lt_succ_of_lt hlt)];exact(k2 b o e).1
def RawD(h:Heap)(d:Addr)(es:Array DictEntry)(ep:Nat):Prop:=∃o,h.get? d=some o∧o.ExactDict∧o.data=.dict es ep
section
variable{prog:Program}{w:World}{A:Around}{E:Value→Shared→Prop}{s:Shared}{d:Addr}{es:Array DictEntry}{ep:Nat}
theorem RawD.ty(h:RawD s.heap d es ep):s.TypeIs (.ref d) "dict":=let ⟨o,h1,h2,_⟩:=h;⟨o,h1,h2.1⟩
theorem Zt{Q:Value→Shared→Prop}(hd:(d==sysModules)=false)(hm:RawD s.heap d es ep)
  (hQ:Q (.ref s.heap.objs.size) {s with heap:=s.heap.push {cls:=.type "dict_keyiterator",data:=.fields #[.ref d,.int 0 0,.int es.size 0,.int ep 0]}}):
  wpAny (model prog w) A (pyIter (.ref d)) Q E s:=by
 have hT:=hm.ty;obtain⟨o,ho,hc,hdat⟩:=id hm;refine wpAny_pyIter_slot hT F.slot_dict_iter (wpAny_call_entry F.slot_dict_iter hT F.entry_dict_iter ?_ (F.args_dict_iter_1 _));unfold Builtin.«dict.__iter__»;refine wpAny_bind ?_;unfold Builtin.Dict.dictSlotNone;refine wpAny_bind (wpAny_notOrdered_dict hT ?_);show wpAny _ _ (pure (Value.ref d)) _ _ s;refine wpAny_pure ?_;show wpAny _ _ (Builtin.Dict.showsAll d>>=_) _ _ s;unfold Builtin.Dict.showsAll;rw[if_neg (by rw[hd];exact kAz)];refine wpAny_bind (wpAny_pure ?_);refine wpAny_bind (wpAny_dictEntries ho hdat ?_);refine wpAny_bind (wpAny_dictEpoch ho hdat ?_);refine wpAny_bind (wpAny_newObj_type (wpAny_pure ⟨_,rfl,"dict_keyiterator",_,⟨_,Heap.get?_push_size _ rfl,rfl⟩,F.slot_dict_keyiterator_next.lookup,?_⟩));simpa[rawInt]using hQ
theorem Zs{it:Addr}{i:Nat}{Q:Option Value→Shared→Prop}(hit:s.heap.IsKeyIter it d i es.size ep)(hm:RawD s.heap d es ep)(hlt':i<es.size)
  (hQ:∀h',h'.IsKeyIter it d (i+1) es.size ep→Heap.SameBut it s.heap h'→Q (some es[i].key) {s with heap:=h'}):wpAny (model prog w) A (pyNext (.ref it)) Q E s:=by
 obtain⟨o,ho,hc,hd⟩:=id hit;obtain⟨od,hod,hcd,hdd⟩:=id hm;unfold pyNext;refine wpAny_bind (wpAny_attempt (wpAny_callSpecial?_slot (name:=Str.ofString "__next__") hit.typeIs F.slot_dict_keyiterator_next
  (wpAny_call_entry F.slot_dict_keyiterator_next hit.typeIs F.entry_dict_keyiterator_next ?_ (F.args_dict_keyiterator_next_1 _))))
 refine wpAny_bind (wpAny_pure ?_);refine wpAny_bind ?_;refine wpAny_bind ?_
 first|refine wpAny_bind (wpAny_typeNameOfWhole_keyiter hit.typeIs (wpAny_pure ?_))|refine wpAny_bind (wpAny_typeNameOf_keyiter hit.typeIs (wpAny_pure ?_))
 refine wpAny_bind (wpAny_fieldsOf ho hd ?_);have hown:Builtin.Dict_items.ownsTuple "dict_keyiterator"=false:=by decide
 simp only[hown,kAn,if_false];show wpAny _ _ (if(Value.ref d==Value.none)=true then _ else _) _ _ s;rw[if_neg (show¬((Value.ref d==Value.none)=true)from kAz)];refine wpAny_bind (wpAny_pure ?_);refine wpAny_bind (wpAny_dictEntries hod hdd ?_);rw[if_neg (by simp)];refine wpAny_bind (wpAny_pure ?_);refine wpAny_bind (wpAny_dictEpoch hod hdd ?_);rw[if_neg (by simp)];refine wpAny_pure ?_;simp only[show¬((i:Int)<0)from by omega,if_false,Int.toNat_natCast,Array.getElem?_eq_getElem hlt'];refine wpAny_bind ?_
 first|refine wpAny_bind (wpAny_typeNameOfWhole_keyiter hit.typeIs (wpAny_pure ?_))|refine wpAny_bind (wpAny_typeNameOf_keyiter hit.typeIs (wpAny_pure ?_))
 refine wpAny_bind (wpAny_isOneOf_keyiter hit.typeIs ?_);show wpAny _ _ (setField (.ref it) 1 (rawInt ((i:Int)+1))>>=_) _ _ s;refine wpAny_bind (wpAny_setField ho hd (by simp) ?_);have hit':(s.heap.update it (Obj.mapFields (·.setIfInBounds 1 (rawInt ((i:Int)+1))))).IsKeyIter it d (i+1) es.size ep:=
  ⟨_,Heap.get?_update_self _ ho (Obj.isFreed_of_fields (Obj.data_mapFields hd _)),(Obj.cls_mapFields ..).trans hc,by rw[Obj.data_mapFields hd];simp[rawInt]⟩
 refine wpAny_bind (wpAny_holding ?_);refine wpAny_bind (wpAny_isOneOf_keyiter (s:={s with heap:=s.heap.update it (Obj.mapFields (·.setIfInBounds 1 (rawInt ((i:Int)+1))))}) hit'.typeIs ?_);show wpAny _ _ (pure es[i].key) _ _ _;exact wpAny_pure (wpAny_pure ⟨_,rfl,wpAny_pure (hQ _ hit' (Heap.SameBut.update ..))⟩)
theorem zdq{it:Addr}{Q:Option Value→Shared→Prop}(hh:A.handled=none)(hit:s.heap.IsKeyIter it d es.size es.size ep)(hm:RawD s.heap d es ep)
  (hQ:∀h',Heap.ExtBut it s.heap h'→Q none {s with heap:=h'}):wpAny (model prog w) A (pyNext (.ref it)) Q E s:=by
 obtain⟨o,ho,hc,hd⟩:=id hit;obtain⟨od,hod,hcd,hdd⟩:=id hm;unfold pyNext;refine wpAny_bind (wpAny_attempt (wpAny_callSpecial?_slot (name:=Str.ofString "__next__") hit.typeIs F.slot_dict_keyiterator_next
  (wpAny_call_entry F.slot_dict_keyiterator_next hit.typeIs F.entry_dict_keyiterator_next ?_ (F.args_dict_keyiterator_next_1 _))))
 refine wpAny_bind (wpAny_pure ?_);refine wpAny_bind ?_;refine wpAny_bind ?_
 first|refine wpAny_bind (wpAny_typeNameOfWhole_keyiter hit.typeIs (wpAny_pure ?_))|refine wpAny_bind (wpAny_typeNameOf_keyiter hit.typeIs (wpAny_pure ?_))
 refine wpAny_bind (wpAny_fieldsOf ho hd ?_);have hown:Builtin.Dict_items.ownsTuple "dict_keyiterator"=false:=by decide
 simp only[hown,kAn,if_false];show wpAny _ _ (if(Value.ref d==Value.none)=true then _ else _) _ _ s;rw[if_neg (show¬((Value.ref d==Value.none)=true)from kAz)];refine wpAny_bind (wpAny_pure ?_);refine wpAny_bind (wpAny_dictEntries hod hdd ?_);rw[if_neg (by simp)];refine wpAny_bind (wpAny_pure ?_);refine wpAny_bind (wpAny_dictEpoch hod hdd ?_);rw[if_neg (by simp)];refine wpAny_pure ?_;simp only[show¬((es.size:Int)<0)from by omega,if_false,Int.toNat_natCast,Array.getElem?_eq_none (kA1 es.size)];refine wpAny_bind ?_
 first|refine wpAny_bind (wpAny_typeNameOfWhole_keyiter hit.typeIs (wpAny_pure ?_))|refine wpAny_bind (wpAny_typeNameOf_keyiter hit.typeIs (wpAny_pure ?_))
 show wpAny _ _ (setField (.ref it) 0 .none>>=_) _ _ s;refine wpAny_bind (wpAny_setField ho hd (by simp) ?_);show wpAny _ _ (newExc (.type "StopIteration") []>>=_) _ _ _;refine wpAny_bind ?_;simp only[newExc,newTuple];refine wpAny_bind (wpAny_newObj_type ?_ (by size_fits));refine wpAny_bind (m:=firstArgMember _ _) (wpAny_of_eq (a:=Value.none) (by first|rfl|(simp only[firstArgMember];rfl)) ?_);refine wpAny_newObj_type ?_ (by size_fits);simp only[raiseNew];refine wpAny_bind (wpAny_handled ?_);rw[show A.in1.handled=none from hh];refine wpAny_bind (wpAny_pure (wpAny_throw ?_));refine wpAny_bind (wpAny_isInstance (T:="StopIteration") (b:=true) ⟨_,Heap.get?_push_size _ rfl,rfl⟩ isSubtype_stop ?_);exact wpAny_pure (hQ _ (((Heap.SameBut.update ..).extBut.push _).push _))
theorem Vt(hh:A.handled=none)(I:Addr)(hne:d≠I):Walks prog w A I [I,d] [I] es.size (λi v=>∃e,es[i]?=some e∧v=e.key) (λi h=>h.IsKeyIter I d i es.size ep∧RawD h d es ep) where
 sub:=λb hb=>by simp at hb;simp[hb]
 frame:=λ_ _ _ st hk=>⟨st.1.at λo e=>hk I (by simp) o e,let ⟨o,h1,h2⟩:=st.2;⟨o,hk d (by simp) o h1,h2⟩⟩
 item:=λi s Q E hi st hQ=>Zs st.1 st.2 hi λh' hit' hs'=>hQ _ h' s.toks ⟨_,Array.getElem?_eq_getElem hi,rfl⟩ ⟨hit',let ⟨o,h1,h2⟩:=st.2;⟨o,hs'.extBut d o hne h1,h2⟩⟩ λb o hb e=>hs'.extBut b o (λh=>hb (by simp[h])) e
 done:=λs Q E st hQ=>zdq hh st.1 st.2 λh' he'=>hQ h' s.toks λb o hb e=>he' b o (λh=>hb (by simp[h])) e
 self:=λ_ _ _ _ st hQ=>wpAny_pyIter_keyiter st.1 hQ
theorem zd5(lo:(d==sysModules)=false):PySem.W.KdlSrc prog w "dict" d d es.size (λi v=>∃e,es[i]?=some e∧v=e.key) (λh=>RawD h d es ep) where
 type:=λ_ hm=>hm.ty
 there:=λ_ hm=>let ⟨_,h1,_⟩:=hm;⟨Heap.lt_size h1,Heap.lt_size h1⟩
 keep:=λ_ _ hm hk=>let ⟨o,h1,h2⟩:=hm;⟨o,hk d (.inl rfl) o h1,h2⟩
 notList:=by decide
 notTuple:=by decide
 hint:=λ_ _ _ _ hm hq=>PySem.W.kdl_hint_dict hm.ty hq
 iter:=λ_ _ hh hm=>⟨_,_,(λ_ _ hq=>Zt lo hm hq),Vt hh _ (let ⟨_,h1,_⟩:=hm;kAd (Heap.lt_size h1)),⟨⟨_,Heap.get?_push_size _ rfl,rfl,rfl⟩,let ⟨o,h1,h2⟩:=hm;⟨o,Heap.get?_push_of_some _ h1,h2⟩⟩⟩
end
noncomputable def gT(G H:Hp):Hp:=λb=>match H b with
 |some (.tup vs)=>some (.tup vs)
 |_=>G b
theorem Iz{G H:Hp}{b:Addr}{vs:List V}(h:H b=some (.tup vs)):gT G H b=some (.tup vs):=by unfold gT;rw[h]
theorem Ou{G H:Hp}{b:Addr}(h:∀vs,H b≠some (.tup vs)):gT G H b=G b:=by
 unfold gT;split
 ·rename_i vs e;exact absurd e (h vs)
 ·rfl
theorem Iv{G H:Hp}(sg:Same G H):Ext G H (gT G H) H:=by
 refine⟨λb u q=>?_,Same.refl H,λb u q=>?_,λb u q g z=>?_⟩
 ·have:=sg b u q
  by_cases c:∃vs,u=.tup vs
  ·obtain⟨vs,rfl⟩:=c;exact Iz this
  ·rw[Ou λvs e=>c ⟨vs,by rw[this]at e;cases e;rfl⟩];exact q
 ·by_cases c:∃vs,H b=some (.tup vs)
  ·obtain⟨vs,e⟩:=c;rw[Iz e]at q;rw[e];exact q
  ·rw[Ou λvs e=>c ⟨vs,e⟩]at q;exact sg b u q
 ·rw[Ou λvs e=>by rw[q]at e;cases e;cases z];exact g
theorem Wr{K:KA}{G:Hp}(k:ja):Den K G (kD k) (kV k):=by cases k<;>exact rfl
theorem Q6{K:KA}{G:Hp}:∀ks:List ja,DenL K G (ks.map kD) (ks.map kV)
 |[]=>rfl
 |k::r=>⟨_,_,rfl,Wr k,Q6 r⟩
theorem Ws{K:KA}{G H:Hp}{k:NK}{v:V}(h:nkAt H k v):Den K (gT G H) (nkD k) v:=by
 cases k with
 |inl k=>rw[show v=kV k from h];exact Wr k
 |inr ks=>obtain⟨b,rfl,q⟩:=h;exact⟨b,_,rfl,Iz q,Q6 ks⟩
theorem Lb{K:KA}{G H:Hp}:∀{ks:gm}{vs:List V},NkL H ks vs→DenL K (gT G H) (ks.map nkD) vs
 |[],_,h=>h
 |_::_,_,⟨v,t,e,h1,h2⟩=>⟨v,t,e,Ws h1,Lb h2⟩
theorem zgf{K:KA}{G H:Hp}{k:gm}{b:Addr}(h:TkAt H k b):Den K (gT G H) (kT k) (.ref b):=by
 obtain⟨vs,h1,h2⟩:=h;exact⟨b,vs,rfl,Iz h1,Lb h2⟩
theorem Il{K:KA}{G H:Hp}:∀{es:List (gm×V)}{xs:List (gm×Addr×Value)},KT H es xs→DenL K (gT G H) (es.map λp=>kT p.1) (xs.map λq=>V.ref q.2.1)∧Vals (xs.map λq=>V.ref q.2.1) (xs.map λq=>Value.ref q.2.1)
 |_,_,.nil=>⟨rfl,.nil⟩
 |_,_,.cons h t=>⟨⟨_,_,rfl,zgf h.2.1,(Il (K:=K) (G:=G) t).1⟩,.cons rfl (Il (K:=K) (G:=G) t).2⟩
theorem Gj{K:KA}{G:Hp}:∀{kvs:List (D×D)}{es:List (gm×V)},DenT K G kvs es→kvs.map (·.1)=es.map λp=>kT p.1
 |[],_,h=>by rw[show _=[]from h];rfl
 |(_,_)::_,_,⟨k,v,r,h1,h2,_,h3⟩=>by rw[h1,kA0,kA0,Gj h3,h2]
noncomputable def ziu(X:Cx):List V→Hp→VK→Prop:=λxs H Q=>(∃a vs G ds ds',xs=[.ref a]∧SqL X.K H a vs∧Same G H∧DenL (kx X) G ds vs∧va ds=some ds'∧∀p vs',H p=none→DenL (kx X) G ds' vs'→Q (.ref p) (upd H p (.lst vs')))∨
 ∃a es G ds',xs=[.ref a]∧H a=some (.dT es)∧Same G H∧va (es.map λp=>kT p.1)=some ds'∧∀p vs',H p=none→DenL (kx X) (gT G H) ds' vs'→Q (.ref p) (upd H p (.lst vs'))
theorem Oc(hu:X.A.units+5<cLine)(hc:X.calm=true):CallR X (.builtin "sorted") (ziu X):=by
 intro pins s σ H xs us Q I r q;rcases q with ⟨a,vs,G,ds,ds',rfl,sq,sg,dl,e,q⟩|⟨a,es,G,ds',rfl,ha,sg,e,q⟩
 ·obtain⟨u,rfl,ru⟩:=qj r;cases ru;obtain⟨its,rv,pl,_⟩:=I.list sq;have h64:=(Ng e).1;have n1:its.length=vs.length:=rv.length.symm;have n2:vs.length=ds.length:=dl.length.symm;have zl:its.length≤sizeLine:=by rw[sizeLine_eq];omega
  refine Ek hu I sg rv dl e (λQ' E' hq=>collect_list pl.isList (hq _ _ λb o e=>?_) zl) q;rw[Heap.get?_update_ne _ _ _ _ (kAd (Heap.lt_size e))];exact Heap.get?_push_of_some _ e
 ·obtain⟨u,rfl,ru⟩:=qj r;cases ru;obtain⟨z,hd,xs,rel,o,dt,ep,h1,h2,h3,h4,_⟩:=ze2 I.hok ha;obtain⟨dl,rv⟩:=Il (K:=kx X) (G:=G) rel;have hz:dt.size=xs.length:=by have:=congrArg List.length h4;simpa using this
  have zl:dt.size≤sizeLine:=by rw[hz,←Paired.length rel];exact z
  refine Ek (G:=gT G H) hu I (Iv sg).gh rv dl e (λQ' E' hq=>?_) q;refine PySem.W.kdu_collect (A:=X.A.in1) (zd5 (es:=dt) (ep:=ep) hd) (I.ok.hd hc) ⟨o,h1,h2,h3⟩ zl λh' tk acc hk hacc=>?_;have ew:acc.toList=xs.map λq=>Value.ref q.2.1:=by
   refine List.ext_getElem? λi=>?_
   by_cases hi:i<acc.size
   ·have hi':acc.toList[i]?=some acc[i]:=by rw[Array.getElem?_toList];exact Array.getElem?_eq_getElem hi
    obtain⟨e,e1,e2⟩:=hacc.2 i acc[i] (Array.getElem?_eq_getElem hi);have e3:dt.toList[i]?=some e:=by rw[Array.getElem?_toList];exact e1
    rw[h4,kAr]at e3;rw[hi',kAr,e2];cases ex:xs[i]? with
    |none=>rw[ex]at e3;cases e3
    |some q=>rw[ex]at e3;cases e3;rfl
   ·rw[List.getElem?_eq_none (by rw[Array.length_toList];omega),List.getElem?_eq_none (by rw[kA2,←hz,←hacc.1];omega)]
  rw[ew];exact hq h' tk hk
theorem Vc(hu:X.A.units+5<cLine)(hc:X.calm=true)(hg:Gl X "sorted")(hm:X.mg "sorted"=none)(ha:lx X B E e g)(he:starEach [e] X.env=(false,eval e X.env)::starEach [] X.env):ji X B E (.Call (.Name "sorted" p) [e] [] pos) (g1 oz g):=
 PE.imp (yj (Oc hu hc) hg hm PyProof.Rows.boot_sorted (ju ha ky he) (by decide) (by decide) he rfl) λσ H Q q=>cb1 (λG H x dx d sg ax ed Q q=>by
  unfold oz at ed;split at ed
  ·rename_i ds;cases e:va ds with
   |none=>rw[e]at ed;cases ed
   |some ds'=>
    rw[e]at ed;cases ed;obtain⟨l,vs,rfl,sq,dl⟩:=ax.lst sg;exact .inl ⟨l,vs,G,ds,ds',rfl,sq,sg,dl,e,λp vs' hp d'=>q _ (upd G p (.lst vs')) _ (Ext.new sg _ hp) (x8 sg hp d')⟩
  ·rename_i kvs;cases e:va (kvs.map (·.1))with
   |none=>rw[e]at ed;cases ed
   |some ds'=>
    rw[e]at ed;cases ed;obtain⟨l,es,rfl,h1,dl⟩:=Arg.dctT sg ax;rw[Gj dl]at e;exact .inr ⟨l,es,G,ds',rfl,h1,sg,e,λp vs' hp d'=>q _ (upd (gT G H) p (.lst vs')) _ ((Iv sg).trans (Ext.new (Iv sg).gh _ hp)) (x8 (Iv sg).gh hp d')⟩
  ·cases ed) q
end
def B64(p:Array Nat):Prop:=∀i,At p i<64
section
variable{prog:Program}{w:World}{A:Around}{E:Value→Shared→Prop}{s:Shared}{κ:SortKind}{item:Nat→Keyed}{cmp:Nat→Nat→Bool}{p:Array Nat}{pend:Array (Nat×Nat×Nat)}{g:Nat}
theorem B64.bub(hp:B64 p)(h0:0<p.size)(i d:Nat):B64 (bubble p i d):=λj=>by
 by_cases hj:j<(bubble p i d).size
 ·rw[Co hj];have:(bubble p i d)[j]∈p.toList:=(Array.perm_iff_toList_perm.mp (bubble_perm p i d)).mem_iff.mp (by simp);obtain⟨k,hk,e⟩:=List.mem_iff_getElem.mp this;have:=hp k;rw[Co (by simpa using hk)]at this;rw[←e];simpa using this
 ·unfold At;rw[Array.getD,dif_neg hj];omega
end
structure ExtB(k:Addr)(G H G' H':Hp):Prop where
 gg:Same G G'
 hh:∀b o,b≠k→H b=some o→H' b=some o
 gh:Same G' H'
 fr:∀a o,a≠k→H a=some o→G a=none→nfz o=true→G' a=none
theorem ExtB.trans{k:Addr}{G H G1 H1 G2 H2:Hp}(a:ExtB k G H G1 H1)(b:ExtB k G1 H1 G2 H2):ExtB k G H G2 H2:=
 ⟨a.gg.trans b.gg,λc o n e=>b.hh c o n (a.hh c o n e),b.gh,λc o n e q z=>b.fr c o n (a.hh c o n e) (a.fr c o n e q z) z⟩
end Pu
end
section
namespace Pu
open PySem PySem.Spec PyProof.Rows L2
section
variable{prog:Program}{w:World}{A:Around}{E:Value→Shared→Prop}{s:Shared}
theorem kq{it t:Addr}{i:Nat}{items}{x:Value}{Q:Value→Shared→Prop}(hit:IsTupIter s.heap it t i)(ht:IsTup s.heap t items)(hx:items[i]?=some x)
  (hQ:∀h',IsTupIter h' it t (i+1)→Heap.SameBut it s.heap h'→Q x {s with heap:=h'}):wpAny (model prog w) A (Builtin.SmallTypes.nextOf (.ref it)) Q E s:=by
 obtain⟨o,ho,hc,hd⟩:=id hit;obtain⟨ol,hol,_,nl,hdl⟩:=ht;unfold Builtin.SmallTypes.nextOf;refine wpAny_bind (wpAny_callSpecial?_slot (name:=Str.ofString "__next__") hit.typeIs slot_tupleiter_next (wpAny_call_entry slot_tupleiter_next hit.typeIs entry_tupleiter_next ?_ (args_tupleiter_next _)));show wpAny _ _ (field (.ref it) 0>>=_) _ _ s;refine wpAny_bind (wpAny_field ho hd (x:=.ref t) rfl ?_);show wpAny _ _ (if(Value.ref t==Value.none)=true then _ else _) _ _ s;rw[if_neg (show¬((Value.ref t==Value.none)=true)from kAz)];show wpAny _ _ (field (.ref it) 1>>=_) _ _ s;refine wpAny_bind (wpAny_field ho hd (x:=.int i 0) rfl ?_);show wpAny _ _ (seqItems? (.ref t)>>=_) _ _ s;refine wpAny_bind (wpAny_seqItems hol hdl ?_);simp only[Int.toNat_natCast,hx];refine wpAny_bind (wpAny_setField ho hd (by simp) (wpAny_pure ⟨x,rfl,wpAny_pure (hQ _ ?_ (Heap.SameBut.update ..))⟩));exact⟨_,Heap.get?_update_self _ ho (Obj.isFreed_of_fields (Obj.data_mapFields hd _)),(Obj.cls_mapFields ..).trans hc,by
  rw[Obj.data_mapFields hd];simp[rawInt]⟩
theorem ox{it t:Addr}{i:Nat}{items}{Q:Value→Shared→Prop}(hh:A.handled=none)(hit:IsTupIter s.heap it t i)(ht:IsTup s.heap t items)(hx:items[i]?=none)
  (hE:∀h' e,Heap.ExtBut it s.heap h'→(∃o,h'.get? e=some o∧o.cls=.type "StopIteration")→E (.ref e) {s with heap:=h'}):wpAny (model prog w) A (Builtin.SmallTypes.nextOf (.ref it)) Q E s:=by
 obtain⟨o,ho,hc,hd⟩:=id hit;obtain⟨ol,hol,_,nl,hdl⟩:=ht;unfold Builtin.SmallTypes.nextOf;refine wpAny_bind (wpAny_callSpecial?_slot (name:=Str.ofString "__next__") hit.typeIs slot_tupleiter_next (wpAny_call_entry slot_tupleiter_next hit.typeIs entry_tupleiter_next ?_ (args_tupleiter_next _)));show wpAny _ _ (field (.ref it) 0>>=_) _ _ s;refine wpAny_bind (wpAny_field ho hd (x:=.ref t) rfl ?_);show wpAny _ _ (if(Value.ref t==Value.none)=true then _ else _) _ _ s;rw[if_neg (show¬((Value.ref t==Value.none)=true)from kAz)];show wpAny _ _ (field (.ref it) 1>>=_) _ _ s;refine wpAny_bind (wpAny_field ho hd (x:=.int i 0) rfl ?_);show wpAny _ _ (seqItems? (.ref t)>>=_) _ _ s;refine wpAny_bind (wpAny_seqItems hol hdl ?_);simp only[Int.toNat_natCast,hx];refine wpAny_bind (wpAny_rule (wpAny_bind (wpAny_setField ho hd (by simp) ?_)));show wpAny _ _ (newExc (.type "StopIteration") []>>=_) _ _ _;refine wpAny_bind ?_;simp only[newExc,newTuple];refine wpAny_bind (wpAny_newObj_type ?_ (by size_fits));refine wpAny_bind (m:=firstArgMember _ _) (wpAny_of_eq (a:=Value.none) (by first|rfl|(simp only[firstArgMember];rfl)) ?_);refine wpAny_newObj_type ?_ (by size_fits);simp only[raiseNew];refine wpAny_bind (wpAny_handled ?_)
 first|rw[show A.in1.handled=none from hh]|rw[hh]
 refine wpAny_bind (wpAny_pure (wpAny_throw ?_));exact hE _ _ (((Heap.SameBut.update ..).extBut.push _).push _) ⟨_,Heap.get?_push_size _ rfl,rfl⟩
structure ZAt(h:Heap)(z TI TO i1 i2 l1 l2 k:Nat)(f0:Value):Prop where
 hz:IsZip h z TI TO f0
 hI:IsPair h TI (.ref i1) (.ref i2)
 hO:∃a b,IsPair h TO a b
 h1:IsTupIter h i1 l1 k
 h2:IsTupIter h i2 l2 k
theorem Vx{z TI TO i1 i2 l1 l2 k:Nat}{xs ys:Array Value}{x y:Value}{Q:Option Value→Shared→Prop}(D:ZipApart z TI TO i1 i2 l1 l2)(Z:ZAt s.heap z TI TO i1 i2 l1 l2 k .none)
  (hl1:IsTup s.heap l1 xs)(hl2:IsTup s.heap l2 ys)(hx:xs[k]?=some x)(hy:ys[k]?=some y)
  (hQ:∀h',ZAt h' z TI TO i1 i2 l1 l2 (k+1) (rawInt s.heap.objs.size)→IsPair h' s.heap.objs.size x y→h'.objs.size=s.heap.objs.size+1→
   (∀c o,c≠z→c≠TO→c≠i1→c≠i2→s.heap.get? c=some o→h'.get? c=some o)→Q (some (.ref s.heap.objs.size)) {s with heap:=h'}):
  wpAny (model prog w) A (pyNext (.ref z)) Q E s:=by
 obtain⟨hz,hTI,⟨a,b,hTO⟩,h1,h2⟩:=Z;have hT:s.TypeIs (.ref z) "zip":=⟨_,hz,rfl⟩;unfold pyNext;refine wpAny_bind (wpAny_attempt (wpAny_callSpecial?_slot (name:=Str.ofString "__next__") hT F.slot_zip_next (wpAny_call_entry F.slot_zip_next hT F.entry_zip_next ?_ (F.args_zip_next_1 _))));show wpAny _ _ (field (.ref z) 2>>=_) _ _ _;refine wpAny_bind (wpAny_field hz rfl (x:=.bool false) rfl ?_);show wpAny _ _ (field (.ref z) 3>>=_) _ _ _;refine wpAny_bind (wpAny_field hz rfl (x:=.ref TI) rfl ?_);refine wpAny_bind (wpAny_seqItems hTI rfl ?_);show wpAny _ _ (Builtin.SmallTypes.ownedTupleIsFree (.ref z)>>=_) _ _ _;refine wpAny_bind ?_;unfold Builtin.SmallTypes.ownedTupleIsFree;refine wpAny_bind (wpAny_field hz rfl (x:=.none) rfl (wpAny_pure ?_));simp only[if_true];refine wpAny_bind (wpAny_rule ?_);refine wpAny_bind (wpAny_field hz rfl (x:=.ref TO) rfl ?_);refine wpAny_bind (wpAny_setField_rec hz (by simp) λg1 z1 s1=>?_);replace z1:IsZip g1 z TI TO .ellipsis:=z1;refine wpAny_bind ?_;simp only[List.zipIdx_cons,List.zipIdx_nil,List.forIn_cons,List.forIn_nil];refine wpAny_bind (wpAny_bind (wpAny_onRaise ?_));show wpAny _ _ (Builtin.SmallTypes.nextOf (.ref i1)>>=_) _ _ _;refine wpAny_bind (kq (h1.extBut s1.extBut D.i1z) (hl1.extBut s1.extBut D.l1z) hx λg2 p2 s2=>wpAny_pure ?_);have t2:IsPair g2 TO a b:=s2.extBut _ _ D.TOi1 (s1.extBut _ _ D.TOz hTO);refine wpAny_bind (wpAny_seqItems t2 rfl ?_);refine wpAny_bind (wpAny_updateSeq_pair t2 λg3 t3 s3=>?_);replace t3:IsPair g3 TO x b:=t3;refine wpAny_bind (wpAny_letGo (wpAny_pure ?_));refine wpAny_bind (wpAny_bind (wpAny_onRaise ?_));show wpAny _ _ (Builtin.SmallTypes.nextOf (.ref i2)>>=_) _ _ _;refine wpAny_bind (kq (((h2.extBut s1.extBut D.i2z).extBut s2.extBut D.i12.symm).extBut s3.extBut D.TOi2.symm) (((hl2.extBut s1.extBut D.l2z).extBut s2.extBut D.l2i1).extBut s3.extBut D.l2TO) hy λg4 p4 s4=>wpAny_pure ?_);have t4:IsPair g4 TO x b:=s4.extBut _ _ D.TOi2 t3;refine wpAny_bind (wpAny_seqItems t4 rfl ?_);refine wpAny_bind (wpAny_updateSeq_pair t4 λg5 t5 s5=>?_);replace t5:IsPair g5 TO x y:=t5;refine wpAny_bind (wpAny_letGo (wpAny_pure (wpAny_pure ?_)));refine wpAny_bind (wpAny_seqItems t5 rfl ?_);refine wpAny_bind (wpAny_newTuple ?_);have sz:g5.objs.size=s.heap.objs.size:=by rw[s5.1,s4.1,s3.1,s2.1,s1.1]
 have k5:∀c o,c≠z→c≠TO→c≠i1→c≠i2→s.heap.get? c=some o→g5.get? c=some o:=λc o c1 c2 c3 c4 e=>s5.extBut _ _ c2 (s4.extBut _ _ c4 (s3.extBut _ _ c2 (s2.extBut _ _ c3 (s1.extBut _ _ c1 e))));have z5:IsZip g5 z TI TO .ellipsis:=s5.extBut _ _ D.TOz.symm (s4.extBut _ _ D.i2z.symm (s3.extBut _ _ D.TOz.symm (s2.extBut _ _ D.i1z.symm z1)));have q1:IsTupIter g5 i1 l1 (k+1):=((p2.extBut s3.extBut D.TOi1.symm).extBut s4.extBut D.i12).extBut s5.extBut D.TOi1.symm;have q2:IsTupIter g5 i2 l2 (k+1):=p4.extBut s5.extBut D.TOi2.symm;have zlt:z<g5.objs.size:=Heap.lt_size z5;show wpAny _ _ (Builtin.SmallTypes.ownedTupleHandOut (.ref z) (.ref g5.objs.size)>>=_) _ _ _;refine wpAny_bind ?_;unfold Builtin.SmallTypes.ownedTupleHandOut;have z6:IsZip (g5.push {cls:=.type "tuple",data:=.seq #[x,y]}) z TI TO .ellipsis:=Heap.get?_push_of_some _ z5;refine wpAny_bind (wpAny_setField_rec z6 (by simp) λg7 z7 s7=>?_);replace z7:IsZip g7 z TI TO (rawInt g5.objs.size):=z7;refine wpAny_setField_rec z7 (by simp) λg8 z8 s8=>?_;replace z8:IsZip g8 z TI TO (rawInt g5.objs.size):=z8;have up:∀c o,c≠z→g5.get? c=some o→g8.get? c=some o:=λc o c1 e=>s8.extBut _ _ c1 (s7.extBut _ _ c1 (Heap.get?_push_of_some _ e));have t8:IsPair g8 g5.objs.size x y:=s8.extBut _ _ (Nat.ne_of_gt zlt) (s7.extBut _ _ (Nat.ne_of_gt zlt) (Heap.get?_push_size _ rfl));have n8:g8.objs.size=g5.objs.size+1:=by rw[s8.1,s7.1,Heap.size_push]
 rw[sz]at z8 t8 n8;refine wpAny_pure ⟨_,rfl,wpAny_pure ?_⟩;show Q (some (.ref g5.objs.size)) _;rw[sz];exact hQ g8 ⟨z8,up _ _ D.TIz (k5 _ _ D.TIz D.TITO D.TIi1 D.TIi2 hTI),⟨x,y,up _ _ D.TOz t5⟩,let ⟨o,e,r⟩:=q1;⟨o,up _ o D.i1z e,r⟩,let ⟨o,e,r⟩:=q2;⟨o,up _ o D.i2z e,r⟩⟩ t8 n8 λc o c1 c2 c3 c4 e=>up c o c1 (k5 c o c1 c2 c3 c4 e)
theorem za0{z TI TO i1 i2 l1 l2 k:Nat}{xs ys:Array Value}{Q:Option Value→Shared→Prop}(hh:A.handled=none)(D:ZipApart z TI TO i1 i2 l1 l2)(Z:ZAt s.heap z TI TO i1 i2 l1 l2 k .none)
  (hl1:IsTup s.heap l1 xs)(hl2:IsTup s.heap l2 ys)(hend:xs[k]?=none∨ys[k]?=none)
  (hQ:∀h',(∀c o,c≠z→c≠TO→c≠i1→c≠i2→s.heap.get? c=some o→h'.get? c=some o)→Q none {s with heap:=h'}):wpAny (model prog w) A (pyNext (.ref z)) Q E s:=by
 obtain⟨hz,hTI,⟨a,b,hTO⟩,h1,h2⟩:=Z;have hT:s.TypeIs (.ref z) "zip":=⟨_,hz,rfl⟩;have fin:∀h' e,(∀c o,c≠z→c≠TO→c≠i1→c≠i2→s.heap.get? c=some o→h'.get? c=some o)→(∃o,h'.get? e=some o∧o.cls=.type "StopIteration")→wpAny (model prog w) A (do if(←isInstance (.ref e) (.type "StopIteration"))then pure (Option.none:Option Value)else throw (.ref e)) Q E {s with heap:=h'}:=λh' e hk ⟨o,ho,hc⟩=>
  wpAny_bind (wpAny_isInstance (T:="StopIteration") (b:=true) ⟨o,ho,hc⟩ isSubtype_stop (wpAny_pure (hQ _ hk)))
 unfold pyNext;refine wpAny_bind (wpAny_attempt (wpAny_callSpecial?_slot (name:=Str.ofString "__next__") hT F.slot_zip_next (wpAny_call_entry F.slot_zip_next hT F.entry_zip_next ?_ (F.args_zip_next_1 _))));show wpAny _ _ (field (.ref z) 2>>=_) _ _ _;refine wpAny_bind (wpAny_field hz rfl (x:=.bool false) rfl ?_);show wpAny _ _ (field (.ref z) 3>>=_) _ _ _;refine wpAny_bind (wpAny_field hz rfl (x:=.ref TI) rfl ?_);refine wpAny_bind (wpAny_seqItems hTI rfl ?_);show wpAny _ _ (Builtin.SmallTypes.ownedTupleIsFree (.ref z)>>=_) _ _ _;refine wpAny_bind ?_;unfold Builtin.SmallTypes.ownedTupleIsFree;refine wpAny_bind (wpAny_field hz rfl (x:=.none) rfl (wpAny_pure ?_));simp only[if_true];refine wpAny_bind (wpAny_rule ?_);refine wpAny_bind (wpAny_field hz rfl (x:=.ref TO) rfl ?_);refine wpAny_bind (wpAny_setField_rec hz (by simp) λg1 z1 s1=>?_);replace z1:IsZip g1 z TI TO .ellipsis:=z1;refine wpAny_bind ?_;simp only[List.zipIdx_cons,List.zipIdx_nil,List.forIn_cons,List.forIn_nil];refine wpAny_bind (wpAny_bind (wpAny_onRaise ?_));show wpAny _ _ (Builtin.SmallTypes.nextOf (.ref i1)>>=_) _ _ _;cases hx:xs[k]? with
 |none=>
  refine wpAny_bind (ox hh (h1.extBut s1.extBut D.i1z) (hl1.extBut s1.extBut D.l1z) hx λg2 e s2 he=>?_);obtain⟨oe,hoe,hce⟩:=he;have z2:IsZip g2 z TI TO .ellipsis:=s2 _ _ D.i1z.symm z1;have ez:e≠z:=λx=>by subst x;rw[z2]at hoe;cases hoe;simp at hce
  refine wpAny_setField_rec z2 (by simp) λg3 _ s3=>?_;exact fin g3 e (λc o c1 _ c3 _ x=>s3.extBut _ _ c1 (s2 _ _ c3 (s1.extBut _ _ c1 x))) ⟨oe,s3.extBut _ _ ez hoe,hce⟩
 |some x=>
  have hy:ys[k]?=none:=by rcases hend with h|h;rw[hx]at h;cases h;exact h
  refine wpAny_bind (kq (h1.extBut s1.extBut D.i1z) (hl1.extBut s1.extBut D.l1z) hx λg2 p2 s2=>wpAny_pure ?_);have t2:IsPair g2 TO a b:=s2.extBut _ _ D.TOi1 (s1.extBut _ _ D.TOz hTO);refine wpAny_bind (wpAny_seqItems t2 rfl ?_);refine wpAny_bind (wpAny_updateSeq_pair t2 λg3 t3 s3=>?_);refine wpAny_bind (wpAny_letGo (wpAny_pure ?_));refine wpAny_bind (wpAny_bind (wpAny_onRaise ?_));show wpAny _ _ (Builtin.SmallTypes.nextOf (.ref i2)>>=_) _ _ _;refine wpAny_bind (ox hh (((h2.extBut s1.extBut D.i2z).extBut s2.extBut D.i12.symm).extBut s3.extBut D.TOi2.symm) (((hl2.extBut s1.extBut D.l2z).extBut s2.extBut D.l2i1).extBut s3.extBut D.l2TO) hy λg4 e s4 he=>?_);obtain⟨oe,hoe,hce⟩:=he;have z4:IsZip g4 z TI TO .ellipsis:=s4 _ _ D.i2z.symm (s3.extBut _ _ D.TOz.symm (s2.extBut _ _ D.i1z.symm z1));have ez:e≠z:=λx=>by subst x;rw[z4]at hoe;cases hoe;simp at hce
  refine wpAny_setField_rec z4 (by simp) λg5 _ s5=>?_;exact fin g5 e (λc o c1 c2 c3 c4 x=>s5.extBut _ _ c1 (s4 _ _ c4 (s3.extBut _ _ c2 (s2.extBut _ _ c3 (s1.extBut _ _ c1 x))))) ⟨oe,s5.extBut _ _ ez hoe,hce⟩
end
section
variable{prog:Program}{w:World}{A:Around}{E:Value→Shared→Prop}{s:Shared}
noncomputable def Xp(l:Addr):Obj:={cls:=.type "tuple_iterator",data:=.fields #[.ref l,.int 0 0]}
noncomputable def zO1(h:Heap):Obj:={cls:=.type "tuple",data:=.seq #[.ref h.objs.size,.ref (h.objs.size+1)]}
noncomputable def zO2:Obj:={cls:=.type "tuple",data:=.seq #[.none,.none]}
noncomputable def zO3(h:Heap):Obj:={cls:=.type "zip",data:=.fields #[.none,.bool false,.bool false,.ref (h.objs.size+2),.ref (h.objs.size+3)]}
noncomputable def zH(h:Heap)(l1 l2:Addr):Heap:=((((h.push (Xp l1)).push (Xp l2)).push (zO1 h)).push zO2).push (zO3 h)
theorem Pc(l1 l2:Addr)(xs ys:Array Value):
  Meets (Builtin.«zip.__new__» ⟨[.type "zip",.ref l1,.ref l2],[]⟩) (λ_ R s=>IsTup s.heap l1 xs∧IsTup s.heap l2 ys∧
   R (.ok (.ret (.ref (s.heap.objs.size+4)))) {s with heap:=zH s.heap l1 l2}):=
 .of_wp λprog w A R s h=>by
  obtain⟨hp,g,d,tk,os⟩:=s;obtain⟨hl1,hl2,h⟩:=h;have hsub:=sub_zip;have hL1:IsTup (Shared.heap ⟨hp,g,d,tk,os⟩) l1 xs:=hl1;have hL2:IsTup (Shared.heap ⟨hp.push {cls:=.type "tuple_iterator",data:=.fields #[.ref l1,.int 0 0]},g,d,tk,os⟩) l2 ys:=IsTup.push hl2 _
  wp_walk using iter_tuple hL1,iter_tuple hL2
  refine⟨_,rfl,?_⟩;simp only[Heap.size_push];exact h
theorem Tr{l1 l2:Addr}{xs ys:Array Value}{Q:Value→Shared→Prop}(hl1:IsTup s.heap l1 xs)(hl2:IsTup s.heap l2 ys)
  (h:∀h',ZAt h' (s.heap.objs.size+4) (s.heap.objs.size+2) (s.heap.objs.size+3) s.heap.objs.size (s.heap.objs.size+1) l1 l2 0 .none→h'.objs.size=s.heap.objs.size+5→(∀c o,s.heap.get? c=some o→h'.get? c=some o)→Q (.ref (s.heap.objs.size+4)) {s with heap:=h'}):
  wpAny (model prog w) A (call (.type "zip") [.ref l1,.ref l2]) Q E s:=by
 refine callType_new F.called_zip (by decide) (F.typeCall_zip_2 _ _) (F.newCall_zip_2 _ _) (λobj=>F.args_object_init_3 obj _ _) F.entry_zip_new (Pc l1 l2 xs ys) ⟨hl1,hl2,?_⟩;have n1:(s.heap.push (Xp l1)).objs.size=s.heap.objs.size+1:=Heap.size_push ..;have n2:((s.heap.push (Xp l1)).push (Xp l2)).objs.size=s.heap.objs.size+2:=by rw[Heap.size_push,n1]
 have n3:(((s.heap.push (Xp l1)).push (Xp l2)).push (zO1 s.heap)).objs.size=s.heap.objs.size+3:=by rw[Heap.size_push,n2]
 have n4:((((s.heap.push (Xp l1)).push (Xp l2)).push (zO1 s.heap)).push zO2).objs.size=s.heap.objs.size+4:=by rw[Heap.size_push,n3]
 have n5:(zH s.heap l1 l2).objs.size=s.heap.objs.size+5:=by unfold zH;rw[Heap.size_push,n4]
 have g5:(zH s.heap l1 l2).get? (s.heap.objs.size+4)=some (zO3 s.heap):=by rw[←n4];exact Heap.get?_push_size _ rfl
 have g4:(zH s.heap l1 l2).get? (s.heap.objs.size+3)=some zO2:=by rw[←n3];exact Heap.get?_push_of_some _ (Heap.get?_push_size _ rfl)
 have g3:(zH s.heap l1 l2).get? (s.heap.objs.size+2)=some (zO1 s.heap):=by rw[←n2];exact Heap.get?_push_of_some _ (Heap.get?_push_of_some _ (Heap.get?_push_size _ rfl))
 have g2:(zH s.heap l1 l2).get? (s.heap.objs.size+1)=some (Xp l2):=by rw[←n1];exact Heap.get?_push_of_some _ (Heap.get?_push_of_some _ (Heap.get?_push_of_some _ (Heap.get?_push_size _ rfl)))
 have g1:(zH s.heap l1 l2).get? s.heap.objs.size=some (Xp l1):=Heap.get?_push_of_some _ (Heap.get?_push_of_some _ (Heap.get?_push_of_some _ (Heap.get?_push_of_some _ (Heap.get?_push_size _ rfl))));exact⟨⟨_,g5,rfl⟩,h _ ⟨g5,g3,⟨_,_,g4⟩,⟨_,g1,rfl,rfl⟩,⟨_,g2,rfl,rfl⟩⟩ n5 λc o x=>Heap.get?_push_of_some _ (Heap.get?_push_of_some _ (Heap.get?_push_of_some _ (Heap.get?_push_of_some _ (Heap.get?_push_of_some _ x))))⟩
end
noncomputable def Itz(K:PySem.W.Frag)(l m:Addr):It:=
 ⟨λi H=>∃xs ys x y,SqT K H l xs∧SqT K H m ys∧xs[i]?=some x∧ys[i]?=some y,λi H v H'=>∃p x y,H p=none∧v=.ref p∧H'=upd H p (.tup [x,y])∧(∀xs,SqT K H l xs→xs[i]?=some x)∧∀ys,SqT K H m ys→ys[i]?=some y,λi H=>∃xs ys,SqT K H l xs∧SqT K H m ys∧(xs.length≤i∨ys.length≤i)⟩
theorem ZAt.at{h h':Heap}{z TI TO i1 i2 l1 l2 k:Nat}{f0:Value}(Z:ZAt h z TI TO i1 i2 l1 l2 k f0)(e:∀b∈[z,TI,TO,i1,i2],∀o,h.get? b=some o→h'.get? b=some o):ZAt h' z TI TO i1 i2 l1 l2 k f0:=
 ⟨e z (by simp) _ Z.hz,e TI (by simp) _ Z.hI,let ⟨a,b,q⟩:=Z.hO;⟨a,b,e TO (by simp) _ q⟩,let ⟨o,q,r⟩:=Z.h1;⟨o,e i1 (by simp) o q,r⟩,let ⟨o,q,r⟩:=Z.h2;⟨o,e i2 (by simp) o q,r⟩⟩
theorem ZAt.there{h:Heap}{z TI TO i1 i2 l1 l2 k:Nat}{f0:Value}(Z:ZAt h z TI TO i1 i2 l1 l2 k f0):∀b∈[z,TI,TO,i1,i2],∃o,h.get? b=some o∧∀v,o.data≠.cell v:=λb hb=>by
 obtain⟨hz,hI,⟨a,c,hO⟩,⟨o1,q1,_,d1⟩,⟨o2,q2,_,d2⟩⟩:=Z;have:b=z∨b=TI∨b=TO∨b=i1∨b=i2:=by simpa using hb
 rcases this with rfl|rfl|rfl|rfl|rfl
 ·exact⟨_,hz,λv z=>by have z':Data.fields _=Data.cell v:=z;cases z'⟩
 ·exact⟨_,hI,λv z=>by have z':Data.seq _ _=Data.cell v:=z;cases z'⟩
 ·exact⟨_,hO,λv z=>by have z':Data.seq _ _=Data.cell v:=z;cases z'⟩
 ·exact⟨_,q1,λv z=>by rw[d1]at z;cases z⟩
 ·exact⟨_,q2,λv z=>by rw[d2]at z;cases z⟩
theorem zaq{P:Program}{w:World}{K:PySem.W.Frag}{tes:List Expr}{k1}{tp:Pos}{z TI TO i1 i2 l1 l2:Addr}(D:ZipApart z TI TO i1 i2 l1 l2):Turn P w K (.Tuple tes k1 tp) (Itz K l1 l2) [z,TI,TO,i1,i2] z (λi h=>ZAt h z TI TO i1 i2 l1 l2 i .none) where
 mem:=by simp
 obj:=λi h Z=>Z.there
 keep:=λi h h' Z e=>Z.at e
 item:=by
  intro X hP hw hK hc i pins s σ H E I hf Z hg;subst hP hw hK;obtain⟨xs,ys,x,y,hq1,hq2,hx,hy⟩:=hg;obtain⟨its,rv,p,hz⟩:=I.tuple hq1;obtain⟨jts,rw',p',hz'⟩:=I.tuple hq2;obtain⟨u,hu,ru⟩:=rv.get hx;obtain⟨v,hv,rv'⟩:=rw'.get hy;have fresh:H s.heap.objs.size=none:=I.hok.fresh (kA1 _);have lts:∀b∈[z,TI,TO,i1,i2],b<s.heap.objs.size:=λb hb=>let ⟨o,q,_⟩:=Z.there b hb;Heap.lt_size q;refine Vx D Z p p' (x:=u) (y:=v) (by simpa using hu) (by simpa using hv) λh1 Z1 t1 n1 e1=>?_;refine⟨_,rfl,wpAny_letOwnedTupleGo_zip Z1.hz λh2 z2 sb=>?_⟩;have sb':Heap.SameBut z h1 h2:=sb;have ch:∀b,b∉[z,TI,TO,i1,i2]→b≠z∧b≠TI∧b≠TO∧b≠i1∧b≠i2:=λb hb=>by simpa using hb
  have k2:∀b o,b∉[z,TI,TO,i1,i2]→s.heap.get? b=some o→h2.get? b=some o:=λb o hb q=>by
   obtain⟨c1,c2,c3,c4,c5⟩:=ch b hb;exact sb'.extBut b o c1 (e1 b o c1 c3 c4 c5 q)
  have t2:h2.get? s.heap.objs.size=some {cls:=.type "tuple",data:=.seq #[u,v]}:=sb'.extBut _ _ (Nat.ne_of_gt (lts z (by simp))) t1;have old':∀{b:Addr}{o:HO},H b=some o→b≠s.heap.objs.size∧b∉[z,TI,TO,i1,i2]:=λ{b o} q=>⟨d9 q fresh,λhb=>by
   have:=(hf b hb).1;rw[this]at q;cases q⟩
  have Z2:ZAt h2 z TI TO i1 i2 l1 l2 (i+1) .none:=by
   obtain⟨hz,hI,⟨a,c,hO⟩,⟨o1,q1,r1⟩,⟨o2,q2,r2⟩⟩:=Z1;exact⟨z2,sb'.extBut _ _ D.TIz hI,⟨a,c,sb'.extBut _ _ D.TOz hO⟩,⟨o1,sb'.extBut _ _ D.i1z q1,r1⟩,⟨o2,sb'.extBut _ _ D.i2z q2,r2⟩⟩
  have I2:Inv X pins σ (upd H s.heap.objs.size (.tup [x,y])) {s with heap:=h2}:=by
   refine I.step (g':=s.gens) (d':=s.drawn) (t':=s.toks) (ch:=[z,TI,TO,i1,i2]) (λb hb=>?_) (λb o _ _ hc q _=>k2 b o hc q) (λb o _ _ hc q _=>⟨o.slots,k2 b o hc q⟩) (λb o _ q n=>?_) (λb o hc q=>⟨o,k2 b o hc q⟩)
    (λb ys q=>by rw[bu (old' q).1];exact q) (λb o v q=>by rw[bu (old' q).1];exact q) (λb y q=>by rw[bu (old' q).1];exact q) (λm hm=>?_) (λb v' q=>?_) I.bare
   ·obtain⟨f0,f1,f2,f3,f4,f5⟩:=hf b hb;exact⟨f3,f1,f4,f5⟩
   ·rw[bu (kAd (Heap.lt_size q))];exact n
   ·obtain⟨o,es,ep,ho,r⟩:=hm;exact⟨o,es,ep,k2 _ o (λhb=>(hf _ hb).2.1 rfl) ho,r⟩
   ·by_cases hb:b=s.heap.objs.size
    ·subst hb;rw[d8]at q;cases q;exact⟨by rw[sizeLine_eq];simp,[u,v],.cons ru (.cons rv' .nil),_,t2,rfl,0,rfl⟩
    ·rw[bu hb]at q;refine(I.hok b v' q).stay (λb' v'' hb' r=>k2 b' v'' ?_ r) (λb' z=>by rw[bu (old' z).1];exact z) (λb' ys z=>by rw[bu (old' z).1];exact z) λb' o' u' z=>by rw[bu (old' z).1];exact z
     rcases hb' with z|z
     ·rw[z];exact(old' q).2
     ·exact(old' z).2
  refine⟨.ref s.heap.objs.size,_,I2,rfl,⟨_,x,y,fresh,rfl,rfl,λzs hy=>by rw[I.tuple_inj hy hq1];exact hx,λzs hy'=>by rw[I.tuple_inj hy' hq2];exact hy⟩,Z2,λb hb=>?_⟩;rw[bu (kAd (lts b hb))];exact(hf b hb).1
 done:=by
  intro X hP hw hK hc i pins s σ H E I hf Z hg;subst hP hw hK;obtain⟨xs,ys,hq1,hq2,hx⟩:=hg;obtain⟨its,rv,p,hz⟩:=I.tuple hq1;obtain⟨jts,rw',p',hz'⟩:=I.tuple hq2;have hl:=rv.length;have hl':=rw'.length;refine za0 (I.ok.hd hc) D Z p p' (by rcases hx with h|h;exact .inl (by simp;omega);exact .inr (by simp;omega)) λh' eb=>⟨rfl,?_⟩;have ch:∀b,b∉[z,TI,TO,i1,i2]→b≠z∧b≠TI∧b≠TO∧b≠i1∧b≠i2:=λb hb=>by simpa using hb
  have k2:∀b o,b∉[z,TI,TO,i1,i2]→s.heap.get? b=some o→h'.get? b=some o:=λb o hb q=>by
   obtain⟨c1,c2,c3,c4,c5⟩:=ch b hb;exact eb b o c1 c3 c4 c5 q
  have old':∀{b:Addr}{o:HO},H b=some o→b∉[z,TI,TO,i1,i2]:=λ{b o} q hb=>by
   have:=(hf b hb).1;rw[this]at q;cases q
  refine I.step (g':=s.gens) (d':=s.drawn) (t':=s.toks) (ch:=[z,TI,TO,i1,i2]) (λb hb=>?_) (λb o _ _ hc q _=>k2 b o hc q) (λb o _ _ hc q _=>⟨o.slots,k2 b o hc q⟩) (λb o _ q n=>n) (λb o hc q=>⟨o,k2 b o hc q⟩)
   (λb ys q=>q) (λb o v q=>q) (λb y q=>q) (λm hm=>?_) (λb v' q=>?_) I.bare
  ·obtain⟨f0,f1,f2,f3,f4,f5⟩:=hf b hb;exact⟨f3,f1,f4,f5⟩
  ·obtain⟨o,es,ep,ho,r⟩:=hm;exact⟨o,es,ep,k2 _ o (λhb=>(hf _ hb).2.1 rfl) ho,r⟩
  ·refine(I.hok b v' q).stay (λb' v'' hb' r=>k2 b' v'' ?_ r) (λb' z=>z) (λb' ys z=>z) λb' o' u' z=>z;rcases hb' with z|z
   ·rw[z];exact old' q
   ·exact old' z
 self:=λ_ _ _ _ _ Z h=>wpAny_pyIter_zip Z.hz h
noncomputable def wd:List D→List D→List D
 |x::r,y::q=>.tup [x,y]::wd r q
 |_,_=>[]
theorem Nw:∀(ds es:List D)(i:Nat){d:D},(wd ds es)[i]?=some d→∃x y,ds[i]?=some x∧es[i]?=some y∧d=.tup [x,y]
 |[],es,i,d,h=>by simp[wd]at h
 |x::r,[],i,d,h=>by simp[wd]at h
 |x::r,y::q,0,d,h=>by simp[wd]at h;exact⟨x,y,rfl,rfl,h.symm⟩
 |x::r,y::q,i+1,d,h=>by
  simp only[wd,kB3]at h⊢;exact Nw r q i h
theorem Nx:∀(ds es:List D),(wd ds es).length=min ds.length es.length
 |[],es=>by simp[wd]
 |x::r,[]=>by simp[wd]
 |x::r,y::q=>by simp only[wd,kA5,Nx r q];omega
noncomputable def Ov(r:En→ResL):En→ResL:=λδ=>match r δ with
 |.ok [.tup ds,.tup es]=>.ok (wd ds es)
 |.er c=>.er c
 |_=>.st
section
variable{X:Cx}{B:Hp}{E:EK}{e e':Expr}{g h:En→Res}{pos p tp:Pos}{tes:List Expr}{k1:Nat}
theorem zpq{G H:Hp}{δ:En}{r:En→ResL}{P:List D→Prop}(q:ResLP E G H (Ov r δ) P):ResLP E G H (r δ) λl=>∃ds es,l=[.tup ds,.tup es]∧P (wd ds es):=by
 unfold Ov at q;cases e:r δ with
 |ok l=>
  rw[e]at q;split at q
  ·rename_i h0;cases h0;exact⟨_,_,rfl,q⟩
  ·rename_i h0;cases h0
  ·exact q.elim
 |er c=>rw[e]at q;exact q
 |st=>rw[e]at q;exact q
theorem zgs{K:KA}{a b:Addr}{G1:Hp}{ds es:List D}{vs us:List V}{S:Hp→Hp→Prop}(h:∀G H,S G H→Same G H→SqT K H a vs∧SqT K H b us∧Same G1 G)(dl:DenL K G1 ds vs)(el:DenL K G1 es us):Bf K (Itz K a b) (wd ds es) S:=λi G H hS sg=>by
 obtain⟨q,q',g⟩:=h G H hS sg;refine⟨λd ed=>?_,λhl=>⟨vs,us,q,q',by rw[Nx]at hl;rw[←dl.length,←el.length];omega⟩⟩;obtain⟨x0,y0,e1,e2,rfl⟩:=Nw ds es i ed;obtain⟨v,ev,dv⟩:=dl.get e1;obtain⟨u,eu,du⟩:=el.get e2;refine⟨⟨vs,us,v,u,q,q',ev,eu⟩,λx H' ⟨p,y,y',hp,h1,h2,h3,h4⟩=>?_⟩;subst h1 h2;have z:=h3 vs q;rw[ev]at z;cases z;have z:=h4 us q';rw[eu]at z;cases z;exact⟨_,Ext.new sg (.tup [v,u]) hp,oo sg hp (DenL.append (DenL.one (dv.mono g)) (DenL.one (du.mono g)))⟩
theorem zh2(hg:Gl X "zip")(hm:X.mg "zip"=none)(h1:lx X B E e g)(h2:lx X B E e' h)(n1:jz e=true)(n2:jz e'=true):
  PuI X B E (.Tuple tes k1 tp) (.Call (.Name "zip" p) [e,e'] [] pos) (Ov (ae g (ae h bc))):=by
 intro pins s σ H R I ⟨G,δ,Rr,q⟩;have ha:Qw X B E [true,true] [e,e'] (ae g (ae h bc)):=ju h1 (ju h2 ky (cj n2)) (cj n1);refine Call_ (xc I hg hm (by decide+kernel:bootBuiltins "zip"=some (.type "zip")) (PyProof.Rows.callWith_type1 (kc (ha pos pins s σ H (λvs H1=>∃a b,vs=[.ref a,.ref b]∧(∃xs,SqT X.K H1 a xs)∧(∃ys,SqT X.K H1 b ys)∧R (Itz X.K a b) H1) I ⟨G,δ,Rr,(zpq q).mono λl _ ⟨ds,es,ed,q⟩ v G1 H1 e1 ax=>?_⟩) λus s1 ⟨vs,H1,I1,r1,a,b,e1,⟨xs,hq⟩,⟨ys,hq'⟩,q1⟩=>?_) (cj n1) ?_))
 ·subst ed;obtain⟨v1,v2,rfl,a1,a2⟩:=ArgsM.two ax;rcases a1 with ⟨a,vs,rfl,s,dl⟩|⟨ds2,a,vs,z,_⟩|⟨t,kvs,a,z,_⟩
  ·rcases a2 with ⟨b,us,rfl,s',el⟩|⟨ds2,a,vs,z,_⟩|⟨t,kvs,a,z,_⟩
   ·have t1:∀{G2 H2:Hp},Same G1 G2→Same G2 H2→SqT (kx X) H2 a vs:=λx1 sg=>.inl (.inl (sg _ _ (x1 _ _ s)));have t2:∀{G2 H2:Hp},Same G1 G2→Same G2 H2→SqT (kx X) H2 b us:=λx1 sg=>.inl (.inl (sg _ _ (x1 _ _ s')));exact⟨a,b,rfl,⟨vs,t1 (Same.refl G1) e1.gh⟩,⟨us,t2 (Same.refl G1) e1.gh⟩,q _ G1 H1 e1 (zgs (λG2 H2 ⟨x1,x2⟩ sg=>⟨t1 x1 sg,t2 x1 sg,x1⟩) dl el)⟩
   ·cases z
   ·cases z
  ·cases z
  ·cases z
 ·subst e1;obtain⟨u,r,rfl,ru,rr⟩:∃u r,us=u::r∧RelV (.ref a) u∧Vals [.ref b] r:=by
   cases r1 with
   |cons h t=>exact⟨_,_,rfl,h,t⟩
  obtain⟨u2,rfl,ru2⟩:=qj rr;cases ru;cases ru2;obtain⟨its,rv,pl,_⟩:=I1.tuple hq;obtain⟨jts,rv',pl',_⟩:=I1.tuple hq';have la:@LT.lt Nat _ a s1.heap.objs.size:=pl.lt;have lb:@LT.lt Nat _ b s1.heap.objs.size:=pl'.lt;refine Tr pl pl' λh' Z hz' hk'=>?_;have D:ZipApart (s1.heap.objs.size+4) (s1.heap.objs.size+2) (s1.heap.objs.size+3) s1.heap.objs.size (s1.heap.objs.size+1) a b:=by
   constructor<;>first|exact kAd (by omega)|exact Nat.ne_of_gt (by omega)
  refine wpAny_pyIter_zip Z.hz ⟨s1.heap.objs.size+4,_,_,_,H1,rfl,I1.kept (t':=s1.toks) hk',zaq D,Z,λb hb=>?_,q1⟩;have hb':s1.heap.objs.size≤b:=by
   have:b=s1.heap.objs.size+4∨b=s1.heap.objs.size+2∨b=s1.heap.objs.size+3∨b=s1.heap.objs.size∨b=s1.heap.objs.size+1:=by simpa using hb
   rcases this with z|z|z|z|z<;>subst z<;>first|exact Nat.le_add_right _ _|exact kA1 _
  exact I1.fpOk hb' (I1.hok.fresh hb')
 ·exact rn (by rw[kAm,n2];rfl)
end
open AutoSeq1 (wpAny_loadPart')
theorem Md(l:Addr)(items:Array Value)(n:Nat)(dct:Option Addr)(sl:Array (Option Value)):
  Meets (Builtin.«enumerate.__new__» ⟨[.type "enumerate",.ref l],[]⟩) (λ_ R s=>s.heap.get? l=some {cls:=.type "tuple",dict:=dct,data:=.seq items n,slots:=sl}∧
   R (.ok (.ret (.ref (s.heap.push {cls:=.type "tuple_iterator",data:=.fields #[.ref l,.int 0 0]}).objs.size)))
    {s with heap:=(s.heap.push {cls:=.type "tuple_iterator",data:=.fields #[.ref l,.int 0 0]}).push {cls:=.type "enumerate",data:=.fields #[.none,.bool false,.ref s.heap.objs.size,rawInt 0,.none,.none]}}):=
 .of_wp λprog w A R s h=>by
  obtain⟨hp,g,d,tk,os⟩:=s;obtain⟨hl,h⟩:=h;have hsub:=sub_enumerate;have hL:IsTup (Shared.heap ⟨hp,g,d,tk,os⟩) l items:=⟨_,hl,rfl,n,rfl⟩
  wp_walk using wpAny_loadPart' hl
  refine wpAny_stack_any λst=>wpAny_pure ?_;split
  ·rename_i c _ _ _ _ _;cases (c==Value.type "enumerate")
   ·wp_walk using wpAny_loadPart' hl,iter_tuple hL
    exact⟨_,rfl,h⟩
   ·wp_walk using wpAny_loadPart' hl,iter_tuple hL
    exact⟨_,rfl,h⟩
  ·wp_walk using wpAny_loadPart' hl,iter_tuple hL
   exact⟨_,rfl,h⟩
section
variable{prog:Program}{w:World}{A:Around}{E:Value→Shared→Prop}{s:Shared}
theorem Oa{l:Addr}{items:Array Value}{Q:Value→Shared→Prop}(hL:IsTup s.heap l items)
   (h:∀h',IsEnum h' (s.heap.objs.size+1) s.heap.objs.size 0 .none→IsTupIter h' s.heap.objs.size l 0→h'.objs.size=s.heap.objs.size+2→
   (∀b o,s.heap.get? b=some o→h'.get? b=some o)→Q (.ref (s.heap.objs.size+1)) {s with heap:=h'}):
  wpAny (model prog w) A (call (.type "enumerate") [.ref l]) Q E s:=by
 obtain⟨⟨c,dct,dt,sl⟩,hl,hc,n,hd⟩:=hL;replace hc:c=.type "tuple":=hc;replace hd:dt=.seq items n:=hd;subst hc hd;refine callType_new F.called_enumerate (by decide) (F.typeCall_enumerate_1 _) (F.newCall_enumerate_1 _) (λobj=>F.args_object_init_2 obj _) F.entry_enumerate_new
  (Md l items n dct sl) ⟨hl,?_⟩
 have hz:(s.heap.push {cls:=.type "tuple_iterator",data:=.fields #[.ref l,.int 0 0]}).objs.size=s.heap.objs.size+1:=Heap.size_push ..;show _∧_;rw[hz];have he:IsEnum ((s.heap.push {cls:=.type "tuple_iterator",data:=.fields #[.ref l,.int 0 0]}).push
   {cls:=.type "enumerate",data:=.fields #[.none,.bool false,.ref s.heap.objs.size,rawInt 0,.none,.none]}) (s.heap.objs.size+1) s.heap.objs.size 0 .none:=by
  have:=Heap.get?_push_size (s.heap.push {cls:=.type "tuple_iterator",data:=.fields #[.ref l,.int 0 0]})
   (o:={cls:=.type "enumerate",data:=.fields #[.none,.bool false,.ref s.heap.objs.size,rawInt 0,.none,.none]}) rfl
  rw[hz]at this;exact this
 refine⟨⟨_,he,rfl⟩,h _ he ⟨_,Heap.get?_push_of_some _ (Heap.get?_push_size _ rfl),rfl,rfl⟩ (by rw[Heap.size_push,hz]) λb o x=>Heap.get?_push_of_some _ (Heap.get?_push_of_some _ x)⟩
theorem Oo{e it l:Addr}{i:Nat}{items:Array Value}{x old:Value}{Q:Value→Shared→Prop}
  (he:IsEnum s.heap e it i old)(hit:IsTupIter s.heap it l i)(hl:IsTup s.heap l items)(hx:items[i]?=some x)(hne:e≠it)
  (hQ:∀h',IsEnumOut h' e it ((i:Int)+1) x s.heap.objs.size→IsTupIter h' it l (i+1)→
   h'.get? s.heap.objs.size=some {cls:=.type "tuple",data:=.seq #[.int i s.toks,x]}→h'.objs.size=s.heap.objs.size+1→
   (∀b o,b≠e→b≠it→s.heap.get? b=some o→h'.get? b=some o)→Q (.ref s.heap.objs.size) {s with heap:=h',toks:=s.toks+1}):
  wpAny (model prog w) A (Builtin.«enumerate.__next__» ⟨[.ref e],[]⟩) (λfin s'=>∃v,fin=.done (.ret v)∧Q v s') E s:=by
 obtain⟨hp,g,d,tk,os⟩:=s;show wpAny _ _ (field (.ref e) 2>>=_) _ _ _;refine wpAny_bind (wpAny_field he rfl (x:=.ref it) rfl ?_);refine wpAny_bind (kq hit hl hx λh₁ hit₁ hs₁=>?_);replace hs₁:Heap.SameBut it hp h₁:=hs₁;have he₁:IsEnum h₁ e it i old:=(hs₁.2 e hne).trans he;show wpAny _ _ (field (.ref e) 3>>=_) _ _ ⟨h₁,g,d,tk,os⟩;refine wpAny_bind (wpAny_field he₁ rfl (x:=rawInt i) rfl ?_);show wpAny _ _ (field (.ref e) 4>>=_) _ _ ⟨h₁,g,d,tk,os⟩;refine wpAny_bind (wpAny_field he₁ rfl (x:=.none) rfl ?_);show wpAny _ _ (mkInt i>>=_) _ _ ⟨h₁,g,d,tk,os⟩;refine wpAny_bind (wpAny_mkInt ?_);show wpAny _ _ (setField (.ref e) 3 (rawInt ((i:Int)+1))>>=_) _ _ ⟨h₁,g,d,tk+1,os⟩;refine wpAny_bind (wpAny_setField_rec he₁ (by simp) λh₂ he₂ hs₂=>?_);replace hs₂:Heap.SameBut e h₁ h₂:=hs₂;replace he₂:IsEnum h₂ e it ((i:Int)+1) old:=he₂;show wpAny _ _ (setField (.ref e) 4 .none>>=_) _ _ ⟨h₂,g,d,tk+1,os⟩;refine wpAny_bind (wpAny_setField_rec he₂ (by simp) λh₃ he₃ hs₃=>?_);replace hs₃:Heap.SameBut e h₂ h₃:=hs₃;replace he₃:IsEnum h₃ e it ((i:Int)+1) old:=he₃;show wpAny _ _ (newTuple [.int i tk,x]>>=_) _ _ ⟨h₃,g,d,tk+1,os⟩;refine wpAny_bind (wpAny_newTuple ?_);have he₄:IsEnum (h₃.push {cls:=.type "tuple",data:=.seq #[.int i tk,x]}) e it ((i:Int)+1) old:=Heap.get?_push_of_some _ he₃;generalize hh₄:h₃.push {cls:=.type "tuple",data:=.seq #[.int i tk,x]}=h₄ at he₄;have hsz:h₃.objs.size=hp.objs.size:=by rw[hs₃.1,hs₂.1,hs₁.1]
 have hel:e<hp.objs.size:=Heap.lt_size he;have ht₄:h₄.get? hp.objs.size=some {cls:=.type "tuple",data:=.seq #[.int i tk,x]}:=by rw[←hh₄,←hsz];exact Heap.get?_push_size _ rfl
 have hz₄:h₄.objs.size=hp.objs.size+1:=by rw[←hh₄,Heap.size_push,hsz]
 have hk₄:∀b o,b≠e→b≠it→hp.get? b=some o→h₄.get? b=some o:=λb o hbe hbi hb=>by
  rw[←hh₄];exact Heap.get?_push_of_some _ (hs₃.extBut b o hbe (hs₂.extBut b o hbe (hs₁.extBut b o hbi hb)))
 have hit₄:IsTupIter h₄ it l (i+1):=by
  rw[←hh₄];obtain⟨o,ho,r⟩:=(hit₁.extBut hs₂.extBut (Ne.symm hne)).extBut hs₃.extBut (Ne.symm hne);exact⟨o,Heap.get?_push_of_some _ ho,r⟩
 show wpAny _ _ (Builtin.SmallTypes.ownedTupleIsFree (.ref e)>>=_) _ _ ⟨h₄,g,d,tk+1,os⟩;rw[hsz];clear hh₄ he₃ hs₃ he₂ hs₂ he₁ hs₁ hit₁ hsz h₃ h₂ h₁;refine wpAny_bind ?_
 ·unfold Builtin.SmallTypes.ownedTupleIsFree;refine wpAny_bind (wpAny_field he₄ rfl (x:=.none) rfl (wpAny_pure ?_));simp only[if_true];refine wpAny_bind (wpAny_rule ?_);refine wpAny_bind (wpAny_field he₄ rfl (x:=old) rfl ?_);refine wpAny_bind (wpAny_setField_rec he₄ (by simp) λh₅ he₅ hs₅=>?_);replace hs₅:Heap.SameBut e h₄ h₅:=hs₅;replace he₅:IsEnum h₅ e it ((i:Int)+1) x:=he₅;show wpAny _ _ (Builtin.SmallTypes.ownedTupleHandOut (.ref e) (.ref hp.objs.size)>>=_) _ _ ⟨h₅,g,d,tk+1,os⟩;refine wpAny_bind ?_
  ·unfold Builtin.SmallTypes.ownedTupleHandOut;refine wpAny_bind (wpAny_setField_rec he₅ (by simp) λh₆ he₆ hs₆=>?_);replace hs₆:Heap.SameBut e h₅ h₆:=hs₆;replace he₆:IsEnumOut h₆ e it ((i:Int)+1) x hp.objs.size:=he₆;refine wpAny_setField_rec he₆ (by simp) λh₇ he₇ hs₇=>?_;replace hs₇:Heap.SameBut e h₆ h₇:=hs₇;replace he₇:IsEnumOut h₇ e it ((i:Int)+1) x hp.objs.size:=he₇;refine wpAny_bind (wpAny_letGo (wpAny_pure ⟨_,rfl,hQ h₇ he₇ ?_ ?_ ?_ ?_⟩))
   ·exact((hit₄.extBut hs₅.extBut (Ne.symm hne)).extBut hs₆.extBut (Ne.symm hne)).extBut hs₇.extBut (Ne.symm hne)
   ·exact hs₇.extBut _ _ (Nat.ne_of_gt hel) (hs₆.extBut _ _ (Nat.ne_of_gt hel) (hs₅.extBut _ _ (Nat.ne_of_gt hel) ht₄))
   ·rw[hs₇.1,hs₆.1,hs₅.1,hz₄]
   ·exact λb o hbe hbi hb=>hs₇.extBut b o hbe (hs₆.extBut b o hbe (hs₅.extBut b o hbe (hk₄ b o hbe hbi hb)))
theorem On{e it l:Addr}{i:Nat}{items:Array Value}{x old:Value}{Q:Option Value→Shared→Prop}
  (he:IsEnum s.heap e it i old)(hit:IsTupIter s.heap it l i)(hl:IsTup s.heap l items)(hx:items[i]?=some x)(hne:e≠it)
  (hQ:∀h',IsEnumOut h' e it ((i:Int)+1) x s.heap.objs.size→IsTupIter h' it l (i+1)→
   h'.get? s.heap.objs.size=some {cls:=.type "tuple",data:=.seq #[.int i s.toks,x]}→h'.objs.size=s.heap.objs.size+1→
   (∀b o,b≠e→b≠it→s.heap.get? b=some o→h'.get? b=some o)→Q (some (.ref s.heap.objs.size)) {s with heap:=h',toks:=s.toks+1}):
  wpAny (model prog w) A (pyNext (.ref e)) Q E s:=by
 have hT:s.TypeIs (.ref e) "enumerate":=⟨_,he,rfl⟩;unfold pyNext;exact wpAny_bind (wpAny_attempt (wpAny_callSpecial?_slot (name:=Str.ofString "__next__") hT F.slot_enumerate_next
  (wpAny_call_entry F.slot_enumerate_next hT F.entry_enumerate_next
   (Oo he hit hl hx hne λh' a b c d k=>wpAny_pure (hQ h' a b c d k)) (F.args_enumerate_next_1 _))))
theorem T3{e it l:Addr}{i:Nat}{items:Array Value}{old:Value}{Q:Option Value→Shared→Prop}(hh:A.handled=none)
  (he:IsEnum s.heap e it i old)(hit:IsTupIter s.heap it l i)(hl:IsTup s.heap l items)(hx:items[i]?=none)
  (hQ:∀h',Heap.ExtBut it s.heap h'→Q none {s with heap:=h'}):wpAny (model prog w) A (pyNext (.ref e)) Q E s:=by
 have hT:s.TypeIs (.ref e) "enumerate":=⟨_,he,rfl⟩;unfold pyNext;refine wpAny_bind (wpAny_attempt (wpAny_callSpecial?_slot (name:=Str.ofString "__next__") hT F.slot_enumerate_next
  (wpAny_call_entry F.slot_enumerate_next hT F.entry_enumerate_next ?_ (F.args_enumerate_next_1 _))))
 show wpAny _ _ (field (.ref e) 2>>=_) _ _ _;refine wpAny_bind (wpAny_field he rfl (x:=.ref it) rfl ?_);refine wpAny_bind (ox hh hit hl hx λh' x he' hx'=>?_);obtain⟨o,ho,hc⟩:=hx';refine wpAny_bind (wpAny_isInstance (T:="StopIteration") (b:=true) ⟨o,ho,hc⟩ isSubtype_stop ?_);exact wpAny_pure (hQ _ he')
end
noncomputable def zf0(K:PySem.W.Frag)(a:Addr):It:=
 ⟨λi H=>∃xs x,SqT K H a xs∧xs[i]?=some x,λi H v H'=>∃p x,H p=none∧v=.ref p∧H'=upd H p (.tup [.int (i:Int),x])∧∀xs,SqT K H a xs→xs[i]?=some x,λi H=>∃xs,SqT K H a xs∧xs.length≤i⟩
def tnT(e it a:Addr)(i:Nat)(h:Heap):Prop:=(∃old,IsEnum h e it (i:Int) old)∧IsTupIter h it a i
theorem Qo{P:Program}{w:World}{K:PySem.W.Frag}{tes:List Expr}{k1}{tp:Pos}(a e it:Addr)(hne:e≠it):Turn P w K (.Tuple tes k1 tp) (zf0 K a) [e,it] e (tnT e it a) where
 mem:=by simp
 obj:=λi h st b hb=>by
  obtain⟨⟨old,he⟩,o,ho,hc,hd⟩:=st;rcases kA8.mp hb with rfl|hb
  ·exact⟨_,he,λv z=>by
    have z':Data.fields _=Data.cell v:=z;cases z'⟩
  ·have e:b=it:=by simpa using hb
   subst e;exact⟨o,ho,λv z=>by rw[hd]at z;cases z⟩
 keep:=λi h h' st k=>⟨let ⟨old,he⟩:=st.1;⟨old,k e (by simp) _ he⟩,let ⟨o,q,r⟩:=st.2;⟨o,k it (by simp) o q,r⟩⟩
 item:=by
  intro X hP hw hK hc i pins s σ H E I hf st hg;subst hP hw hK;obtain⟨xs,x,hq,hx⟩:=hg;obtain⟨its,rv,p,hz⟩:=I.tuple hq;obtain⟨u,hu,ru⟩:=rv.get hx;obtain⟨⟨old,he⟩,hit⟩:=st;obtain⟨f0,f1,f2,f3,f4,f5⟩:=hf e (by simp);obtain⟨g0,g1,g2,g3,g4,g5⟩:=hf it (by simp);have fresh:H s.heap.objs.size=none:=I.hok.fresh (kA1 _);have elt:e<s.heap.objs.size:=Heap.lt_size he;refine On he hit p (x:=u) (by simpa using hu) hne λh1 he1 hit1 ht1 hz1 hk1=>?_;refine⟨_,rfl,wpAny_letOwnedTupleGo_enum he1 λh2 he2 sb=>?_⟩;have sb':Heap.SameBut e h1 h2:=sb;have k2:∀b o,b≠e→b≠it→s.heap.get? b=some o→h2.get? b=some o:=λb o h1' h2' q=>sb'.extBut b o h1' (hk1 b o h1' h2' q);have t2:h2.get? s.heap.objs.size=some {cls:=.type "tuple",data:=.seq #[.int (i:Int) s.toks,u]}:=sb'.extBut _ _ (Nat.ne_of_gt elt) ht1;have old':∀{b:Addr}{o:HO},H b=some o→b≠s.heap.objs.size∧b≠e∧b≠it:=λ{b o} q=>⟨d9 q fresh,d9 q f0,d9 q g0⟩;have ch:∀b,b∉[e,it]→b≠e∧b≠it:=λb hb=>by simpa using hb
  have I2:Inv X pins σ (upd H s.heap.objs.size (.tup [.int (i:Int),x])) {s with heap:=h2,toks:=s.toks+1}:=by
   refine I.step (g':=s.gens) (d':=s.drawn) (ch:=[e,it]) (λb hb=>?_) (λb o _ _ hc q _=>k2 b o (ch b hc).1 (ch b hc).2 q) (λb o _ _ hc q _=>⟨o.slots,k2 b o (ch b hc).1 (ch b hc).2 q⟩) (λb o _ q n=>?_) (λb o hc q=>⟨o,k2 b o (ch b hc).1 (ch b hc).2 q⟩)
    (λb ys q=>by rw[bu (old' q).1];exact q) (λb o v q=>by rw[bu (old' q).1];exact q) (λb y q=>by rw[bu (old' q).1];exact q) (λm hm=>?_) (λb v q=>?_) I.bare
   ·rcases kA8.mp hb with rfl|hb
    ·exact⟨f3,f1,f4,f5⟩
    ·have z:b=it:=by simpa using hb
     subst z;exact⟨g3,g1,g4,g5⟩
   ·rw[bu (kAd (Heap.lt_size q))];exact n
   ·obtain⟨o,es,ep,ho,r⟩:=hm;exact⟨o,es,ep,k2 _ o (Ne.symm f1) (Ne.symm g1) ho,r⟩
   ·by_cases hb:b=s.heap.objs.size
    ·subst hb;rw[d8]at q;cases q;exact⟨by rw[sizeLine_eq];simp,[.int (i:Int) s.toks,u],.cons ⟨_,rfl⟩ (.cons ru .nil),_,t2,rfl,0,rfl⟩
    ·rw[bu hb]at q;refine(I.hok b v q).stay (λb' v' hb' r=>k2 b' v' ?_ ?_ r) (λb' z=>by rw[bu (old' z).1];exact z) (λb' ys z=>by rw[bu (old' z).1];exact z) λb' o' u' z=>by rw[bu (old' z).1];exact z
     ·rcases hb' with z|z
      ·rw[z];exact(old' q).2.1
      ·exact(old' z).2.1
     ·rcases hb' with z|z
      ·rw[z];exact(old' q).2.2
      ·exact(old' z).2.2
  refine⟨.ref s.heap.objs.size,_,I2,rfl,⟨_,x,fresh,rfl,rfl,λys hy=>by rw[I.tuple_inj hy hq];exact hx⟩,⟨⟨u,?_⟩,?_⟩,λb hb=>?_⟩
  ·have:((i+1:Nat):Int)=(i:Int)+1:=by push_cast;rfl
   rw[this];exact he2
  ·exact let ⟨o,q,r⟩:=hit1;⟨o,sb'.extBut it o (Ne.symm hne) q,r⟩
  ·have z:=(hf b hb).1;have:b<s.heap.objs.size:=by
    rcases kA8.mp hb with rfl|hb
    ·exact elt
    ·have z:b=it:=by simpa using hb
     subst z;obtain⟨o,ho,_⟩:=hit;exact Heap.lt_size ho
   rw[bu (kAd this)];exact z
 done:=by
  intro X hP hw hK hc i pins s σ H E I hf st hg;subst hP hw hK;obtain⟨xs,hq,hx⟩:=hg;obtain⟨its,rv,p,hz⟩:=I.tuple hq;obtain⟨⟨old,he⟩,hit⟩:=st;obtain⟨g0,g1,g2,g3,g4,g5⟩:=hf it (by simp);have hl:=rv.length;exact T3 (I.ok.hd hc) he hit p (by simp;omega) λh' eb=>⟨rfl,I.turned (t':=s.toks) (λb o hb e=>eb b o hb e) g0 g1 g3 g4 g5⟩
 self:=λ_ _ _ _ _ st h=>let ⟨_,he⟩:=st.1;wpAny_pyIter_enum he h
theorem zgq{K:KA}{a:Addr}{G1:Hp}{ds:List D}{vs:List V}{S:Hp→Hp→Prop}(h:∀G H,S G H→Same G H→SqT K H a vs∧Same G1 G)(dl:DenL K G1 ds vs):Bf K (zf0 K a) (ni 0 ds) S:=λi G H hS sg=>by
 obtain⟨q,g⟩:=h G H hS sg;refine⟨λd ed=>?_,λhl=>⟨vs,q,by rw[vj]at hl;rw[←dl.length];exact hl⟩⟩;rw[zr,Nat.zero_add]at ed;cases e0:ds[i]? with
 |none=>rw[e0]at ed;cases ed
 |some d0=>
  rw[e0]at ed;cases ed;obtain⟨v,ev,dv⟩:=dl.get e0;refine⟨⟨vs,v,q,ev⟩,λx H' ⟨p,y,hp,e1,e2,e3⟩=>?_⟩;subst e1 e2;have z:=e3 vs q;rw[ev]at z;cases z;exact⟨_,Ext.new sg (.tup [.int (i:Int),v]) hp,oo sg hp (DenL.append (DenL.one (d:=.int (i:Int)) rfl) (DenL.one (dv.mono g)))⟩
noncomputable def zi5:D→Option (List D)
 |.lst ds=>some ds
 |.tup ds=>some ds
 |_=>none
noncomputable def ur(g:En→Res):En→ResL:=λδ=>match g δ with
 | .ok d => (match zi5 d with
  |some ds=>.ok (ni 0 ds)
  |none=>.st)
 |.er c=>.er c
 |.st=>.st
section
variable{X:Cx}{B:Hp}{E:EK}{e:Expr}{g:En→Res}{pos p tp:Pos}{tes:List Expr}{k1:Nat}
theorem zkp{G H:Hp}{δ:En}{P:List D→Prop}(q:ResLP E G H (ur g δ) P):ResP E G H (g δ) λd=>∃ds,(d=.lst ds∨d=.tup ds)∧P (ni 0 ds):=by
 unfold ur at q;cases e:g δ with
 |ok d=>
  rw[e]at q;dsimp only at q;cases d with
  |lst ds=>exact⟨ds,.inl rfl,q⟩
  |tup ds=>exact⟨ds,.inr rfl,q⟩
  |_=>exact q.elim
 |er c=>rw[e]at q;exact q
 |st=>rw[e]at q;exact q
theorem zc0(hg:Gl X "enumerate")(hm:X.mg "enumerate"=none)(h:BoE X B E e g)(he:starEach [e] X.env=(false,eval e X.env)::starEach [] X.env):
  PuI X B E (.Tuple tes k1 tp) (.Call (.Name "enumerate" p) [e] [] pos) (ur g):=by
 intro pins s σ H R I ⟨G,δ,Rr,q⟩;have ha:PA X [e] (zfp (tBo (kx X) B E g) zje):=yi h Pz he;refine Call_ (xc I hg hm (by decide+kernel:bootBuiltins "enumerate"=some (.type "enumerate")) (PyProof.Rows.callWith_type1 (kc (ha pos pins s σ H (λvs H1=>∃a,vs=[.ref a]∧((∃xs,SqL X.K H1 a xs)∧R (Ite X.K a) H1∨(∃xs,SqT X.K H1 a xs)∧R (zf0 X.K a) H1)) I ⟨G,δ,Rr,(zkp q).mono λd _ ⟨ds,ed,q⟩ v G1 H1 e1 ax=>?_⟩) λus s1 ⟨vs,H1,I1,r1,a,e1,hq⟩=>?_) he rfl))
 ·have bh:Same B H1:=Rr.bh.trans e1.hh;rcases ed with rfl|rfl
  ·rcases ax with ⟨a,vs,rfl,s,dl⟩|⟨ds2,a,vs,z,rfl,s,dl⟩|⟨t,kvs,a,z,_⟩
   ·exact⟨a,rfl,.inl ⟨⟨vs,SqL.mono e1.gh s⟩,q _ G1 H1 e1 (Xq (λG2 H2 ⟨x1,x2⟩ sg=>⟨SqL.mono (x1.trans sg) s,x1⟩) dl)⟩⟩
   ·cases z;exact⟨a,rfl,.inl ⟨⟨vs,SqL.mono bh s⟩,q _ G1 H1 e1 (Xq (λG2 H2 ⟨x1,x2⟩ sg=>⟨SqL.mono x2 s,x1⟩) dl)⟩⟩
   ·cases z
  ·rcases ax with ⟨a,vs,rfl,s,dl⟩|⟨ds2,a,vs,z,_⟩|⟨t,kvs,a,z,_⟩
   ·have t1:∀{G2 H2:Hp},Same G1 G2→Same G2 H2→SqT (kx X) H2 a vs:=λx1 sg=>.inl (.inl (sg _ _ (x1 _ _ s)));exact⟨a,rfl,.inr ⟨⟨vs,t1 (Same.refl G1) e1.gh⟩,q _ G1 H1 e1 (zgq (λG2 H2 ⟨x1,x2⟩ sg=>⟨t1 x1 sg,x1⟩) dl)⟩⟩
   ·cases z
   ·cases z
 ·subst e1;obtain⟨u,rfl,ru⟩:=qj r1;cases ru;have fps:∀b∈[s1.heap.objs.size+1,s1.heap.objs.size],Ci X pins H1 b:=λb hb=>by
   rcases kA8.mp hb with rfl|hb
   ·exact I1.fpOk (Nat.le_succ _) (I1.hok.fresh (Nat.le_succ _))
   ·have z:b=s1.heap.objs.size:=by simpa using hb
    subst z;exact I1.fpOk (kA1 _) (I1.hok.fresh (kA1 _))
  rcases hq with ⟨⟨xs,hq⟩,q1⟩|⟨⟨xs,hq⟩,q1⟩
  ·obtain⟨its,rv,pl,_⟩:=I1.list hq;refine call_enumerate_list pl.isList λh' he' hi' hz' hk'=>?_;exact wpAny_pyIter_enum he' ⟨s1.heap.objs.size+1,[s1.heap.objs.size+1,s1.heap.objs.size],_,_,H1,rfl,I1.kept (t':=s1.toks) hk',Vn a _ _ (Nat.succ_ne_self _),⟨⟨_,he'⟩,hi'⟩,fps,q1⟩
  ·obtain⟨its,rv,pl,_⟩:=I1.tuple hq;refine Oa pl λh' he' hi' hz' hk'=>?_;exact wpAny_pyIter_enum he' ⟨s1.heap.objs.size+1,[s1.heap.objs.size+1,s1.heap.objs.size],_,_,H1,rfl,I1.kept (t':=s1.toks) hk',Qo a _ _ (Nat.succ_ne_self _),⟨⟨_,he'⟩,hi'⟩,fps,q1⟩
end
theorem Th(a v:Value):argsOk "max" ⟨[a],[(Str.ofString "default",v)]⟩:=by unfold argsOk;kernel_rfl
section
variable{prog:Program}{w:World}{A:Around}{R:Result→Shared→Prop}{I:Addr}{fp wr:List Addr}{n:Nat}{P:Nat→Value→Prop}{St:Nat→Heap→Prop}{kw:List (Str×Value)}
theorem Ut(W:Walks prog w A.in1 I fp wr n P St)(bt:Nat→Nat→Bool)(hcmp:CmpOf prog w A.in1 .Gt P bt)(S:Addr)(hSf:S∉fp):
  ∀(k j:Nat)(s:Shared)(vb:Value)(c:Nat),n - (j+1)=k→j+1≤n→St (j+1) s.heap→P (argBest bt j) vb→
  s.heap.get? S=some {cls:=.type "list",dict:=none,data:=.seq #[vb,vb] c,slots:=#[]}→
  (∀v h' tk,P (argBest bt (n - 1)) v→(∀b o,b∉wr→b≠S→s.heap.get? b=some o→h'.get? b=some o)→R (.ok (.ret v)) {s with heap:=h',toks:=tk})→
  codeAny (model prog w) A (.builtin "max.loop" ⟨[.ref I,.none,.ref S],kw⟩) R s:=by
 have hSw:S∉wr:=λh=>hSf (W.sub _ h);have hname:(toString "max"++toString ".loop":String)="max.loop":=by decide
 intro k;induction k with
 |zero=>
  intro j s vb c hk hj hst hPb hS hR;have hin:j+1=n:=by omega
  refine codeAny_builtin F.entry_max_loop ?_;rw[Around.under_plainId F.plain_max_loop _];show wpAny _ A.in1 (seqItems? (.ref S)>>=_) _ _ s;refine wpAny_bind (wpAny_seqItems hS rfl ?_);show wpAny _ A.in1 (tryCatch (pyNext (.ref I)) _>>=_) _ _ s;refine wpAny_bind (wpAny_tryCatch (W.done s _ _ (hin▸hst) λh' tk hk'=>?_));have hS':=hk' S _ hSw hS;show wpAny _ A.in1 (updateSeq S (λ_=>#[])>>=_) _ _ _;refine wpAny_bind ?_;refine wpAny_updateSeq hS' rfl (wpAny_bind (wpAny_letGo (wpAny_pure ?_)));refine hR vb _ tk (by rw[←hin];exact hPb) λb o hbw hbS e=>(Heap.get?_update_other _ _ (Ne.symm hbS)).trans (hk' b o hbw e)
 |succ k ih=>
  intro j s vb c hk hj hst hPb hS hR;have hlt:j+1<n:=by omega
  refine codeAny_builtin F.entry_max_loop ?_;rw[Around.under_plainId F.plain_max_loop _];show wpAny _ A.in1 (seqItems? (.ref S)>>=_) _ _ s;refine wpAny_bind (wpAny_seqItems hS rfl ?_);show wpAny _ A.in1 (tryCatch (pyNext (.ref I)) _>>=_) _ _ s;refine wpAny_bind (wpAny_tryCatch (W.item (j+1) s _ _ hlt hst λv h' tk hP hst' hk'=>?_));have hS':=hk' S _ hSw hS;show wpAny _ A.in1 (tryCatch (holding [v,v] (richCompare .Gt v vb>>=_)) _>>=_) _ _ _;refine wpAny_bind (wpAny_tryCatch (wpAny_holding (wpAny_bind (hcmp (j+1) (argBest bt j) v vb _ _ _ hP hPb ?_))));refine wpAny_bind (wpAny_holding (wpAny_truthy_bool ?_));refine wpAny_bind (wpAny_letGo (wpAny_pure ?_));cases hb:bt (j+1) (argBest bt j)with
  |true=>
   simp only[if_true];refine wpAny_bind ?_;refine wpAny_updateSeq hS' rfl (wpAny_bind (wpAny_letGo ?_));rw[hname];refine wpAny_pure ⟨plainId_quiet F.plain_max_loop _,ih (j+1) _ v _ (by omega) hlt (W.frame _ _ _ hst' λb hbf o e=>?_) (by simp only[argBest,hb,if_true];exact hP) (Heap.get?_update_self _ hS' rfl) λv' h'' tk'' hP' hk''=>?_⟩
   ·exact(Heap.get?_update_other _ _ (λh:S=b=>hSf (by rw[h];exact hbf))).trans e
   ·exact hR v' h'' tk'' hP' λb o hbw hbS e=>hk'' b o hbw hbS ((Heap.get?_update_other _ _ (Ne.symm hbS)).trans (hk' b o hbw e))
  |false=>
   simp only[kAn,if_false];refine wpAny_bind (wpAny_letGo ?_);rw[hname];refine wpAny_pure ⟨plainId_quiet F.plain_max_loop _,ih (j+1) _ vb c (by omega) hlt hst' (by simp only[argBest,hb,kAn,if_false];exact hPb) hS' λv' h'' tk'' hP' hk''=>?_⟩;exact hR v' h'' tk'' hP' λb o hbw hbS e=>hk'' b o hbw hbS (hk' b o hbw e)
theorem Pb(W:Walks prog w A.in1 I fp wr n P St)(bt:Nat→Nat→Bool)(hcmp:CmpOf prog w A.in1 .Gt P bt)(S:Addr)(hSf:S∉fp){s:Shared}{c:Nat}{dv:Value}{dk:Str}(hst:St 0 s.heap)
  (hS:s.heap.get? S=some {cls:=.type "list",dict:=none,data:=.seq #[] c,slots:=#[]})
  (hR:∀v h' tk,(0<n→P (argBest bt (n - 1)) v)→(n=0→v=dv)→(∀b o,b∉wr→b≠S→s.heap.get? b=some o→h'.get? b=some o)→R (.ok (.ret v)) {s with heap:=h',toks:=tk}):
  codeAny (model prog w) A (.builtin "max.loop" ⟨[.ref I,.none,.ref S],[(dk,dv)]⟩) R s:=by
 have hSw:S∉wr:=λh=>hSf (W.sub _ h);have hname:(toString "max"++toString ".loop":String)="max.loop":=by decide
 refine codeAny_builtin F.entry_max_loop ?_;rw[Around.under_plainId F.plain_max_loop _];show wpAny _ A.in1 (seqItems? (.ref S)>>=_) _ _ s;refine wpAny_bind (wpAny_seqItems hS rfl ?_);show wpAny _ A.in1 (tryCatch (pyNext (.ref I)) _>>=_) _ _ s;rcases Nat.eq_zero_or_pos n with hn|hn
 ·subst hn;refine wpAny_bind (wpAny_tryCatch (W.done s _ _ hst λh' tk hk'=>?_));refine wpAny_bind (wpAny_rule (wpAny_pure ?_));exact hR dv h' tk (λz=>absurd z (kAu 0)) (λ_=>rfl) λb o hbw _ e=>hk' b o hbw e
 ·refine wpAny_bind (wpAny_tryCatch (W.item 0 s _ _ hn hst λv h' tk hP hst' hk'=>?_));have hS':=hk' S _ hSw hS;show wpAny _ A.in1 (updateSeq S (λ_=>#[v,v])>>=_) _ _ _;refine wpAny_bind ?_;refine wpAny_updateSeq hS' rfl ?_;rw[hname];refine wpAny_pure ⟨plainId_quiet F.plain_max_loop _,Ut W bt hcmp S hSf _ 0 _ v _ rfl hn (W.frame _ _ _ hst' λb hbf o e=>?_) hP (Heap.get?_update_self _ hS' rfl) λv' h'' tk'' hP' hk''=>?_⟩
  ·exact(Heap.get?_update_other _ _ (λh:S=b=>hSf (by rw[h];exact hbf))).trans e
  ·exact hR v' h'' tk'' (λ_=>hP') (λz=>absurd hn (by omega)) λb o hbw hbS e=>hk'' b o hbw hbS ((Heap.get?_update_other _ _ (Ne.symm hbS)).trans (hk' b o hbw e))
end
section
variable{prog:Program}{w:World}{A:Around}{E:Value→Shared→Prop}{s:Shared}
theorem Tq{x dv:Value}{Q:Value→Shared→Prop}
   (h:wpAny (model prog w) A.in1 (pyIter x) (λit s₂=>∃I fp wr n P St bt,it=.ref I∧Walks prog w A.in1 I fp wr n P St∧St 0 s₂.heap∧(∀b∈fp,b<s₂.heap.objs.size)∧CmpOf prog w A.in1 .Gt P bt∧
   ∀v h' tk,(0<n→P (argBest bt (n - 1)) v)→(n=0→v=dv)→(∀b o,b∉wr→s₂.heap.get? b=some o→h'.get? b=some o)→Q v {s₂ with heap:=h',toks:=tk}) E s):
  wpAny (model prog w) A (call (.builtin "max") [x] [(Str.ofString "default",dv)]) Q E s:=by
 have hname:(toString "max"++toString ".loop":String)="max.loop":=by decide
 refine kmk_tree PySem.F.kind_max PySem.F.plain_max PySem.F.entry_max (Th _ _) ?_;show wpAny _ A.in1 (Builtin.Builtins.bindParams "max" ["key","default"] 0 ⟨[],[(Str.ofString "default",dv)]⟩>>=_) _ _ s;refine wpAny_bind (wpAny_of_eq (show Builtin.Builtins.bindParams "max" ["key","default"] 0 ⟨[],[(Str.ofString "default",dv)]⟩=pure [none,some dv]from rfl) ?_);refine wpAny_bind (wpAny_pure ?_);refine wpAny_bind (wpAny_mono h (λit s₂ h₂=>?_) λ_ _ e=>e);obtain⟨I,fp,wr,n,P,St,bt,rfl,W,hst,hfp,hcmp,hQ⟩:=h₂;refine wpAny_bind (wpAny_newObj_type ?_);have hSf:s₂.heap.objs.size∉fp:=λhm=>kAu _ (hfp _ hm);rw[hname];refine wpAny_pure ⟨plainId_quiet F.plain_max_loop _,Pb W bt hcmp s₂.heap.objs.size hSf (W.frame _ _ _ hst λb _ o e=>Heap.get?_push_of_some _ e) (Heap.get?_push_size _ rfl) λv h' tk hP hz hk=>?_⟩;exact hQ v h' tk hP hz λb o hbw e=>hk b o hbw (kAd (Heap.lt_size e)) (Heap.get?_push_of_some _ e)
end
end Pu
end
section
namespace Pu
open PySem PySem.Spec PyProof.Rows L2 PySem.SeqAt PySem.W
noncomputable def yd:List D→Option (List Int)
 |[]=>some []
 |.int i::r=>(yd r).map (i::·)
 |_=>none
noncomputable def Dx(c:Int):List Int→Int
 |[]=>c
 |i::r=>r.foldl max i
noncomputable def xh(c:Int):D→Option D
 |.lst ds=>(yd ds).map λis=>.int (Dx c is)
 |_=>none
theorem Uu{c x:Int}:∀{l:List Int},l≠[]→Dx c (l++[x])=max (Dx c l) x
 |[],h=>absurd rfl h
 |i::r,_=>by simp[Dx,List.foldl_append]
theorem K2{c:Int}{is:List Int}:∀k,k<is.length→is.getD (argBest (λi j=>decide (is.getD i 0>is.getD j 0)) k) 0=Dx c (is.take (k+1))
 |0,h=>by
  cases is with
  |nil=>simp at h
  |cons i r=>simp[argBest,Dx]
 |k+1,h=>by
  have ih:=K2 (c:=c) (is:=is) k (by omega);have e:is.take (k+1+1)=is.take (k+1)++[is.getD (k+1) 0]:=by
   rw[List.take_add_one (i:=k+1),List.getD_eq_getElem?_getD,kB4 h];rfl
  rw[e,Uu (by intro z;have:=congrArg List.length z;rw[List.length_take,List.length_nil]at this;omega),←ih];simp only[argBest];generalize argBest (λi j=>decide (is.getD i 0>is.getD j 0)) k=b
  by_cases hb:is.getD (k+1) 0>is.getD b 0
  ·simp only[hb,decide_true,if_true];omega
  ·simp only[hb,decide_false,kAn,if_false];omega
theorem Gr:∀{ds:List D}{is:List Int},yd ds=some is→ds=is.map D.int
 |[],is,h=>by cases h;rfl
 |d::r,is,h=>by
  cases d with
  |int i=>
   unfold yd at h;cases e:yd r with
   |none=>rw[e]at h;cases h
   |some js=>rw[e]at h;cases h;rw[Gr e];rfl
  |_=>cases h
section
variable{X:Cx}{B:Hp}{E:EK}{e:Expr}{g:En→Res}{pos p cp kp:Pos}{c:Int}{kd:Nat}
theorem zdh(hc:X.calm=true)(ha:lx X B E e g)(hg:Gl X "max")(hm:X.mg "max"=none)(hn:jz e=true):ji X B E (.Call (.Name "max" p) [e] [⟨some "default",.Constant (.int c) kd cp,kp⟩] pos) (g1 (xh c) g):=by
 intro pins s σ H Q I ⟨G,δ,R,q⟩;unfold g1 at q;refine wpAny_Call_Name_kw (xc I hg hm (by decide+kernel:bootBuiltins "max"=some (.builtin "max")) ?_ (by decide) (by decide));have he:starEach [e] X.env=(false,eval e X.env)::starEach [] X.env:=cj hn;have PA1:=ju ha ky he;refine callWith_kw (kc (PA1 pos pins s σ H (λvs H1=>∃d v G1,vs=[v]∧Ext G H G1 H1∧Arg (kx X) G1 H1 d v∧g δ=.ok d) I ⟨G,δ,R,?_⟩) λus s1 ⟨vs,H1,I1,r1,d,v,G1,hv,e1,ad,eg⟩=>?_) (by rw[he];rfl) (by rw[he];rfl)
 ·unfold ae bc;cases eg:g δ with
  |er c=>rw[eg]at q;exact q
  |st=>rw[eg]at q;exact q
  |ok d=>
   intro vs G' H' e1 al;obtain⟨v,rfl,ad⟩:=ArgsM.one al;exact⟨d,v,G',rfl,e1,ad,rfl⟩
 subst hv;obtain⟨u,rfl,ru⟩:=qj r1;rw[eg]at q;obtain⟨d',ed,q⟩:=ResP.of (show ResP E G H (Res.of (xh c d)) _ from q);refine kws_cons (kc (Yw (X:=X) (i:=c) (j:=kd) (pos:=cp) pins s1 σ H1 (λv H2=>v=.int c∧H2=H1) I1 ⟨rfl,rfl⟩) λf s2 ⟨fv,H2,I2,r2,z1,z2⟩=>kws_nil ?_);subst z1 z2;obtain⟨ct,rfl⟩:=r2;unfold xh at ed;cases d with
 |lst ds=>
  dsimp only at ed;cases ei:yd ds with
  |none=>rw[ei]at ed;cases ed
  |some is=>
   rw[ei]at ed;cases ed;have eds:=Gr ei;obtain⟨a,vs,rfl,sq,dl⟩:=ad.lst e1.gh;cases ru;obtain⟨its,rv,pl,hz⟩:=I2.list sq;have al:=Heap.lt_size (show s2.heap.get? a=some _ from(pl.isList).choose_spec.1);have hne:a≠s2.heap.objs.size:=kAd al;have len:its.length=is.length:=by rw[←rv.length,←dl.length,eds,kA2]
   have val:∀i v,its.toArray[i]?=some v→∃t,v=Value.int (is.getD i 0) t:=λi v hv=>by
    have hv:its[i]?=some v:=by simpa using hv
    have hi:i<is.length:=by rw[←len];exact(kAq.mp hv).1
    have hd:ds[i]?=some (D.int (is.getD i 0)):=by rw[eds,kAr,kB4 hi,List.getD_eq_getElem?_getD,kB4 hi];rfl
    obtain⟨w,hw,dw⟩:=dl.get hd;obtain⟨u,hu,ru⟩:=rv.get hw;rw[hv]at hu;cases hu;rw[show w=V.int (is.getD i 0)from dw]at ru;exact ru
   refine Tq (wpAny_pyIter_list pl.isList ⟨_,_,_,_,_,_,_,rfl,Walks.list (A:=X.A.in1) (I2.ok.hd hc) _ a hne its.toArray,⟨⟨_,Heap.get?_push_size _ rfl,rfl,rfl⟩,pl.isList.push _⟩,λb hb=>?_,CmpOf.ints_gt (λi=>is.getD i 0) val,λv h' tk hP hZ hk=>?_⟩)
   ·show b<(s2.heap.push _).objs.size;rw[Heap.size_push];rcases kA8.mp hb with rfl|hb
    ·exact Nat.lt_succ_self _
    ·rcases kA8.mp hb with rfl|hb
     ·exact Nat.lt_succ_of_lt al
     ·cases hb
   ·have key:∃t,v=Value.int (Dx c is) t:=by
     cases hl:is with
     |nil=>
      have:v=Value.int c ct:=hZ (by rw[kAh,len,hl];rfl);exact⟨ct,this⟩
     |cons i r=>
      have h0:0<its.toArray.size:=by rw[kAh,len,hl];exact Nat.succ_pos _
      obtain⟨t,rfl⟩:=val _ _ (hP h0);have bm:=K2 (c:=c) (is:=is) (its.toArray.size - 1) (by rw[kAh,len]at h0⊢;omega);rw[bm,show its.toArray.size - 1+1=is.length by rw[kAh,len]at h0⊢;omega,List.take_length,hl];exact⟨t,rfl⟩
    have kp':∀b o,s2.heap.get? b=some o→h'.get? b=some o:=λb o e=>by
     refine hk b o (λhm=>?_) (Heap.get?_push_of_some _ e);rcases kA8.mp hm with z|hm
     ·exact absurd (z▸Heap.lt_size e) (kAu _)
     ·cases hm
    exact⟨.int (Dx c is),_,I2.kept (t':=tk) kp',key,q (.int (Dx c is)) G1 _ e1 rfl⟩
 |_=>cases ed
end
end Pu
end
section
namespace Pu
open PySem PySem.Spec PyProof.Rows L2
noncomputable def zbh:Operator→Option (D→D→Option D)
 |.Add=>some cw
 |.Sub=>some Sr
 |.Mult=>some mz
 |.Mod=>some A8
 |.FloorDiv=>some P5
 |_=>none
theorem zib{X:Cx}{B:Hp}{E:EK}{a b:Expr}{g h:En→Res}{pos:Pos}{op:Operator}{f:D→D→Option D}(hf:zbh op=some f)(ha:lx X B E a g)(hb:lx X B E b h):ji X B E (.BinOp a op b pos) (g2 f g h):=by
 cases op<;>cases hf
 ·exact zh8 ha hb
 ·exact zim ha hb
 ·exact zii ha hb
 ·exact zih ha hb
 ·exact zdd ha hb
noncomputable def Zy:List Bool→List ((En→Res)×(En→Res))→En→ResL
 |[],[]=>bc
 |m::ms,p::ps=>ae (if m then p.1 else p.2) (Zy ms ps)
 |_,_=>zgm
theorem Su{ev:Ev}{C:SC}:∀{ms:List Bool}{es:List Expr},Zy ms (es.map λe=>(pb ev C e,ev C e))=gAL ev C ms es
 |[],[]=>rfl
 |[],_::_=>rfl
 |_::_,[]=>rfl
 |m::ms,e::es=>by
  show ae (if m then pb ev C e else ev C e) (Zy ms (es.map λe=>(pb ev C e,ev C e)))=ae (if m then pb ev C e else ev C e) (gAL ev C ms es);rw[Su]
noncomputable def Dc(T:GT)(i:Nat)(ps:List ((En→Res)×(En→Res))):En→Res:=λδ=>match af i δ with
 | .ok (.fn y) => (match T.fns y with
  |some s=>bb s.f (Zy s.ms ps) δ
  |none=>.st)
 |_=>.st
noncomputable def Os(T:GT)(ev:Ev)(C:SC)(i:Nat)(args:List Expr):En→Res:=Dc T i (args.map λe=>(pb ev C e,ev C e))
section
variable{T:GT}{ev tv:Ev}{X:Cx}{C:SC}{B:Hp}{E:XK}{pos p:Pos}{x:Str}{e a:Expr}{es:List Expr}
theorem Wf(h:j2 T ev)(O:XOk X C T E){i:Nat}(hs:slot C x=some i)(hn:(e::es).all jz=true):ji X B (ek (kx X) E) (.Call (.Name x p) (e::es) [] pos) (Os T ev C i (e::es)):=by
 intro pins s σ H Q I ⟨G,δ,R,q⟩;unfold Os Dc at q;cases ea:af i δ with
 |er c=>rw[ea]at q;exact q.elim
 |st=>rw[ea]at q;exact q.elim
 |ok d=>
  rw[ea]at q;cases d with
  |fn y=>
   dsimp only at q;cases ef:T.fns y with
   |none=>rw[ef]at q;exact q.elim
   |some sp=>
    rw[ef]at q;dsimp only at q;rw[Su]at q;obtain⟨k,f,fd,ps,hr,hm,hk,hb,F⟩:=O.fns y sp ef;obtain⟨v,q1,q2⟩:=R.arg ea;have ev':v=.ref f:=by rw[q2.fn];show V.ref (E6 X.mg y)=_;rw[og hm]
    subst ev';have hn':=hn;rw[kAm,kA4]at hn';refine wpAny_Call_Name_kw (kc (O.var hs pins s σ H (λv H1=>v=.ref f∧H1=H) I ⟨_,q1,rfl,rfl⟩) λu s1 ⟨v,H1,I1,r1,e1,e2⟩=>?_);subst e1 e2;cases r1;refine PySem.W.callWith_K (h₀:=X.base) I.ok.mod.kin hk (kc (Ck (B:=B) (E:=E) h O (ms:=sp.ms) hn pos pins s1 σ H1 (λvs H2=>Qb (kx X) sp.ms sp.f vs H2 Q E) I1 ⟨G,δ,R,(zex q).mono λds _ q vs G1 H2 e1 al=>
     ⟨al.length.2,R.gb.same (R.bh.trans e1.hh),G1,ds,e1.gh,al,(q.ext e1).mono λd _ q v G' H' e2 dn=>q v G' H' (e1.trans e2) dn⟩⟩) λus s2 ⟨vs,H2,I2,r,q2⟩=>⟨I2.kIn,?_⟩) (cj hn'.1) (rn hn'.2)
    exact P7 (dvs:=[]) F hr hb .nil O.goes I2 r (by rw[List.append_nil];exact q2)
  |_=>exact q.elim
end
noncomputable def bi1(x:Str):Option (D→Option D):=
 if x="len" then some fc else if x="list" then some jw else if x="tuple" then some ku else if x="int" then some Hi else if x="all" then some A6 else if x="sorted" then some oz else if x="dict" then some tm else none
section
variable{X:Cx}{B:Hp}{E:EK}{e a b:Expr}{es:List Expr}{g h:En→Res}{pos p:Pos}{x:Str}
theorem zf8{C:SC}{T:GT}{f:D→Option D}{E':XK}(O:XOk X C T E')(hf:bi1 x=some f)(hg:Gl X x)(hn:jz e=true)(ha:lx X B E e g):ji X B E (.Call (.Name x p) [e] [] pos) (g1 f g):=by
 unfold bi1 at hf
 by_cases h1:x="len"
 ·rw[if_pos h1]at hf;cases hf;subst h1;exact zif hg (O.bl _ (by decide)) ha (cj hn) rfl
 rw[if_neg h1]at hf
 by_cases h1:x="list"
 ·rw[if_pos h1]at hf;cases hf;subst h1;exact Yp (M1 O.calm hg (O.bl _ (by decide)) ha hn) Uc
 rw[if_neg h1]at hf
 by_cases h1:x="tuple"
 ·rw[if_pos h1]at hf;cases hf;subst h1;exact Zj hg (O.bl _ (by decide)) ha (cj hn) rfl
 rw[if_neg h1]at hf
 by_cases h1:x="int"
 ·rw[if_pos h1]at hf;cases hf;subst h1;exact zdg hg (O.bl _ (by decide)) ha (cj hn) rfl
 rw[if_neg h1]at hf
 by_cases h1:x="all"
 ·rw[if_pos h1]at hf;cases hf;subst h1;exact zh9 O.calm hg (O.bl _ (by decide)) ha (cj hn)
 rw[if_neg h1]at hf
 by_cases h1:x="sorted"
 ·rw[if_pos h1]at hf;cases hf;subst h1;exact Vc (by have:=O.units;omega) O.calm hg (O.bl _ (by decide)) ha (cj hn)
 rw[if_neg h1]at hf
 by_cases h1:x="dict"
 ·rw[if_pos h1]at hf;cases hf;subst h1;exact Zg O.calm hg (O.bl _ (by decide)) ha (cj hn)
 rw[if_neg h1]at hf;cases hf
noncomputable def Rp(x:Str):Option String:=
 if x="int" then some "int" else if x="bool" then some "bool" else if x="str" then some "str" else if x="list" then some "list" else if x="tuple" then some "tuple" else none
theorem zb1{C:SC}{T:GT}{y:Str}{c:String}{p2:Pos}{E':XK}(O:XOk X C T E')(hf:Rp y=some c)(hg:Gl X "isinstance")(hg2:Gl X y)(hn:jz e=true)(ha:lx X B E e g):ji X B E (.Call (.Name "isinstance" p) [e,.Name y p2] [] pos) (g1 (cq c) g):=by
 have he:starEach [e,.Name y p2] X.env=(false,eval e X.env)::starEach [.Name y p2] X.env:=cj hn;unfold Rp at hf
 by_cases h1:y="int"
 ·rw[if_pos h1]at hf;cases hf;subst h1;exact D9 zb2 hg (O.bl _ (by decide)) hg2 (O.bl _ (by decide)) PyProof.Rows.boot_int ha (by decide) (by decide) he rfl rfl
 rw[if_neg h1]at hf
 by_cases h1:y="bool"
 ·rw[if_pos h1]at hf;cases hf;subst h1;exact D9 Xx hg (O.bl _ (by decide)) hg2 (O.bl _ (by decide)) PyProof.Rows.boot_bool ha (by decide) (by decide) he rfl rfl
 rw[if_neg h1]at hf
 by_cases h1:y="str"
 ·rw[if_pos h1]at hf;cases hf;subst h1;exact D9 zb3 hg (O.bl _ (by decide)) hg2 (O.bl _ (by decide)) PyProof.Rows.boot_str ha (by decide) (by decide) he rfl rfl
 rw[if_neg h1]at hf
 by_cases h1:y="list"
 ·rw[if_pos h1]at hf;cases hf;subst h1;exact D9 Xy hg (O.bl _ (by decide)) hg2 (O.bl _ (by decide)) PyProof.Rows.boot_list ha (by decide) (by decide) he rfl rfl
 rw[if_neg h1]at hf
 by_cases h1:y="tuple"
 ·rw[if_pos h1]at hf;cases hf;subst h1;exact D9 Ui hg (O.bl _ (by decide)) hg2 (O.bl _ (by decide)) PyProof.Rows.boot_tuple ha (by decide) (by decide) he rfl rfl
 rw[if_neg h1]at hf;cases hf
end
noncomputable def Z3(C:SC)(n:Str)(a:Expr):Option Expr:=match a with
 |.Call (.Name y _) [e] [] _=>if decide (y=n) && decide (slot C y=none) && Ez C y && jz e then some e else none
 |_=>none
noncomputable def Qd(ev:Ev)(C:SC)(x:Str)(args:List Expr):En→Res:=match args with
 | [a] => (match Z3 C "set" a with
  |some e=>lu
  | none => (match bi1 x with
    |some f=>if jz a then g1 f (pb ev C a)else lu
    |none=>lu))
 | [a, .Name y _] => if x = "isinstance" then (match Rp y with
   |some c=>if jz a && Ez C y then g1 (cq c) (pb ev C a)else lu
   |none=>lu)else lu
 |_=>lu
noncomputable def yr(T:GT)(ev:Ev)(C:SC)(x:Str)(args:List Expr):En→Res:=match slot C x with
 | some i => (match args with
  |[]=>lu
  |e::es=>if(e::es).all jz then Os T ev C i (e::es)else lu)
 | none => if Ez C x then (match T.fns x with
  | some s => (match args with
   |[]=>if s.ms=[]then(λ_=>s.f [])else lu
   |e::es=>if(e::es).all jz then bb s.f (gAL ev C s.ms (e::es))else lu)
  |none=>Qd ev C x args)else lu
section
variable{T:GT}{ev tv:Ev}{X:Cx}{C:SC}{B:Hp}{E:XK}{pos p:Pos}{x:Str}{e a:Expr}{es:List Expr}
theorem zki(h:j2 T ev)(O:XOk X C T E)(hg:Gl X x){args:List Expr}:ji X B (ek (kx X) E) (.Call (.Name x p) args [] pos) (Qd ev C x args):=by
 unfold Qd;split
 ·rename_i a;cases hs:Z3 C "set" a with
  |some e=>
   exact gq
  |none=>
   dsimp only;cases hf:bi1 x with
   |none=>exact gq
   |some f=>
    dsimp only
    by_cases hn:jz a=true
    ·rw[if_pos hn];exact zf8 O hf hg hn (iu h O a)
    ·rw[if_neg hn];exact gq
 ·rename_i a y p2
  by_cases hx:x="isinstance"
  ·subst hx;rw[if_pos rfl];cases hf:Rp y with
   |none=>exact gq
   |some c=>
    dsimp only
    by_cases hn:(jz a && Ez C y)=true
    ·rw[if_pos hn];rw[kA4]at hn;exact zb1 O hf hg (O.gl hn.2).1 hn.1 (iu h O a)
    ·rw[if_neg hn];exact gq
  ·rw[if_neg hx];exact gq
 ·exact gq
theorem pz(h:j2 T ev)(O:XOk X C T E){args:List Expr}:ji X B (ek (kx X) E) (.Call (.Name x p) args [] pos) (yr T ev C x args):=by
 unfold yr;cases hs:slot C x with
 |some i=>
  cases args with
  |nil=>exact gq
  |cons e es=>
   dsimp only
   by_cases hn:(e::es).all jz=true
   ·rw[if_pos hn];exact Wf h O hs hn
   ·rw[if_neg hn];exact gq
 |none=>
  dsimp only
  by_cases hg:Ez C x=true
  ·rw[if_pos hg];obtain⟨g1,g2⟩:=O.gl hg;cases ef:T.fns x with
   |none=>exact zki h O g1
   |some s=>
    obtain⟨k,f,fd,ps,hr,hm,hk,hb,F⟩:=O.fns x s ef;cases args with
    |nil=>
     dsimp only
     by_cases hms:s.ms=[]
     ·rw[if_pos hms];rw[hms]at F;exact Ze F hr g1 hm hk hb O.goes g2
     ·rw[if_neg hms];exact gq
    |cons e es=>
     dsimp only
     by_cases hn:(e::es).all jz=true
     ·rw[if_pos hn];have hn':=hn;rw[kAm,kA4]at hn';exact zdc F hr g1 hm hk hb O.goes (Ck h O hn) g2 (cj hn'.1) (rn hn'.2)
     ·rw[if_neg hn];exact gq
  ·rw[if_neg hg];exact gq
end
noncomputable def zkw:Expr→Option (Arguments×Expr×Scope×Pos)
 |.Lambda a b c p=>some (a,b,c,p)
 |_=>none
noncomputable def zbt:Expr→Option Int
 |.Constant (.int i) _ _=>some i
 |_=>none
theorem zbu{e:Expr}{i:Int}(h:zbt e=some i):∃kd cp,e=.Constant (.int i) kd cp:=by
 unfold zbt at h;split at h
 ·cases h;exact⟨_,_,rfl⟩
 ·cases h
noncomputable def Cf(T:GT)(ev:Ev)(C:SC)(x:Str)(args:List Expr)(kw:Keyword):En→Res:=match args with
 | [e] => (match zkw kw.value with
  |some _=>lu
  | none => (match zbt kw.value with
   |some c=>if decide (x="max") && Ez C x && decide (kw.arg=some "default") && jz e then g1 (xh c) (pb ev C e)else lu
   |none=>lu))
 |_=>lu
theorem zg2{T:GT}{ev:Ev}{X:Cx}{C:SC}{B:Hp}{E:XK}{pos p:Pos}{x:Str}{args:List Expr}{kw:Keyword}(h:j2 T ev)(O:XOk X C T E):ji X B (ek (kx X) E) (.Call (.Name x p) args [kw] pos) (Cf T ev C x args kw):=by
 unfold Cf;split
 ·rename_i e;cases hl:zkw kw.value with
  |none=>
   dsimp only;cases hi:zbt kw.value with
   |none=>exact gq
   |some c=>
    dsimp only
    by_cases hc:(decide (x="max") && Ez C x && decide (kw.arg=some "default") && jz e)=true
    ·rw[if_pos hc];simp only[kA4,decide_eq_true_eq]at hc;obtain⟨⟨⟨rfl,h2⟩,h3⟩,h4⟩:=hc;obtain⟨ka,kv,kp⟩:=kw;dsimp only at hi h3;subst h3;obtain⟨kd,cp,rfl⟩:=zbu hi;exact zdh O.calm (iu h O e) (O.gl h2).1 (O.bl _ (by decide)) h4
    ·rw[if_neg hc];exact gq
  |some q=>exact gq
 ·exact gq
noncomputable def vm(C:SC)(x:Str):Bool:=decide (x="range") && decide (slot C x=none) && Ez C x
noncomputable def Ki(ev:Ev)(C:SC)(iter:Expr):En→ResL:=match iter with
 |.Call (.Name x _) [a] [] _=>if vm C x && jz a then j7 (gAL ev C [true] [a])else de (pb ev C iter)
 |_=>de (pb ev C iter)
noncomputable def zbr(ev:Ev)(C:SC)(e:Expr):En→Res:=match e with
 | .Name x _ => (match slot C x with
  |some i=>Bp i
  |none=>ev C e)
 |_=>ev C e
noncomputable def Z8(ev:Ev)(C:SC)(iter:Expr):En→ResL:=match iter with
 |.Call (.Name x _) [a] [] _=>if vm C x && jz a then j7 (gAL ev C [true] [a])else de (zbr ev C iter)
 |_=>de (zbr ev C iter)
section
variable{T:GT}{ev tv:Ev}{X:Cx}{C:SC}{B:Hp}{E:XK}{pos p:Pos}{x:Str}{e a tg:Expr}{es:List Expr}
theorem Wa(h:j2 T ev)(O:XOk X C T E)(e:Expr):BoE X B (ek (kx X) E) e (zbr ev C e):=by
 have d:BoE X B (ek (kx X) E) e (ev C e):=zkj (h X C B E e O);cases e with
 |Name x p=>
  show BoE X B _ _ (match slot C x with
   |some i=>Bp i
   |none=>ev C (.Name x p))
  cases es:slot C x with
  |none=>exact d
  |some i=>exact zgb i (O.var es)
 |_=>exact d
theorem Nb(O:XOk X C T E){x:Str}(h:vm C x=true):x="range"∧Gl X "range"∧X.mg "range"=none:=by
 unfold vm at h;simp only[kA4,decide_eq_true_eq]at h;obtain⟨⟨h1,h2⟩,h3⟩:=h;subst h1;exact⟨rfl,(O.gl h3).1,O.bl _ (by decide)⟩
theorem zou(h:j2 T ev)(O:XOk X C T E)(e:Expr):PuI X B (ek (kx X) E) tg e (Z8 ev C e):=by
 unfold Z8;split
 ·rename_i x _ a _
  by_cases hc:(vm C x && jz a)=true
  ·rw[if_pos hc];rw[kA4]at hc;obtain⟨rfl,g1,g2⟩:=Nb O hc.1;exact Sf g1 g2 (Ck h O (by rw[kAm,hc.2];rfl)) (cj hc.2)
  ·rw[if_neg hc];exact Y1 (Wa h O _)
 ·exact Y1 (Wa h O _)
noncomputable def Ir(C:SC)(tg iter:Expr):Option Expr:=match tg,iter with
 |.Tuple _ _ _,.Call (.Name y _) [e] [] _=>if decide (y="enumerate") && decide (slot C y=none) && Ez C y && jz e then some e else none
 |_,_=>none
noncomputable def Qv(C:SC)(tg iter:Expr):Option (Expr×Expr):=match tg,iter with
 |.Tuple _ _ _,.Call (.Name y _) [a,b] [] _=>if decide (y="zip") && decide (slot C y=none) && Ez C y && jz a && jz b then some (a,b)else none
 |_,_=>none
noncomputable def Eo(ev:Ev)(C:SC)(tg iter:Expr):En→ResL:=match Ir C tg iter with
 |some e=>ur (zbr ev C e)
 | none => (match Qv C tg iter with
  |some p=>Ov (ae (pb ev C p.1) (ae (pb ev C p.2) bc))
  |none=>Z8 ev C iter)
theorem ze7(h:j2 T ev)(O:XOk X C T E)(e:Expr):PuI X B (ek (kx X) E) tg e (Eo ev C tg e):=by
 unfold Eo;cases he:Ir C tg e with
 |none=>
  dsimp only;cases hz:Qv C tg e with
  |none=>exact zou h O e
  |some p=>
   obtain⟨a,b⟩:=p;dsimp only;unfold Qv at hz;split at hz
   ·rename_i y p a' b' pos;split at hz
    ·rename_i c;cases hz;simp only[kA4,decide_eq_true_eq]at c;obtain⟨⟨⟨⟨rfl,_⟩,h3⟩,h4⟩,h5⟩:=c;exact zh2 (O.gl h3).1 (O.bl _ (by decide)) (iu h O a) (iu h O b) h4 h5
    ·cases hz
   ·cases hz
 |some a=>
  dsimp only;unfold Ir at he;split at he
  ·rename_i y p a' pos;split at he
   ·rename_i c;cases he;simp only[kA4,decide_eq_true_eq]at c;obtain⟨⟨⟨rfl,_⟩,h3⟩,h4⟩:=c;exact zc0 (O.gl h3).1 (O.bl _ (by decide)) (Wa h O a) (cj h4)
   ·cases he
  ·cases he
theorem ze6(h:j2 T ev)(O:XOk X C T E)(e:Expr):Tg X B (ek (kx X) E) tg e (Ki ev C e):=by
 unfold Ki;split
 ·rename_i x _ a _
  by_cases hc:(vm C x && jz a)=true
  ·rw[if_pos hc];rw[kA4]at hc;obtain⟨rfl,g1,g2⟩:=Nb O hc.1;exact Y2 (Sf g1 g2 (Ck h O (by rw[kAm,hc.2];rfl)) (cj hc.2))
  ·rw[if_neg hc];exact Si (iu h O _)
 ·exact Si (iu h O _)
end
noncomputable def Sz(ev:Ev)(C:SC)(o:Expr)(m:Str)(args:List Expr):En→Res:=match args with
 |[a]=>if Ab o && jz a then(if m="index" then gM qc (pb ev C o) (pb ev C a)else lu)else lu
 |[a,b]=>if Ab o && jz a && jz b then(if m="get" then p7 (pb ev C o) (pb ev C a) (ev C b)else lu)else lu
 |_=>lu
theorem zo0{T:GT}{ev:Ev}{X:Cx}{C:SC}{B:Hp}{E:XK}(h:j2 T ev)(O:XOk X C T E){o:Expr}{m:Str}{ap cp:Pos}{args:List Expr}(hl:(ap.endLine==cp.line)=true):ji X B (ek (kx X) E) (.Call (.Attribute o m ap) args [] cp) (Sz ev C o m args):=by
 unfold Sz;split
 ·rename_i a
  by_cases hc:(Ab o && jz a)=true
  ·rw[if_pos hc];rw[kA4]at hc
   by_cases hm:m="index"
   ·subst hm;rw[if_pos rfl];exact Zh O.units (iu h O o) (iu h O a) hc.1 hc.2 hl
   ·rw[if_neg hm];exact gq
  ·rw[if_neg hc];exact gq
 ·rename_i a b
  by_cases hc:(Ab o && jz a && jz b)=true
  ·rw[if_pos hc];rw[kA4,kA4]at hc;obtain⟨⟨h1,h2⟩,h3⟩:=hc
   by_cases hm:m="get"
   ·subst hm;rw[if_pos rfl];have hu:X.A.units+5<cLine:=by have:=O.units;omega
    exact zde hu (iu h O o) (iu h O a) (h X C B E b O) ⟨A3 h1,by rw[vc (by rw[kAm,kAm,h2,h3];rfl)];rfl,hl,Nj h2 h3⟩
   ·rw[if_neg hm];exact gq
  ·rw[if_neg hc];exact gq
 ·exact gq
noncomputable def o5(ev tv:Ev)(C:SC)(elt:Expr)(gens:List Comprehension)(scope:Scope):En→Res:=match gens with
 | [⟨.Name x _, iter, ifs, 0⟩] => if uo C scope [x] && nq iter then (match slots C (jg scope.names) with
  | some ix => (match ifs with
   |[]=>gz (Ki ev C iter) ix (gC (.bl true)) (ev (so C scope [x]) elt)
   |[c]=>gz (Ki ev C iter) ix (tv (so C scope [x]) c) (ev (so C scope [x]) elt)
   |_=>lu)
  |none=>lu)else lu
 | [⟨.Tuple [.Name x px, .Name y py] k tp, iter, [], 0⟩] => if uo C scope [x, y] && nq iter then (match slots C (jg scope.names) with
  |some ix=>oq (Eo ev C (.Tuple [.Name x px,.Name y py] k tp) iter) (Bb ix (ev (so C scope [x,y]) elt))
  |none=>lu)else lu
 |_=>lu
inductive CompV(X:Cx)(B:Hp)(E:EK)(elt:Expr)(gens:List Comprehension)(scope:Scope)(G:En→Res):Prop
 |st (h:G=lu)
 |ok {tg iter:Expr} {ifs:List Expr} {xs M:List Str} {ix:List Nat} {td:D→Option (List D)} {t g:En→Res} {r:En→ResL} {f:En→D→Option (Option D)} (eg:gens=[⟨tg,iter,ifs,0⟩]) (eG:G=oq r f)
  (st:X.Ok→∃cl,CompOk X scope cl xs M ix∧BlockOk X B E scope cl xs M tg td elt ifs t g) (hF:∀δ,F9 td (om ix δ) t g (f δ)) (hi:Tg X B E tg iter r) (hs:∀x,foldedSetIterable iter X.env x=pure x)
section
variable{T:GT}{ev tv:Ev}{X:Cx}{C:SC}{B:Hp}{E:XK}{pos p:Pos}{elt:Expr}
theorem zez(h:j2 T ev)(ht:E4 T tv)(O:XOk X C T E){gens:List Comprehension}{scope:Scope}:CompV X B (ek (kx X) E) elt gens scope (o5 ev tv C elt gens scope):=by
 unfold o5;split
 ·rename_i x px iter ifs
  by_cases hc:(uo C scope [x] && nq iter)=true
  ·rw[if_pos hc];rw[kA4]at hc;obtain⟨hc,hset⟩:=hc;cases hx:slots C (jg scope.names)with
   |none=>exact .st rfl
   |some ix=>
    dsimp only;cases ifs with
    |nil=>
     refine .ok (tg:=.Name x px) (td:=td1) (ifs:=[]) (xs:=[x]) (M:=jg scope.names) (ix:=ix) (t:=gC (.bl true)) (g:=ev (so C scope [x]) elt) rfl rfl (λok=>?_) (λδ=>zao) (ze6 h O iter) (s9 hset);obtain⟨cl,O2⟩:=uq O ok hc hx;exact⟨cl,O2,S4 O2,.inl ⟨rfl,rfl⟩,λCc s₀ H₀ ex pn=>h _ _ B E0 elt (xu O hc Cc s₀ H₀ ex pn)⟩
    |cons c r=>
     cases r with
     |nil=>
      refine .ok (tg:=.Name x px) (td:=td1) (ifs:=[c]) (xs:=[x]) (M:=jg scope.names) (ix:=ix) (t:=tv (so C scope [x]) c) (g:=ev (so C scope [x]) elt) rfl rfl (λok=>?_) (λδ=>zao) (ze6 h O iter) (s9 hset);obtain⟨cl,O2⟩:=uq O ok hc hx;exact⟨cl,O2,S4 O2,.inr ⟨c,rfl,λCc s₀ H₀ ex pn=>ht _ _ B E0 c (xu O hc Cc s₀ H₀ ex pn)⟩,λCc s₀ H₀ ex pn=>h _ _ B E0 elt (xu O hc Cc s₀ H₀ ex pn)⟩
     |cons _ _=>exact .st rfl
  ·rw[if_neg hc];exact .st rfl
 ·rename_i x px y py k tp iter
  by_cases hc:(uo C scope [x,y] && nq iter)=true
  ·rw[if_pos hc];rw[kA4]at hc;obtain⟨hc,hset⟩:=hc;cases hx:slots C (jg scope.names)with
   |none=>exact .st rfl
   |some ix=>
    dsimp only;refine .ok (tg:=.Tuple [.Name x px,.Name y py] k tp) (td:=td2) (ifs:=[]) (xs:=[x,y]) (M:=jg scope.names) (ix:=ix) (t:=gC (.bl true)) (g:=ev (so C scope [x,y]) elt) rfl rfl (λok=>?_) (λδ=>zjk) (Y2 (ze7 h O iter)) (s9 hset);obtain⟨cl,O2⟩:=uq O ok hc hx;exact⟨cl,O2,zai O2 O.calm,.inl ⟨rfl,rfl⟩,λCc s₀ H₀ ex pn=>h _ _ B E0 elt (xu O hc Cc s₀ H₀ ex pn)⟩
  ·rw[if_neg hc];exact .st rfl
 ·exact .st rfl
theorem Cv(h:j2 T ev)(ht:E4 T tv)(O:XOk X C T E){gens:List Comprehension}{scope:Scope}:OwE X B (ek (kx X) E) (.ListComp elt gens scope pos) (o5 ev tv C elt gens scope)∧IsL (o5 ev tv C elt gens scope):=by
 cases zez (B:=B) (elt:=elt) (gens:=gens) (scope:=scope) h ht O with
 |st e=>rw[e];exact⟨zlf,λδ d h=>by cases h⟩
 |ok eg eG st hF hi hs=>
  rw[eG];subst eg;refine⟨λpins s σ H Q I q=>?_,Ub⟩;obtain⟨cl,O2,Bk⟩:=st I.ok;exact zcu O2 O.calm Bk hF hi hs pins s σ H Q I q
end
end Pu
end
section
namespace Pu
open PySem PySem.Spec PyProof.Rows L2 HT
section
variable{prog:Program}{w:World}{A:Around}{E:Value→Shared→Prop}{s:Shared}
theorem Fm{t sl:Addr}{items:Array Value}{vl vu:Value}{lo hi:Option Int}{Q:Value→Shared→Prop}(ht:IsTup s.heap t items)(hs:s.heap.IsSliceOf sl vl vu .none)(pl:IsPart vl lo)(pu:IsPart vu hi)
  (hw:HT.ko items.size 0 lo=0∧HT.ko items.size items.size hi=items.size)(h:Q (.ref t) s):wpAny (model prog w) A (getItem (.ref t) (.ref sl)) Q E s:=by
 obtain⟨os,hos,hcs,hds⟩:=id hs;have hTs:s.TypeIs (.ref sl) "slice":=⟨os,hos,hcs⟩;unfold getItem
 try with_reducible refine wpAny_holding ?_
 first|refine wpAny_bind (wpAny_pure ?_)|skip
 refine wpAny_bind (wpAny_sequenceKey ht.typeIs (by decide) ?_);refine wpAny_bind (wpAny_callSpecial?_slot (name:=Str.ofString "__getitem__") ht.typeIs PyProof.Rows.slot_tuple_getitem (wpAny_call_entry PyProof.Rows.slot_tuple_getitem ht.typeIs entry_tuple_getitem ?_ (args_tuple_getitem _ _)));show wpAny _ _ (Builtin.Tuple.tupleItemsOf (.ref t)>>=_) _ _ s;refine wpAny_bind (tupleItemsOf_ ht ?_);refine wpAny_bind (wpAny_typeOf hTs ?_);rw[if_pos (by decide)];refine wpAny_bind (HT.rm hs pl pu ?_);show wpAny _ _ (if(((HT.ko items.size 0 lo:Nat):Int)==0 && (1:Int)==1 && (HT.ko items.size items.size hi - HT.ko items.size 0 lo)==items.size)=true then _ else _) _ _ s;rw[if_pos (by rw[hw.1,hw.2];simp)];unfold Builtin.Tuple.tupleIsExact;refine wpAny_bind (wpAny_bind (wpAny_typeOf ht.typeIs (wpAny_pure ?_)));rw[if_pos (by decide)];exact wpAny_bind (wpAny_rule (wpAny_pure ⟨_,rfl,wpAny_pure h⟩))
end
section
variable{X:Cx}
noncomputable def zo7(K:PySem.W.Frag):V→Option Int→Option Int→Hp→VK→Prop:=λx lo hi H Q=>∃a xs,x=.ref a∧SqT K H a xs∧(HT.ko xs.length 0 lo=0∧HT.ko xs.length xs.length hi=xs.length)∧Q (.ref a) H
theorem Z5:SlR X (zo7 X.K):=by
 intro pins s σ H x v vl vu lo hi sl Q I rx hs pl pu h;obtain⟨a,xs,rfl,hx,hw,q⟩:=h;cases rx;obtain⟨its,r,ht,hz⟩:=I.tuple hx;have hlen:its.toArray.size=xs.length:=by rw[kAh];exact r.length.symm
 exact⟨"tuple",_,PyProof.Rows.slot_tuple_getitem.lookup,ht.typeIs,Fm ht hs pl pu (by rw[hlen];exact hw) ⟨.ref a,H,I,rfl,q⟩⟩
end
end Pu
end
section
namespace Pu
open PySem PySem.Spec PyProof.Rows L2
noncomputable def Fh(xs:List D)(lo hi:Option Int):List D:=(xs.drop (HT.ko xs.length 0 lo)).take (HT.ko xs.length xs.length hi - HT.ko xs.length 0 lo)
noncomputable def vy(d:D)(lo hi:Option Int):Option D:=match d with
 |.lst xs=>some (.lst (Fh xs lo hi))
 |.tup xs=>some (.tup (Fh xs lo hi))
 |_=>none
noncomputable def Lr(ev:Ev)(C:SC)(o:Option Expr)(δ:En):Option (Option Int):=match o with
 |none=>some none
 | some e => (match ev C e δ with
  |.ok (.int i)=>some (some i)
  |_=>none)
noncomputable def gPt(o:Option (En→Res))(δ:En):Option (Option Int):=match o with
 |none=>some none
 | some g => (match g δ with
  |.ok (.int i)=>some (some i)
  |_=>none)
noncomputable def Br(g:En→Res)(lo hi:Option (En→Res)):En→Res:=λδ=>(g δ).bind λd=>match gPt lo δ,gPt hi δ with
 |some l,some h=>Res.of (vy d l h)
 |_,_=>.st
noncomputable def Ot(ev:Ev)(C:SC)(a:Expr)(lo hi:Option Expr):En→Res:=Br (pb ev C a) (lo.map (ev C)) (hi.map (ev C))
theorem Xc{ev:Ev}{C:SC}{o:Option Expr}{δ:En}:gPt (o.map (ev C)) δ=Lr ev C o δ:=by cases o<;>rfl
theorem DenL.cut{K:KA}{G:Hp}{ds:List D}{vs:List V}(dl:DenL K G ds vs)(lo hi:Option Int):DenL K G (Fh ds lo hi) (Bi vs lo hi):=by
 unfold Fh Bi;rw[dl.length];exact(dl.drop _).take _
section
variable{T:GT}{ev tv:Ev}{X:Cx}{C:SC}{B:Hp}{E:XK}{pos p:Pos}{a:Expr}
theorem Sa(h:j2 T ev)(O:XOk X C T E){o:Option Expr}:∃t:TO,PO X o t∧∀G δ σ H l (Q:Option Int→Hp→Prop),EnvR (kx X) B G H σ δ→Lr ev C o δ=some l→(∀G' H',Ext G H G' H'→Q l H')→t σ H Q:=by
 cases o with
 |none=>
  refine⟨_,zc1,λG δ σ H l Q R e q=>?_⟩;cases e;exact q G H (Ext.refl R.gh)
 |some e=>
  refine⟨_,zc2 (h X C B E0 e O.none),λG δ σ H l Q R ee q=>?_⟩;unfold Lr at ee;dsimp only at ee;cases eg:ev C e δ with
  |ok d=>
   rw[eg]at ee;cases d with
   |int i=>
    cases ee;refine⟨G,δ,R,?_⟩;rw[eg];exact λv G' H' x dn=>⟨i,dn,q G' H' x⟩
   |_=>cases ee
  |er c=>rw[eg]at ee;cases ee
  |st=>rw[eg]at ee;cases ee
theorem Z6(h:j2 T ev)(O:XOk X C T E){lo hi:Option Expr}{p2:Pos}:ji X B (ek (kx X) E) (.Subscript a (.Slice lo hi none p2) pos) (Ot ev C a lo hi):=by
 obtain⟨tl,hl,ql⟩:=Sa (B:=B) h O (o:=lo);obtain⟨th,hh,qh⟩:=Sa (B:=B) h O (o:=hi);refine PE.imp (Yx (SlR.or zd1 (SlR.or zi8 Z5)) (iu (B:=B) (E:=E) h O a) hl hh) λσ H Q ⟨G,δ,R,q⟩=>⟨G,δ,R,(ResP.bind q).mono λd _ q v G1 H1 e1 av=>?_⟩;rw[Xc,Xc]at q;cases el:Lr ev C lo δ with
 |none=>rw[el]at q;exact q.elim
 |some l=>
  cases eh:Lr ev C hi δ with
  |none=>rw[el,eh]at q;exact q.elim
  |some hh=>
   rw[el,eh]at q;obtain⟨d',ed,q⟩:=ResP.of q;refine ql G1 δ σ H1 l _ (R.ext e1) el λG2 H2 e2=>qh G2 δ σ H2 hh _ (R.ext (e1.trans e2)) eh λG3 H3 e3=>?_;have e13:=(e1.trans e2).trans e3;have av':=(av.ext e2).ext e3;unfold vy at ed;split at ed
   ·rename_i xs;cases ed;obtain⟨l',vs,rfl,sq,dl⟩:=av'.lst e3.gh;exact .inl ⟨l',vs,rfl,sq,λp hp=>q _ (upd G3 p (.lst (Bi vs l hh))) _ (e13.trans (Ext.new e3.gh _ hp)) (x8 e3.gh hp (dl.cut l hh))⟩
   ·rename_i xs;cases ed;rcases av' with ⟨l',vs,rfl,s2,dl⟩|⟨_,_,_,z,_⟩|⟨_,_,_,z,_⟩
    case inr.inl=>cases z
    case inr.inr=>cases z
    have sq:SqT (kx X) H3 l' vs:=.inl (.inl (e3.gh _ _ s2))
    by_cases hw:HT.ko vs.length 0 l=0∧HT.ko vs.length vs.length hh=vs.length
    ·have ec:Bi vs l hh=vs:=by unfold Bi;rw[hw.1,hw.2,List.drop_zero,Nat.sub_zero,List.take_length]
     have dc:=dl.cut l hh;rw[ec]at dc;exact .inr (.inr ⟨l',vs,rfl,sq,hw,q _ G3 H3 e13 ⟨l',vs,rfl,s2,dc⟩⟩)
    ·refine .inr ((.inl ⟨l',vs,rfl,sq,hw,λp hp=>q _ (upd G3 p (.tup (Bi vs l hh))) _ (e13.trans (Ext.new e3.gh _ hp)) (oo e3.gh hp (dl.cut l hh))⟩))
   ·cases ed
end
noncomputable def Kh(ev:Ev)(C:SC)(a:Expr)(op:Operator)(b:Expr):En→Res:=(match zbh op with
  |some f=>g2 f (pb ev C a) (pb ev C b)
  |none=>lu)
theorem zga{T:GT}{ev:Ev}{X:Cx}{C:SC}{B:Hp}{E:XK}{pos:Pos}(h:j2 T ev)(O:XOk X C T E){a b:Expr}{op:Operator}:ji X B (ek (kx X) E) (.BinOp a op b pos) (Kh ev C a op b):=by
 have gen:ji X B (ek (kx X) E) (.BinOp a op b pos) (match zbh op with
  |some f=>g2 f (pb ev C a) (pb ev C b)
  |none=>lu):=by
  cases hf:zbh op with
  |none=>exact gq
  |some f=>exact zib hf (iu h O a) (iu h O b)
 unfold Kh;exact gen
noncomputable def zfl(T:GT)(ev tv:Ev)(C:SC)(e:Expr):En→Res:=match e with
 | .Constant c _ _ => (match c with
  |.none=>gC .non
  |.bool b=>gC (.bl b)
  |.int i=>gC (.int i)
  |.str x=>gC (.str x)
  |_=>lu)
 |.Name x _=>Ep T C x
 |.BinOp a op b _=>Kh ev C a op b
 | .UnaryOp op a _ => (match op with
  |.Not=>i9 (ev C a)
  |_=>lu)
 | .BoolOp op vs _ => (match op with
  |.And=>Lq (ev C) vs
  |.Or=>Xb (ev C) vs)
 |.IfExp c a b _=>Ri (tv C c) (ev C a) (ev C b)
 |.Compare l ops rs _=>yt ev C l ops rs
 |.Tuple es _ _=>if es.all jz then jt (wg ev C es)else lu
 |.List es _=>if es.all jz then mv (wg ev C es)else lu
 | .Subscript a i _ => (match i with
  |.Slice lo hi none _=>Ot ev C a lo hi
  |i=>if xg i then g2 ao (pb ev C a) (pb ev C i)else lu)
 |.ListComp elt gens scope _=>o5 ev tv C elt gens scope
 | .Dict ks vs _ => (match ks, vs with
  |[],[]=>gC (.dct false [])
  |_,_=>lu)
 | .Call f args kws cp => (match f, kws with
  |.Name x _,[]=>yr T ev C x args
  |.Name x _,[kw]=>Cf T ev C x args kw
  |.Attribute o m ap,[]=>if ap.endLine==cp.line then Sz ev C o m args else lu
  |_,_=>lu)
 |_=>lu
noncomputable def g9(g:En→Res):En→Res:=g1 (λd=>bD (Ew d)) g
noncomputable def zfn(T:GT)(ev tv:Ev)(C:SC)(e:Expr):En→Res:=match e with
 | .UnaryOp op a _ => (match op with
  |.Not=>i9 (tv C a)
  |_=>g1 (λd=>bD (Ew d)) (pb ev C e))
 | .BoolOp op vs _ => (match op with
  |.And=>Lq (tv C) vs
  |.Or=>Xb (tv C) vs)
 |.Compare l ops rs _=>yt ev C l ops rs
 |e=>if J4 e then g1 (λd=>bD (Ew d)) (pb ev C e)else lu
section
variable{T:GT}{ev tv:Ev}
theorem Z7(h:j2 T ev)(ht:E4 T tv):j2 T (zfl T ev tv):=by
 intro X C B E e O;cases e with
 |Constant c k p=>
  cases c with
  |none=>exact zij
  |bool b=>exact zln
  |int i=>exact zie
  |str x=>exact zil
  |_=>exact gq
 |Name x p=>exact zcg O
 |BinOp a op b p=>
  exact zga h O
 |UnaryOp op a p=>
  cases op with
  |Not=>exact zik (h X C B E a O)
  |_=>exact gq
 |BoolOp op vs p=>
  cases op with
  |And=>exact Qy λe=>h X C B E e O
  |Or=>exact Yl λe=>h X C B E e O
 |IfExp c a b p=>exact zlp (ht X C B E c O) (h X C B E a O) (h X C B E b O)
 |Compare l ops rs p=>exact(Wm h O).1
 |Tuple es k p=>
  show ji X B _ _ (if es.all jz then jt (wg ev C es)else lu)
  by_cases hn:es.all jz=true
  ·rw[if_pos hn];exact zin xq (xw h O hn)
  ·rw[if_neg hn];exact gq
 |List es p=>
  show ji X B _ _ (if es.all jz then mv (wg ev C es)else lu)
  by_cases hn:es.all jz=true
  ·rw[if_pos hn];exact zig xq (xw h O hn)
  ·rw[if_neg hn];exact gq
 |Subscript a i p=>
  show ji X B _ _ (match i with
   |.Slice lo hi none _=>Ot ev C a lo hi
   |i=>if xg i then g2 ao (pb ev C a) (pb ev C i)else lu)
  split
  ·exact Z6 h O
  ·skip
   by_cases hp:xg i=true
   ·rw[if_pos hp];exact zlq (by have:=O.units;omega) (iu h O a) (iu h O i) (U9 hp)
   ·rw[if_neg hp];exact gq
 |Dict ks vs p=>
  cases ks with
  |nil=>
   cases vs with
   |nil=>exact zlo
   |cons _ _=>exact gq
  |cons _ _=>exact gq
 |ListComp elt gens scope p=>exact Yp (Cv h ht O).1 (Cv (X:=X) (B:=B) (E:=E) (pos:=p) h ht O).2
 |Call f args kws p=>
  show ji X B _ _ (match f,kws with
   |.Name x _,[]=>yr T ev C x args
   |.Name x _,[kw]=>Cf T ev C x args kw
   |.Attribute o m ap,[]=>if ap.endLine==p.line then Sz ev C o m args else lu
   |_,_=>lu)
  split
  ·exact pz h O
  ·exact zg2 h O
  ·rename_i o m ap
   by_cases hl:(ap.endLine==p.line)=true
   ·rw[if_pos hl];exact zo0 h O hl
   ·rw[if_neg hl];exact gq
  ·exact gq
 |_=>exact gq
theorem zab(h:j2 T ev)(ht:E4 T tv):E4 T (zfn T ev tv):=by
 intro X C B E e O;have pl:∀{e:Expr},E3 X B (ek (kx X) E) e (if J4 e then g1 (λd=>bD (Ew d)) (pb ev C e)else lu):=λ{e}=>by
  by_cases hp:J4 e=true
  ·rw[if_pos hp];exact Zc (iu h O e) (Hg hp)
  ·rw[if_neg hp];exact A5
 cases e with
 |UnaryOp op a p=>
  cases op with
  |Not=>exact zdb (ht X C B E a O)
  |_=>exact Zc (iu h O _) (Hg rfl)
 |BoolOp op vs p=>
  cases op with
  |And=>exact zll (Qz λe=>ht X C B E e O)
  |Or=>exact zll (Ym λe=>ht X C B E e O)
 |Compare l ops rs p=>exact(Wm h O).2
 |_=>exact pl
end
noncomputable def gP(T:GT):Nat→Bool→Ev
 |0,_=>λ_ _=>lu
 |n+1,false=>zfl T (gP T n false) (gP T n true)
 |n+1,true=>zfn T (gP T n false) (gP T n true)
theorem Gp(T:GT):∀n,j2 T (gP T n false)∧E4 T (gP T n true)
 |0=>⟨λ_ _ _ _ _ _=>gq,λ_ _ _ _ _ _=>A5⟩
 |n+1=>⟨Z7 (Gp T n).1 (Gp T n).2,zab (Gp T n).1 (Gp T n).2⟩
noncomputable def frz(i:Nat)(δ:En):En:=match δ[i]? with
 |some (.ow ds)=>δ.set i (.pu (.lst ds))
 |some (.od t kvs)=>δ.set i (.pu (.dct t kvs))
 |_=>δ
noncomputable def frzs(is:List Nat)(δ:En):En:=is.foldl (λδ i=>frz i δ) δ
section
variable{K:KA}{B G0 G H:Hp}{σ:St}{δ:En}
theorem SlOk.gmono{G':Hp}(e:Same G G'){s:Sl}{o:Option V}(h:SlOk K B G H s o):SlOk K B G' H s o:=by
 cases s with
 |no=>trivial
 |pu d=>obtain⟨v,h1,h2⟩:=h;exact⟨v,h1,h2.mono e⟩
 |bo d=>obtain⟨v,h1,h2⟩:=h;exact⟨v,h1,zkg e h2⟩
 |ow ds=>obtain⟨a,vs,h1,h2,h3⟩:=h;exact⟨a,vs,h1,h2,h3.mono e⟩
 |od t kvs=>
  cases t with
  |false=>obtain⟨a,vs,h1,h2,h3⟩:=h;exact⟨a,vs,h1,h2,h3.mono e⟩
  |true=>obtain⟨a,vs,h1,h2,h3⟩:=h;exact⟨a,vs,h1,h2,h3.mono e⟩
theorem Ext.frzO{a:Addr}{o:HO}(e:Ext G0 B G H)(bn:B a=none)(gn:G a=none)(h:H a=some o):Ext G0 B (upd G a o) H:=by
 refine⟨e.gg.trans (i7 gn _),e.hh,λb u q=>?_,λb u q g z=>?_⟩
 ·by_cases z:b=a
  ·subst z;rw[d8]at q;rw[h];exact q
  ·rw[bu z]at q;exact e.gh b u q
 ·rw[bu (d9 q bn)];exact e.fr b u q g z
theorem EnvR.frzAt(R:EnvR K B G H σ δ){i:Nat}{s:Sl}{a:Addr}{o:HO}{d:D}(hi:δ[i]?=some s)(ho:s.own=true)(hs:σ[i]?=some (some (V.ref a)))(ha:H a=some o)(hd:Den K (upd G a o) d (.ref a)):
  EnvR K B (upd G a o) H σ (δ.set i (.pu d)):=by
 obtain⟨gn,bn⟩:=R.own i s a hi ho hs;have hl:i<δ.length:=(kAq.mp hi).1;have sm:Same G (upd G a o):=i7 gn _;refine⟨R.bh,λb u q=>?_,by rw[kAo];exact R.len,λj t q=>?_,λj t b q1 q2 q3=>?_,λj k t u b q1 q2 q3 q4 q5 q6=>?_,R.gb⟩
 ·by_cases z:b=a
  ·subst z;rw[d8]at q;rw[ha];exact q
  ·rw[bu z]at q;exact R.gh b u q
 ·by_cases z:i=j
  ·subst z;rw[kAg hl]at q;cases q;exact⟨_,hs,_,rfl,hd⟩
  ·rw[kAe z]at q;obtain⟨o',z1,z2⟩:=R.sl j t q;exact⟨o',z1,z2.gmono sm⟩
 ·by_cases z:i=j
  ·subst z;rw[kAg hl]at q1;cases q1;cases q2
  ·rw[kAe z]at q1;obtain⟨g,b'⟩:=R.own j t b q1 q2 q3;refine⟨?_,b'⟩;have nb:b≠a:=by
    rintro rfl
    exact z (R.dis i j _ _ b hi q1 ho q2 hs q3)
   rw[bu nb];exact g
 ·have hj:i≠j:=by
   rintro rfl
   rw[kAg hl]at q1;cases q1;cases q3
  have hk:i≠k:=by
   rintro rfl
   rw[kAg hl]at q2;cases q2;cases q4
  rw[kAe hj]at q1;rw[kAe hk]at q2;exact R.dis j k t u b q1 q2 q3 q4 q5 q6
theorem EnvR.frz(R:EnvR K B G H σ δ)(e:Ext G0 B G H)(i:Nat):∃G',Same G G'∧EnvR K B G' H σ (frz i δ)∧Ext G0 B G' H:=by
 unfold Pu.frz;cases ed:δ[i]? with
 |none=>exact⟨G,Same.refl G,R,e⟩
 |some s=>
  cases s with
  |ow ds=>
   obtain⟨a,vs,q1,q2,q3,gn,bn⟩:=R.owAt ed;exact⟨_,i7 gn _,R.frzAt ed rfl q1 q2 ⟨a,vs,rfl,SqL.of d8,q3.mono (i7 gn _)⟩,e.frzO bn gn q2⟩
  |od t kvs=>
   obtain⟨o,q1,q2⟩:=R.sl i _ ed;cases t with
   |false=>
    obtain⟨a,es,rfl,q3,q4⟩:=q2;obtain⟨gn,bn⟩:=R.own i _ a ed rfl q1;exact⟨_,i7 gn _,R.frzAt ed rfl q1 q3 ⟨a,rfl,.inl ⟨rfl,es,d8,q4.mono (i7 gn _)⟩⟩,e.frzO bn gn q3⟩
   |true=>
    obtain⟨a,es,rfl,q3,q4⟩:=q2;obtain⟨gn,bn⟩:=R.own i _ a ed rfl q1;exact⟨_,i7 gn _,R.frzAt ed rfl q1 q3 ⟨a,rfl,.inr ⟨rfl,es,d8,q4.mono (i7 gn _)⟩⟩,e.frzO bn gn q3⟩
  |no=>exact⟨G,Same.refl G,R,e⟩
  |pu _=>exact⟨G,Same.refl G,R,e⟩
  |bo _=>exact⟨G,Same.refl G,R,e⟩
theorem EnvR.frzs:∀(is:List Nat){G:Hp}{δ:En},EnvR K B G H σ δ→Ext G0 B G H→∃G',Same G G'∧EnvR K B G' H σ (frzs is δ)∧Ext G0 B G' H
 |[],G,δ,R,e=>⟨G,Same.refl G,R,e⟩
 |i::is,G,δ,R,e=>by
  obtain⟨G1,s1,R1,e1⟩:=R.frz e i;obtain⟨G2,s2,R2,e2⟩:=EnvR.frzs is R1 e1;exact⟨G2,s1.trans s2,R2,e2⟩
end
section
variable{X:Cx}{G0 B:Hp}{E:EK}{st:Stmt}{F:En→Out}
theorem zma(is:List Nat)(h:qo X G0 B E st F):qo X G0 B E st (λδ=>F (frzs is δ)):=PS.imp h λD σ H ⟨G,δ,R,e,q⟩=>by
 obtain⟨G',s,R',e'⟩:=EnvR.frzs is R e;exact⟨G',_,R',e',OutP.same s q⟩
end
section
variable{X:Cx}{G0 B:Hp}{E:EK}{scope:Scope}{cl:List (Str×Addr)}{xs:List Str}{y:Str}{M:List Str}{ix:List Nat}{elt iter tg:Expr}{ifs:List Expr}{pos pos' lpos:Pos}{r:En→ResL}{t g:En→Res}{i:Nat}{td:D→Option (List D)}{f:En→D→Option (Option D)}
theorem zi1(O:CompOk X scope cl xs M ix)(hc:X.calm=true)(Bk:BlockOk X B E scope cl xs M tg td elt ifs t g)(hF:∀δ,F9 td (om ix δ) t g (f δ))(hi:Tg X B E tg iter r)(hN:X.N.Nodup)(hy:X.N[i]?=some y)(hl:L2.Loc X.env.scope y)(hf:X.fn y=true)
  (hs:∀x,foldedSetIterable iter X.env x=pure x)(hsw:swapsWith (.ListComp elt [⟨tg,iter,ifs,0⟩] scope lpos) (some (.Name y pos')) pos.line X.env=pure true):
  qo X G0 B E (.Assign [.Name y pos'] (.ListComp elt [⟨tg,iter,ifs,0⟩] scope lpos) pos) (qg i (oq r f)):=by
 intro pins s σ H D I ⟨G,δ,R,ex,q⟩;have q:=o7 ex q;rw[exec_Assign_Name_used _ _ _ _ hsw,arm_evalThenUse_ListComp];refine wpAny_bind (wpAny_standAt ?_);refine wpAny_bind (wpAny_bind ?_);refine wpAny_comprehension_free (use:=some (assign (.Name y pos') X.env)) (Q:=λ_ s'=>wpAny (model X.prog X.w) X.A (pure PUnit.unit:Sem PUnit) (λ_ s'=>wpAny (model X.prog X.w) X.A (pure Flow.next:Sem Flow) (SP X pins D) X.xe s') X.xe s') rfl hs (we O.clos) O.kind O.names ?_;refine wpAny_mono (hi pins s σ H (λJ H1=>∃G1 ds ys,Ext G H G1 H1∧Bf (kx X) J ds (λG2 H2=>Ext G1 H1 G2 H2)∧ds.length≤sizeLine∧lz (f δ) ds=some ys∧OutP (kx X) G0 B E G (.nx (δ.set i (.ow ys))) D) I
  ⟨G,δ,R,(zey q).mono λds _ ⟨hl,ys,ey,q⟩ J G1 H1 e1 ok=>⟨G1,ds,ys,e1,ok,hl,ey,q⟩⟩) (λv s1 h1=>wpAny_mono h1 (λitv s2 h2=>?_) λ_ _ e=>e) λ_ _ e=>e
 obtain⟨it,fp,tn,J,H1,rfl,I1,T,st,hfp,G1,ds,ys,e1,ok,hl',ey,q⟩:=h2;refine La (RR:=λacc C=>compPost (model X.prog X.w) X.A X.xe (some (assign (.Name y pos') X.env)) (λ_ s'=>wpAny (model X.prog X.w) X.A (pure PUnit.unit:Sem PUnit) (λ_ s'=>wpAny (model X.prog X.w) X.A (pure Flow.next:Sem Flow) (SP X pins D) X.xe s') X.xe s') acc C) O hc Bk I1 T st hfp (R.ext e1) ok hl' (hF δ) ey ?_;intro s3 H3 G3 vs m I3 hm hC e3 g3 h3 dl;have hsz:s2.heap.objs.size≤s2.heap.objs.size+1:=Nat.le_succ _;have ltL:X.env.locals<s2.heap.objs.size:=I1.lt;have ltc:∀y c,X.env.cells.lookup y=some c→c<s2.heap.objs.size:=λy c e=>by
  obtain⟨v',q'⟩:=I1.cell y c e;exact q'.lt
 refine wpAny_assign_Name (Hk (v:=.ref s2.heap.objs.size) I3 hN hy hl rfl (λs4 I4 ⟨a,hsb,ha⟩=>?_) (.inl hf));have la:a<s2.heap.objs.size:=by
  rcases ha with z|z
  ·rw[z];exact ltL
  ·exact ltc _ _ z
 have na:s2.heap.objs.size+1≠a:=(vw la).symm;refine⟨m,hm.sameBut hsb na,λh' hs'=>wpAny_pure (wpAny_pure ⟨σ.set i (some (V.ref s2.heap.objs.size)),H3,?_,?_⟩)⟩
 ·refine I4.turned (t':=s4.toks) (it:=s2.heap.objs.size+1) (λb o hb e=>hs'.extBut b o hb e) hC ?_ (.inr (kAk I1.sz hsz)) ?_ ?_
  ·exact(vw ltL).symm
  ·intro z c hc';exact vw (ltc z c hc')
  ·intro p hp z;exact absurd (kAp (Heap.lt_size (I1.pin p hp).1) (kAk hsz (Nat.le_of_eq z.symm))) (kAu _)
 ·exact q _ G3 H3 (e1.trans e3).gg (R.setO (e1.trans e3) (ik e1.hh (I1.hok.fresh (kA1 _))) g3 h3 dl) (ex.trans (e1.trans e3))
end
noncomputable def nh(c:En→Res)(F:En→Out):Nat→En→Out
 |0,_=>.st
 |n+1,δ=>(c δ).then λd=>match d with
  | .bl true => (match F δ with
   |.nx δ'=>nh c F n δ'
   |.ct δ'=>nh c F n δ'
   |.bk δ'=>.nx δ'
   |o=>o)
  |.bl false=>.nx δ
  |_=>.st
noncomputable def zfv:Nat:=1000000
noncomputable def sWh(c:En→Res)(F:En→Out):En→Out:=nh c F zfv
section
variable{X:Cx}{G0 B:Hp}{E:EK}{c:Expr}{ss:List Stmt}{g:En→Res}{F:En→Out}{pos:Pos}
theorem zdz(hp:PassesOwn (model X.prog X.w) X.A X.env X.xe)(hc:E3 X B E c g)(hb:xo X G0 B E ss F):qo X G0 B E (.While c ss [] pos) (sWh g F):=
 PS.imp (Y9 hp hc hb) λD σ H ⟨G,δ,R,e,q⟩=>by
  refine⟨λm σ H=>∃G δ,EnvR (kx X) B G H σ δ∧Ext G0 B G H∧OutP (kx X) G0 B E G (nh g F m δ) D,⟨zfv,G,δ,R,e,q⟩,λm σ H ⟨G,δ,R,e,q⟩=>⟨G,δ,R,?_⟩⟩;cases m with
  |zero=>exact q.elim
  |succ m=>
   refine(o7 e q).mono λd _ q=>?_;cases d with
   |bl b=>
    refine⟨b,rfl,λG1 H1 e1=>?_⟩;cases b with
    |false=>
     rw[if_neg kAz];exact q σ G1 H1 e1.gg (R.ext e1) (e.trans e1)
    |true=>
     rw[if_pos rfl];refine⟨λσ' H'=>∃m',m'<m+1∧∃G δ,EnvR (kx X) B G H' σ' δ∧Ext G0 B G H'∧OutP (kx X) G0 B E G (nh g F m' δ) D,λσ' H' z=>z,G1,δ,R.ext e1,e.trans e1,?_⟩;dsimp only at q;cases ef:F δ with
     |nx δ'=>
      rw[ef]at q;exact λσ' G' H' s R' e'=>⟨m,Nat.lt_succ_self m,G',δ',R',e',OutP.same (e1.gg.trans s) q⟩
     |ct δ'=>
      rw[ef]at q;exact λσ' G' H' s R' e'=>⟨m,Nat.lt_succ_self m,G',δ',R',e',OutP.same (e1.gg.trans s) q⟩
     |bk δ'=>
      rw[ef]at q;exact λσ' G' H' s R' e'=>q σ' G' H' (e1.gg.trans s) R' e'
     |rt d=>rw[ef]at q;exact q
     |er c=>rw[ef]at q;exact q
     |st=>rw[ef]at q;exact q
   |_=>exact q.elim
end
structure SOk(X:Cx)(C:SC)(T:GT)(E:XK):Prop extends XOk X C T E where
 fn:∀x,x∉vo→X.fn x=true
 pass:PassesOwn (model X.prog X.w) X.A X.env X.xe
 stk:X.stack=X.env::X.outer
 frm:X.env.frame=some X.env.locals
 ex0:X.ex=[]
noncomputable def nj(C:SC)(x:Str):Option Nat:=if Lu C.sc x && qu x && decide (x∉vo)then Xt x C.N 0 else none
theorem uy{C:SC}{x:Str}{i:Nat}(h:nj C x=some i):C.N[i]?=some x∧Lu C.sc x=true∧x∉vo:=by
 unfold nj at h
 by_cases e:(Lu C.sc x && qu x && decide (x∉vo))=true
 ·rw[if_pos e]at h;rw[kA4,kA4]at e;obtain⟨_,q⟩:=Jb h;exact⟨by simpa using q,e.1.1,of_decide_eq_true e.2⟩
 ·rw[if_neg e]at h;cases h
section
variable{X:Cx}{C:SC}{T:GT}{x:Str}{i:Nat}{pos:Pos}
theorem SOk.tg(O:SOk X C T E)(h:nj C x=some i):PG X (.Name x pos) (ua i):=by
 obtain⟨h1,h2,h3⟩:=uy h;exact Cb (by rw[O.n];exact O.nd) (by rw[O.n];exact h1) (by rw[O.s];exact uw h2) (.inl (O.fn x h3))
theorem SOk.st(O:SOk X C T E)(h:nj C x=some i){e:Expr}{te:TE}{pos':Pos}(he:PE X e te)(hs:swapsWith e (some (.Name x pos')) pos.line X.env=pure false):PS X (.Assign [.Name x pos'] e pos) (Nn te (ua i)):=by
 obtain⟨h1,h2,h3⟩:=uy h;exact zh6 (by rw[O.n];exact O.nd) (by rw[O.n];exact h1) (by rw[O.s];exact uw h2) he hs (.inl (O.fn x h3))
end
noncomputable def Eg:List Nat→List D→En→Option En
 |[],[],δ=>some δ
 |i::is,d::ds,δ=>Eg is ds (δ.set i (.pu d))
 |_,_,_=>none
noncomputable def tw(C:SC):List Expr→Option (List Nat)
 |[]=>some []
 |e::r=>match e with
  | .Name x _ => (match nj C x, tw C r with
   |some i,some is=>some (i::is)
   |_,_=>none)
  |_=>none
noncomputable def yc(is:List Nat):D→En→Option En:=λd δ=>match d with
 |.tup ds=>Eg is ds δ
 |_=>none
theorem Eh:∀{is:List Nat}{ds:List D}{δ δ':En},Eg is ds δ=some δ'→ds.length=is.length
 |[],[],_,_,_=>rfl
 |[],_::_,_,_,h=>by cases h
 |_::_,[],_,_,h=>by cases h
 |i::is,d::ds,δ,δ',h=>by
  have:=Eh (is:=is) (ds:=ds) h;rw[kA5,kA5,this]
section
variable{X:Cx}{C:SC}{T:GT}{B:Hp}
theorem Mn(O:SOk X C T E):∀{es:List Expr}{is:List Nat},tw C es=some is→(∃t:TGs,PGs X es t∧∀{G H:Hp}{σ:St}{δ δ':En}{ds:List D}{vs:List V}{Q:St→Hp→Prop},EnvR (kx X) B G H σ δ→DenL (kx X) G ds vs→Eg is ds δ=some δ'→
  (∀σ',EnvR (kx X) B G H σ' δ'→Q σ' H)→t vs σ H Q)∧(assignEach es X.env).length=is.length∧(assignEach es X.env).findIdx? (·.1)=none
 |[],is,h=>by
  cases h;refine⟨⟨_,Se,λ{G H σ δ δ' ds vs Q} R dl e q=>?_⟩,rfl,rfl⟩;cases ds with
  |nil=>
   cases e;exact⟨dl,q σ R⟩
  |cons _ _=>cases e
 |e::r,is,h=>by
  unfold tw at h;cases e with
  |Name x p=>
   dsimp only at h;cases e1:nj C x with
   |none=>rw[e1]at h;cases h
   |some i=>
    cases e2:tw C r with
    |none=>rw[e1,e2]at h;cases h
    |some is'=>
     rw[e1,e2]at h;cases h;obtain⟨⟨t,p1,p2⟩,p3,p4⟩:=Mn O e2;refine⟨⟨_,D7 (O.tg e1) p1 rfl,λ{G H σ δ δ' ds vs Q} R dl e q=>?_⟩,?_,?_⟩
     ·cases ds with
      |nil=>cases e
      |cons d ds=>
       obtain⟨v,vr,rfl,dv,dr⟩:=dl;exact⟨v,vr,rfl,p2 (R.set dv) dr e q⟩
     ·show(assignEach r X.env).length+1=is'.length+1;rw[p3]
     ·show List.findIdx? _ ((false,_)::assignEach r X.env)=none;rw[List.findIdx?_cons];simp[p4]
  |_=>cases h
theorem zjh(O:SOk X C T E){es:List Expr}{is:List Nat}{k:Nat}{p:Pos}(h:tw C es=some is):∃gl,TgOk X B (.Tuple es k p) gl (yc is):=by
 obtain⟨⟨t,p1,p2⟩,p3,p4⟩:=Mn (B:=B) O h;refine⟨_,Y0 O.calm p1 p3 p4,λ{G H σ δ δ' d v Q} R dn e q=>?_⟩;cases d with
 |tup ds=>
  obtain⟨a,vs,rfl,sq,dl⟩:=dn;have hl:=Eh (show Eg is ds δ=some δ' from e);exact⟨a,vs,rfl,SqT.of (R.gh _ _ sq),by rw[←dl.length,hl],p2 R dl e q⟩
 |_=>cases e
end
noncomputable def zah(C:SC)(tg:Expr):Option (D→En→Option En):=match tg with
 |.Name x _=>(nj C x).map bz
 |.Tuple es _ _=>(tw C es).map yc
 |_=>none
theorem zeb{X:Cx}{C:SC}{T:GT}{B:Hp}(O:SOk X C T E){tg:Expr}{f:D→En→Option En}(h:zah C tg=some f):∃gl,TgOk X B tg gl f:=by
 unfold zah at h;split at h
 ·rename_i x p;cases e:nj C x with
  |none=>rw[e]at h;cases h
  |some i=>rw[e]at h;cases h;exact⟨_,zec (O.tg e)⟩
 ·rename_i es k p;cases e:tw C es with
  |none=>rw[e]at h;cases h
  |some is=>rw[e]at h;cases h;exact zjh O e
 ·cases h
section
variable{X:Cx}{G0 B:Hp}{E:EK}{e a k:Expr}{g h:En→Res}{pos:Pos}{st:Stmt}{F F':En→Out}
noncomputable def m3(g:En→Res):En→Out:=λδ=>(g δ).then λ_=>.nx δ
theorem ziz(ha:ji X B E e g)(hs:swapsWith e none pos.line X.env=pure false):qo X G0 B E (.Expr e pos) (m3 g):=PS.imp (Cd ha hs) λD σ H ⟨G,δ,R,ex,q⟩=>
 ⟨G,δ,R,(o7 ex q).mono λd _ q v G' H' e1 dn=>q σ G' H' e1.gg (R.ext e1) (ex.trans e1)⟩
noncomputable def zfj:En→Out:=λ_=>.rt .non
theorem zi0:qo X G0 B E (.Return none pos) zfj:=PS.imp zc7 λD σ H ⟨G,δ,R,ex,q⟩=>q .non G H ex rfl
theorem Hn{o i:Expr}{p:Pos}{env:Env}{n:Nat}:swapsWith a (some (.Subscript o i p)) n env=pure false:=by
 cases a<;>rfl
noncomputable def P8(i:Nat)(f:Int→Int→Int)(g:En→Res):En→Out:=λδ=>match δ[i]? with
 |some (.pu (.int m))=>(g δ).then λd=>match d with
  |.int n=>.nx (δ.set i (.pu (.int (f m n))))
  |_=>.st
 |_=>.st
theorem zl7{i:Nat}{x:Str}{pos':Pos}{op:Operator}{f:Int→Int→Int}(hf:PS X (.AugAssign (.Name x pos') op a pos) (zmg i (tPu (kx X) B E g) (ipI f))):qo X G0 B E (.AugAssign (.Name x pos') op a pos) (P8 i f g):=
 PS.imp hf λD σ H ⟨G,δ,R,ex,q⟩=>by
  unfold P8 at q;cases ed:δ[i]? with
  |none=>rw[ed]at q;exact q.elim
  |some sl=>
   rw[ed]at q;cases sl with
   |pu d=>
    cases d with
    |int m=>
     dsimp only at q;obtain⟨v,q1,q2⟩:=R.var ed;refine⟨v,q1,G,δ,R,(o7 ex q).mono λd _ q y G1 H1 e1 dn=>?_⟩;cases d with
     |int n=>exact⟨m,n,q2,dn,q _ G1 H1 e1.gg ((R.ext e1).set rfl) (ex.trans e1)⟩
     |_=>exact q.elim
    |_=>exact q.elim
   |_=>exact q.elim
end
section
variable{T:GT}{ev:Ev}{X:Cx}{C:SC}{G0 B:Hp}{E:XK}
noncomputable def lq(c:Str)(r:En→ResL):En→Out:=λδ=>match r δ with
 |.ok _=>.er c
 |.er c'=>.er c'
 |.st=>.st
theorem zdw{x:Str}{np cpos pos:Pos}{e:Expr}{es:List Expr}(h:j2 T ev)(O:XOk X C T E)(hx:T.xs.exc x=true)(hg:Ez C x=true)(hn:(e::es).all jz=true)(hl:(e::es).length≤1000):
  qo X G0 B (ek (kx X) E) (.Raise (some (.Call (.Name x np) (e::es) [] cpos)) none pos) (lq x (wg ev C (e::es))):=by
 obtain⟨Cc,bm,nid,hm,hxx,HB⟩:=O.exc x hx;obtain⟨g1,g2⟩:=O.gl hg;have hn':=hn;rw[kAm,kA4]at hn';refine PS.imp (Y7 O.calm g1 hm hxx HB O.goes (xw (B:=B) h O hn) g2 (cj hn'.1) (rn hn'.2)) λD σ H ⟨G,δ,R,ex,q⟩=>⟨G,δ,R,?_⟩;unfold lq at q;cases er:wg ev C (e::es) δ with
 |ok ds=>
  rw[er]at q;intro vs G' H' e1 al;refine⟨?_,?_⟩
  ·have:=al.length.2;rw[kA2]at this;rw[this];exact kAk hl (by decide)
  ·have z:=q G' H' (ex.trans e1);have z':E (.ref (E6 X.mg x)) none H':=z;rw[og hm]at z';exact z'
 |er c=>rw[er]at q;exact λG' H' e1=>q G' H' (ex.trans e1)
 |st=>rw[er]at q;exact q
noncomputable def one{α:Type}:List α→Option α
 |[a]=>some a
 |_=>none
theorem J0{α:Type}{l:List α}{a:α}(h:one l=some a):l=[a]:=by
 match l,h with
 |[b],h=>cases h;rfl
noncomputable def Wc:Expr→Option (Expr×List Expr×List Keyword×Pos)
 |.Call f a k p=>some (f,a,k,p)
 |_=>none
theorem K4{e f:Expr}{a:List Expr}{k:List Keyword}{p:Pos}(h:Wc e=some (f,a,k,p)):e=.Call f a k p:=by
 cases e<;>first|(cases h;rfl)|cases h
noncomputable def Mm:Expr→Option (Str×Pos)
 |.Name x p=>some (x,p)
 |_=>none
theorem yg{e:Expr}{x:Str}{p:Pos}(h:Mm e=some (x,p)):e=.Name x p:=by
 cases e<;>first|(cases h;rfl)|cases h
noncomputable def Zp:Stmt→Option (Option Expr×Option Expr×Pos)
 |.Raise e c p=>some (e,c,p)
 |_=>none
theorem Vk{st:Stmt}{e c:Option Expr}{p:Pos}(h:Zp st=some (e,c,p)):st=.Raise e c p:=by
 cases st<;>first|(cases h;rfl)|cases h
noncomputable def J6(st:Stmt):Option (Str×Expr×List Expr):=(Zp st).bind λq=>q.1.bind λw=>(Wc w).bind λc=>(Mm c.1).bind λx=>match c.2.1,c.2.2.1,q.2.1 with
 |e::es,[],none=>some (x.1,e,es)
 |_,_,_=>none
theorem Vj{st:Stmt}{x:Str}{e:Expr}{es:List Expr}(h:J6 st=some (x,e,es)):∃np cpos pos,st=.Raise (some (.Call (.Name x np) (e::es) [] cpos)) none pos:=by
 unfold J6 at h;simp only[Option.bind_eq_some_iff]at h;obtain⟨⟨q1,q2,q3⟩,h1,w,h0,⟨c1,c2,c3,c4⟩,h2,⟨y1,y2⟩,h3,h4⟩:=h;dsimp only at h0 h2 h3 h4;split at h4
 ·cases h4;exact⟨_,_,_,by rw[Vk h1,h0,K4 h2,yg h3]⟩
 ·cases h4
noncomputable def Ai(T:GT)(ev:Ev)(C:SC)(st:Stmt):En→Out:=match J6 st with
 |some (x,e,es)=>if T.xs.exc x && Ez C x && (e::es).all jz && decide ((e::es).length≤1000)then lq x (wg ev C (e::es))else tu
 |none=>tu
theorem Zq(h:j2 T ev)(O:XOk X C T E){st:Stmt}:qo X G0 B (ek (kx X) E) st (Ai T ev C st):=by
 unfold Ai;cases hp:J6 st with
 |none=>exact nc
 |some t=>
  obtain⟨x,e,es⟩:=t;obtain⟨np,cpos,pos,rfl⟩:=Vj hp;dsimp only
  by_cases hc:(T.xs.exc x && Ez C x && (e::es).all jz && decide ((e::es).length≤1000))=true
  ·rw[if_pos hc];simp only[kA4]at hc;exact zdw h O hc.1.1.1 hc.1.1.2 hc.1.2 (of_decide_eq_true hc.2)
  ·rw[if_neg hc];exact nc
noncomputable def zmp:Stmt→Option (List Stmt×List ExceptHandler×List Stmt×List Stmt×Pos)
 |.Try b h o f p=>some (b,h,o,f,p)
 |_=>none
theorem zeg{st:Stmt}{b:List Stmt}{h:List ExceptHandler}{o f:List Stmt}{p:Pos}(e:zmp st=some (b,h,o,f,p)):st=.Try b h o f p:=by
 cases st<;>first|(cases e;rfl)|cases e
noncomputable def ze4:Stmt→Option (Expr×Pos)
 |.Expr e p=>some (e,p)
 |_=>none
theorem W6{st:Stmt}{e:Expr}{p:Pos}(h:ze4 st=some (e,p)):st=.Expr e p:=by
 cases st<;>first|(cases h;rfl)|cases h
noncomputable def zkh:Stmt→Option (List Expr×Expr×Pos)
 |.Assign t v p=>some (t,v,p)
 |_=>none
theorem zbb{st:Stmt}{t:List Expr}{v:Expr}{p:Pos}(h:zkh st=some (t,v,p)):st=.Assign t v p:=by
 cases st<;>first|(cases h;rfl)|cases h
noncomputable def Wo:Expr→Option (Const×Nat×Pos)
 |.Constant c k p=>some (c,k,p)
 |_=>none
theorem Tt{e:Expr}{c:Const}{k:Nat}{p:Pos}(h:Wo e=some (c,k,p)):e=.Constant c k p:=by
 cases e<;>first|(cases h;rfl)|cases h
noncomputable def Wd(st:Stmt):Option (Str×Pos×Expr×List Expr×Pos×Pos):=(ze4 st).bind λq=>(Wc q.1).bind λc=>(Mm c.1).bind λx=>match c.2.1,c.2.2.1 with
 |e::es,[]=>some (x.1,x.2,e,es,c.2.2.2,q.2)
 |_,_=>none
theorem We{st:Stmt}{x:Str}{xp cp ep:Pos}{e:Expr}{es:List Expr}(h:Wd st=some (x,xp,e,es,cp,ep)):st=.Expr (.Call (.Name x xp) (e::es) [] cp) ep:=by
 unfold Wd at h;simp only[Option.bind_eq_some_iff]at h;obtain⟨⟨q1,q2⟩,h1,⟨c1,c2,c3,c4⟩,h2,⟨y1,y2⟩,h3,h4⟩:=h;dsimp only at h2 h3 h4;split at h4
 ·cases h4;rw[W6 h1,K4 h2,yg h3]
 ·cases h4
noncomputable def Rj:ExceptHandler→Option Expr×Option Str×List Stmt×Pos
 |.ExceptHandler t n b p=>(t,n,b,p)
noncomputable def zl4:Stmt→Option (Option Expr×Pos)
 |.Return o p=>some (o,p)
 |_=>none
theorem zdr{st:Stmt}{o:Option Expr}{p:Pos}(h:zl4 st=some (o,p)):st=.Return o p:=by
 cases st<;>first|(cases h;rfl)|cases h
end
end Pu
end
section
namespace L2
open PySem PySem.Spec PyProof.Rows
section
variable{X:Cx}{k:Nat}{f Cy Cz:Addr}{fd:FuncData}{ps:List Str}{sp:Sp}{x y z:Str}{p yp zp cpos epos hpos hpos' pos:Pos}{e:Expr}{es:List Expr}{t:TA}{u u':TS}{b₀ b₁:Stmt}{suite suite':List Stmt}{ft:List ExceptHandler}
theorem Xd{pins:List (Addr×Obj)}{σ:St}{H1 H2:Hp}{s1 s':Shared}{a:Addr}{cls:Value}{D:Ends}(hex:X.ex=[])(I1:Inv X pins σ H1 s1)(J:Inv X pins σ H2 s')(ex:ExAt s1.heap s'.heap H2 a cls)(hgy:Gl X y)(hmy:X.mg y=some (.ref Cy))(hc:kAy X.K cls (.ref Cy)=some true)(hs:PSs (X.marked a).nox (b₀::suite) u)(hu:u D σ H2)(hdy:(y==("__debug__":Str))=false):
  wpAny (model X.prog X.w) X.A (handleBy (.ref a) X.env (.ExceptHandler (some (.Name y yp)) none (b₀::suite) hpos::ft)) (SP X pins D) X.xe s':=by
 refine wpAny_handleBy_cons (codeAny_handlers_test (vq (X:=X.marked a) (J.marked a) hgy hmy ?_ hdy)) (by intro q;cases q);have LT:PySem.W.Looks (model X.prog X.w) s'.heap (typeOf (.ref a)) cls:=by
  obtain⟨oe,vs,g,rfl,_⟩:=ex.obj;exact(PySem.W.Looks.ld g).andThen .now
 refine PySem.W.exm_one J.kIn LT hc _ _ _ _ (λ_ _ q=>q) (codeAny_handlers_suite (zgl hex I1 J ex λh2 J2 ex2=>?_));exact wpAny_mono (hs pins _ σ H2 D ((J2.marked a).wish _) hu) (λfl s4 q=>(SP.unwish q).unmarked J.ok) λ_ _ z=>False.elim z
end
end L2
end
section
namespace Pu
open PySem PySem.Spec PyProof.Rows L2
section
variable{T:GT}{ev:Ev}{X:Cx}{C:SC}{G0 B:Hp}{E:XK}
structure HQ where
 y:Str
 yp:Pos
 r:Str
 rp:Pos
 c:Const
 kd:Nat
 cp:Pos
 ap:Pos
 hp:Pos
noncomputable def HQ.st(h:HQ):ExceptHandler:=.ExceptHandler (some (.Name h.y h.yp)) none [.Assign [.Name h.r h.rp] (.Constant h.c h.kd h.cp) h.ap] h.hp
end
end Pu
end
section
namespace L2
open PySem PySem.Spec PyProof.Rows
section
variable{X:Cx}{k i:Nat}{f Cy:Addr}{fd:FuncData}{ps:List Str}{sp:Sp}{x y n:Str}{p yp np cpos epos hpos pos:Pos}{e:Expr}{es:List Expr}{t:TA}{u:TS}{b₀:Stmt}{suite:List Stmt}
noncomputable def zmo(sp:Sp)(K:PySem.W.Frag)(Cy:Addr)(i:Nat)(t:TA)(u:TS):TS:=λD σ H=>t σ H λvs H1=>sp vs H1 (λv H2=>D.nx (σ.set i (some v)) H2) λcls _ H2=>kAy K cls (.ref Cy)=some true∧u D σ H2
theorem zc8(F:FnOk X.prog X.w X.K X.mg X.base (F8 X.prog X.w) k f fd ps sp)(hr:Room k X.A)(hg:Gl X x)(hm:X.mg x=some (.ref f))(hk:kA9 X.K (.ref f)=true)(hb:Binds X.K fd ps [])(ha:PA X.nox (e::es) t)
  (hstk:X.stack=X.env::X.outer)(hfr:X.env.frame=some X.env.locals)(hex:X.ex=[])(hgy:Gl X y)(hmy:X.mg y=some (.ref Cy))(hN:X.N.Nodup)(hi:X.N[i]?=some n)(hx:Loc X.env.scope n)(hf:X.fn n=true∨X.env.scope.names.lookup n=some .local)
  (hs:∀a,PSs (X.marked a).nox (b₀::suite) u) (hsw:swapsWith (.Call (.Name x p) (e::es) [] cpos) (some (.Name n np)) epos.line X.env=pure false)
  (hdb:(x==("__debug__":Str))=false) (hdy:(y==("__debug__":Str))=false) (he:starEach (e::es) X.env=(false,eval e X.env)::starEach es X.env) (hpl:(backTo cpos (starEach es X.env)).any (·.1)=false):
  PS X (.Try [.Assign [.Name n np] (.Call (.Name x p) (e::es) [] cpos) epos] [.ExceptHandler (some (.Name y yp)) none (b₀::suite) hpos] [] [] pos) (zmo sp X.K Cy i t u):=by
 intro pins s σ H D I h;refine wpAny_Try_except (wpAny_execs_cons (wpAny_Assign_Name (zal F hr hg hm hk hb ha I h hdb he hpl (λv H2 w s2 I2 rv q=>?_) λH1 s1 H2 s2 a cls I1 J un ex q=>?_) hsw))
 ·exact yw I2 hN hi hx rv (λs3 I3=>wpAny_execs_nil (wpAny_execs_nil ⟨_,H2,I3,q⟩)) hf
 ·refine zgc hstk hfr hex I1 J un ex λh' J' ex'=>?_;exact Xd hex I1 J' ex' hgy hmy q.1 (hs a) q.2 hdy
end
end L2
namespace Pu
open PySem PySem.Spec PyProof.Rows L2
noncomputable def Ee(i:Nat)(f:List D→Res)(r:En→ResL)(k:Str→En→Out):En→Out:=λδ=>match r δ with
 | .ok ds => (match f ds with
  |.ok d=>.nx (δ.set i (.pu d))
  |.er c=>k c δ
  |.st=>.st)
 |_=>.st
noncomputable def kRb(T:GT)(y:Str)(b:Bool)(c:Str)(_:En):Out:=if T.xs.sub c y then .rt (.bl b)else .st
section
variable{T:GT}{ev:Ev}{X:Cx}{C:SC}{G0 B:Hp}{E:XK}
theorem zds{b:Bool}{kd:Nat}{cp rp:Pos}(a:Addr):PSs (X.marked a).nox [.Return (some (.Constant (.bool b) kd cp)) rp] (λD σ H=>D.rt (.bl b) H):=by
 have P:=Y8 (X:=(X.marked a).nox) (pos:=rp) (zfe (X:=(X.marked a).nox) (b:=b) (pos:=cp) (j:=kd));exact Sm λpins s σ H D I hq=>P pins s σ H D I hq
theorem zi4{x y n:Str}{i kd:Nat}{b:Bool}{s:FS}{p yp np cpos epos hpos pos cp rp:Pos}{e:Expr}{es:List Expr}(h:j2 T ev)(O:SOk X C T E)(hf:T.fns x=some s)(hg:Ez C x=true)(hn:(e::es).all jz=true)(hgy:Ez C y=true)(hxy:T.xs.exc y=true)
  (hi:nj C n=some i)(hnc:m7 (.Call (.Name x p) (e::es) [] cpos)=true):
  qo X G0 B (ek (kx X) E) (.Try [.Assign [.Name n np] (.Call (.Name x p) (e::es) [] cpos) epos] [.ExceptHandler (some (.Name y yp)) none [.Return (some (.Constant (.bool b) kd cp)) rp] hpos] [] [] pos) (Ee i s.f (gAL ev C s.ms (e::es)) (kRb T y b)):=by
 obtain⟨k,f,fd,ps,hr,hm,hk,hb,F⟩:=O.fns x s hf;obtain⟨g1,g2⟩:=O.gl hg;obtain⟨gy1,gy2⟩:=O.gl hgy;obtain⟨Cy,_,_,hmy,_⟩:=O.exc y hxy;have hn':=hn;rw[kAm,kA4]at hn';obtain⟨l1,l2,l3⟩:=uy hi;refine PS.imp (zc8 F hr g1 hm hk hb (Ck (B:=B) h O.toXOk.nox (ms:=s.ms) hn) O.stk O.frm O.ex0 gy1 hmy (by rw[O.n];exact O.nd) (by rw[O.n];exact l1) (by rw[O.s];exact uw l2) (.inl (O.fn n l3)) zds (jf hnc) g2 gy2 (cj hn'.1) (rn hn'.2)) λD σ H ⟨G,δ,R,ex,q⟩=>⟨G,δ,R,?_⟩;unfold Ee at q;cases er:gAL ev C s.ms (e::es) δ with
 |er c=>rw[er]at q;exact q.elim
 |st=>rw[er]at q;exact q.elim
 |ok ds=>
  rw[er]at q;intro vs G1 H1 e1 al;refine⟨al.length.2,R.gb.same (R.bh.trans e1.hh),G1,ds,e1.gh,al,?_⟩;dsimp only at q;cases ef:s.f ds with
  |ok d=>
   rw[ef]at q;exact λv G' H' e2 dv=>q _ G' H' (e1.trans e2).gg ((R.ext (e1.trans e2)).set dv) (ex.trans (e1.trans e2))
  |st=>rw[ef]at q;exact q.elim
  |er c=>
   rw[ef]at q;intro G' H' e2;have q:OutP (kx X) G0 B (ek (kx X) E) G (kRb T y b c δ) D:=q;unfold kRb at q
   by_cases hs:T.xs.sub c y=true
   ·rw[if_pos hs]at q;obtain⟨Cy',hmy',hex⟩:=O.sub c y hs;rw[hmy]at hmy';cases hmy';exact⟨hex,q _ G' H' (ex.trans (e1.trans e2)) rfl⟩
   ·rw[if_neg hs]at q;exact q.elim
noncomputable def V4(st:Stmt):Option ((Str×Pos)×(Str×Pos×Expr×List Expr×Pos×Pos)):=(zkh st).bind λq=>(one q.1).bind λt=>(Mm t).bind λn=>(Wd (.Expr q.2.1 q.2.2)).bind λc=>some (n,c)
theorem V5{st:Stmt}{n x:Str}{np xp cp ep:Pos}{e:Expr}{es:List Expr}(h:V4 st=some ((n,np),(x,xp,e,es,cp,ep))):st=.Assign [.Name n np] (.Call (.Name x xp) (e::es) [] cp) ep:=by
 unfold V4 at h;simp only[Option.bind_eq_some_iff]at h;obtain⟨⟨q1,q2,q3⟩,h1,t,h2,⟨n1,n2⟩,h3,c,h4,h5⟩:=h;cases h5;have z:=We h4;dsimp only at h2 z;cases z;rw[zbb h1,J0 h2,yg h3]
noncomputable def zew:Const→Option Bool
 |.bool b=>some b
 |_=>none
theorem Wb{c:Const}{b:Bool}(h:zew c=some b):c=.bool b:=by
 cases c<;>first|(cases h;rfl)|cases h
noncomputable def noN:Option Str→Option Unit
 |none=>some ()
 |some _=>none
theorem zhi{o:Option Str}{u:Unit}(h:noN o=some u):o=none:=by
 cases o with
 |none=>rfl
 |some _=>cases h
noncomputable def S6(st:Stmt):Option ((Str×Pos)×(Str×Pos×Expr×List Expr×Pos×Pos)×Str×Bool):=(zmp st).bind λq=>(one q.1).bind λb=>(V4 b).bind λc=>(one q.2.1).bind λh=>(Rj h).1.bind λt=>(Mm t).bind λy=>(one (Rj h).2.2.1).bind λs=>(zl4 s).bind λr=>r.1.bind λv=>(Wo v).bind λk=>(zew k.1).bind λw=>(noN (Rj h).2.1).bind λ_=>
 if q.2.2.1.isEmpty && q.2.2.2.1.isEmpty then some (c.1,c.2,y.1,w)else none
theorem zak{st:Stmt}{n x y:Str}{np xp cp ep:Pos}{e:Expr}{es:List Expr}{w:Bool}(k:S6 st=some ((n,np),(x,xp,e,es,cp,ep),y,w)):∃(yp hpos pos kp rp:Pos) (kd:Nat),st=.Try [.Assign [.Name n np] (.Call (.Name x xp) (e::es) [] cp) ep] [.ExceptHandler (some (.Name y yp)) none [.Return (some (.Constant (.bool w) kd kp)) rp] hpos] [] [] pos:=by
 unfold S6 at k;simp only[Option.bind_eq_some_iff]at k;obtain⟨⟨q1,q2,q3,q4,q5⟩,h1,b,h2,⟨c1,c2⟩,h3,hh,h4,t,h5,⟨y1,y2⟩,h6,s,h8,⟨r1,r2⟩,h9,v,h10,⟨k1,k2,k3⟩,h11,w',h12,_,h14,h13⟩:=k;obtain⟨t0,n0,b0,p0⟩:=hh;dsimp only[Rj]at h2 h4 h5 h8 h10 h12 h14 h13;split at h13
 ·rename_i he;rw[kA4]at he;cases h13;exact⟨y2,p0,q5,k3,r2,k2,by rw[zeg h1,J0 h2,V5 h3,J0 h4,h5,yg h6,zhi h14,J0 h8,zdr h9,h10,Tt h11,Wb h12,List.isEmpty_iff.mp he.1,List.isEmpty_iff.mp he.2]⟩
 ·cases h13
noncomputable def yu(T:GT)(ev:Ev)(C:SC)(st:Stmt):Option (En→Out):=match S6 st with
 | some ((n, _), (x, xp, e, es, cp, _), y, w) => (match T.fns x, nj C n with
  |some s,some i=>if Ez C x && (e::es).all jz && Ez C y && T.xs.exc y && m7 (.Call (.Name x xp) (e::es) [] cp)then some (Ee i s.f (gAL ev C s.ms (e::es)) (kRb T y w))else none
  |_,_=>none)
 |none=>none
theorem zef(h:j2 T ev)(O:SOk X C T E){st:Stmt}{F:En→Out}(k:yu T ev C st=some F):qo X G0 B (ek (kx X) E) st F:=by
 unfold yu at k;cases hp:S6 st with
 |none=>rw[hp]at k;cases k
 |some t=>
  obtain⟨⟨n,np⟩,⟨x,xp,e,es,cp,ep⟩,y,w⟩:=t;rw[hp]at k;dsimp only at k;cases e1:T.fns x with
  |none=>rw[e1]at k;cases k
  |some s=>
   cases e2:nj C n with
   |none=>rw[e1,e2]at k;cases k
   |some m=>
    rw[e1,e2]at k;dsimp only at k;split at k
    ·rename_i hc;cases k;simp only[kA4]at hc;obtain⟨⟨⟨⟨a1,a2⟩,a3⟩,a4⟩,a5⟩:=hc;obtain⟨yp,hpos,pos,kp,rp,kd,rfl⟩:=zak hp;exact zi4 h O e1 a1 a2 a3 a4 e2 a5
    ·cases k
noncomputable def Er(T:GT)(ev:Ev)(C:SC)(st:Stmt):En→Out:=match yu T ev C st with
 |some F=>F
 |none=>tu
theorem zeh(h:j2 T ev)(O:SOk X C T E){st:Stmt}:qo X G0 B (ek (kx X) E) st (Er T ev C st):=by
 unfold Er;cases h1:yu T ev C st with
 |some F=>exact zef h O h1
 |none=>exact nc
end
end Pu
end
section
namespace Pu
open PySem PySem.Spec PyProof.Rows L2
mutual
noncomputable def Of:Nat→GT→Expr→List Str
 |0,_,_=>[]
 |n+1,T,e=>match e with
  |.Name x _=>[x]
  |.IfExp c a b _=>C4 n T c++Of n T a++Of n T b
  |.BoolOp _ vs _=>vs.flatMap (Of n T)
  |e=>C4 n T e
noncomputable def C4:Nat→GT→Expr→List Str
 |0,_,_=>[]
 |n+1,T,e=>match e with
  |.BinOp a _ b _=>C4 n T a++C4 n T b
  |.UnaryOp _ a _=>C4 n T a
  |.BoolOp _ vs _=>vs.flatMap (C4 n T)
  |.IfExp c a b _=>C4 n T c++Of n T a++Of n T b
  |.Compare l _ rs _=>C4 n T l++rs.flatMap (C4 n T)
  |.Tuple es _ _=>es.flatMap (Of n T)
  |.List es _=>es.flatMap (Of n T)
  |.Subscript a i _=>C4 n T a++C4 n T i
  |.ListComp elt gens _ _=>Of n T elt++gens.flatMap λg=>C4 n T g.iter++g.ifs.flatMap (C4 n T)
  | .Call (.Name f _) args _ _ => (match T.fns f with
   |some s=>(s.ms.zip args).flatMap λp=>if p.1 then C4 n T p.2 else Of n T p.2
   |none=>args.flatMap (C4 n T))
  |.Call (.Attribute o _ _) args _ _=>C4 n T o++args.flatMap (Of n T)
  |_=>[]
end
noncomputable def dvS(T:GT)(st:Stmt):List Str:=match st with
 |.Return (some e) _=>Of 30 T e
 |.Assign [.Name _ _] e _=>Of 30 T e
 |.Assign [.Subscript _ k _] e _=>Of 30 T e++C4 30 T k
 |.AugAssign _ _ e _=>C4 30 T e
 |.Expr (.Call (.Attribute (.Name _ _) m _) args _ _) _=>if m="extend" then args.flatMap (C4 30 T)else args.flatMap (Of 30 T)
 |.Expr e _=>C4 30 T e
 |.If c _ _ _=>C4 30 T c
 |.For _ iter _ _ _=>Of 30 T iter
 |.Try [.Expr e _] _ _ _ _=>C4 30 T e
 |.Try [.Assign [.Name _ _] e _] _ _ _ _=>C4 30 T e
 |_=>[]
noncomputable def zd2(C:SC)(xs:List Str):List Nat:=xs.filterMap (slot C)
noncomputable def Ua(T:GT)(C:SC)(x y:Str):Bool:=decide (x=y) && decide (slot C x=none) && Ez C x && (T.fns x).isNone
theorem Rm{T:GT}{C:SC}{X:Cx}(O:XOk X C T E){x y:Str}(h:Ua T C x y=true):x=y∧Gl X x:=by
 unfold Ua at h;simp only[kA4,decide_eq_true_eq]at h;exact⟨h.1.1.1,(O.gl h.1.2).1⟩
noncomputable def Nl(T:GT)(ev:Ev)(C:SC)(e:Expr):Option (En→Res):=match e with
 |.List es _=>if es.all jz then some (mv (wg ev C es))else none
 |.Call (.Name x _) [a] [] _=>if Ua T C x "list" then(if jz a then some (g1 jw (pb ev C a))else none)else none
 |_=>none
noncomputable def mm(ev:Ev)(C:SC)(e:Expr):Option (En→ResE):=match e with
 |.Call (.Attribute (.Name x _) m ap) [k,v] [] cp=>if m="setdefault" && jz k && jz v && (ap.endLine==cp.line)then(slot C x).map λi=>jv i (pb ev C k) (ev C v)else none
 |_=>none
noncomputable def Nk(ev tv:Ev)(C:SC)(e:Expr):Option (En→ResE):=match e with
 | .IfExp c a b _ => (match mm ev C a, mm ev C b with
  |some f,none=>some (Bq (tv C c) f (Df (ev C b)))
  |none,some f=>some (Bq (tv C c) (Df (ev C a)) f)
  |some f,some f'=>some (Bq (tv C c) f f')
  |none,none=>none)
 |e=>mm ev C e
noncomputable def Em(ev:Ev)(C:SC)(e:Expr):Option (En→ResE):=match e with
 | .Compare l [op] [r] _ => (match mm ev C l, Ig op with
  |some f,some p=>if nq r then some (Ax p f (pb ev C r))else none
  |_,_=>none)
 |_=>none
section
variable{T:GT}{ev tv:Ev}{X:Cx}{C:SC}{G0 B:Hp}{E:XK}
theorem C9(h:j2 T ev)(O:XOk X C T E){e:Expr}{f:En→ResE}(hf:mm ev C e=some f):EfE X G0 B (ek (kx X) E) e f:=by
 unfold mm at hf;split at hf
 ·rename_i x p m ap k v cp
  by_cases hc:(decide (m="setdefault") && jz k && jz v && (ap.endLine==cp.line))=true
  ·rw[if_pos hc]at hf;simp only[kA4,decide_eq_true_eq]at hc;obtain⟨⟨⟨rfl,h2⟩,h3⟩,h4⟩:=hc;cases hs:slot C x with
   |none=>rw[hs]at hf;cases hf
   |some i=>
    rw[hs]at hf;cases hf;dsimp only;exact T2 (O.var hs) (iu h O k) (h X C B E v O) h2 h3 h4
  ·rw[if_neg hc]at hf;cases hf
 ·cases hf
theorem zor(h:j2 T ev)(ht:E4 T tv)(O:XOk X C T E){e:Expr}{f:En→ResE}(hf:Nk ev tv C e=some f):EfE X G0 B (ek (kx X) E) e f:=by
 unfold Nk at hf;split at hf
 ·rename_i c a b p;cases h1:mm ev C a with
  |none=>
   cases h2:mm ev C b with
   |none=>rw[h1,h2]at hf;cases hf
   |some f'=>rw[h1,h2]at hf;cases hf;exact Wz (ht X C B E c O) (Rb (h X C B E a O)) (C9 h O h2)
  |some f'=>
   cases h2:mm ev C b with
   |none=>rw[h1,h2]at hf;cases hf;exact Wz (ht X C B E c O) (C9 h O h1) (Rb (h X C B E b O))
   |some f''=>rw[h1,h2]at hf;cases hf;exact Wz (ht X C B E c O) (C9 h O h1) (C9 h O h2)
 ·exact C9 h O hf
theorem zkq(h:j2 T ev)(O:XOk X C T E){e:Expr}{f:En→ResE}(hf:Em ev C e=some f):EfT X G0 B (ek (kx X) E) e f:=by
 unfold Em at hf;split at hf
 ·rename_i l op r p;cases h1:mm ev C l with
  |none=>rw[h1]at hf;cases hf
  |some f'=>
   cases h2:Ig op with
   |none=>rw[h1,h2]at hf;cases hf
   |some q=>
    rw[h1,h2]at hf;dsimp only at hf
    by_cases hs:nq r=true
    ·rw[if_pos hs]at hf;cases hf;obtain⟨rr,g1,g2,g3⟩:=B4 (X:=X) h2 O.units;exact zgj g1 g2 g3 (C9 h O h1) (iu h O r) (p9 hs)
    ·rw[if_neg hs]at hf;cases hf
 ·cases hf
end
noncomputable def El(T:GT)(ev:Ev)(C:SC)(e:Expr):Option (En→Res):=match e with
 |.Call (.Name x _) [a] [] _=>if Ua T C x "dict" && jz a then some (pb ev C a)else none
 |_=>none
noncomputable def Ce(T:GT)(ev tv:Ev)(C:SC)(x:Str)(e:Expr):En→Out:=match nj C x with
 |none=>tu
 | some i => (match e with
  | .Dict ks vs _ => (match ks, vs with
   |[],[]=>if C.td.contains x then Ec i else Eb i
   |_,_=>tu)
  |.ListComp elt gens scope _=>qg i (o5 ev tv C elt gens scope)
  | e => (match Nl T ev C e with
   |some g=>if m7 e then qg i g else tu
   | none => if m7 e then (match Nk ev tv C e with
    |some f=>u9 i f
    | none => (match El T ev C e with
     |some g=>Ed i g
     |none=>gr i (ev C e)))else tu))
noncomputable def Kj(ev:Ev)(C:SC)(x m:Str)(args:List Expr):En→Out:=match slot C x,args with
 |some i,[a]=>if m="append" then(if jz a then B2 i (ev C a)else tu)
  else if m="extend" then(if jz a then yn i (pb ev C a)else tu)
  else tu
 |_,_=>tu
noncomputable def fz(is:List Nat)(F:En→Out):En→Out:=λδ=>F (frzs is δ)
noncomputable def zgp(i:Nat)(δ:En):Bool:=match δ[i]? with
 |some (.ow _)=>true
 |_=>false
noncomputable def F5(i:Nat)(gk gv:En→Res):En→Out:=A9 i gk gv
noncomputable abbrev Bv:=SC→List Stmt→En→Out
noncomputable def Z9(T:GT)(ev tv:Ev)(bv:Bv)(C:SC)(st:Stmt):En→Out:=match st with
 | .Return o _ => (match o with
  |some e=>d4 (ev C e)
  |none=>zfj)
 | .Assign tgs e _ => (match tgs with
  |[.Name x _]=>Ce T ev tv C x e
  | [.Subscript (.Name x _) k _] => (match slot C x with
   |some i=>if xg k then(if C.td.contains x then xi i (pb ev C k) (ev C e)else A9 i (pb ev C k) (ev C e))else tu
   |none=>tu)
  |_=>tu)
 | .AugAssign tg op e _ => (match tg, op with
  | .Name x _, .Add => (match nj C x with
   |some i=>P8 i (λa b=>a+b) (ev C e)
   |none=>tu)
  |_,_=>tu)
 | .Expr e _ => (match e with
  |.Constant (.str _) _ _=>Ss
  | .Call (.Attribute (.Name x xp) m ap) args kws cp => (match kws with
   |[]=>if ap.endLine==cp.line then(match mm ev C (.Call (.Attribute (.Name x xp) m ap) args [] cp)with
    |some f=>J7 f
    |none=>Kj ev C x m args)else tu
   |_=>tu)
  |e=>if m7 e then m3 (ev C e)else tu)
 | .If c a b _ => (match Em ev C c with
  |some f=>J8 f (bv C a) (bv C b)
  |none=>ki (tv C c) (bv C a) (bv C b))
 | .For tg iter body els _ => (match els, zah C tg with
  |[],some f=>if nq iter then i5 f (Eo ev C tg iter) (bv C body)else tu
  |_,_=>tu)
 | .While c body els _ => (match els with
  |[]=>sWh (tv C c) (bv C body)
  |_=>tu)
 |.Raise exc cause rp=>Ai T ev C (.Raise exc cause rp)
 |.Try body hs els fin tp=>Er T ev C (.Try body hs els fin tp)
 |_=>tu
noncomputable def zfm(T:GT)(ev tv:Ev)(bv:Bv)(C:SC)(st:Stmt):En→Out:=fz (zd2 C (dvS T st)) (Z9 T ev tv bv C st)
noncomputable def P9(f:Stmt→En→Out):List Stmt→En→Out
 |[]=>ia
 |[s]=>f s
 |s::r=>br (f s) (P9 f r)
def zfy(T:GT)(bv:Bv):Prop:=∀X C G0 B (E:XK) ss,SOk X C T E→xo X G0 B (ek (kx X) E) ss (bv C ss)
section
variable{T:GT}{ev tv:Ev}{bv:Bv}{X:Cx}{C:SC}{G0 B:Hp}{E:XK}{pos pos':Pos}
theorem zle(h:j2 T ev)(O:XOk X C T E){e:Expr}{g:En→Res}(hg:Nl T ev C e=some g):OwE X B (ek (kx X) E) e g:=by
 unfold Nl at hg;split at hg
 ·rename_i es _
  by_cases hn:es.all jz=true
  ·rw[if_pos hn]at hg;cases hg;exact Yo xq (xw h O hn)
  ·rw[if_neg hn]at hg;cases hg
 ·rename_i x p a pos
  by_cases hb:Ua T C x "list"=true
  ·rw[if_pos hb]at hg;obtain⟨rfl,hgl⟩:=Rm O hb
   by_cases hn:jz a=true
   ·rw[if_pos hn]at hg;cases hg;exact M1 O.calm hgl (O.bl _ (by decide)) (iu h O a) hn
   ·rw[if_neg hn]at hg;cases hg
  ·rw[if_neg hb]at hg;cases hg
 ·cases hg
theorem zkn(O:XOk X C T E){e:Expr}{g:En→Res}(hg:El T ev C e=some g):∃p a q,e=.Call (.Name "dict" p) [a] [] q∧g=pb ev C a∧Gl X "dict"∧jz a=true:=by
 unfold El at hg;split at hg
 ·rename_i x p a q
  by_cases hc:(Ua T C x "dict" && jz a)=true
  ·rw[if_pos hc]at hg;rw[kA4]at hc;obtain⟨rfl,hg'⟩:=Rm O hc.1;cases hg;exact⟨p,a,q,rfl,rfl,hg',hc.2⟩
  ·rw[if_neg hc]at hg;cases hg
 ·cases hg
theorem zf5(h:j2 T ev)(ht:E4 T tv)(O:SOk X C T E){x:Str}{e:Expr}:qo X G0 B (ek (kx X) E) (.Assign [.Name x pos'] e pos) (Ce T ev tv C x e):=by
 unfold Ce;cases hs:nj C x with
 |none=>exact nc
 |some i=>
  dsimp only;have gen:qo X G0 B (ek (kx X) E) (.Assign [.Name x pos'] e pos) (match Nl T ev C e with
   |some g=>if m7 e then qg i g else tu
   | none => if m7 e then (match Nk ev tv C e with
    |some f=>u9 i f
    | none => (match El T ev C e with
     |some g=>Ed i g
     |none=>gr i (ev C e)))else tu):=by
   cases ho:Nl T ev C e with
   |none=>
    dsimp only
    by_cases hn:m7 e=true
    ·rw[if_pos hn];cases hf:Nk ev tv C e with
     |none=>
      cases hd:El T ev C e with
      |none=>
       have he:=h X C B E e O.toXOk;exact zmd he (O.st hs he (jf hn))
      |some g=>
       obtain⟨p,a,q,rfl,rfl,hg,na⟩:=zkn O.toXOk hd;have he:=zcj (X:=X) (B:=B) (E:=ek (kx X) E) (p:=p) (pos:=q) hg (O.bl _ (by decide)) (iu h O.toXOk a) na;exact zdy (O.st hs he (jf hn))
     |some f=>
      have he:EfE X G0 B (ek (kx X) E) e f:=zor h ht O.toXOk hf;exact zi3 (O.st hs he (jf hn))
    ·rw[if_neg hn];exact nc
   |some g=>
    dsimp only
    by_cases hn:m7 e=true
    ·rw[if_pos hn];have he:OwE X B (ek (kx X) E) e g:=zle h O.toXOk ho;exact Zx he (O.st hs he (jf hn))
    ·rw[if_neg hn];exact nc
  cases e with
  |Dict ks vs p=>
   cases ks with
   |nil=>
    cases vs with
    |nil=>
     dsimp only
     by_cases ht:C.td.contains x=true
     ·rw[if_pos ht];exact zdx (O.st hs Yv (jf rfl))
     ·rw[if_neg ht];exact zi2 (O.st hs M4 (jf rfl))
    |cons _ _=>exact nc
   |cons _ _=>exact nc
  |ListComp elt gens scope lp=>
   have hw:=Cv (X:=X) (B:=B) (E:=E) (pos:=lp) (elt:=elt) (gens:=gens) (scope:=scope) h ht O.toXOk;have sw:∃b,swapsWith (.ListComp elt gens scope lp) (some (.Name x pos')) pos.line X.env=pure b:=⟨_,rfl⟩;obtain⟨b,sw⟩:=sw;cases b with
   |false=>exact Zx hw.1 (O.st hs hw.1 sw)
   |true=>
    show qo X G0 B _ _ (qg i (o5 ev tv C elt gens scope));obtain⟨l1,l2,l3⟩:=uy hs;have hy:X.N[i]?=some x:=by rw[O.n];exact l1
    have hl:L2.Loc X.env.scope x:=by rw[O.s];exact uw l2
    have hN:X.N.Nodup:=by rw[O.n];exact O.nd
    clear hw;cases zez (B:=B) (elt:=elt) (gens:=gens) (scope:=scope) h ht O.toXOk with
    |st e=>rw[e];exact λpins s σ H D I ⟨G,δ,R,ex,q⟩=>q.elim
    |ok eg eG st hF hi hs=>
     rw[eG];subst eg;intro pins s σ H D I q;obtain⟨cl,O2,Bk⟩:=st I.ok;exact zi1 O2 O.calm Bk hF hi hN hy hl (O.fn x l3) hs sw pins s σ H D I q
  |_=>exact gen
theorem Rf{a:Expr}{env:Env}{cpos:Pos}(hn:jz a=true):((backTo cpos (starEach [a] env)).all (λx=> !x.1) && (backToKw cpos (keywordEach [] env)).all (λx=>x.1.isSome)
   && decide (([a]:List Expr).length+([]:List Keyword).length+(if([]:List Keyword).isEmpty then 0 else 1)<30))=true:=by
 rw[vc (by rw[kAm,hn];rfl)];rfl
theorem zk1(h:j2 T ev)(O:SOk X C T E){x m:Str}{p ap cp:Pos}{args:List Expr}(hl:(ap.endLine==cp.line)=true):qo X G0 B (ek (kx X) E) (.Expr (.Call (.Attribute (.Name x p) m ap) args [] cp) pos) (Kj ev C x m args):=by
 unfold Kj;split
 ·rename_i i a hs
  by_cases hm:m="append"
  ·subst hm;rw[if_pos rfl]
   by_cases hn:jz a=true
   ·rw[if_pos hn];exact Zv (O.var hs) (h X C B E a O.toXOk) rfl (Rf hn) hl (cj hn) rfl rfl
   ·rw[if_neg hn];exact nc
  ·rw[if_neg hm]
   by_cases hm:m="extend"
   ·subst hm;rw[if_pos rfl]
    by_cases hn:jz a=true
    ·rw[if_pos hn];exact Zw (O.var hs) (iu h O.toXOk a) rfl (Rf hn) hl (cj hn) rfl rfl
    ·rw[if_neg hn];exact nc
   ·rw[if_neg hm];exact nc
 ·exact nc
theorem zl5(h:j2 T ev)(ht:E4 T tv)(hb:zfy T bv)(O:SOk X C T E){st:Stmt}:qo X G0 B (ek (kx X) E) st (Z9 T ev tv bv C st):=by
 have hu:X.A.units+5<cLine:=by have:=O.units;omega
 cases st with
 |Return o p=>
  cases o with
  |none=>exact zi0
  |some e=>exact zmc (h X C B E e O.toXOk)
 |Assign tgs e p=>
  show qo X G0 B _ _ (match tgs with
   |[.Name x _]=>Ce T ev tv C x e
   | [.Subscript (.Name x _) k _] => (match slot C x with
    |some i=>if xg k then(if C.td.contains x then xi i (pb ev C k) (ev C e)else A9 i (pb ev C k) (ev C e))else tu
    |none=>tu)
   |_=>tu)
  split
  ·exact zf5 h ht O
  ·rename_i x _ k _;cases hs:slot C x with
   |none=>exact nc
   |some i=>
    dsimp only
    by_cases hp:xg k=true
    ·rw[if_pos hp]
     by_cases htd:C.td.contains x=true
     ·rw[if_pos htd];exact zdu hu (O.var hs) (iu h O.toXOk k) (h X C B E e O.toXOk) Hn
     rw[if_neg htd];exact ziy hu (O.var hs) (iu h O.toXOk k) (h X C B E e O.toXOk) Hn
    ·rw[if_neg hp];exact nc
  ·exact nc
 |AugAssign tg op e p=>
  show qo X G0 B _ _ (match tg,op with
   | .Name x _, .Add => (match nj C x with
    |some i=>P8 i (λa b=>a+b) (ev C e)
    |none=>tu)
   |_,_=>tu)
  split
  ·rename_i x _;cases hs:nj C x with
   |none=>exact nc
   |some i=>
    obtain⟨l1,l2,l3⟩:=uy hs;exact zl7 (zh3 (by rw[O.n];exact O.nd) (by rw[O.n];exact l1) (by rw[O.s];exact uw l2) (h X C B E e O.toXOk) zgo (.inl (O.fn x l3)))
  ·exact nc
 |Expr e p=>
  show qo X G0 B _ _ (match e with
   |.Constant (.str _) _ _=>Ss
   | .Call (.Attribute (.Name x xp) m ap) args kws cp => (match kws with
    |[]=>if ap.endLine==cp.line then(match mm ev C (.Call (.Attribute (.Name x xp) m ap) args [] cp)with
     |some f=>J7 f
     |none=>Kj ev C x m args)else tu
    |_=>tu)
   |e=>if m7 e then m3 (ev C e)else tu)
  split
  ·exact zl8
  ·rename_i x _ m ap args kws cp;cases kws with
   |nil=>
    dsimp only
    by_cases hl:(ap.endLine==cp.line)=true
    ·rw[if_pos hl];cases hf:mm ev C _ with
     |none=>exact zk1 h O hl
     |some f=>exact zdv (C9 h O.toXOk hf) rfl
    ·rw[if_neg hl];exact nc
   |cons _ _=>exact nc
  ·by_cases hn:m7 e=true
   ·rw[if_pos hn];exact ziz (h X C B E e O.toXOk) (jf hn)
   ·rw[if_neg hn];exact nc
 |If c a b p=>
  show qo X G0 B _ _ (match Em ev C c with
   |some f=>J8 f (bv C a) (bv C b)
   |none=>ki (tv C c) (bv C a) (bv C b))
  cases hf:Em ev C c with
  |none=>exact zo8 (ht X C B E c O.toXOk) (hb X C G0 B E a O) (hb X C G0 B E b O)
  |some f=>exact zmb (zkq h O.toXOk hf) (hb X C G0 B E a O) (hb X C G0 B E b O)
 |For tg iter body els p=>
  show qo X G0 B _ _ (match els,zah C tg with
   |[],some f=>if nq iter then i5 f (Eo ev C tg iter) (bv C body)else tu
   |_,_=>tu)
  cases els with
  |cons _ _=>exact nc
  |nil=>
   cases hf:zah C tg with
   |none=>exact nc
   |some f=>
    dsimp only
    by_cases hn:nq iter=true
    ·rw[if_pos hn];obtain⟨gl,G⟩:=zeb (B:=B) O hf;exact zl9 O.pass O.calm (ze7 h O.toXOk iter) G (hb X C G0 B E body O) (s9 hn)
    ·rw[if_neg hn];exact nc
 |While c body els p=>
  cases els with
  |cons _ _=>exact nc
  |nil=>exact zdz O.pass (ht X C B E c O.toXOk) (hb X C G0 B E body O)
 |Raise exc cause p=>exact Zq h O.toXOk
 |Try body hs els fin p=>exact zeh h O
 |_=>exact nc
theorem zaa(h:j2 T ev)(ht:E4 T tv)(hb:zfy T bv)(O:SOk X C T E){st:Stmt}:qo X G0 B (ek (kx X) E) st (zfm T ev tv bv C st):=zma _ (zl5 h ht hb O)
theorem Z0{f:Stmt→En→Out}{E:EK}(h:∀st,qo X G0 B E st (f st)):∀{ss:List Stmt},xo X G0 B E ss (P9 f ss)
 |[]=>zja
 |[s]=>zjb (h s)
 |s::t::r=>zd6 (h s) (Z0 h (ss:=t::r))
end
noncomputable def Ra:Nat:=40
noncomputable def gB(T:GT):Nat→Bv
 |0=>λ_ _=>tu
 |n+1=>λC ss=>P9 (zfm T (gP T Ra false) (gP T Ra true) (gB T n) C) ss
theorem zme{X:Cx}{G0 B:Hp}{E:EK}{ss:List Stmt}:xo X G0 B E ss tu:=λpins s σ H D I ⟨G,δ,R,x,q⟩=>q.elim
theorem Xa(T:GT):∀n,zfy T (gB T n)
 |0=>λX C G0 B E ss O=>zme
 |n+1=>λX C G0 B E ss O=>Z0 λst=>zaa (Gp T Ra).1 (Gp T Ra).2 (Xa T n) O
structure TabIs(P:Program)(w:World)(K:PySem.W.Frag)(mg:Str→Option Value)(base:Heap)(T:GT)(k:Nat):Prop where
 fns:∀x s,T.fns x=some s→∃f fd ps,mg x=some (.ref f)∧kA9 K (.ref f)=true∧Binds K fd ps []∧FnOk P w K mg base (F8 P w) k f fd ps (Qb ⟨K,E6 mg⟩ s.ms s.f)
 gstr:∀x y,T.gstr x=some y→∃t,mg x=some (.str y t)
 bl:∀x∈zg,mg x=none
 exc:∀x,T.xs.exc x=true→∃C bm newId,mg x=some (.ref C)∧PySem.W.excIn K C bm newId=true∧ExBase bm newId
 sub:∀c y,T.xs.sub c y=true→∃Cy,mg y=some (.ref Cy)∧kAy K (.ref (E6 mg c)) (.ref Cy)=some true
 ve:∀c,T.xs.ve c=true→PySem.W.kitCls K (.ref (E6 mg c)) (.type "ValueError")=some true
 nsub:∀c y,T.xs.nsub c y=true→∃Cy,mg y=some (.ref Cy)∧kAy K (.ref (E6 mg c)) (.ref Cy)=some false
 lams:∀e fs ds d,T.lam e fs ds=.ok d→Vz P w K mg base k e fs ds d
theorem Room.u65{k:Nat}{A:Around}(r:Room k A):A.units+65<cLine:=by have:=r.un;omega
theorem TabIs.xok{X:Cx}{T:GT}{k:Nat}{C:SC}{E:XK}(t:TabIs X.prog X.w X.K X.mg X.base T k)(hr:Room k X.A)(n:X.N=C.N)(s:X.env.scope=C.sc)(nd:C.N.Nodup)(calm:X.calm=true)(goes:qm (F8 X.prog X.w) X E)(lamc:C.lam=true→Vy X):XOk X C T E:=
 ⟨n,s,nd,calm,Room.u65 hr,λx s h=>by
  obtain⟨f,fd,ps,h1,h2,h3,h4⟩:=t.fns x s h;exact⟨k,f,fd,ps,hr,h1,h2,h3,h4⟩,t.gstr,t.bl,t.exc,t.sub,t.ve,t.nsub,goes,lamc,λe fs ds d h=>⟨k,hr,t.lams e fs ds d h⟩⟩
theorem DenF.len{K:KA}{G:Hp}:∀{fs:List (Str×D)}{vs:List (Str×V)},DenF K G fs vs→fs.length=vs.length∧fs.map (·.1)=vs.map (·.1)
 |[],_,h=>by rw[show _=[]from h];exact⟨rfl,rfl⟩
 |(n,d)::fs,_,⟨v,r,h1,_,h3⟩=>by
  subst h1;obtain⟨q1,q2⟩:=DenF.len h3;exact⟨by rw[kA5,kA5,q1],by rw[kA0,kA0,q2]⟩
theorem DenF.get{K:KA}{G:Hp}:∀{fs:List (Str×D)}{vs:List (Str×V)}{i:Nat}{p:Str×D},DenF K G fs vs→fs[i]?=some p→∃v,vs[i]?=some (p.1,v)∧Den K G p.2 v
 |[],_,_,_,_,e=>by simp at e
 |(n,d)::fs,_,0,p,⟨v,r,h1,h2,_⟩,e=>by
  subst h1;simp at e;subst e;exact⟨v,rfl,h2⟩
 |(n,d)::fs,_,i+1,p,⟨v,r,h1,_,h3⟩,e=>by
  subst h1;obtain⟨v',q1,q2⟩:=DenF.get (i:=i) h3 (by simpa using e);exact⟨v',by simpa using q1,q2⟩
structure DefR where
 x:Str
 st:Stmt
 ms:List Bool
 lm:Bool
noncomputable def B1(st:Stmt):List Str:=(cg st).args.map (·.arg)
noncomputable def Dr(ps:List Str):List (Str×NameKind)→List Str
 |[]=>[]
 |(n,k)::r=>if(k=.local∨k=.cell)∧n∉ps then n::Dr ps r else Dr ps r
noncomputable def pe(st:Stmt):List Str:=B1 st++Dr (B1 st) (bf st).names
noncomputable def qq(st:Stmt)(lm:Bool):SC:=⟨pe st,bf st,Ql 20 (ar st),lm⟩
noncomputable def gu(d:DefR):Bool:=
 decide ((bf d.st).kind=.function) && decide ((bf d.st).isCoroutine=false) && decide ((bf d.st).isGenerator=false) && decide ((pe d.st).Nodup) && decide ((pe d.st).take (B1 d.st).length=B1 d.st) &&
 ((B1 d.st).all λx=>decide ((bf d.st).names.lookup x=some .local)||decide ((bf d.st).names.lookup x=some .cell)) && ((bf d.st).names.all λy=>decide (y.2≠.free)) && decide (d.ms.length=(B1 d.st).length)
theorem A4{d:DefR}(h:gu d=true):FnScope (pe d.st) (B1 d.st) (bf d.st)∧d.ms.length=(B1 d.st).length:=by
 unfold gu at h;simp only[kA4,decide_eq_true_eq]at h;obtain⟨⟨⟨⟨⟨⟨⟨h1,h2⟩,h3⟩,h4⟩,h5⟩,h6⟩,h7⟩,h8⟩:=h;refine⟨⟨h1,h2,h3,h4,h5,λx hx=>?_,λy hy=>?_⟩,h8⟩
 ·have q:=kAx.mp h6 x hx;rw[Bool.or_eq_true,decide_eq_true_eq,decide_eq_true_eq]at q;exact q
 ·exact of_decide_eq_true (kAx.mp h7 y hy)
def dj(st:Stmt)(x:Str):Prop:=∀(kV doc pm:Value)(an:Option Addr)(cdv ct:Value)(us:List Value),us.length=(B1 st).length→bindArgs (kAb x x (cg st) (ar st) (bf st) .none kV doc pm an cdv ct) ⟨us,[]⟩=pure ((B1 st).zip us)
structure DefIn(K:PySem.W.Frag)(mg:Str→Option Value)(d:DefR):Prop where
 ok:gu d=true
 bd:dj d.st d.x
 at_:∃f fd,mg d.x=some (.ref f)∧Fun K d.x d.x d.st f fd∧(d.lm=true→∃c P,fd.code=.ref c∧(c,P,d.x++".<locals>."++"<lambda>")∈Qj∧PySem.W.codeHdIn K c P=true)
theorem fx{K:PySem.W.Frag}{h:Heap}{mg:Str→Option Value}{d:DefR}(X:K.In h)(G:h.Ns mainGlobals mg)(ok:gu d=true)(bd:dj d.st d.x){f:Addr}{oc kV doc pm cdv ct:Value}{od an:Option Addr}{osl:Array (Option Value)}
  (a:kA3 K mainGlobals d.x=some (some (.ref f)))(l:K.lookup f=some ⟨oc,od,.func (kAb d.x d.x (cg d.st) (ar d.st) (bf d.st) .none kV doc pm an cdv ct),osl⟩)(c:kAc K cdv d.x=true)(k:kA9 K (.ref f)=true)(m:d.lm=true→∃c P,cdv=.ref c∧(c,P,d.x++".<locals>."++"<lambda>")∈Qj∧PySem.W.codeHdIn K c P=true):DefIn K mg d:=
 ⟨ok,bd,f,_,kAt X G a,W9 l c k,m⟩
noncomputable def look(ds:List DefR)(x:Str):Option DefR:=match ds with
 |[]=>none
 |d::r=>if d.x=x then some d else look r x
theorem L5{x:Str}{d:DefR}:∀{ds:List DefR},look ds x=some d→d∈ds∧d.x=x
 |[],h=>by cases h
 |e::r,h=>by
  unfold look at h
  by_cases z:e.x=x
  ·rw[if_pos z]at h;cases h;exact⟨kA6,z⟩
  ·rw[if_neg z]at h;obtain⟨q1,q2⟩:=L5 h;exact⟨kA7 _ q1,q2⟩
noncomputable def ie:Nat:=20
noncomputable def aj(T:GT)(d:DefR):List D→Res:=fnD d.ms (pe d.st).length (gB T ie (qq d.st d.lm) (ar d.st))
noncomputable def ro(ds:List DefR)(gs:Str→Option Str)(xs:XT):Nat→GT
 |0=>⟨λ_=>none,gs,xs,λ_ _ _=>.st⟩
 |n+1=>⟨λx=>match look ds x with
  |some d=>some ⟨d.ms,aj (ro ds gs xs n) d⟩
  |none=>none,gs,xs,λ_ _ _=>.st⟩
structure XsIn(K:PySem.W.Frag)(mg:Str→Option Value)(xs:XT):Prop where
 exc:∀x,xs.exc x=true→∃C bm newId,mg x=some (.ref C)∧PySem.W.excIn K C bm newId=true∧ExBase bm newId
 sub:∀c y,xs.sub c y=true→∃Cy,mg y=some (.ref Cy)∧kAy K (.ref (E6 mg c)) (.ref Cy)=some true
 ve:∀c,xs.ve c=true→PySem.W.kitCls K (.ref (E6 mg c)) (.type "ValueError")=some true
 nsub:∀c y,xs.nsub c y=true→∃Cy,mg y=some (.ref Cy)∧kAy K (.ref (E6 mg c)) (.ref Cy)=some false
section
variable{P:Program}{w:World}{K:PySem.W.Frag}{mg:Str→Option Value}{base:Heap}{ds:List DefR}{gs:Str→Option Str}{xs:XT}
theorem zae{x:Str}{d:DefR}(n:Nat)(h:look ds x=some d):(ro ds gs xs (n+1)).fns x=some ⟨d.ms,aj (ro ds gs xs n) d⟩:=by
 show(match look ds x with
  |some d=>some (FS.mk d.ms (aj (ro ds gs xs n) d))
  |none=>none)=_
 rw[h]
theorem zjr(n:Nat):(ro ds gs xs n).xs=xs:=by cases n<;>rfl
def Bm(mg:Str→Option Value)(base:Heap):Prop:=∃bm o,mg "__builtins__"=some (.ref bm)∧bm≠builtinsNs∧bm≠mainGlobals∧base.get? bm=some o∧o.cls=.type "module"∧o.dict=some builtinsNs∧o.data=.plain
theorem sk{lo:Nat}:∀(names:List (Str×NameKind))(n:Nat)(acc:List (Str×Addr)),lo≤n→(∀p∈acc,lo≤p.2)→∀p∈cellsFrom n names acc,lo≤p.2
 |[],_,acc,_,h,p,hp=>h p hp
 |(nm,kd)::r,n,acc,hl,h,p,hp=>by
  unfold cellsFrom at hp;split at hp
  ·refine sk r (n+1) _ (Nat.le_succ_of_le hl) (λq hq=>?_) p hp;rcases kA8.mp hq with rfl|hq
   ·exact hl
   ·exact h q hq
  ·exact sk r n _ hl h p hp
theorem Rt{d:DefR}{fd:FuncData}{N:List Str}{f:Addr}{cdv:Value}{A:Around}{outer:List Env}{s:Shared}{H:Hp}{E:XK}(kb:K.In base)(bm:Bm mg base)(hc:fd.code=cdv)(hl:d.lm=true→∃c P,fd.code=.ref c∧(c,P,d.x++".<locals>."++"<lambda>")∈Qj∧PySem.W.codeHdIn K c P=true):
  (qq d.st d.lm).lam=true→Vy (zq (F8 P w) P w K mg base N d.x (bf d.st) f cdv A outer s H E):=λz=>by
 obtain⟨c,Pl,h1,h2,h3⟩:=hl z;refine⟨c,Pl,h2,hc.symm.trans h1,PySem.W.codeHd_of_K kb h3,bm,λy c hy=>?_,λy hy=>decide_eq_false λz=>z hy⟩;exact sk _ _ _ (Nat.le_succ _) (λp hp=>by simp at hp) _ (PySem.mem_of_lookup hy)
theorem zaf(kb:K.In base)(bm:Bm mg base)(hd:∀d∈ds,DefIn K mg d)(hs:∀x y,gs x=some y→∃t,mg x=some (.str y t))(hb:∀x∈zg,mg x=none)(hX:XsIn K mg xs):∀n,TabIs P w K mg base (ro ds gs xs n) n
 |0=>⟨λx s h=>(by cases h),hs,hb,hX.exc,hX.sub,hX.ve,hX.nsub,λe fs ds d h=>(by cases h)⟩
 |n+1=>by
  have ih:=zaf kb bm hd hs hb hX n;refine⟨λx s h=>?_,hs,hb,hX.exc,hX.sub,hX.ve,hX.nsub,λe fs ds' d h=>by cases h⟩;unfold ro at h;dsimp only at h;cases e:look ds x with
  |none=>rw[e]at h;cases h
  |some d=>
   rw[e]at h;cases h;obtain⟨m1,m2⟩:=L5 e;subst m2;obtain⟨ok,bd,f,fd,q1,F,hl⟩:=hd d m1;obtain⟨S,hm⟩:=A4 ok;refine⟨f,fd,B1 d.st,q1,F.kp,F.binds bd,W8 F S hm λcdv A outer s H G0 E hc hr=>?_⟩;exact Xa _ _ _ (qq d.st d.lm) G0 H E _ ⟨TabIs.xok (X:=zq (F8 P w) P w K mg base (pe d.st) d.x (bf d.st) f cdv A outer s H E) ih hr rfl rfl S.nd rfl Hf (Rt kb bm hc hl),λy hy=>decide_eq_true hy,PassesOwn.leaving,rfl,rfl,rfl⟩
noncomputable def Sy(K:PySem.W.Frag):Sp:=λvs H Q _=>GOk H∧∃(a:Addr) (ns:List Int),vs=[.ref a]∧SqL K H a (ns.map V.int)∧ns.length≤63∧∀H',Q (.bl true) H'
theorem Gh{K:KA}{G:Hp}:∀ns:List Int,DenL K G (ns.map D.int) (ns.map V.int)
 |[]=>rfl
 |n::ns=>⟨.int n,ns.map V.int,rfl,rfl,Gh ns⟩
theorem zg7{d:DefR}{f:Addr}{oc kV doc pm cdv ct:Value}{od an:Option Addr}{osl:Array (Option Value)}(ok:gu d=true)(nl:d.lm=false)
  (a:kA3 K mainGlobals d.x=some (some (.ref f)))(l:K.lookup f=some ⟨oc,od,.func (kAb d.x d.x (cg d.st) (ar d.st) (bf d.st) .none kV doc pm an cdv ct),osl⟩)(c:kAc K cdv d.x=true)(k:kA9 K (.ref f)=true)
  (kb:K.In base) (bm:Bm mg base) (hd:∀d∈ds,DefIn K mg d) (hs:∀x y,gs x=some y→∃t,mg x=some (.str y t)) (hb:∀x∈zg,mg x=none) (hX:XsIn K mg xs) {n:Nat} {s:FS} (hl:(ro ds gs xs n).fns "law"=some s) (hm:s.ms=[false])
  (law:∀ns:List Int,ns.length≤63→s.f [.lst (ns.map D.int)]=.ok (.bl true)) (hx:look ds "law"=some d:=by rfl) (hp:B1 d.st=[("_law_script":Str)]:=by rfl):
  FnOk P w K mg base CX0 n f (kAb d.x d.x (cg d.st) (ar d.st) (bf d.st) .none kV doc pm an cdv ct) ["_law_script"] (Sy K):=by
 cases n with
 |zero=>cases hl
 |succ n=>
  unfold ro at hl;dsimp only at hl;rw[hx]at hl;cases hl;obtain⟨S,hm'⟩:=A4 ok;have F:=W8 (P:=P) (w:=w) (base:=base) (mg:=mg) (k:=n) (ms:=d.ms) (Fb:=gB (ro ds gs xs n) ie (qq d.st d.lm) (ar d.st)) (W9 l c k) S hm' λcdv' A outer s H G0 E hc hr=>by
   exact Xa _ _ _ (qq d.st d.lm) G0 H E _ ⟨TabIs.xok (X:=zq (F8 P w) P w K mg base (pe d.st) d.x (bf d.st) f cdv' A outer s H E) (zaf kb bm hd hs hb hX n) hr rfl rfl S.nd rfl Hf (Rt kb bm hc λz=>by rw[nl]at z;cases z),λy hy=>decide_eq_true hy,PassesOwn.leaving,rfl,rfl,rfl⟩
  rw[hp]at F;refine F.calm.imp λvs H Q E ⟨gb,a,ns,e,sq,hn,q⟩=>?_;subst e;have hm:d.ms=[false]:=hm;have e:aj (ro ds gs xs n) d [.lst (ns.map D.int)]=.ok (.bl true):=law ns hn;show Qb _ d.ms (aj (ro ds gs xs n) d) _ H Q E0;refine⟨by rw[hm];rfl,gb,H,[.lst (ns.map D.int)],Same.refl H,by rw[hm];exact⟨_,[],_,[],rfl,rfl,⟨a,_,rfl,sq,Gh ns⟩,rfl,rfl⟩,?_⟩;rw[e];intro v G' H' _ dn;rw[show v=.bl true from dn];exact q H'
end
noncomputable def Ba(b:Addr):Option HO:=(Qj.find? λp=>p.2.1==b).map λp=>.tbl p.2.2
theorem Es{b:Addr}{o:HO}(h:Ba b=some o):∃p∈Qj,p.2.1=b∧o=.tbl p.2.2:=by
 unfold Ba at h;cases e:Qj.find? λp=>p.2.1==b with
 |none=>rw[e]at h;cases h
 |some p=>
  rw[e]at h;cases h;exact⟨p,List.mem_of_find?_eq_some e,by simpa using List.find?_some e,rfl⟩
theorem Rg{α:Type}{f:α→Addr}:∀{l:List α}{p:α},(l.map f).Nodup→p∈l→l.find? (λq=>f q==f p)=some p
 |[],_,_,h=>by simp at h
 |a::r,p,nd,h=>by
  rw[kA0,List.nodup_cons]at nd;rw[List.find?_cons]
  by_cases e:f a=f p
  ·have hb:(f a==f p)=true:=by simpa using e
   rw[hb];rcases kA8.mp h with rfl|h
   ·rfl
   ·exact absurd (e▸List.mem_map_of_mem h) nd.1
  ·have hb:(f a==f p)=false:=by simpa using e
   rw[hb];rcases kA8.mp h with rfl|h
   ·exact absurd rfl e
   ·exact Rg nd.2 h
theorem Vm(nd:(Qj.map (·.2.1)).Nodup){p:Addr×Addr×Str}(hp:p∈Qj):Ba p.2.1=some (.tbl p.2.2):=by
 unfold Ba;rw[Rg (f:=λp:Addr×Addr×Str=>p.2.1) nd hp];rfl
def V0(h:Heap):Prop:=∀p∈Qj,PySem.W.CodeHd h p.1 p.2.1∧h.get? p.2.1=some (PySem.W.tabObj #[])
theorem Uj{P:Program}{w:World}{K:PySem.W.Frag}{mg mb:Str→Option Value}{k:Nat}{fa a:Addr}{fd:FuncData}{x:Str}{s₁:Shared}{vs:List Value}{ns:List Int}
  (KX:K.In s₁.heap)(nK:PySem.W.noTabs K=true)(nd:(Qj.map (·.2.1)).Nodup)(tb:V0 s₁.heap)(bm:Bm mg s₁.heap)(hns:s₁.heap.Ns mainGlobals mg)(hb:s₁.heap.Ns builtinsNs mb)(hbb:∀x:Str,x≠"__name__"→mb x=bootBuiltins x)(hlim:s₁.heap.NoLimit)(hg:s₁.gens=#[])
  (ha:s₁.heap.get? a=some {cls:=.type "list",data:=.seq vs.toArray}) (hi:IntsAre vs ns) (hl:ns.length≤sizeLine) (hl2:ns.length≤63) (hr:Room k callerA)
  (F:∀base:Heap,K.In base→base.Ns mainGlobals mg→Bm mg base→FnOk P w K mg base CX0 k fa fd [x] (Sy K)) (hbind:∀(s:Shared)(u:Value),BindsTo s fd ⟨[u],[]⟩ [(x,u)]):
  codeAny (model P w) callerA (.call (.ref fa) ⟨[.ref a],[]⟩) (λr s'=>r=.ok (.ret (.bool true))∧OldK s₁.heap s'.heap∧s'.os=s₁.os∧AllBare s'.gens) s₁:=by
 have rv:=Hq hi;have lenV:=hi.length;have tne:∀{b:Addr}{u:HO},Ba b=some u→s₁.heap.get? b=some (PySem.W.tabObj #[]):=λ{b u} e=>by
  obtain⟨p,hp,rfl,_⟩:=Es e;exact(tb p hp).2
 have core:∀S:Option HO,(S=none∨S=some (.frz {cls:=.type "list",data:=.seq vs.toArray} (.lst (ns.map V.int))))→(S≠none→K.lookup a=none)→SqL K (λb=>if b=a then S else Ba b) a (ns.map V.int)→
   codeAny (model P w) callerA (.call (.ref fa) ⟨[.ref a],[]⟩) (λr s'=>r=.ok (.ret (.bool true))∧OldK s₁.heap s'.heap∧s'.os=s₁.os∧AllBare s'.gens) s₁:=by
  intro S hS hSK sq;generalize hH:(λb=>if b=a then S else Ba b)=H at sq;have Ha:H a=S:=by rw[←hH];exact if_pos rfl
  have Hb:∀b,b≠a→H b=Ba b:=λb hb=>by rw[←hH];exact if_neg hb
  have kind:∀{b:Addr}{u:HO},H b=some u→(b=a∧u=.frz {cls:=.type "list",data:=.seq vs.toArray} (.lst (ns.map V.int))∧K.lookup a=none)∨∃p∈Qj,p.2.1=b∧u=.tbl p.2.2:=λ{b u} e=>by
   by_cases z:b=a
   ·rw[z,Ha]at e;rcases hS with y|y
    ·rw[y]at e;cases e
    ·rw[y]at e;cases e;exact .inl ⟨z,rfl,hSK (by rw[y];simp)⟩
   ·rw[Hb b z]at e;exact .inr (Es e)
  have hok:HOk P w H s₁.heap:=λb u e=>by
   rcases kind e with ⟨rfl,rfl,_⟩|⟨p,hp,rfl,rfl⟩
   ·exact⟨ha,by rw[kA2];exact hl,vs,_,rv,ha⟩
   ·exact⟨#[],(tb p hp).2,trivial⟩
  have base_of:∀{b:Addr}{o:Obj},s₁.heap.get? b=some o→H b=none→(Fo s₁.heap H).get? b=some o:=λe n=>Xi e n;have free:∀{b:Addr}{o:Obj},s₁.heap.get? b=some o→(∀n,o.data≠.seq vs.toArray n)→o≠PySem.W.tabObj #[]→H b=none:=λ{b o} e h1 h2=>by
   cases q:H b with
   |none=>rfl
   |some u=>
    rcases kind q with ⟨rfl,_⟩|⟨p,hp,rfl,_⟩
    ·rw[ha]at e;cases e;exact absurd rfl (h1 _)
    ·rw[(tb p hp).2]at e;cases e;exact absurd rfl h2
  have nsK:∀{b:Addr}{m:Str→Option Value},s₁.heap.Ns b m→(Fo s₁.heap H).Ns b m:=λ{b m} ⟨o,es,ep,e,d,r⟩=>⟨o,es,ep,base_of e (free e (λn z=>by rw[d]at z;cases z) λz=>by rw[z]at d;cases d),d,r⟩;have hKb:K.In (Fo s₁.heap H):=λb o e=>base_of (KX b o e) (by
   cases q:H b with
   |none=>rfl
   |some u=>
    rcases kind q with ⟨rfl,_,z⟩|⟨p,hp,rfl,_⟩
    ·rw[z]at e;cases e
    ·have e2:=KX _ _ e;rw[(tb p hp).2]at e2;have h2:=kAx.mp nK _ (PySem.W.mem_of_lookupK e);cases e2;exact absurd (show false=true from h2) kAz)
  have bmK:Bm mg (Fo s₁.heap H):=by
   obtain⟨m,o,b1,b2,b3,b4,b5,b6,b7⟩:=bm;exact⟨m,o,b1,b2,b3,base_of b4 (free b4 (λn z=>by rw[b7]at z;cases z) λz=>by rw[z]at b5;cases b5),b5,b6,b7⟩
  have hM:Mod K mg (Fo s₁.heap H):=⟨hKb,nsK hns,⟨mb,nsK hb,hbb⟩,let ⟨mc,h1,h2⟩:=hlim;⟨mc,nsK h1,h2⟩⟩;have e0:Env0 P w K mg (Fo s₁.heap H) callerA [] s₁ H:=⟨rfl,hM,λb o e=>zck e,Nat.le_of_eq (T8 _ _),trivial,λb hb=>absurd (show b∈([]:List Addr)from hb) (by simp),hok,.of_eq hg⟩;have gb:GOk H:=λp hp=>by
   have:p.2.1≠a:=λz=>by
    have:=(tb p hp).2;rw[z,ha]at this;cases this
   rw[Hb _ this];exact Vm nd hp
  refine codeAny_mono ((F _ hKb (nsK hns) bmK).run callerA [] s₁ H ⟨[.ref a],[]⟩ [.ref a] [.ref a] (λv _=>v=.bl true) E0 hr e0 (hbind s₁ (.ref a)) (.cons rfl .nil) ⟨gb,a,ns,rfl,sq,hl2,λ_=>rfl⟩) λr s' h=>?_;cases r with
  |error e=>exact False.elim h
  |ok fl=>
   cases fl with
   |next=>exact False.elim h
   |brk=>exact False.elim h
   |cont=>exact False.elim h
   |ret u=>
    obtain⟨v,H',os,bare,un,hok',r',q⟩:=h;have q':v=.bl true:=q;subst q';obtain rfl:u=Value.bool true:=r';have keep:∀b o,s₁.heap.get? b=some o→(s'.heap.get? b=some o)∨∃p∈Qj,p.2.1=b∧∃ps,s'.heap.get? b=some (PySem.W.tabObj ps):=λb o e=>by
     cases q:H b with
     |none=>exact .inl (un.keep b o e q (by intro z;exact absurd (show b∈([]:List Addr)from z) (by simp)) (by simp))
     |some u=>
      rcases kind q with ⟨rfl,rfl,_⟩|⟨p,hp,rfl,rfl⟩
      ·obtain⟨e1,_⟩:=hok b _ q;obtain⟨e2,_⟩:=hok' b _ (un.frzs b _ _ q);rw[e]at e1;cases e1;exact .inl e2
      ·obtain⟨ps,e2,_⟩:=hok' _ _ (un.tbls _ _ q);exact .inr ⟨p,hp,rfl,ps,e2⟩
    refine⟨rfl,⟨λb o e=>?_,λb o e=>?_⟩,os,bare⟩
    ·rcases keep b o e with z|⟨p,hp,rfl,ps,z⟩
     ·exact .inl z
     ·obtain⟨c1,c2⟩:=tb p hp;rw[c2]at e;cases e;exact .inr (.inl ⟨(c1.tab c2).isCodeTable,rfl,#[],ps,rfl,by rw[Array.empty_append];exact z⟩)
    ·rcases keep b o e with z|⟨p,hp,rfl,ps,z⟩
     ·exact⟨_,z⟩
     ·exact⟨_,z⟩
 cases hk:K.lookup a with
 |some o=>
  have e:=KX a o hk;rw[ha]at e;cases e;exact core none (.inl rfl) (λz=>absurd rfl z) (.inr ⟨_,vs.toArray,_,hk,rfl,rfl,rfl,by rw[kAh,lenV];exact hl,by simpa using rv⟩)
 |none=>exact core _ (.inr rfl) (λ_=>hk) (.inl (.inr ⟨{cls:=.type "list",data:=.seq vs.toArray},if_pos rfl⟩))
theorem zm5{l:PySem.W.OpenLaw}{k:Nat}{q:Program}{loose:List Str}{XP:(Str→Option Value)→Heap→Prop}{YP:World→Heap→Prop}{d:DefRec}{K:Params→PySem.W.Frag}(hn:l.most=some 63)(hdf:d.params.defaults=[])(hr:Room k callerA)(nd:(Qj.map (·.2.1)).Nodup)
  (hY:∀(w:World)(h:Heap),YP w h→(K w.params).In h)(nK:∀w:World,PySem.W.noTabs (K w.params)=true)
  (tb:∀(w:World)(h:Heap),YP w h→V0 h)
  (F:∀(w:World)(mg:Str→Option Value)(fa:Addr)(h:Heap),(K w.params).In h→h.Ns mainGlobals mg→mg d.name=some (.ref fa)→
   ∃fd:FuncData,(∀(s:Shared)(u:Value),BindsTo s fd ⟨[u],[]⟩ [("_law_script",u)])∧∀base:Heap,(K w.params).In base→base.Ns mainGlobals mg→Bm mg base→FnOk l.prog w (K w.params) mg base CX0 k fa fd ["_law_script"] (Sy (K w.params))):
  PySem.W.WalkO q loose XP YP l.row.toRowW d [] (λf vs=>PySem.call f vs):=by
 refine Att.Ku hn hdf λw s₀ s₁ mg mb fa o pm cd doc a vs ns G Y ho hd hcd hmg hobj hints hlen hg=>?_;have KX:=hY w _ Y;obtain⟨fd,hb,hF⟩:=F w mg fa _ KX G.T.g hmg;obtain⟨bm,ob,b1,b2,b3,b4,b5,b6⟩:=G.T.bmain;have bG:bm≠mainGlobals:=λz=>by
  obtain⟨o,es,ep,e,hd,_⟩:=G.T.g;rw[z,e]at b3;cases b3;rw[hd]at b6;cases b6
 exact Uj KX (nK w) nd (tb w _ Y) ⟨bm,ob,b1,b2,bG,b3,b4,b5,b6⟩ G.T.g G.T.b G.T.builtins G.T.nolimit hg hobj hints (kAk hlen (by decide)) hlen hr hF hb
end Pu
end
section
namespace LK
open PySem PySem.Spec PyProof.Rows L2 Pu
def uc(i:Nat):Stmt:=PySem.Challenge.pw_askbook_k06_whole_lean.main.body.getD i (.Pass ⟨0,0,0,0⟩)
def fe:DefR:=⟨"is_number",uc 6,[true],false⟩
def gd:DefR:=⟨"is_word",uc 7,[true],false⟩
def gi:DefR:=⟨"is_term",uc 8,[true],false⟩
def b9:DefR:=⟨"is_tuple_of",uc 9,[true,true,true,true],false⟩
def ff:DefR:=⟨"is_pair",uc 10,[true],false⟩
def gp:DefR:=⟨"is_atom",uc 11,[true],false⟩
def bj:DefR:=⟨"are_of_one_length",uc 12,[true],false⟩
def cm:DefR:=⟨"stand_ins",uc 13,[true],false⟩
def df:DefR:=⟨"terms_of",uc 14,[true],false⟩
def cy:DefR:=⟨"are_standing",uc 15,[true,true],false⟩
def aq:DefR:=⟨"checked_asking",uc 16,[false],false⟩
def gc:DefR:=⟨"put_in",uc 18,[true,true],false⟩
def bw:DefR:=⟨"put_further",uc 19,[true,true,true],false⟩
def ck:DefR:=⟨"found_way",uc 21,[true,true,false],false⟩
def gj:DefR:=⟨"way_put",uc 22,[true,true],false⟩
def cf:DefR:=⟨"numbers_of",uc 23,[true],false⟩
def az:DefR:=⟨"numbers_for_stand_ins",uc 24,[true,true],false⟩
def cb:DefR:=⟨"book_against",uc 25,[true,true],false⟩
def fh:DefR:=⟨"within",uc 26,[false,false],false⟩
def fi:DefR:=⟨"without",uc 28,[true,false],false⟩
def d7:DefR:=⟨"needless",uc 29,[false,false],false⟩
def jm:DefR:=⟨"lean",uc 30,[false],false⟩
def dh:DefR:=⟨"_law_cell_at",uc 32,[true,true],false⟩
def bg:DefR:=⟨"_law_mixed",uc 33,[true,true,true],false⟩
def fm:DefR:=⟨"_law_term",uc 34,[true,true],false⟩
def fj:DefR:=⟨"_law_atom",uc 35,[true,true],false⟩
def dq:DefR:=⟨"_law_asking",uc 36,[true,true,true],false⟩
def bx:DefR:=⟨"_law_stand_ins",uc 37,[true],false⟩
def d5:DefR:=⟨"_law_sent",uc 38,[true,true],false⟩
def cx:DefR:=⟨"_law_is_way",uc 39,[true,true,true],false⟩
def cz:DefR:=⟨"_law_whole",uc 40,[true],false⟩
def di:DefR:=⟨"_law_name",uc 41,[true],false⟩
def cv:DefR:=⟨"_law_is_atom",uc 43,[true],false⟩
def bp:DefR:=⟨"_law_is_asking",uc 44,[true],false⟩
def fk:DefR:=⟨"_law_more",uc 45,[true,false],false⟩
def cc:DefR:=⟨"_law_may_go",uc 46,[false,false],false⟩
def j6:DefR:=⟨"law",uc 47,[false],false⟩
def zbm:List DefR:=[fe,gd,gi,b9,ff,gp,bj,cm,df,cy,aq,gc,bw,ck,gj,cf,az,cb,fh,fi,d7,jm,dh,bg,fm,fj,dq,bx,d5,cx,cz,di,cv,bp,fk,cc,j6]
def xs:XT:=⟨λx=>decide (x="AskError")||(decide (x="NoAsking")||(decide (x="Unlike")||(false))),λc y=>(decide (c="AskError") && decide (y="AskError"))||((decide (c="NoAsking") && decide (y="NoAsking"))||((decide (c="NoAsking") && decide (y="AskError"))||((decide (c="Unlike") && decide (y="Unlike"))||((decide (c="Unlike") && decide (y="AskError"))||(false))))),λc=>decide (c="AskError")||(decide (c="NoAsking")||(decide (c="Unlike")||(false))),λc y=>false⟩
def gs(x:Str):Option Str:=if x="LETTERS" then some "abcdefghijklmnopqrstuvwxyz" else none
theorem Jv:gu fe=true:=by decide+kernel
theorem Hz:dj fe.st fe.x:=λ_ _ _ _ _ _ us hl=>match us,hl with|[_],_=>rfl
theorem Pv:gu gd=true:=by decide+kernel
theorem N4:dj gd.st gd.x:=λ_ _ _ _ _ _ us hl=>match us,hl with|[_],_=>rfl
theorem Pt:gu gi=true:=by decide+kernel
theorem N3:dj gi.st gi.x:=λ_ _ _ _ _ _ us hl=>match us,hl with|[_],_=>rfl
theorem D3:gu b9=true:=by decide+kernel
theorem Cr:dj b9.st b9.x:=λ_ _ _ _ _ _ us hl=>match us,hl with|[_,_,_,_],_=>rfl
theorem Pr:gu ff=true:=by decide+kernel
theorem N2:dj ff.st ff.x:=λ_ _ _ _ _ _ us hl=>match us,hl with|[_],_=>rfl
theorem Pq:gu gp=true:=by decide+kernel
theorem N1:dj gp.st gp.x:=λ_ _ _ _ _ _ us hl=>match us,hl with|[_],_=>rfl
theorem u5:gu bj=true:=by decide+kernel
theorem uh:dj bj.st bj.x:=λ_ _ _ _ _ _ us hl=>match us,hl with|[_],_=>rfl
theorem Jy:gu cm=true:=by decide+kernel
theorem H9:dj cm.st cm.x:=λ_ _ _ _ _ _ us hl=>match us,hl with|[_],_=>rfl
theorem M0:gu df=true:=by decide+kernel
theorem K1:dj df.st df.x:=λ_ _ _ _ _ _ us hl=>match us,hl with|[_],_=>rfl
theorem Bz:gu cy=true:=by decide+kernel
theorem Bg:dj cy.st cy.x:=λ_ _ _ _ _ _ us hl=>match us,hl with|[_,_],_=>rfl
theorem yh:gu aq=true:=by decide+kernel
theorem xt:dj aq.st aq.x:=λ_ _ _ _ _ _ us hl=>match us,hl with|[_],_=>rfl
theorem U3:gu gc=true:=by decide+kernel
theorem Tj:dj gc.st gc.x:=λ_ _ _ _ _ _ us hl=>match us,hl with|[_,_],_=>rfl
theorem D6:gu bw=true:=by decide+kernel
theorem Cu:dj bw.st bw.x:=λ_ _ _ _ _ _ us hl=>match us,hl with|[_,_,_],_=>rfl
theorem Ju:gu ck=true:=by decide+kernel
theorem Hy:dj ck.st ck.x:=λ_ _ _ _ _ _ us hl=>match us,hl with|[_,_,_],_=>rfl
theorem Pw:gu gj=true:=by decide+kernel
theorem N5:dj gj.st gj.x:=λ_ _ _ _ _ _ us hl=>match us,hl with|[_,_],_=>rfl
theorem F3:gu cf=true:=by decide+kernel
theorem Ff:dj cf.st cf.x:=λ_ _ _ _ _ _ us hl=>match us,hl with|[_],_=>rfl
theorem qz:gu az=true:=by decide+kernel
theorem qp:dj az.st az.x:=λ_ _ _ _ _ _ us hl=>match us,hl with|[_,_],_=>rfl
theorem B0:gu cb=true:=by decide+kernel
theorem Bh:dj cb.st cb.x:=λ_ _ _ _ _ _ us hl=>match us,hl with|[_,_],_=>rfl
theorem U4:gu fh=true:=by decide+kernel
theorem Tn:dj fh.st fh.x:=λ_ _ _ _ _ _ us hl=>match us,hl with|[_,_],_=>rfl
theorem Px:gu fi=true:=by decide+kernel
theorem N6:dj fi.st fi.x:=λ_ _ _ _ _ _ us hl=>match us,hl with|[_,_],_=>rfl
theorem Mz:gu d7=true:=by decide+kernel
theorem K0:dj d7.st d7.x:=λ_ _ _ _ _ _ us hl=>match us,hl with|[_,_],_=>rfl
theorem zcl:gu jm=true:=by decide+kernel
theorem zbg:dj jm.st jm.x:=λ_ _ _ _ _ _ us hl=>match us,hl with|[_],_=>rfl
theorem D4:gu dh=true:=by decide+kernel
theorem Cs:dj dh.st dh.x:=λ_ _ _ _ _ _ us hl=>match us,hl with|[_,_],_=>rfl
theorem Jw:gu bg=true:=by decide+kernel
theorem H0:dj bg.st bg.x:=λ_ _ _ _ _ _ us hl=>match us,hl with|[_,_,_],_=>rfl
theorem My:gu fm=true:=by decide+kernel
theorem Kz:dj fm.st fm.x:=λ_ _ _ _ _ _ us hl=>match us,hl with|[_,_],_=>rfl
theorem Mu:gu fj=true:=by decide+kernel
theorem Kv:dj fj.st fj.x:=λ_ _ _ _ _ _ us hl=>match us,hl with|[_,_],_=>rfl
theorem Fy:gu dq=true:=by decide+kernel
theorem E9:dj dq.st dq.x:=λ_ _ _ _ _ _ us hl=>match us,hl with|[_,_,_],_=>rfl
theorem Ae:gu bx=true:=by decide+kernel
theorem ze:dj bx.st bx.x:=λ_ _ _ _ _ _ us hl=>match us,hl with|[_],_=>rfl
theorem Mx:gu d5=true:=by decide+kernel
theorem Ky:dj d5.st d5.x:=λ_ _ _ _ _ _ us hl=>match us,hl with|[_,_],_=>rfl
theorem Fz:gu cx=true:=by decide+kernel
theorem Fd:dj cx.st cx.x:=λ_ _ _ _ _ _ us hl=>match us,hl with|[_,_,_],_=>rfl
theorem Jx:gu cz=true:=by decide+kernel
theorem H8:dj cz.st cz.x:=λ_ _ _ _ _ _ us hl=>match us,hl with|[_],_=>rfl
theorem Mw:gu di=true:=by decide+kernel
theorem Kx:dj di.st di.x:=λ_ _ _ _ _ _ us hl=>match us,hl with|[_],_=>rfl
theorem D5:gu cv=true:=by decide+kernel
theorem Ct:dj cv.st cv.x:=λ_ _ _ _ _ _ us hl=>match us,hl with|[_],_=>rfl
theorem Ad:gu bp=true:=by decide+kernel
theorem zd:dj bp.st bp.x:=λ_ _ _ _ _ _ us hl=>match us,hl with|[_],_=>rfl
theorem Mv:gu fk=true:=by decide+kernel
theorem Kw:dj fk.st fk.x:=λ_ _ _ _ _ _ us hl=>match us,hl with|[_,_],_=>rfl
theorem F0:gu cc=true:=by decide+kernel
theorem Fe:dj cc.st cc.x:=λ_ _ _ _ _ _ us hl=>match us,hl with|[_,_],_=>rfl
theorem Yj:gu j6=true:=by decide+kernel
theorem zf7:dj j6.st j6.x:=λ_ _ _ _ _ _ us hl=>match us,hl with|[_],_=>rfl
noncomputable def bq(n:Nat):GT:=ro zbm gs xs n
noncomputable def veB:List Value:=[.type "ValueError",.type "Exception",.type "BaseException",.type "object"]
theorem Qt:ExBase veB "ValueError.__new__":=⟨"ValueError",_,_,_,_,_,PySem.F.excBase_ValueError,by decide+kernel,PySem.F.excBase_ValueError⟩
end LK
end
section
namespace Pu
open PySem PySem.Spec PyProof.Rows L2
theorem ip{T:GT}{d:DefR}{F:En→Out}{k:Nat}{ms:List Bool}(h:gB T ie (qq d.st d.lm) (ar d.st)=F)(hn:(pe d.st).length=k)(hm:d.ms=ms)(ds:List D):aj T d ds=gy (F (fb ms ds++kAa (k - ds.length) .no)):=by
 unfold aj fnD;rw[h,hn,hm]
theorem iz{tg:D→En→Option En}{r:En→ResL}{F:En→Out}{δ:En}{ds:List D}(h:r δ=.ok ds):i5 tg r F δ=gx tg F ds δ:=by
 unfold i5;rw[h]
theorem fy{tg:D→En→Option En}{F:En→Out}{δ δ1:En}{d:D}{r:List D}(h:tg d δ=some δ1):gx tg F (d::r) δ=(match F δ1 with
  |.nx δ'=>gx tg F r δ'
  |.ct δ'=>gx tg F r δ'
  |.bk δ'=>.nx δ'
  |.rt d=>.rt d
  |.er c=>.er c
  |.st=>.st):=by
 show(match tg d δ with
  |none=>Out.st
  |some δ1=>match F δ1 with
   |.nx δ'=>gx tg F r δ'
   |.ct δ'=>gx tg F r δ'
   |.bk δ'=>.nx δ'
   |.rt d=>.rt d
   |.er c=>.er c
   |.st=>.st)=_
 rw[h]
theorem Gf{f:D→Option (Option D)}{g:D→Option D}:∀{ds:List D},(∀d∈ds,f d=some (g d))→lz f ds=some (ds.filterMap g)
 |[],_=>rfl
 |d::r,h=>by
  unfold lz;rw[h d kA6];dsimp only;rw[Gf λd hd=>h d (kA7 _ hd),kB1];cases g d<;>rfl
theorem Dd{r:En→ResL}{ix:List Nat}{t g:En→Res}{δ:En}{ds:List D}{h:D→Option D}(hr:r δ=.ok ds)(hl:ds.length≤sizeLine)(hf:∀d∈ds,Bc ix t g δ d=some (h d)):gz r ix t g δ=.ok (.lst (ds.filterMap h)):=by
 unfold gz;rw[hr];dsimp only;rw[if_pos hl,Gf hf]
theorem zap{ix:List Nat}{g:En→Res}{δ:En}{d y:D}(h:g (ic ix δ (.pu d))=.ok y):Bc ix (gC (.bl true)) g δ d=some (some y):=by
 unfold Bc gC;dsimp only;rw[h]
theorem y6{ix:List Nat}{t g:En→Res}{δ:En}{d y:D}{b:Bool}(ht:t (ic ix δ (.pu d))=.ok (.bl b))(h:b=true→g (ic ix δ (.pu d))=.ok y):Bc ix t g δ d=some (if b then some y else none):=by
 unfold Bc;rw[ht];cases b with
 |true=>dsimp only;rw[h rfl];rfl
 |false=>rfl
section
variable(δ:En)(d e:D)(i j:Nat)(g h k c:En→Res)(F F':En→Out)(r:En→ResL)(f:D→Option D)(f2 f3:D→D→Option D)
@[simp] theorem Np(ms:List Bool):fb ms []=[]:=by cases ms<;>rfl
@[simp] theorem Vq(ms:List Bool)(ds:List D):fb (true::ms) (d::ds)=.bo d::fb ms ds:=rfl
@[simp] theorem zj4(ms:List Bool)(ds:List D):fb (false::ms) (d::ds)=.pu d::fb ms ds:=rfl
@[simp] theorem Bd:br F F' δ=match F δ with
 |.nx δ'=>F' δ'
 |o=>o:=rfl
@[simp] theorem zfu:ia δ=.nx δ:=rfl
@[simp] theorem zpn:Ss δ=.nx δ:=rfl
@[simp] theorem zq0:tu δ=.st:=rfl
@[simp] theorem zqd:lu δ=.st:=rfl
@[simp] theorem zau:d4 g δ=(g δ).then .rt:=rfl
@[simp] theorem zmu:ki c F F' δ=(c δ).then λd=>match d with
 |.bl true=>F δ
 |.bl false=>F' δ
 |_=>.st:=rfl
@[simp] theorem zav:gr i g δ=(g δ).then λd=>.nx (δ.set i (.pu d)):=rfl
@[simp] theorem zaw:qg i g δ=(g δ).then λd=>match d with
 |.lst ds=>.nx (δ.set i (.ow ds))
 |_=>.st:=rfl
@[simp] theorem zpo:Eb i δ=.nx (δ.set i (.od false [])):=rfl
@[simp] theorem zoa:Ed i g δ=(g δ).then λd=>match d with
 |.dct false kvs=>.nx (δ.set i (.od false kvs))
 |_=>.st:=rfl
@[simp] theorem r8(f:D→Out):(Res.ok d).then f=f d:=rfl
@[simp] theorem zj8(f:D→Out):Res.st.then f=.st:=rfl
@[simp] theorem zj7(f:D→Out)(c:Str):(Res.er c).then f=.er c:=rfl
@[simp] theorem Am(f:D→Res):(Res.ok d).bind f=f d:=rfl
@[simp] theorem zj3(f:D→Res):Res.st.bind f=.st:=rfl
@[simp] theorem zj2(f:D→Res)(c:Str):(Res.er c).bind f=.er c:=rfl
@[simp] theorem An:Res.of (some d)=.ok d:=rfl
@[simp] theorem zj6:Res.of none=.st:=rfl
@[simp] theorem zmz:gy (.rt d)=.ok d:=rfl
@[simp] theorem zmy:gy (.nx δ)=.ok .non:=rfl
@[simp] theorem zm0:gy .st=.st:=rfl
@[simp] theorem zmx(c:Str):gy (.er c)=.er c:=rfl
@[simp] theorem zqi:cn i δ=match δ[i]? with
 |some (.pu d)=>.ok d
 |_=>.st:=rfl
@[simp] theorem zfs:af i δ=match δ[i]? with
 |some (.pu d)=>.ok d
 |some (.bo d)=>.ok d
 |some (.ow ds)=>.ok (.lst ds)
 |some (.od t kvs)=>.ok (.dct t kvs)
 |_=>.st:=rfl
@[simp] theorem zqu:Bp i δ=match δ[i]? with
 |some (.pu d)=>.ok d
 |some (.bo d)=>.ok d
 |_=>.st:=rfl
@[simp] theorem v_c:gC d δ=.ok d:=rfl
@[simp] theorem zek:g1 f g δ=(g δ).bind λx=>Res.of (f x):=rfl
@[simp] theorem zat:g2 f2 g h δ=(g δ).bind λx=>(h δ).bind λy=>Res.of (f2 x y):=rfl
@[simp] theorem zqc:Ri c g h δ=(c δ).bind λd=>match d with
 |.bl true=>g δ
 |.bl false=>h δ
 |_=>.st:=rfl
@[simp] theorem zmw:i9 c δ=(c δ).bind λd=>match d with
 |.bl b=>.ok (.bl !b)
 |_=>.st:=rfl
@[simp] theorem zp9:m6 g h δ=(g δ).bind λd=>match d with
 |.bl true=>h δ
 |.bl false=>.ok (.bl false)
 |_=>.st:=rfl
@[simp] theorem zpm:wj g h δ=(g δ).bind λd=>match d with
 |.bl true=>.ok (.bl true)
 |.bl false=>h δ
 |_=>.st:=rfl
@[simp] theorem zm1:g9 g δ=(g δ).bind λx=>Res.of (bD (Ew x)):=rfl
@[simp] theorem zax(b:Bool):bD (Ew (.bl b))=some (.bl b):=rfl
@[simp] theorem zng:xa f2 f3 g h k δ=(g δ).bind λx=>(h δ).bind λy=>(Res.of (f2 x y)).bind λz=>match z with
 |.bl true=>(k δ).bind λw=>Res.of (f3 y w)
 |.bl false=>.ok (.bl false)
 |_=>.st:=rfl
@[simp] theorem Qr:ae g r δ=match g δ with
 | .ok d => (match r δ with
  |.ok ds=>.ok (d::ds)
  |.er c=>.er c
  |.st=>.st)
 |.er c=>.er c
 |.st=>.st:=rfl
@[simp] theorem Qs:bc δ=.ok []:=rfl
@[simp] theorem zar(fn:List D→Res):bb fn r δ=match r δ with
 |.ok ds=>fn ds
 |.er c=>.er c
 |.st=>.st:=rfl
@[simp] theorem zft:mv r δ=match r δ with
 |.ok ds=>if ds.length≤16777216 then .ok (.lst ds)else .st
 |.er c=>.er c
 |.st=>.st:=rfl
@[simp] theorem zqh:jt r δ=match r δ with
 |.ok ds=>if ds.length≤16777216 then .ok (.tup ds)else .st
 |.er c=>.er c
 |.st=>.st:=rfl
@[simp] theorem zjm:de g δ=match g δ with
 | .ok d => (match Hr d with
  |some ds=>.ok ds
  |none=>.st)
 |.er c=>.er c
 |.st=>.st:=rfl
@[simp] theorem zm2(ds:List D):Hr (.lst ds)=some ds:=rfl
@[simp] theorem zm3(ds:List D):Hr (.tup ds)=some ds:=rfl
@[simp] theorem zas:fz [] F δ=F δ:=rfl
@[simp] theorem zpl(is:List Nat):fz (i::is) F δ=fz is F (frz i δ):=rfl
@[simp] theorem zms:frz i δ=match δ[i]? with
 |some (.ow ds)=>δ.set i (.pu (.lst ds))
 |some (.od t kvs)=>δ.set i (.pu (.dct t kvs))
 |_=>δ:=rfl
@[simp] theorem zmt:bz i d δ=some (δ.set i (.pu d)):=rfl
@[simp] theorem zqa:B2 i g δ=match δ[i]? with
 |some (.ow ds)=>(g δ).then λd=>if ds.length<16777216 then .nx (δ.set i (.ow (ds++[d])))else .st
 |_=>.st:=rfl
@[simp] theorem zmr:yn i g δ=match δ[i]? with
 |some (.ow ds)=>(g δ).then λd=>match xb d with
  |some es=>if ds.length+es.length≤16777216 then .nx (δ.set i (.ow (ds++es)))else .st
  |none=>.st
 |_=>.st:=rfl
@[simp] theorem Vr(ds:List D):xb (.lst ds)=some ds:=rfl
@[simp] theorem zj5(ds:List D):xb (.tup ds)=some ds:=rfl
@[simp] theorem zn9(ds:List D):fc (.lst ds)=some (.int ds.length):=rfl
@[simp] theorem zen(ds:List D):fc (.tup ds)=some (.int ds.length):=rfl
@[simp] theorem zqz(a b:Int):u7 (.int a) (.int b)=some (.bl (decide (a<b))):=rfl
@[simp] theorem zqy(a b:Int):Vh (.int a) (.int b)=some (.bl (decide (a≤b))):=rfl
@[simp] theorem zqx(a b:Int):Ve (.int a) (.int b)=some (.bl (decide (b<a))):=rfl
@[simp] theorem zqw(a b:Int):zlv (.int a) (.int b)=some (.bl (decide (b≤a))):=rfl
@[simp] theorem zmq(a b:Int):jn (.int a) (.int b)=some (.bl (a==b)):=rfl
@[simp] theorem zqf(a b:Int):jl (.int a) (.int b)=some (.bl (!(a==b))):=rfl
@[simp] theorem zp8(a b:Int):cw (.int a) (.int b)=some (.int (a+b)):=rfl
@[simp] theorem zqg(a b:Int):Sr (.int a) (.int b)=some (.int (a - b)):=rfl
@[simp] theorem zqe:qf d .non=some (.bl (ot d)):=rfl
@[simp] theorem zmv:j9 d .non=some (.bl (!ot d)):=rfl
@[simp] theorem Vs(ds:List D):ku (.lst ds)=some (.tup ds):=rfl
@[simp] theorem zj9(ds:List D):ku (.tup ds)=some (.tup ds):=rfl
@[simp] theorem zqv:gM f2 g h δ=(g δ).bind λx=>match x with
 |.lst xs=>(h δ).bind λy=>Res.of (f2 (.lst xs) y)
 |_=>.st:=rfl
@[simp] theorem zn2(x:Str):cq "str" (.str x)=some (.bl true):=by kernel_rfl
@[simp] theorem znz(x:Int):cq "str" (.int x)=some (.bl false):=by kernel_rfl
@[simp] theorem zny(x:Bool):cq "str" (.bl x)=some (.bl false):=by kernel_rfl
@[simp] theorem zn1:cq "str" .non=some (.bl false):=by kernel_rfl
@[simp] theorem zn3(x:List D):cq "str" (.tup x)=some (.bl false):=by kernel_rfl
@[simp] theorem zn0(x:List D):cq "str" (.lst x)=some (.bl false):=by kernel_rfl
@[simp] theorem znr(x:Str):cq "int" (.str x)=some (.bl false):=by kernel_rfl
@[simp] theorem zno(x:Int):cq "int" (.int x)=some (.bl true):=by kernel_rfl
@[simp] theorem znn(x:Bool):cq "int" (.bl x)=some (.bl true):=by kernel_rfl
@[simp] theorem znq:cq "int" .non=some (.bl false):=by kernel_rfl
@[simp] theorem zns(x:List D):cq "int" (.tup x)=some (.bl false):=by kernel_rfl
@[simp] theorem znp(x:List D):cq "int" (.lst x)=some (.bl false):=by kernel_rfl
@[simp] theorem znl(x:Str):cq "bool" (.str x)=some (.bl false):=by kernel_rfl
@[simp] theorem znj(x:Int):cq "bool" (.int x)=some (.bl false):=by kernel_rfl
@[simp] theorem zni(x:Bool):cq "bool" (.bl x)=some (.bl true):=by kernel_rfl
@[simp] theorem znk:cq "bool" .non=some (.bl false):=by kernel_rfl
@[simp] theorem znm(x:List D):cq "bool" (.tup x)=some (.bl false):=by kernel_rfl
@[simp] theorem znh(x:List D):cq "bool" (.lst x)=some (.bl false):=by kernel_rfl
@[simp] theorem Tc(x:Str):cq "tuple" (.str x)=some (.bl false):=by kernel_rfl
@[simp] theorem S9(x:Int):cq "tuple" (.int x)=some (.bl false):=by kernel_rfl
@[simp] theorem S8(x:Bool):cq "tuple" (.bl x)=some (.bl false):=by kernel_rfl
@[simp] theorem Tb:cq "tuple" .non=some (.bl false):=by kernel_rfl
@[simp] theorem zn4(x:List D):cq "tuple" (.tup x)=some (.bl true):=by kernel_rfl
@[simp] theorem Ta(x:List D):cq "tuple" (.lst x)=some (.bl false):=by kernel_rfl
@[simp] theorem znw(x:Str):cq "list" (.str x)=some (.bl false):=by kernel_rfl
@[simp] theorem znu(x:Int):cq "list" (.int x)=some (.bl false):=by kernel_rfl
@[simp] theorem znt(x:Bool):cq "list" (.bl x)=some (.bl false):=by kernel_rfl
@[simp] theorem znv:cq "list" .non=some (.bl false):=by kernel_rfl
@[simp] theorem znx(x:List D):cq "list" (.tup x)=some (.bl false):=by kernel_rfl
@[simp] theorem zel(x:List D):cq "list" (.lst x)=some (.bl true):=by kernel_rfl
@[simp] theorem zn5(a b:D):ao (.tup [a,b]) (.int 0)=some a:=rfl
@[simp] theorem zem(a b:D):ao (.tup [a,b]) (.int 1)=some b:=rfl
@[simp] theorem zn6(a b c:D):ao (.tup [a,b,c]) (.int 0)=some a:=rfl
@[simp] theorem zn7(a b c:D):ao (.tup [a,b,c]) (.int 1)=some b:=rfl
@[simp] theorem zn8(a b c:D):ao (.tup [a,b,c]) (.int 2)=some c:=rfl
def Smp(d:D):Prop:=∃p,ij d=some p∧PyData.canLay0 p=true∧p.depth≤8
theorem zd3(i:Int):Smp (.int i):=⟨.int i,rfl,rfl,kAl _⟩
theorem Sx{x:Str}(h:PyData.strOk x=true):Smp (.str x):=⟨.str x,rfl,h,kAl _⟩
def za8(ds:List D):Prop:=∃ps,gw ds=some ps∧PyData.canLayAll0 ps=true∧PyData.depthAll ps≤8
theorem zi9:∀{ds:List D},(∀d∈ds,Smp d)→za8 ds
 |[],_=>⟨[],rfl,rfl,kAl _⟩
 |d::r,h=>by
  obtain⟨p,e1,e2,e3⟩:=h d kA6;obtain⟨ps,f1,f2,f3⟩:=zi9 (ds:=r) λd hd=>h d (kA7 _ hd);refine⟨p::ps,by unfold gw;rw[e1,f1],?_,Nat.max_le.mpr ⟨e3,f3⟩⟩;show(PyData.canLay0 p && PyData.canLayAll0 ps)=true;rw[e2,f2];rfl
theorem o4{p:PyData}(h1:PyData.canLay0 p=true)(h2:p.depth≤63):SeqAt.shaped p=true:=by
 unfold SeqAt.shaped;rw[h1,decide_eq_true (by omega)];rfl
theorem C8{d e:D}{p q:PyData}(h1:ij d=some p)(h2:ij e=some q)(a1:PyData.canLay0 p=true)(a2:p.depth≤63)(b1:PyData.canLay0 q=true)(b2:q.depth≤63):Rc d e=some (PyData.eqv p q):=by
 unfold Rc;rw[h1,h2];dsimp only;rw[o4 a1 a2,o4 b1 b2];rfl
theorem Re{ds:List D}(h:za8 ds):jn (.lst ds) (.lst [])=some (.bl ds.isEmpty)∧jl (.lst ds) (.lst [])=some (.bl (!ds.isEmpty)):=by
 obtain⟨ps,e1,e2,e3⟩:=h;have q:Rc (.lst ds) (.lst [])=some (PyData.eqv (.list ps) (.list [])):=C8 (by unfold ij;rw[e1]) rfl e2 (show PyData.depthAll ps+1≤63 by omega) rfl (show 0+1≤63 by omega);have e:PyData.eqv (.list ps) (.list [])=ds.isEmpty:=by
  cases ds with
  |nil=>cases e1;rfl
  |cons d r=>
   unfold gw at e1;cases h1:ij d with
   |none=>rw[h1]at e1;cases e1
   |some p=>
    cases h2:gw r with
    |none=>rw[h1,h2]at e1;cases e1
    |some ps'=>rw[h1,h2]at e1;cases e1;rfl
 unfold jn jl;rw[q,e];exact⟨rfl,rfl⟩
theorem Td(a b:Int)(h:0<b):A8 (.int a) (.int b)=some (.int (a % b)):=if_pos h
theorem Ho(a b:Int)(h:(-(2 ^ 64)<a∧a<2 ^ 64)∨(-(2 ^ 64)<b∧b<2 ^ 64)):mz (.int a) (.int b)=some (.int (a * b)):=if_pos h
theorem y7(hr:r δ=.ok [.int j'])(h:-(2 ^ 62)≤j'∧j'<2 ^ 62):j7 r δ=.ok (kh 0 j'.toNat):=by
 unfold j7;rw[hr];exact if_pos h
end
end Pu
end
section
namespace LK
open PySem PySem.Spec PyProof.Rows L2 Pu
noncomputable def ue(n:Nat):En→Out:=(d4 (m6 (g1 (cq "int") (af 0)) (i9 (g1 (cq "bool") (af 0)))))
theorem L8(n:Nat):gB (bq (n+1)) ie (qq fe.st fe.lm) (ar fe.st)=ue n:=by kernel_rfl
theorem Mi:(pe fe.st).length=1:=by decide+kernel
theorem Lh(n:Nat)(ds:List D):aj (bq (n+1)) fe ds=gy (ue n (fb [true] ds++kAa (1 - ds.length) .no)):=ip (L8 n) Mi rfl ds
noncomputable def mi(n:Nat):En→Out:=(d4 (m6 (g1 (cq "str") (af 0)) (m6 (xa Vh Vh (gC (.int 1)) (g1 fc (af 0)) (gC (.int 8))) (g1 A6 (gz (de (af 0)) [] (gC (.bl true)) (g2 M9 (af 0) (gC (.str "abcdefghijklmnopqrstuvwxyz"))))))))
theorem Uq(n:Nat):gB (bq (n+1)) ie (qq gd.st gd.lm) (ar gd.st)=mi n:=by kernel_rfl
theorem Uz:(pe gd.st).length=1:=by decide+kernel
theorem n6(n:Nat)(ds:List D):aj (bq (n+1)) gd ds=gy (mi n (fb [true] ds++kAa (1 - ds.length) .no)):=ip (Uq n) Uz rfl ds
noncomputable def vh(n:Nat):En→Out:=(d4 (wj (bb (aj (bq n) gd) (ae (af 0) bc)) (bb (aj (bq n) fe) (ae (af 0) bc))))
theorem Up(n:Nat):gB (bq (n+1)) ie (qq gi.st gi.lm) (ar gi.st)=vh n:=by kernel_rfl
theorem Uy:(pe gi.st).length=1:=by decide+kernel
theorem Tx(n:Nat)(ds:List D):aj (bq (n+1)) gi ds=gy (vh n (fb [true] ds++kAa (1 - ds.length) .no)):=ip (Up n) Uy rfl ds
noncomputable def ig(n:Nat):En→Out:=(br (ki (wj (i9 (g9 (g1 (cq "tuple") (af 0)))) (i9 (xa Vh Vh (af 1) (g1 fc (af 0)) (af 2)))) (d4 (gC (.bl false))) ia)
 (d4 (g1 A6 (gz (de (af 0)) [3] (gC (.bl true)) (Dc (bq (n+1)) 1 [((af 0),(cn 0))])))))
theorem Fp(n:Nat):gB (bq (n+1)) ie (qq b9.st b9.lm) (ar b9.st)=ig n:=by kernel_rfl
theorem Fu:(pe b9.st).length=4:=by decide+kernel
theorem Fi(n:Nat)(ds:List D):aj (bq (n+1)) b9 ds=gy (ig n (fb [true,true,true,true] ds++kAa (4 - ds.length) .no)):=ip (Fp n) Fu rfl ds
noncomputable def jq(n:Nat):En→Out:=(d4 (m6 (g1 (cq "tuple") (af 0)) (g2 jn (g1 fc (af 0)) (gC (.int 2)))))
theorem Uo(n:Nat):gB (bq (n+1)) ie (qq ff.st ff.lm) (ar ff.st)=jq n:=by kernel_rfl
theorem Ux:(pe ff.st).length=1:=by decide+kernel
theorem Gk(n:Nat)(ds:List D):aj (bq (n+1)) ff ds=gy (jq n (fb [true] ds++kAa (1 - ds.length) .no)):=ip (Uo n) Ux rfl ds
noncomputable def ny(n:Nat):En→Out:=(d4 (m6 (bb (aj (bq n) ff) (ae (af 0) bc)) (m6 (bb (aj (bq n) gd) (ae (g2 ao (af 0) (gC (.int 0))) bc)) (bb (aj (bq n) b9) (ae (g2 ao (af 0) (gC (.int 1))) (ae (gC (.int 1)) (ae (gC (.int 4)) (ae (gC (.fn "is_term")) bc))))))))
theorem Um(n:Nat):gB (bq (n+1)) ie (qq gp.st gp.lm) (ar gp.st)=ny n:=by kernel_rfl
theorem Uw:(pe gp.st).length=1:=by decide+kernel
theorem Tw(n:Nat)(ds:List D):aj (bq (n+1)) gp ds=gy (ny n (fb [true] ds++kAa (1 - ds.length) .no)):=ip (Um n) Uw rfl ds
noncomputable def jh(n:Nat):En→Out:=(br (Eb 1)
 (br (fz [0] (i5 (bz 2) (de (Bp 0)) (J8 (Ax jl (jv 1 (g2 ao (af 2) (gC (.int 0))) (g1 fc (g2 ao (af 2) (gC (.int 1))))) (g1 fc (g2 ao (af 2) (gC (.int 1))))) (d4 (gC (.bl false))) ia)))
 (d4 (gC (.bl true)))))
theorem wb(n:Nat):gB (bq (n+1)) ie (qq bj.st bj.lm) (ar bj.st)=jh n:=by kernel_rfl
theorem wc:(pe bj.st).length=3:=by decide+kernel
theorem wa(n:Nat)(ds:List D):aj (bq (n+1)) bj ds=gy (jh n (fb [true] ds++kAa (3 - ds.length) .no)):=ip (wb n) wc rfl ds
noncomputable def pv(n:Nat):En→Out:=(br (Eb 1)
 (br (fz [0] (i5 (bz 2) (de (Bp 0)) (ki (g9 (g1 (cq "str") (af 2))) (F5 1 (af 2) (gC (.bl true))) ia)))
 (d4 (g1 jw (af 1)))))
theorem Mb(n:Nat):gB (bq (n+1)) ie (qq cm.st cm.lm) (ar cm.st)=pv n:=by kernel_rfl
theorem Ml:(pe cm.st).length=3:=by decide+kernel
theorem Lk(n:Nat)(ds:List D):aj (bq (n+1)) cm ds=gy (pv n (fb [true] ds++kAa (3 - ds.length) .no)):=ip (Mb n) Ml rfl ds
noncomputable def sj(n:Nat):En→Out:=(br (qg 1 (mv bc))
 (br (fz [0] (i5 (bz 2) (de (Bp 0)) (yn 1 (g2 ao (af 2) (gC (.int 1))))))
 (fz [1] (d4 (cn 1)))))
theorem Pa(n:Nat):gB (bq (n+1)) ie (qq df.st df.lm) (ar df.st)=sj n:=by kernel_rfl
theorem Pn:(pe df.st).length=3:=by decide+kernel
theorem Om(n:Nat)(ds:List D):aj (bq (n+1)) df ds=gy (sj n (fb [true] ds++kAa (3 - ds.length) .no)):=ip (Pa n) Pn rfl ds
noncomputable def oh(n:Nat):En→Out:=(br (gr 2 (bb (aj (bq n) cm) (ae (bb (aj (bq n) df) (ae (af 1) bc)) bc)))
 (d4 (g1 A6 (gz (de (bb (aj (bq n) cm) (ae (af 0) bc))) [2] (gC (.bl true)) (g2 M9 (af 0) (af 1))))))
theorem Dv(n:Nat):gB (bq (n+1)) ie (qq cy.st cy.lm) (ar cy.st)=oh n:=by kernel_rfl
theorem Dz:(pe cy.st).length=3:=by decide+kernel
theorem C5(n:Nat)(ds:List D):aj (bq (n+1)) cy ds=gy (oh n (fb [true,true] ds++kAa (3 - ds.length) .no)):=ip (Dv n) Dz rfl ds
noncomputable def ir(n:Nat):En→Out:=(br (ki (i9 (g9 (bb (aj (bq n) ff) (ae (af 0) bc)))) (lq "NoAsking" (ae (gC (.str "an asking is a tuple of a head and atoms")) bc)) ia)
 (br (gr 1 (g2 ao (af 0) (gC (.int 0))))
 (br (gr 2 (g2 ao (af 0) (gC (.int 1))))
 (br (ki (i9 (g9 (bb (aj (bq n) b9) (ae (af 1) (ae (gC (.int 0)) (ae (gC (.int 4)) (ae (gC (.fn "is_term")) bc))))))) (lq "NoAsking" (ae (gC (.str "a head is a tuple of at most 4 terms")) bc)) ia)
 (br (ki (i9 (g9 (bb (aj (bq n) b9) (ae (af 2) (ae (gC (.int 1)) (ae (gC (.int 6)) (ae (gC (.fn "is_atom")) bc))))))) (lq "NoAsking" (ae (gC (.str "an asking has a tuple of 1 to 6 atoms")) bc)) ia)
 (br (ki (i9 (g9 (bb (aj (bq n) bj) (ae (af 2) bc)))) (lq "NoAsking" (ae (gC (.str "atoms of one name have equally many terms")) bc)) ia)
 (br (ki (i9 (g9 (bb (aj (bq n) cy) (ae (af 1) (ae (af 2) bc))))) (lq "NoAsking" (ae (gC (.str "each stand-in of the head stands in an atom")) bc)) ia)
 (fz [0] (d4 (cn 0))))))))))
theorem zy(n:Nat):gB (bq (n+1)) ie (qq aq.st aq.lm) (ar aq.st)=ir n:=by kernel_rfl
theorem Aa:(pe aq.st).length=3:=by decide+kernel
theorem kf(n:Nat)(ds:List D):aj (bq (n+1)) aq ds=gy (ir n (fb [false] ds++kAa (3 - ds.length) .no)):=ip (zy n) Aa rfl ds
noncomputable def Cp(n:Nat):En→Out:=(d4 (g1 ku (gz (de (af 0)) [1] (gC (.bl true)) (Ri (g9 (g1 (cq "str") (af 0))) (g2 ao (af 1) (af 0)) (cn 0)))))
theorem X6(n:Nat):gB (bq (n+1)) ie (qq gc.st gc.lm) (ar gc.st)=Cp n:=by kernel_rfl
theorem X9:(pe gc.st).length=2:=by decide+kernel
theorem Wy(n:Nat)(ds:List D):aj (bq (n+1)) gc ds=gy (Cp n (fb [true,true] ds++kAa (2 - ds.length) .no)):=ip (X6 n) X9 rfl ds
noncomputable def kl(n:Nat):En→Out:=(br (ki (g2 jl (g1 fc (af 1)) (g1 fc (af 2))) (d4 (gC .non)) ia)
 (br (Ed 3 (af 0))
 (br (i5 (yc [4,5]) (Ov (ae (af 1) (ae (af 2) bc))) (br (fz [4,5,4] (u9 6 (Bq (g9 (g1 (cq "str") (af 4))) (jv 3 (af 4) (cn 5)) (Df (cn 4)))))
 (ki (g2 jl (af 6) (af 5)) (d4 (gC .non)) ia)))
 (fz [3] (d4 (cn 3))))))
theorem Ft(n:Nat):gB (bq (n+1)) ie (qq bw.st bw.lm) (ar bw.st)=kl n:=by kernel_rfl
theorem Fx:(pe bw.st).length=7:=by decide+kernel
theorem Fl(n:Nat)(ds:List D):aj (bq (n+1)) bw ds=gy (kl n (fb [true,true,true] ds++kAa (7 - ds.length) .no)):=ip (Ft n) Fx rfl ds
noncomputable def pq(n:Nat):En→Out:=(br (ki (i9 (g9 (af 0))) (fz [2] (d4 (cn 2))) ia)
 (br (gr 3 (g2 ao (g2 ao (af 0) (gC (.int 0))) (gC (.int 0))))
 (br (fz [1] (i5 (bz 4) (de (Bp 1)) (br (gr 5 (Ri (g2 jn (g2 ao (af 4) (gC (.int 0))) (af 3)) (bb (aj (bq n) bw) (ae (af 2) (ae (g2 ao (g2 ao (af 0) (gC (.int 0))) (gC (.int 1))) (ae (g2 ao (af 4) (gC (.int 1))) bc)))) (gC .non)))
 (br (fz [5] (gr 6 (Ri (g2 qf (af 5) (gC .non)) (gC .non) (bb (aj (bq n) ck) (ae (Br (af 0) (some (gC (.int 1))) none) (ae (af 1) (ae (cn 5) bc)))))))
 (ki (g2 j9 (af 6) (gC .non)) (fz [6] (d4 (cn 6))) ia)))))
 (d4 (gC .non)))))
theorem L7(n:Nat):gB (bq (n+1)) ie (qq ck.st ck.lm) (ar ck.st)=pq n:=by kernel_rfl
theorem Mh:(pe ck.st).length=7:=by decide+kernel
theorem Au(n:Nat)(ds:List D):aj (bq (n+1)) ck ds=gy (pq n (fb [true,true,false] ds++kAa (7 - ds.length) .no)):=ip (L7 n) Mh rfl ds
noncomputable def zb(n:Nat):En→Out:=(br (gr 2 (bb (aj (bq n) bw) (ae (gC (.dct false [])) (ae (g2 ao (af 1) (gC (.int 0))) (ae (g2 ao (af 0) (gC (.int 0))) bc)))))
 (fz [2] (d4 (Ri (g2 qf (af 2) (gC .non)) (gC .non) (bb (aj (bq n) ck) (ae (g2 ao (af 1) (gC (.int 1))) (ae (g2 ao (af 0) (gC (.int 1))) (ae (cn 2) bc))))))))
theorem Ur(n:Nat):gB (bq (n+1)) ie (qq gj.st gj.lm) (ar gj.st)=zb n:=by kernel_rfl
theorem U0:(pe gj.st).length=3:=by decide+kernel
theorem Tz(n:Nat)(ds:List D):aj (bq (n+1)) gj ds=gy (zb n (fb [true,true] ds++kAa (3 - ds.length) .no)):=ip (Ur n) U0 rfl ds
noncomputable def xr(n:Nat):En→Out:=(d4 (gz (de (g2 cw (g1 jw (g2 ao (af 0) (gC (.int 0)))) (bb (aj (bq n) df) (ae (g2 ao (af 0) (gC (.int 1))) bc)))) [] (i9 (g9 (g1 (cq "str") (af 0)))) (cn 0)))
theorem Jl(n:Nat):gB (bq (n+1)) ie (qq cf.st cf.lm) (ar cf.st)=xr n:=by kernel_rfl
theorem Jr:(pe cf.st).length=1:=by decide+kernel
theorem Iq(n:Nat)(ds:List D):aj (bq (n+1)) cf ds=gy (xr n (fb [true] ds++kAa (1 - ds.length) .no)):=ip (Jl n) Jr rfl ds
noncomputable def lr(n:Nat):En→Out:=(br (gr 2 (g2 cw (g1 (xh 0) (g2 cw (bb (aj (bq n) cf) (ae (af 0) bc)) (bb (aj (bq n) cf) (ae (af 1) bc)))) (gC (.int 1))))
 (d4 (g1 tm (oq (ur (bb (aj (bq n) cm) (ae (bb (aj (bq n) df) (ae (g2 ao (af 0) (gC (.int 1))) bc)) bc))) (Bb [2] (jt (ae (cn 1) (ae (g2 cw (af 2) (af 0)) bc))))))))
theorem ri(n:Nat):gB (bq (n+1)) ie (qq az.st az.lm) (ar az.st)=lr n:=by kernel_rfl
theorem rj:(pe az.st).length=3:=by decide+kernel
theorem rf(n:Nat)(ds:List D):aj (bq (n+1)) az ds=gy (lr n (fb [true,true] ds++kAa (3 - ds.length) .no)):=ip (ri n) rj rfl ds
noncomputable def oi(n:Nat):En→Out:=(br (gr 2 (bb (aj (bq n) az) (ae (af 0) (ae (af 1) bc))))
 (br (Ec 3)
 (br (i5 (bz 4) (de (g2 ao (af 0) (gC (.int 1)))) (xi 3 (jt (ae (g2 ao (af 4) (gC (.int 0))) (ae (bb (aj (bq n) gc) (ae (g2 ao (af 4) (gC (.int 1))) (ae (af 2) bc))) bc))) (gC (.bl true))))
 (d4 (jt (ae (gC (.str "book")) (ae (g1 oz (af 3)) (ae (bb (aj (bq n) gc) (ae (g2 ao (af 0) (gC (.int 0))) (ae (af 2) bc))) bc))))))))
theorem Dw(n:Nat):gB (bq (n+1)) ie (qq cb.st cb.lm) (ar cb.st)=oi n:=by kernel_rfl
theorem D0:(pe cb.st).length=5:=by decide+kernel
theorem C6(n:Nat)(ds:List D):aj (bq (n+1)) cb ds=gy (oi n (fb [true,true] ds++kAa (5 - ds.length) .no)):=ip (Dw n) D0 rfl ds
noncomputable def Cq(n:Nat):En→Out:=(br (fz [0] (m3 (bb (aj (bq n) aq) (ae (cn 0) bc))))
 (br (fz [1] (m3 (bb (aj (bq n) aq) (ae (cn 1) bc))))
 (br (ki (g2 jl (g1 fc (g2 ao (af 0) (gC (.int 0)))) (g1 fc (g2 ao (af 1) (gC (.int 0))))) (lq "Unlike" (ae (gC (.str "the heads have unlike many terms")) bc)) ia)
 (br (gr 2 (bb (aj (bq n) gj) (ae (af 0) (ae (af 1) bc))))
 (br (ki (g2 qf (af 2) (gC .non)) (d4 (bb (aj (bq n) cb) (ae (af 0) (ae (af 1) bc)))) ia)
 (d4 (jt (ae (gC (.str "way")) (ae (gz (de (bb (aj (bq n) cm) (ae (bb (aj (bq n) df) (ae (g2 ao (af 1) (gC (.int 1))) bc)) bc))) [2] (gC (.bl true)) (jt (ae (cn 0) (ae (g2 ao (af 1) (af 0)) bc)))) bc)))))))))
theorem X7(n:Nat):gB (bq (n+1)) ie (qq fh.st fh.lm) (ar fh.st)=Cq n:=by kernel_rfl
theorem Ya:(pe fh.st).length=3:=by decide+kernel
theorem C7(n:Nat)(ds:List D):aj (bq (n+1)) fh ds=gy (Cq n (fb [false,false] ds++kAa (3 - ds.length) .no)):=ip (X7 n) Ya rfl ds
noncomputable def zc(n:Nat):En→Out:=(br (gr 2 (g2 ao (af 0) (gC (.int 1))))
 (d4 (jt (ae (g2 ao (af 0) (gC (.int 0))) (ae (g2 cw (Br (af 2) none (some (cn 1))) (Br (af 2) (some (g2 cw (af 1) (gC (.int 1)))) none)) bc)))))
theorem Us(n:Nat):gB (bq (n+1)) ie (qq fi.st fi.lm) (ar fi.st)=zc n:=by kernel_rfl
theorem U1:(pe fi.st).length=3:=by decide+kernel
theorem T1(n:Nat)(ds:List D):aj (bq (n+1)) fi ds=gy (zc n (fb [true,false] ds++kAa (3 - ds.length) .no)):=ip (Us n) U1 rfl ds
noncomputable def wz(n:Nat):En→Out:=(br (fz [0] (m3 (bb (aj (bq n) aq) (ae (cn 0) bc))))
 (br (fz [1,0] (Ee 2 (aj (bq n) fh) (ae (bb (aj (bq n) fi) (ae (af 0) (ae (cn 1) bc))) (ae (cn 0) bc)) (kRb (bq (n+1)) "NoAsking" false)))
 (d4 (g2 jn (g2 ao (af 2) (gC (.int 0))) (gC (.str "way"))))))
theorem O9(n:Nat):gB (bq (n+1)) ie (qq d7.st d7.lm) (ar d7.st)=wz n:=by kernel_rfl
theorem Pm:(pe d7.st).length=3:=by decide+kernel
theorem Ol(n:Nat)(ds:List D):aj (bq (n+1)) d7 ds=gy (wz n (fb [false,false] ds++kAa (3 - ds.length) .no)):=ip (O9 n) Pm rfl ds
noncomputable def N0(n:Nat):En→Out:=(br (fz [0] (m3 (bb (aj (bq n) aq) (ae (cn 0) bc))))
 (br (fz [0] (gr 1 (cn 0)))
 (br (gr 2 (gC (.int 0)))
 (br (fz [] (sWh (g2 u7 (af 2) (g1 fc (g2 ao (af 1) (gC (.int 1))))) (fz [1,2] (ki (g9 (bb (aj (bq n) d7) (ae (cn 1) (ae (cn 2) bc)))) (fz [2] (gr 1 (bb (aj (bq n) fi) (ae (af 1) (ae (cn 2) bc))))) (P8 2 (λa b=>a+b) (gC (.int 1)))))))
 (fz [1] (d4 (cn 1)))))))
theorem zhc(n:Nat):gB (bq (n+1)) ie (qq jm.st jm.lm) (ar jm.st)=N0 n:=by kernel_rfl
theorem zhf:(pe jm.st).length=3:=by decide+kernel
theorem zgg(n:Nat)(ds:List D):aj (bq (n+1)) jm ds=gy (N0 n (fb [false] ds++kAa (3 - ds.length) .no)):=ip (zhc n) zhf rfl ds
noncomputable def kj(n:Nat):En→Out:=(br (ki (g2 u7 (af 1) (g1 fc (af 0))) (d4 (g2 ao (af 0) (af 1))) ia)
 (br (ki (g2 jn (af 0) (mv bc)) (d4 (gC (.int 0))) ia)
 (d4 (g2 cw (g2 mz (g2 ao (af 0) (g2 A8 (af 1) (g1 fc (af 0)))) (gC (.int 31))) (af 1)))))
theorem Fq(n:Nat):gB (bq (n+1)) ie (qq dh.st dh.lm) (ar dh.st)=kj n:=by kernel_rfl
theorem Fv:(pe dh.st).length=2:=by decide+kernel
theorem Fj(n:Nat)(ds:List D):aj (bq (n+1)) dh ds=gy (kj n (fb [true,true] ds++kAa (2 - ds.length) .no)):=ip (Fq n) Fv rfl ds
noncomputable def uf(n:Nat):En→Out:=(br (gr 3 (g2 A8 (g2 mz (g2 cw (g2 cw (bb (aj (bq n) dh) (ae (af 0) (ae (af 1) bc))) (g2 mz (gC (.int 7919)) (af 1))) (gC (.int 1))) (gC (.int 48271))) (gC (.int 2147483647))))
 (d4 (g2 A8 (g2 A8 (g2 cw (g2 cw (g2 mz (af 3) (af 3)) (g2 mz (gC (.int 7)) (af 3))) (af 1)) (gC (.int 2147483629))) (af 2))))
theorem L9(n:Nat):gB (bq (n+1)) ie (qq bg.st bg.lm) (ar bg.st)=uf n:=by kernel_rfl
theorem Mj:(pe bg.st).length=4:=by decide+kernel
theorem Li(n:Nat)(ds:List D):aj (bq (n+1)) bg ds=gy (uf n (fb [true,true,true] ds++kAa (4 - ds.length) .no)):=ip (L9 n) Mj rfl ds
noncomputable def wy(n:Nat):En→Out:=(br (gr 2 (bb (aj (bq n) bg) (ae (af 0) (ae (af 1) (ae (gC (.int 12)) bc)))))
 (br (ki (g2 u7 (af 2) (gC (.int 10))) (d4 (g2 mz (g2 ao (gC (.str "xyzuv")) (g2 A8 (af 2) (gC (.int 5)))) (g2 cw (gC (.int 1)) (g2 P5 (af 2) (gC (.int 9)))))) ia)
 (d4 (g2 Sr (af 2) (gC (.int 11))))))
theorem O8(n:Nat):gB (bq (n+1)) ie (qq fm.st fm.lm) (ar fm.st)=wy n:=by kernel_rfl
theorem Pk:(pe fm.st).length=3:=by decide+kernel
theorem Oj(n:Nat)(ds:List D):aj (bq (n+1)) fm ds=gy (wy n (fb [true,true] ds++kAa (3 - ds.length) .no)):=ip (O8 n) Pk rfl ds
noncomputable def oj(n:Nat):En→Out:=(br (gr 2 (g2 ao (mv (ae (gC (.str "r")) (ae (gC (.str "s")) (ae (gC (.str "t")) bc)))) (bb (aj (bq n) bg) (ae (af 0) (ae (af 1) (ae (gC (.int 3)) bc))))))
 (br (fz [2] (gr 3 (g2 cw (gM qc (mv (ae (gC (.str "t")) (ae (gC (.str "r")) (ae (gC (.str "s")) bc)))) (af 2)) (gC (.int 1)))))
 (fz [2] (d4 (jt (ae (cn 2) (ae (g1 ku (gz (j7 (ae (af 3) bc)) [1,0] (gC (.bl true)) (bb (aj (bq n) fm) (ae (af 2) (ae (g2 cw (g2 cw (af 1) (gC (.int 1))) (af 0)) bc))))) bc)))))))
theorem O4(n:Nat):gB (bq (n+1)) ie (qq fj.st fj.lm) (ar fj.st)=oj n:=by kernel_rfl
theorem Pf:(pe fj.st).length=4:=by decide+kernel
theorem Og(n:Nat)(ds:List D):aj (bq (n+1)) fj ds=gy (oj n (fb [true,true] ds++kAa (4 - ds.length) .no)):=ip (O4 n) Pf rfl ds
noncomputable def sd(n:Nat):En→Out:=(br (gr 4 (g1 ku (gz (j7 (ae (g2 cw (gC (.int 1)) (bb (aj (bq n) bg) (ae (af 0) (ae (g2 cw (af 1) (gC (.int 30))) (ae (af 2) bc))))) bc)) [1,0] (gC (.bl true)) (bb (aj (bq n) fj) (ae (af 2) (ae (g2 cw (af 1) (g2 mz (gC (.int 4)) (af 0))) bc))))))
 (br (qg 5 (mv bc))
 (br (fz [4] (i5 (bz 6) (de (Bp 4)) (yn 5 (gz (de (g2 ao (af 6) (gC (.int 1)))) [] (g9 (g1 (cq "str") (af 0))) (cn 0)))))
 (br (qg 7 (mv bc))
 (br (i5 (bz 3) (j7 (ae (bb (aj (bq n) bg) (ae (af 0) (ae (g2 cw (af 1) (gC (.int 31))) (ae (gC (.int 3)) bc)))) bc)) (ki (wj (g2 jn (af 5) (mv bc)) (g2 jn (bb (aj (bq n) bg) (ae (af 0) (ae (g2 cw (g2 cw (af 1) (gC (.int 32))) (af 3)) (ae (gC (.int 8)) bc)))) (gC (.int 0)))) (B2 7 (bb (aj (bq n) bg) (ae (af 0) (ae (g2 cw (g2 cw (af 1) (gC (.int 34))) (af 3)) (ae (gC (.int 2)) bc))))) (B2 7 (g2 ao (af 5) (bb (aj (bq n) bg) (ae (af 0) (ae (g2 cw (g2 cw (af 1) (gC (.int 34))) (af 3)) (ae (g1 fc (af 5)) bc))))))))
 (fz [4] (d4 (jt (ae (g1 ku (af 7)) (ae (cn 4) bc))))))))))
theorem Ji(n:Nat):gB (bq (n+1)) ie (qq dq.st dq.lm) (ar dq.st)=sd n:=by kernel_rfl
theorem Jo:(pe dq.st).length=8:=by decide+kernel
theorem Im(n:Nat)(ds:List D):aj (bq (n+1)) dq ds=gy (sd n (fb [true,true,true] ds++kAa (8 - ds.length) .no)):=ip (Ji n) Jo rfl ds
noncomputable def m5(n:Nat):En→Out:=(br (qg 1 (mv bc))
 (br (fz [0] (i5 (bz 2) (de (Bp 0)) (i5 (bz 3) (de (g2 ao (af 2) (gC (.int 1)))) (ki (m6 (g9 (g1 (cq "str") (af 3))) (g2 i8 (af 3) (af 1))) (fz [3] (B2 1 (cn 3))) ia))))
 (fz [1] (d4 (cn 1)))))
theorem Bw(n:Nat):gB (bq (n+1)) ie (qq bx.st bx.lm) (ar bx.st)=m5 n:=by kernel_rfl
theorem By:(pe bx.st).length=4:=by decide+kernel
theorem Bj(n:Nat)(ds:List D):aj (bq (n+1)) bx ds=gy (m5 n (fb [true] ds++kAa (4 - ds.length) .no)):=ip (Bw n) By rfl ds
noncomputable def wx(n:Nat):En→Out:=(br (Eb 2)
 (br (fz [0] (i5 (bz 3) (de (Bp 0)) (F5 2 (g2 ao (af 3) (gC (.int 0))) (g2 ao (af 3) (gC (.int 1))))))
 (d4 (g1 ku (gz (de (af 1)) [2] (gC (.bl true)) (p7 (af 1) (af 0) (cn 0)))))))
theorem O7(n:Nat):gB (bq (n+1)) ie (qq d5.st d5.lm) (ar d5.st)=wx n:=by kernel_rfl
theorem Pj:(pe d5.st).length=4:=by decide+kernel
theorem Oi(n:Nat)(ds:List D):aj (bq (n+1)) d5 ds=gy (wx n (fb [true,true] ds++kAa (4 - ds.length) .no)):=ip (O7 n) Pj rfl ds
noncomputable def se(n:Nat):En→Out:=(br (ki (i9 (g9 (g1 (cq "list") (af 0)))) (d4 (gC (.bl false))) ia)
 (br (fz [0] (i5 (bz 3) (de (Bp 0)) (ki (wj (i9 (g9 (g1 (cq "tuple") (af 3)))) (g2 jl (g1 fc (af 3)) (gC (.int 2)))) (d4 (gC (.bl false))) ia)))
 (br (ki (g2 jl (gz (de (af 0)) [] (gC (.bl true)) (g2 ao (af 0) (gC (.int 0)))) (bb (aj (bq n) bx) (ae (g2 ao (af 2) (gC (.int 1))) bc))) (d4 (gC (.bl false))) ia)
 (br (i5 (bz 4) (de (g2 ao (af 2) (gC (.int 1)))) (ki (g2 i8 (jt (ae (g2 ao (af 4) (gC (.int 0))) (ae (bb (aj (bq n) d5) (ae (af 0) (ae (g2 ao (af 4) (gC (.int 1))) bc))) bc))) (g2 ao (af 1) (gC (.int 1)))) (d4 (gC (.bl false))) ia))
 (d4 (g2 jn (bb (aj (bq n) d5) (ae (af 0) (ae (g2 ao (af 2) (gC (.int 0))) bc))) (g2 ao (af 1) (gC (.int 0)))))))))
theorem Jj(n:Nat):gB (bq (n+1)) ie (qq cx.st cx.lm) (ar cx.st)=se n:=by kernel_rfl
theorem Jp:(pe cx.st).length=5:=by decide+kernel
theorem Io(n:Nat)(ds:List D):aj (bq (n+1)) cx ds=gy (se n (fb [true,true,true] ds++kAa (5 - ds.length) .no)):=ip (Jj n) Jp rfl ds
noncomputable def ug(n:Nat):En→Out:=(d4 (m6 (g1 (cq "int") (af 0)) (i9 (g1 (cq "bool") (af 0)))))
theorem Ma(n:Nat):gB (bq (n+1)) ie (qq cz.st cz.lm) (ar cz.st)=ug n:=by kernel_rfl
theorem Mk:(pe cz.st).length=1:=by decide+kernel
theorem Lj(n:Nat)(ds:List D):aj (bq (n+1)) cz ds=gy (ug n (fb [true] ds++kAa (1 - ds.length) .no)):=ip (Ma n) Mk rfl ds
noncomputable def lg(n:Nat):En→Out:=(br (ki (wj (i9 (g9 (g1 (cq "str") (af 0)))) (wj (g2 u7 (g1 fc (af 0)) (gC (.int 1))) (g2 Ve (g1 fc (af 0)) (gC (.int 8))))) (d4 (gC (.bl false))) ia)
 (d4 (g2 jn (gz (de (af 0)) [] (g2 i8 (af 0) (gC (.str "abcdefghijklmnopqrstuvwxyz"))) (cn 0)) (mv bc))))
theorem O6(n:Nat):gB (bq (n+1)) ie (qq di.st di.lm) (ar di.st)=lg n:=by kernel_rfl
theorem Ph:(pe di.st).length=1:=by decide+kernel
theorem mj(n:Nat)(ds:List D):aj (bq (n+1)) di ds=gy (lg n (fb [true] ds++kAa (1 - ds.length) .no)):=ip (O6 n) Ph rfl ds
noncomputable def iy(n:Nat):En→Out:=(br (ki (wj (i9 (g9 (g1 (cq "tuple") (af 0)))) (wj (g2 jl (g1 fc (af 0)) (gC (.int 2))) (wj (i9 (g9 (bb (aj (bq n) di) (ae (g2 ao (af 0) (gC (.int 0))) bc)))) (i9 (g9 (g1 (cq "tuple") (g2 ao (af 0) (gC (.int 1))))))))) (d4 (gC (.bl false))) ia)
 (br (ki (wj (g2 u7 (g1 fc (g2 ao (af 0) (gC (.int 1)))) (gC (.int 1))) (g2 Ve (g1 fc (g2 ao (af 0) (gC (.int 1)))) (gC (.int 4)))) (d4 (gC (.bl false))) ia)
 (d4 (g2 jn (gz (de (g2 ao (af 0) (gC (.int 1)))) [] (m6 (i9 (g9 (bb (aj (bq n) cz) (ae (af 0) bc)))) (i9 (g9 (bb (aj (bq n) di) (ae (af 0) bc))))) (cn 0)) (mv bc)))))
theorem Fs(n:Nat):gB (bq (n+1)) ie (qq cv.st cv.lm) (ar cv.st)=iy n:=by kernel_rfl
theorem Fw:(pe cv.st).length=1:=by decide+kernel
theorem Fk(n:Nat)(ds:List D):aj (bq (n+1)) cv ds=gy (iy n (fb [true] ds++kAa (1 - ds.length) .no)):=ip (Fs n) Fw rfl ds
noncomputable def gf(n:Nat):En→Out:=(br (ki (wj (i9 (g9 (g1 (cq "tuple") (af 0)))) (wj (g2 jl (g1 fc (af 0)) (gC (.int 2))) (wj (i9 (g9 (g1 (cq "tuple") (g2 ao (af 0) (gC (.int 0)))))) (g2 Ve (g1 fc (g2 ao (af 0) (gC (.int 0)))) (gC (.int 4)))))) (d4 (gC (.bl false))) ia)
 (br (ki (wj (i9 (g9 (g1 (cq "tuple") (g2 ao (af 0) (gC (.int 1)))))) (wj (g2 u7 (g1 fc (g2 ao (af 0) (gC (.int 1)))) (gC (.int 1))) (g2 Ve (g1 fc (g2 ao (af 0) (gC (.int 1)))) (gC (.int 6))))) (d4 (gC (.bl false))) ia)
 (br (Eb 1)
 (br (qg 2 (mv bc))
 (br (i5 (bz 3) (de (g2 ao (af 0) (gC (.int 1)))) (br (ki (wj (i9 (g9 (bb (aj (bq n) cv) (ae (af 3) bc)))) (g2 jl (p7 (af 1) (g2 ao (af 3) (gC (.int 0))) (g1 fc (g2 ao (af 3) (gC (.int 1))))) (g1 fc (g2 ao (af 3) (gC (.int 1)))))) (d4 (gC (.bl false))) ia)
 (br (F5 1 (g2 ao (af 3) (gC (.int 0))) (g1 fc (g2 ao (af 3) (gC (.int 1)))))
 (fz [4] (yn 2 (gz (de (g2 ao (af 3) (gC (.int 1)))) [] (g9 (g1 (cq "str") (af 0))) (cn 0)))))))
 (br (i5 (bz 4) (de (g2 ao (af 0) (gC (.int 0)))) (ki (wj (m6 (i9 (g9 (bb (aj (bq n) cz) (ae (af 4) bc)))) (i9 (g9 (bb (aj (bq n) di) (ae (af 4) bc))))) (m6 (g9 (g1 (cq "str") (af 4))) (g2 i8 (af 4) (af 2)))) (d4 (gC (.bl false))) ia))
 (d4 (gC (.bl true)))))))))
theorem Bu(n:Nat):gB (bq (n+1)) ie (qq bp.st bp.lm) (ar bp.st)=gf n:=by kernel_rfl
theorem Bx:(pe bp.st).length=5:=by decide+kernel
theorem je(n:Nat)(ds:List D):aj (bq (n+1)) bp ds=gy (gf n (fb [true] ds++kAa (5 - ds.length) .no)):=ip (Bu n) Bx rfl ds
noncomputable def wu(n:Nat):En→Out:=(br (ki (g2 jn (bb (aj (bq n) bg) (ae (af 0) (ae (gC (.int 60)) (ae (gC (.int 2)) bc)))) (gC (.int 0))) (fz [1] (d4 (cn 1))) ia)
 (br (gr 2 (bb (aj (bq n) bg) (ae (af 0) (ae (gC (.int 61)) (ae (g1 fc (g2 ao (af 1) (gC (.int 1)))) bc)))))
 (br (qg 3 (mv bc))
 (br (i5 (yc [4,5]) (ur (g2 ao (g2 ao (g2 ao (af 1) (gC (.int 1))) (af 2)) (gC (.int 1)))) (br (ki (m6 (g9 (g1 (cq "str") (af 5))) (m6 (g2 i8 (af 5) (g2 ao (af 1) (gC (.int 0)))) (g2 jn (bb (aj (bq n) bg) (ae (af 0) (ae (g2 cw (gC (.int 62)) (af 4)) (ae (gC (.int 2)) bc)))) (gC (.int 1))))) (gr 5 (g2 mz (gC (.str "w")) (g2 cw (gC (.int 1)) (af 4)))) ia)
 (fz [5] (B2 3 (cn 5)))))
 (br (gr 6 (jt (ae (g2 ao (g2 ao (g2 ao (af 1) (gC (.int 1))) (af 2)) (gC (.int 0))) (ae (g1 ku (af 3)) bc))))
 (fz [6] (d4 (jt (ae (g2 ao (af 1) (gC (.int 0))) (ae (g2 cw (g2 cw (Br (g2 ao (af 1) (gC (.int 1))) none (some (cn 2))) (jt (ae (cn 6) bc))) (Br (g2 ao (af 1) (gC (.int 1))) (some (cn 2)) none)) bc))))))))))
theorem O5(n:Nat):gB (bq (n+1)) ie (qq fk.st fk.lm) (ar fk.st)=wu n:=by kernel_rfl
theorem Pg:(pe fk.st).length=7:=by decide+kernel
theorem Oh(n:Nat)(ds:List D):aj (bq (n+1)) fk ds=gy (wu n (fb [true,false] ds++kAa (7 - ds.length) .no)):=ip (O5 n) Pg rfl ds
noncomputable def sf(n:Nat):En→Out:=(br (gr 2 (jt (ae (g2 ao (af 0) (gC (.int 0))) (ae (g2 cw (Br (g2 ao (af 0) (gC (.int 1))) none (some (cn 1))) (Br (g2 ao (af 0) (gC (.int 1))) (some (g2 cw (af 1) (gC (.int 1)))) none)) bc))))
 (br (ki (i9 (g9 (bb (aj (bq n) bp) (ae (af 2) bc)))) (d4 (gC (.bl false))) ia)
 (br (fz [2,0] (gr 3 (bb (aj (bq n) fh) (ae (cn 2) (ae (cn 0) bc)))))
 (br (ki (g2 jn (g2 ao (af 3) (gC (.int 0))) (gC (.str "way"))) (d4 (g2 ao (mv (ae (gC .non) (ae (gC (.bl true)) bc))) (g1 Hi (bb (aj (bq n) cx) (ae (g2 ao (af 3) (gC (.int 1))) (ae (af 2) (ae (af 0) bc))))))) ia)
 (d4 (gC (.bl false)))))))
theorem Jk(n:Nat):gB (bq (n+1)) ie (qq cc.st cc.lm) (ar cc.st)=sf n:=by kernel_rfl
theorem Jq:(pe cc.st).length=4:=by decide+kernel
theorem Ip(n:Nat)(ds:List D):aj (bq (n+1)) cc ds=gy (sf n (fb [false,false] ds++kAa (4 - ds.length) .no)):=ip (Jk n) Jq rfl ds
noncomputable def V9(n:Nat):En→Out:=(br (gr 1 (bb (aj (bq n) fk) (ae (af 0) (ae (bb (aj (bq n) dq) (ae (af 0) (ae (gC (.int 0)) (ae (gC (.int 4)) bc)))) bc))))
 (br (fz [1] (gr 2 (cn 1)))
 (br (gr 3 (gC (.int 0)))
 (br (fz [] (sWh (g2 u7 (af 3) (g1 fc (g2 ao (af 2) (gC (.int 1))))) (br (fz [2,3] (gr 4 (bb (aj (bq n) cc) (ae (cn 2) (ae (cn 3) bc)))))
 (br (fz [2,3] (gr 5 (bb (aj (bq n) d7) (ae (cn 2) (ae (cn 3) bc)))))
 (br (ki (wj (g2 qf (af 4) (gC .non)) (wj (i9 (g9 (g1 (cq "bool") (af 5)))) (g2 jl (af 5) (af 4)))) (d4 (gC (.bl false))) ia)
 (ki (g9 (af 5)) (gr 2 (jt (ae (g2 ao (af 2) (gC (.int 0))) (ae (g2 cw (Br (g2 ao (af 2) (gC (.int 1))) none (some (cn 3))) (Br (g2 ao (af 2) (gC (.int 1))) (some (g2 cw (af 3) (gC (.int 1)))) none)) bc)))) (gr 3 (g2 cw (af 3) (gC (.int 1))))))))))
 (br (fz [1] (gr 6 (bb (aj (bq n) jm) (ae (cn 1) bc))))
 (br (ki (g2 jl (af 6) (af 2)) (d4 (gC (.bl false))) ia)
 (br (i5 (bz 7) (j7 (ae (g1 fc (g2 ao (af 2) (gC (.int 1)))) bc)) (fz [2,7] (ki (g2 j9 (bb (aj (bq n) cc) (ae (cn 2) (ae (cn 7) bc))) (gC (.bl false))) (d4 (gC (.bl false))) ia)))
 (br (fz [6,1] (gr 8 (bb (aj (bq n) fh) (ae (cn 6) (ae (cn 1) bc)))))
 (br (ki (wj (g2 jl (g2 ao (af 8) (gC (.int 0))) (gC (.str "way"))) (i9 (g9 (bb (aj (bq n) cx) (ae (g2 ao (af 8) (gC (.int 1))) (ae (af 6) (ae (af 1) bc))))))) (d4 (gC (.bl false))) ia)
 (br (fz [1,6] (gr 8 (bb (aj (bq n) fh) (ae (cn 1) (ae (cn 6) bc)))))
 (d4 (m6 (g2 jn (g2 ao (af 8) (gC (.int 0))) (gC (.str "way"))) (bb (aj (bq n) cx) (ae (g2 ao (af 8) (gC (.int 1))) (ae (af 1) (ae (af 6) bc))))))))))))))))
theorem zkz(n:Nat):gB (bq (n+1)) ie (qq j6.st j6.lm) (ar j6.st)=V9 n:=by kernel_rfl
theorem zk4:(pe j6.st).length=9:=by decide+kernel
theorem zko(n:Nat)(ds:List D):aj (bq (n+1)) j6 ds=gy (V9 n (fb [false] ds++kAa (9 - ds.length) .no)):=ip (zkz n) zk4 rfl ds
end LK
end
section
namespace LK
open PySem PySem.Spec PyProof.Rows Pu
noncomputable abbrev ud(ns:List Int):D:=.lst (ns.map D.int)
noncomputable def Wj(ns:List Int)(k:Int):Int:=if k<ns.length then(ns[k.toNat]?).getD 0 else if ns=[]then 0 else(ns[(k % ns.length).toNat]?).getD 0 * 31+k
theorem Eu:∀ns:List Int,gw (ns.map D.int)=some (ns.map PyData.int)
 |[]=>rfl
 |n::ns=>by show(match ij (.int n)with|some p=>(match gw (ns.map D.int)with|some ps=>some (p::ps)|none=>none)|none=>none)=_;rw[Eu ns];rfl
theorem j4:∀ns:List Int,PyData.canLayAll0 (ns.map PyData.int)=true
 |[]=>rfl
 |n::ns=>by show(PyData.canLay0 (.int n) && PyData.canLayAll0 (ns.map PyData.int))=true;rw[j4 ns];rfl
theorem C3:∀ns:List Int,PyData.depthAll (ns.map PyData.int)≤1
 |[]=>by decide
 |n::ns=>by
  show max (PyData.depth (.int n)) (PyData.depthAll (ns.map PyData.int))≤1;have:=C3 ns;have h:PyData.depth (.int n)≤1:=kAl _;omega
theorem Nc(ns:List Int):SeqAt.shaped (.list (ns.map PyData.int))=true:=by
 unfold SeqAt.shaped;have h1:PyData.canLay0 (.list (ns.map PyData.int))=true:=j4 ns;have h2:PyData.depth (.list (ns.map PyData.int))≤2:=by
  have:=C3 ns;show PyData.depthAll (ns.map PyData.int)+1≤2;omega
 rw[h1];simp only[Bool.true_and,decide_eq_true_eq];omega
theorem W4(ns:List Int):jn (ud ns) (.lst [])=some (.bl (decide (ns=[]))):=by
 unfold jn Rc ud;have e1:ij (.lst (ns.map D.int))=some (.list (ns.map PyData.int)):=by unfold ij;rw[Eu]
 have e2:ij (.lst [])=some (.list []):=rfl;rw[e1,e2];dsimp only;rw[Nc,show SeqAt.shaped (.list [])=true from by decide];cases ns<;>rfl
theorem Xu(ns:List Int)(k:Int)(h0:0≤k)(h1:k<ns.length):ao (ud ns) (.int k)=some (.int ((ns[k.toNat]?).getD 0)):=by
 show L2.atI (ns.map D.int) k=_;have hk:k=((k.toNat:Nat):Int):=by omega
 have hl:k.toNat<ns.length:=by omega
 rw[hk];refine(L2.B3 (j:=k.toNat) (v:=D.int ((ns[k.toNat]?).getD 0)) ?_).trans (by rw[←hk]);rw[kAr,kB4 hl];rfl
theorem zbk(n:Nat)(ns:List Int)(k:Int)(hk:0≤k):aj (bq (n+1)) dh [ud ns,.int k]=.ok (.int (Wj ns k)):=by
 rw[Fj];unfold Wj
 by_cases h1:k<ns.length
 ·have e1:=Xu ns k hk h1;simp[kj,h1,e1]
 ·by_cases h2:ns=[]
  ·subst h2;have e2:=W4 [];have h3:¬k<0:=by omega
   simp[kj,h3,e2]
  ·have hp:0<ns.length:=by cases ns<;>simp_all
   have hm1:0≤k % (ns.length:Int):=Int.emod_nonneg _ (by omega);have hm2:k % (ns.length:Int)<ns.length:=Int.emod_lt_of_pos _ (by omega);have e1:=Xu ns (k % ns.length) hm1 hm2;have e2:=W4 ns;have e3:=Td k ns.length (by omega);have e4:=λa=>Ho a 31 (.inr (by decide));simp[kj,h1,h2,e1,e2,e3,e4]
noncomputable def me(ns:List Int)(k m:Int):Int:=
 let x:=(Wj ns k+7919 * k+1) * 48271 % 2147483647
 (x * x+7 * x+k) % 2147483629 % m
theorem mw(n:Nat)(ns:List Int)(k m:Int)(hk:0≤k)(hm:0<m):aj (bq (n+2)) bg [ud ns,.int k,.int m]=.ok (.int (me ns k m)):=by
 rw[Li];have e0:=zbk n ns k hk;have e1:=Ho 7919 k (.inl (by decide));have e2:=λa=>Ho a 48271 (.inr (by decide));have e3:=λa=>Td a 2147483647 (by decide);have e4:=λa=>Td a 2147483629 (by decide);have e5:=λa=>Td a m hm;have e6:=λa=>Ho 7 a (.inl (by decide));have e7:∀a:Int,mz (.int (a % 2147483647)) (.int (a % 2147483647))=some (.int (a % 2147483647 * (a % 2147483647))):=λa=>Ho _ _ (.inl (by omega));simp[uf,e0,e1,e2,e3,e4,e5,e6,e7,me]
theorem j8(ns:List Int)(k m:Int)(hm:0<m):0≤me ns k m∧me ns k m<m:=⟨Int.emod_nonneg _ (by omega),Int.emod_lt_of_pos _ hm⟩
inductive Tm where
 |s (x:Str)
 |i (z:Int)
 deriving DecidableEq
noncomputable def Tm.D:Tm→Pu.D
 |.s x=>.str x
 |.i z=>.int z
noncomputable def Be:List Str:=["x","y","z","u","v","vv"]
noncomputable def Tm.ok:Tm→Prop
 |.s x=>x∈Be
 |.i z=>z=-1∨z=0
noncomputable def zaj(r:Int):Tm:=if r=0∨r=5 then .s "x" else if r=1∨r=6 then .s "y" else if r=2∨r=7 then .s "z" else if r=3∨r=8 then .s "u" else if r=4 then .s "v" else if r=9 then .s "vv" else if r=10 then .i (-1)else .i 0
theorem zd9(n:Nat)(ns:List Int)(k:Int)(hk:0≤k):aj (bq (n+3)) fm [ud ns,.int k]=.ok (zaj (me ns k 12)).D:=by
 rw[Oj];have e0:=mw n ns k 12 hk (by decide);obtain⟨h0,h1⟩:=j8 ns k 12 (by decide);generalize me ns k 12=r at e0 h0 h1⊢;have:r=0∨r=1∨r=2∨r=3∨r=4∨r=5∨r=6∨r=7∨r=8∨r=9∨r=10∨r=11:=by omega
 rcases this with rfl|rfl|rfl|rfl|rfl|rfl|rfl|rfl|rfl|rfl|rfl|rfl
 all_goals simp[wy,e0]
 all_goals rfl
structure At where
 nm:Str
 ts:List Tm
 deriving DecidableEq
noncomputable def At.D(a:At):Pu.D:=.tup [.str a.nm,.tup (a.ts.map Tm.D)]
theorem ya{h:Pu.D→Option Pu.D}{f:Nat→Pu.D}:∀(l:List Nat),(∀j∈l,h (.int (0+(j:Int)))=some (f j))→(l.map λ(i:Nat)=>Pu.D.int (0+(i:Int))).filterMap h=l.map f
 |[],_=>rfl
 |a::l,hf=>by
  rw[kA0,kB1,hf a kA6];dsimp only;rw[ya l λj hj=>hf j (kA7 _ hj),kA0]
theorem t9{h:Pu.D→Option Pu.D}{f:Nat→Pu.D}(n:Nat)(hf:∀j:Nat,j<n→h (.int (0+(j:Int)))=some (f j)):(kh 0 n).filterMap h=(kAj n).map f:=
 ya _ λj hj=>hf j (List.mem_range.mp hj)
theorem P6(n:Nat):(kh 0 n).length=n:=by unfold kh;simp
theorem Pd{n:Nat}{d:Pu.D}(h:d∈kh 0 n):∃j:Nat,j<n∧d=.int (0+(j:Int)):=by
 unfold kh at h;obtain⟨j,hj,e⟩:=kAv.mp h;exact⟨j,List.mem_range.mp hj,e.symm⟩
theorem Cw{r:En→ResL}{ix:List Nat}{g:En→Res}{δ:En}{m:Nat}{f:Nat→Pu.D}(hr:r δ=.ok (kh 0 m))(hm:m≤16777216)(hf:∀j:Nat,j<m→g (ic ix δ (.pu (.int (0+(j:Int)))))=.ok (f j)):
  gz r ix (gC (.bl true)) g δ=.ok (.lst ((kAj m).map f)):=by
 let h:Pu.D→Option Pu.D:=λd=>match d with
  |.int k=>some (f k.toNat)
  |_=>none
 have:=Dd (r:=r) (ix:=ix) (t:=gC (.bl true)) (g:=g) (δ:=δ) (h:=h) hr (by rw[P6];exact hm) λd hd=>by
  obtain⟨j,hj,rfl⟩:=Pd hd;rw[zap (hf j hj)];show some (some (f j))=some (some (f (0+(j:Int)).toNat));have:(0+(j:Int)).toNat=j:=by omega
  rw[this]
 rw[this,t9 m (f:=f)];intro j hj;show some (f (0+(j:Int)).toNat)=some (f j);have:(0+(j:Int)).toNat=j:=by omega
 rw[this]
noncomputable def zbc(r:Int):Str:=if r=0 then "r" else if r=1 then "s" else "t"
noncomputable def zbe(r:Int):Nat:=if r=0 then 2 else if r=1 then 3 else 1
noncomputable def E8(ns:List Int)(k:Int):At:=⟨zbc (me ns k 3),(kAj (zbe (me ns k 3))).map λ(j:Nat)=>zaj (me ns (k+1+(j:Int)) 12)⟩
theorem zbf(n:Nat)(ns:List Int)(k:Int)(hk:0≤k):aj (bq (n+4)) fj [ud ns,.int k]=.ok (E8 ns k).D:=by
 rw[Og];have e0:=mw (n+1) ns k 3 hk (by decide);obtain⟨h0,h1⟩:=j8 ns k 3 (by decide);unfold E8;generalize me ns k 3=r at e0 h0 h1⊢;have key:∀(m:Nat)(nm:Pu.D),m≤3→gz (j7 (ae (af 3) bc)) [1,0] (gC (.bl true)) (bb (aj (bq (n+3)) fm) (ae (af 2) (ae (g2 cw (g2 cw (af 1) (gC (.int 1))) (af 0)) bc))) [.bo (ud ns),.bo (.int k),.pu nm,.pu (.int (m:Nat))]
   =.ok (.lst ((kAj m).map λ(j:Nat)=>(zaj (me ns (k+1+(j:Int)) 12)).D)):=λm nm hm=>by
  refine Cw (y7 _ _ (j':=(m:Int)) (by simp) (by omega)) (by omega) λj hj=>?_;have e:=zd9 n ns (k+1+(j:Int)) (by omega);simp[ic,e]
 have:r=0∨r=1∨r=2:=by omega
 have x1:qc (.lst [.str "t",.str "r",.str "s"]) (.str "r")=some (.int 1):=by kernel_rfl
 have x2:qc (.lst [.str "t",.str "r",.str "s"]) (.str "s")=some (.int 2):=by kernel_rfl
 have x3:qc (.lst [.str "t",.str "r",.str "s"]) (.str "t")=some (.int 0):=by kernel_rfl
 have y1:ao (.lst [.str "r",.str "s",.str "t"]) (.int 0)=some (.str "r"):=rfl;have y2:ao (.lst [.str "r",.str "s",.str "t"]) (.int 1)=some (.str "s"):=rfl;have y3:ao (.lst [.str "r",.str "s",.str "t"]) (.int 2)=some (.str "t"):=rfl;rcases this with rfl|rfl|rfl
 ·have k2:=key 2 (.str "r") (by decide);simp only[Int.cast_ofNat_Int]at k2;simp[oj,e0,x1,y1,k2,At.D,zbc,zbe]
 ·have k2:=key 3 (.str "s") (by decide);simp only[Int.cast_ofNat_Int]at k2;simp[oj,e0,x2,y2,k2,At.D,zbc,zbe]
 ·have k2:=key 1 (.str "t") (by decide);simp only[Int.cast_ofNat_Int]at k2;simp[oj,e0,x3,y3,k2,At.D,zbc,zbe]
theorem zaz{x:Str}(h:x∈Be):PyData.strOk x=true:=by
 unfold Be at h;simp only[kA8,List.not_mem_nil,or_false]at h;rcases h with rfl|rfl|rfl|rfl|rfl|rfl<;>decide+kernel
theorem zed(r:Int):(zaj r).ok:=by
 unfold zaj
 repeat' split
 all_goals first
  |exact Or.inl rfl
  |exact Or.inr rfl
  |(show _∈Be;decide+kernel)
def At.ok(a:At):Prop:=((a.nm="r"∧a.ts.length=2)∨(a.nm="s"∧a.ts.length=3)∨(a.nm="t"∧a.ts.length=1))∧∀t∈a.ts,t.ok
theorem zbd(ns:List Int)(k:Int):(E8 ns k).ok:=by
 obtain⟨h0,h1⟩:=j8 ns k 3 (by decide);unfold E8 At.ok;dsimp only;refine⟨?_,λt ht=>?_⟩
 ·rw[kA2,List.length_range];have:me ns k 3=0∨me ns k 3=1∨me ns k 3=2:=by omega
  rcases this with e|e|e<;>rw[e]
  ·exact .inl ⟨rfl,rfl⟩
  ·exact .inr (.inl ⟨rfl,rfl⟩)
  ·exact .inr (.inr ⟨rfl,rfl⟩)
 ·obtain⟨j,_,e⟩:=kAv.mp ht;rw[←e];exact zed _
noncomputable def mr(ts:List Tm):List Str:=ts.filterMap λt=>match t with
 |.s x=>some x
 |.i _=>none
noncomputable def b8(as:List At):List Str:=as.flatMap λa=>mr a.ts
noncomputable def jy(hd:List Tm)(as:List At):Pu.D:=.tup [.tup (hd.map Tm.D),.tup (as.map At.D)]
noncomputable def Kk:Pu.D→Option Pu.D
 |.str x=>some (.str x)
 |_=>none
theorem Qh:∀ts:List Tm,(ts.map Tm.D).filterMap Kk=(mr ts).map Pu.D.str
 |[]=>rfl
 |.s x::ts=>by
  rw[kA0,kB1];show Pu.D.str x::(ts.map Tm.D).filterMap Kk=Pu.D.str x::(mr ts).map Pu.D.str;rw[Qh ts]
 |.i z::ts=>by
  rw[kA0,kB1];exact Qh ts
theorem Gg{r:En→ResL}{δ:En}{ts:List Tm}(hr:r δ=.ok (ts.map Tm.D))(hl:ts.length≤1000):gz r [] (g9 (g1 (cq "str") (af 0))) (cn 0) δ=.ok (.lst ((mr ts).map Pu.D.str)):=by
 rw[Dd (h:=Kk) hr (by rw[kA2];show _≤16777216;omega) λd hd=>by
  obtain⟨t,_,rfl⟩:=kAv.mp hd;cases t with
  |s x=>rw[y6 (b:=true) (y:=.str x) (by simp[ic,Tm.D]) (by simp[ic,Tm.D])];rfl
  |i z=>rw[y6 (b:=false) (y:=.non) (by simp[ic,Tm.D]) (by simp)];rfl,Qh]
structure Drawn(hd:List Tm)(as:List At):Prop where
 len:1≤as.length∧as.length≤5
 ok:∀a∈as,a.ok
 hl:hd.length≤2
 ho:∀t∈hd,(∃z,t=.i z∧(z=0∨z=1))∨∃x,t=.s x∧x∈b8 as
theorem Qe{ts:List Tm}(h:∀t∈ts,t.ok):∀x∈mr ts,x∈Be:=λx hx=>by
 unfold mr at hx;obtain⟨t,ht,e⟩:=List.mem_filterMap.mp hx;cases t with
 |s y=>cases e;exact h _ ht
 |i z=>cases e
theorem Nm{as:List At}(h:∀a∈as,a.ok):∀x∈b8 as,x∈Be:=λx hx=>by
 obtain⟨a,ha,hx⟩:=List.mem_flatMap.mp hx;exact Qe (h a ha).2 x hx
theorem o6(ts:List Tm):(mr ts).length≤ts.length:=List.length_filterMap_le ..
theorem V7{a:At}(h:a.ok):1≤a.ts.length∧a.ts.length≤3:=by
 rcases h.1 with ⟨_,e⟩|⟨_,e⟩|⟨_,e⟩<;>omega
theorem O1(as:List At)(h:∀a∈as,a.ok)(hl:as.length≤1000)(v0 v1 v2 v3 v4 v6 v7:Sl):
  ∃w6,gx (bz 6) (yn 5 (gz (de (g2 ao (af 6) (gC (.int 1)))) [] (g9 (g1 (cq "str") (af 0))) (cn 0))) (as.map At.D) [v0,v1,v2,v3,v4,.ow [],v6,v7]=.nx [v0,v1,v2,v3,v4,.ow ((b8 as).map Pu.D.str),w6,v7]:=by
 have key:∀(l:List At)(pre:List Str)(w6:Sl),(∀a∈l,a.ok)→pre.length+3 * l.length≤4000→∃w6',gx (bz 6) (yn 5 (gz (de (g2 ao (af 6) (gC (.int 1)))) [] (g9 (g1 (cq "str") (af 0))) (cn 0))) (l.map At.D) [v0,v1,v2,v3,v4,.ow (pre.map Pu.D.str),w6,v7]
   =.nx [v0,v1,v2,v3,v4,.ow ((pre++b8 l).map Pu.D.str),w6',v7]:=by
  intro l;induction l with
  |nil=>intro pre w6 _ _;exact⟨w6,by simp[gx,b8]⟩
  |cons a l ih=>
   intro pre w6 hok hlen;have ha:=V7 (hok a kA6);have hs:=o6 a.ts;rw[kA5]at hlen;obtain⟨w6',e⟩:=ih (pre++mr a.ts) (.pu a.D) (λb hb=>hok b (kA7 _ hb)) (by rw[kAf];omega);refine⟨w6',?_⟩;rw[kA0,fy (δ1:=[v0,v1,v2,v3,v4,.ow (pre.map Pu.D.str),.pu a.D,v7]) rfl];have hc:=Gg (r:=de (g2 ao (af 6) (gC (.int 1)))) (δ:=[v0,v1,v2,v3,v4,.ow (pre.map Pu.D.str),.pu a.D,v7]) (ts:=a.ts) (by simp[At.D]) (by omega);have hle:pre.length+(mr a.ts).length≤16777216:=by omega
   simp only[zmr,hc,kB3,List.getElem?_cons_zero,r8,Vr,kA2,hle,if_true,List.set_cons_succ,List.set_cons_zero];rw[←List.map_append,e]
   congr 3
   simp[b8,List.flatMap_cons]
 obtain⟨w,e⟩:=key as [] v6 h (by simp;omega);exact⟨w,by simpa using e⟩
theorem Jc{xs:List Pu.D}{k:Int}(h0:0≤k)(h1:k<xs.length):∃d,d∈xs∧ao (.lst xs) (.int k)=some d:=by
 have hl:k.toNat<xs.length:=by omega
 refine⟨xs[k.toNat],List.getElem_mem hl,?_⟩;show L2.atI xs k=_;have hk:((k.toNat:Nat):Int)=k:=by omega
 have e:=L2.B3 (kB4 hl);rwa [hk]at e
noncomputable def Gq(n:Nat):En→Out:=(ki (wj (g2 jn (af 5) (mv bc)) (g2 jn (bb (aj (bq n) bg) (ae (af 0) (ae (g2 cw (g2 cw (af 1) (gC (.int 32))) (af 3)) (ae (gC (.int 8)) bc)))) (gC (.int 0)))) (B2 7 (bb (aj (bq n) bg) (ae (af 0) (ae (g2 cw (g2 cw (af 1) (gC (.int 34))) (af 3)) (ae (gC (.int 2)) bc))))) (B2 7 (g2 ao (af 5) (bb (aj (bq n) bg) (ae (af 0) (ae (g2 cw (g2 cw (af 1) (gC (.int 34))) (af 3)) (ae (g1 fc (af 5)) bc)))))))
def Hs(kn:List Str)(t:Tm):Prop:=(∃z,t=.i z∧(z=0∨z=1))∨∃x,t=.s x∧x∈kn
theorem T7(n:Nat)(ns:List Int)(k:Int)(hk:0≤k)(kn:List Str)(hkn:∀x∈kn,x∈Be)(v2 v4 v6:Sl):∀(l:List Int)(v3:Sl)(hd:List Tm),(∀i∈l,0≤i)→(∀t∈hd,Hs kn t)→hd.length+l.length≤1000→
  ∃(w3:Sl) (hd':List Tm),(∀t∈hd',Hs kn t)∧hd'.length=hd.length+l.length∧gx (bz 3) (Gq (n+2)) (l.map Pu.D.int) [.bo (ud ns),.bo (.int k),v2,v3,v4,.ow (kn.map Pu.D.str),v6,.ow (hd.map Tm.D)]=.nx [.bo (ud ns),.bo (.int k),v2,w3,v4,.ow (kn.map Pu.D.str),v6,.ow (hd'.map Tm.D)]:=by
 intro l;induction l with
 |nil=>intro v3 hd _ h _;exact⟨v3,hd,h,by simp,rfl⟩
 |cons i l ih=>
  intro v3 hd hnn h hlen;have hi:0≤i:=hnn i kA6;rw[kA5]at hlen;have step:∃t,Hs kn t∧Gq (n+2) [.bo (ud ns),.bo (.int k),v2,.pu (.int i),v4,.ow (kn.map Pu.D.str),v6,.ow (hd.map Tm.D)]=.nx [.bo (ud ns),.bo (.int k),v2,.pu (.int i),v4,.ow (kn.map Pu.D.str),v6,.ow (hd.map Tm.D++[t.D])]:=by
   have hsm:za8 (kn.map Pu.D.str):=zi9 λd hd=>by
    obtain⟨x,hx,rfl⟩:=kAv.mp hd;exact Sx (zaz (hkn x hx))
   have e1:=(Re hsm).1;have hlt:hd.length<16777216:=by omega
   have m8:=mw n ns (k+32+i) 8 (by omega) (by decide);have m2:=mw n ns (k+34+i) 2 (by omega) (by decide);obtain⟨r0,r1⟩:=j8 ns (k+34+i) 2 (by decide);have t2:Hs kn (.i (me ns (k+34+i) 2)):=.inl ⟨_,rfl,by omega⟩;cases hn:kn with
   |nil=>
    subst hn;refine⟨_,t2,?_⟩;simp only[List.map_nil,List.isEmpty_nil]at e1;simp[Gq,e1,m2,hlt,Tm.D]
   |cons x r=>
    rw[←hn];have hne:(kn.map Pu.D.str).isEmpty=false:=by rw[hn];rfl
    rw[hne]at e1
    by_cases h8:me ns (k+32+i) 8=0
    ·refine⟨_,t2,?_⟩;rw[h8]at m8;simp[Gq,e1,m2,m8,hlt,Tm.D]
    ·have hpos:0<(kn.length:Int):=by rw[hn];simp
     have mk:=mw n ns (k+34+i) kn.length (by omega) hpos;obtain⟨q0,q1⟩:=j8 ns (k+34+i) kn.length hpos;obtain⟨d,hd1,hd2⟩:=Jc (xs:=kn.map Pu.D.str) q0 (by rw[kA2];exact q1);obtain⟨y,hy,rfl⟩:=kAv.mp hd1;refine⟨.s y,.inr ⟨y,rfl,hy⟩,?_⟩;have h8':(me ns (k+32+i) 8==0)=false:=by simpa using h8
     simp[Gq,e1,m8,mk,hd2,hlt,Tm.D,h8']
  obtain⟨t,ht,e⟩:=step;obtain⟨w3,hd',a1,a2,a3⟩:=ih (.pu (.int i)) (hd++[t]) (λj hj=>hnn j (kA7 _ hj)) (λs hs=>by
   rcases List.mem_append.mp hs with hs|hs
   ·exact h s hs
   ·rw[List.mem_singleton.mp hs];exact ht) (by rw[kAf];simp;omega)
  refine⟨w3,hd',a1,by rw[a2];simp;omega,?_⟩;rw[kA0,fy (δ1:=[.bo (ud ns),.bo (.int k),v2,.pu (.int i),v4,.ow (kn.map Pu.D.str),v6,.ow (hd.map Tm.D)]) rfl,e];dsimp only;rw[←a3];simp
noncomputable def tq(m:Nat):List Int:=(kAj m).map λ(i:Nat)=>0+(i:Int)
theorem Na(m:Nat):kh 0 m=(tq m).map Pu.D.int:=by unfold kh tq;rw[kAw];rfl
theorem Hj{m:Nat}{i:Int}(h:i∈tq m):0≤i∧i<m:=by
 unfold tq at h;obtain⟨j,hj,rfl⟩:=kAv.mp h;have:=List.mem_range.mp hj;omega
theorem Ti(n:Nat)(ns:List Int)(k m:Int)(hk:0≤k)(hm:0<m)(hm5:m≤5):∃hd as,Drawn hd as∧aj (bq (n+5)) dq [ud ns,.int k,.int m]=.ok (jy hd as):=by
 rw[Im];have e0:=mw (n+2) ns (k+30) m (by omega) hm;obtain⟨r0,r1⟩:=j8 ns (k+30) m hm;have e1:=mw (n+2) ns (k+31) 3 (by omega) (by decide);obtain⟨q0,q1⟩:=j8 ns (k+31) 3 (by decide);generalize me ns (k+30) m=r at e0 r0 r1;generalize me ns (k+31) 3=q at e1 q0 q1;have hat:gz (j7 (ae (g2 cw (gC (.int 1)) (bb (aj (bq (n+4)) bg) (ae (af 0) (ae (g2 cw (af 1) (gC (.int 30))) (ae (af 2) bc))))) bc)) [1,0] (gC (.bl true)) (bb (aj (bq (n+4)) fj) (ae (af 2) (ae (g2 cw (af 1) (g2 mz (gC (.int 4)) (af 0))) bc)))
   [.bo (ud ns),.bo (.int k),.bo (.int m),.no,.no,.no,.no,.no]=.ok (.lst ((kAj (1+r).toNat).map λ(j:Nat)=>(E8 ns (k+4 * (0+(j:Int)))).D)):=by
  refine Cw (y7 _ _ (j':=1+r) (by simp[e0]) (by omega)) (by omega) λj hj=>?_;have ea:=zbf n ns (k+4 * (0+(j:Int))) (by omega);have em:=λa=>Ho 4 a (.inl (by decide));generalize (0+(j:Int))=z at ea⊢;simp[ic,em,ea]
 have hmap:((kAj (1+r).toNat).map λ(j:Nat)=>(E8 ns (k+4 * (0+(j:Int)))).D)=((kAj (1+r).toNat).map λ(j:Nat)=>E8 ns (k+4 * (0+(j:Int)))).map At.D:=by rw[kAw];rfl
 rw[hmap]at hat;have hasl:((kAj (1+r).toNat).map λ(j:Nat)=>E8 ns (k+4 * (0+(j:Int)))).length=(1+r).toNat:=by simp
 have haso:∀a∈((kAj (1+r).toNat).map λ(j:Nat)=>E8 ns (k+4 * (0+(j:Int)))),a.ok:=λa ha=>by
  obtain⟨j,_,rfl⟩:=kAv.mp ha;exact zbd _ _
 generalize ((kAj (1+r).toNat).map λ(j:Nat)=>E8 ns (k+4 * (0+(j:Int))))=as at hat hasl haso;obtain⟨w6,ek⟩:=O1 as haso (by omega) (.bo (ud ns)) (.bo (.int k)) (.bo (.int m)) .no (.pu (.tup (as.map At.D))) .no .no;obtain⟨w3,hd,h1,h2,h3⟩:=T7 (n+2) ns k hk (b8 as) (Nm haso) (.bo (.int m)) (.pu (.tup (as.map At.D))) w6 (tq q.toNat) .no [] (λi hi=>(Hj hi).1) (by simp) (by simp[tq];omega);have hr:=y7 [.bo (ud ns),.bo (.int k),.bo (.int m),.no,.pu (.tup (as.map At.D)),.ow ((b8 as).map Pu.D.str),w6,.ow []] (ae (bb (aj (bq (n+4)) bg) (ae (af 0) (ae (g2 cw (af 1) (gC (.int 31))) (ae (gC (.int 3)) bc)))) bc) (j':=q) (by simp[e1]) (by omega);rw[Na]at hr;refine⟨hd,as,⟨by omega,haso,by rw[h2];simp[tq];omega,h1⟩,?_⟩;unfold Gq at h3;simp only[List.map_nil]at h3;simp only[sd,Vq,Np,List.cons_append,List.nil_append,kA5,List.length_nil,kAa,Bd,zav,zek,hat,Am,Vs,An,r8,List.set_cons_succ,List.set_cons_zero,zaw,zft,Qs,kAl,if_true,zpl,zas,zms,kB3,List.getElem?_cons_zero];rw[iz (ds:=as.map At.D) (by simp),ek];simp only[List.set_cons_succ,List.set_cons_zero];rw[iz hr,h3];simp[jy]
end LK
end
section
namespace Pu
open PySem PySem.Spec PyProof.Rows
theorem K8{α:Type}{f f':α→D}{F:D→Option (Option D)}{b:α→Bool}:∀(l:List α),(∀a∈l,F (f a)=some (if b a then some (f' a)else none))→lz F (l.map f)=some ((l.filter b).map f')
 |[],_=>rfl
 |a::l,h=>by
  rw[kA0];unfold lz;rw[h a kA6,K8 l λc hc=>h c (kA7 _ hc),List.filter_cons];cases b a<;>rfl
theorem Q4{α:Type}{r:En→ResL}{ix:List Nat}{t g:En→Res}{δ:En}{l:List α}{f f':α→D}{b:α→Bool}(hr:r δ=.ok (l.map f))(hl:l.length≤16777216)(ht:∀a∈l,t (ic ix δ (.pu (f a)))=.ok (.bl (b a)))(hg:∀a∈l,g (ic ix δ (.pu (f a)))=.ok (f' a)):
  gz r ix t g δ=.ok (.lst ((l.filter b).map f')):=by
 unfold gz;rw[hr];dsimp only;rw[if_pos (by rw[kA2];exact hl),K8 (b:=b) (f':=f') l λa ha=>by
  rw[y6 (b:=b a) (y:=f' a) (ht a ha) λ_=>hg a ha]]
theorem K9{α:Type}{r:En→ResL}{ix:List Nat}{t:En→Res}{δ:En}{l:List α}{f:α→D}{b:α→Bool}(hr:r δ=.ok (l.map f))(hl:l.length≤16777216)(ht:∀a∈l,t (ic ix δ (.pu (f a)))=.ok (.bl (b a))):
  gz r ix t (cn 0) δ=.ok (.lst ((l.filter b).map f)):=Q4 hr hl ht λa _=>rfl
theorem q9{α:Type}{r:En→ResL}{ix:List Nat}{g:En→Res}{δ:En}{l:List α}{f f':α→D}(hr:r δ=.ok (l.map f))(hl:l.length≤16777216)(hg:∀a∈l,g (ic ix δ (.pu (f a)))=.ok (f' a)):
  gz r ix (gC (.bl true)) g δ=.ok (.lst (l.map f')):=by
 have:=Q4 (b:=λ_=>true) (t:=gC (.bl true)) hr hl (λ_ _=>rfl) hg;rwa [List.filter_eq_self.mpr (λ_ _=>rfl)]at this
theorem Ar{α:Type}(b:α→Bool):∀l:List α,nr (l.map λa=>D.bl (b a))=some (l.map b)
 |[]=>rfl
 |a::l=>by
  show(nr (l.map λa=>D.bl (b a))).map (b a::·)=_;rw[Ar b l];rfl
theorem Qx{α:Type}(b:α→Bool)(l:List α):A6 (.lst (l.map λa=>D.bl (b a)))=some (.bl (l.all b)):=by
 unfold A6;dsimp only;rw[Ar];show some (D.bl ((l.map b).all id))=_;rw[List.all_map];rfl
end Pu
end
section
namespace LK
open PySem PySem.Spec PyProof.Rows Pu
noncomputable def good:List Str:=["x","y","z","u","v","vv","r","s","t","w","wxyz","ww","www"]
noncomputable def bad:List Str:=["R","","X","xxxxxxxxx"]
def Kp(x:Str):Prop:=x∈good∨x∈bad
noncomputable def F4(x:Str):Bool:=decide (x∈good)
theorem zeq(n:Nat){x:Str}(h:Kp x):aj (bq (n+1)) gd [.str x]=.ok (.bl (F4 x)):=by
 rw[n6];unfold Kp good bad at h;simp only[kA8,List.not_mem_nil,or_false]at h;rcases h with (rfl|rfl|rfl|rfl|rfl|rfl|rfl|rfl|rfl|rfl|rfl|rfl|rfl)|(rfl|rfl|rfl|rfl)<;>kernel_rfl
theorem zcf(n:Nat){x:Str}(h:Kp x):aj (bq (n+1)) di [.str x]=.ok (.bl (F4 x)):=by
 rw[mj];unfold Kp good bad at h;simp only[kA8,List.not_mem_nil,or_false]at h;rcases h with (rfl|rfl|rfl|rfl|rfl|rfl|rfl|rfl|rfl|rfl|rfl|rfl|rfl)|(rfl|rfl|rfl|rfl)<;>kernel_rfl
inductive T0:Pu.D→Prop where
 |str {x:Str} (h:Kp x):T0 (.str x)
 |int (i:Int):T0 (.int i)
 |bl (b:Bool):T0 (.bl b)
 |non:T0 .non
 |tup (ds:List Pu.D):T0 (.tup ds)
 |lst (ds:List Pu.D):T0 (.lst ds)
noncomputable def jx:Pu.D→Bool
 |.str x=>F4 x
 |.int _=>true
 |_=>false
noncomputable def mh:Pu.D→Bool
 |.str x=>F4 x
 |_=>false
noncomputable def xn:Pu.D→Bool
 |.int _=>true
 |_=>false
theorem Gu(n:Nat){d:Pu.D}(h:T0 d):aj (bq (n+1)) gd [d]=.ok (.bl (mh d)):=by
 cases h with
 |str h=>exact zeq n h
 |int i=>rw[n6];simp[mi,mh]
 |bl b=>rw[n6];simp[mi,mh]
 |non=>rw[n6];simp[mi,mh]
 |tup ds=>rw[n6];simp[mi,mh]
 |lst ds=>rw[n6];simp[mi,mh]
theorem Dq(n:Nat){d:Pu.D}(h:T0 d):aj (bq (n+1)) di [d]=.ok (.bl (mh d)):=by
 cases h with
 |str h=>exact zcf n h
 |int i=>rw[mj];simp[lg,mh]
 |bl b=>rw[mj];simp[lg,mh]
 |non=>rw[mj];simp[lg,mh]
 |tup ds=>rw[mj];simp[lg,mh]
 |lst ds=>rw[mj];simp[lg,mh]
theorem Xo(n:Nat){d:Pu.D}(h:T0 d):aj (bq (n+1)) fe [d]=.ok (.bl (xn d)):=by
 cases h<;>(rw[Lh];simp[ue,xn])
theorem G8(n:Nat){d:Pu.D}(h:T0 d):aj (bq (n+1)) cz [d]=.ok (.bl (xn d)):=by
 cases h<;>(rw[Lj];simp[ug,xn])
theorem S3(d:Pu.D):(mh d||xn d)=jx d:=by
 cases d<;>simp[mh,xn,jx]
theorem Gs(n:Nat){d:Pu.D}(h:T0 d):aj (bq (n+2)) gi [d]=.ok (.bl (jx d)):=by
 rw[Tx,←S3];have h1:=Gu n h;have h2:=Xo n h;cases hw:mh d
 ·rw[hw]at h1;simp[vh,h1,h2]
 ·rw[hw]at h1;simp[vh,h1]
noncomputable def nv(lo hi:Int)(pB:Pu.D→Bool):Pu.D→Bool
 |.tup xs=>decide (lo≤(xs.length:Int)) && decide ((xs.length:Int)≤hi) && xs.all pB
 |_=>false
theorem vd(n:Nat){d0:Pu.D}{lo hi:Int}{y:Str}{d:DefR}{pB:Pu.D→Bool}(hd:look zbm y=some d)(hms:d.ms=[true])(ht:T0 d0)(h:∀xs,d0=.tup xs→xs.length≤1000∧∀x∈xs,aj (bq n) d [x]=.ok (.bl (pB x))):
  aj (bq (n+1)) b9 [d0,.int lo,.int hi,.fn y]=.ok (.bl (nv lo hi pB d0)):=by
 rw[Fi];cases ht with
 |str h=>simp[ig,nv]
 |int i=>simp[ig,nv]
 |bl b=>simp[ig,nv]
 |non=>simp[ig,nv]
 |lst ds=>simp[ig,nv]
 |tup xs=>
  obtain⟨hl,hx⟩:=h xs rfl;have hc:gz (de (af 0)) [3] (gC (.bl true)) (Dc (bq (n+1)) 1 [((af 0),(cn 0))]) [.bo (.tup xs),.bo (.int lo),.bo (.int hi),.bo (.fn y)]=.ok (.lst (xs.map λx=>Pu.D.bl (pB x))):=
   q9 (f:=id) (by simp) (by omega) λx hx'=>by
    have ht:(bq (n+1)).fns y=some ⟨d.ms,aj (bq n) d⟩:=zae n hd;unfold Dc;simp[ic,ht,hms,Zy,hx x hx']
  have ha:=Qx pB xs
  by_cases h1:lo≤(xs.length:Int)
  ·by_cases h2:(xs.length:Int)≤hi
   ·simp -implicitDefEqProofs [ig,nv,h1,h2,hc,ha]
   ·simp -implicitDefEqProofs [ig,nv,h1,h2]
  ·simp -implicitDefEqProofs [ig,nv,h1]
def TT(d:Pu.D):Prop:=T0 d∧∀ds,d=.tup ds→ds.length≤1000∧∀x∈ds,T0 x∧Smp x
def AT(d:Pu.D):Prop:=T0 d∧∀ds,d=.tup ds→∀x∈ds,TT x
noncomputable def jj:Pu.D→Bool
 |.tup [a,b]=>mh a && nv 1 4 jx b
 |_=>false
theorem R9(n:Nat){d:Pu.D}(h:T0 d):aj (bq (n+1)) ff [d]=.ok (.bl (match d with|.tup ds=>decide ((ds.length:Int)=2)|_=>false)):=by
 rw[Gk];cases h with
 |tup ds=>
  by_cases hl:(ds.length:Int)=2
  ·simp[jq,hl]
  ·simp[jq,hl]
 |str h=>simp[jq]
 |int i=>simp[jq]
 |bl b=>simp[jq]
 |non=>simp[jq]
 |lst ds=>simp[jq]
theorem T0.tup_or{d:Pu.D}(hd:T0 d):(∃ds,d=.tup ds)∨((∀ds,d≠.tup ds)∧cq "tuple" d=some (.bl false)):=by
 cases hd with
 |tup ds=>exact .inl ⟨ds,rfl⟩
 |str h=>exact .inr ⟨(λ_ z=>nomatch z),Tc _⟩
 |int i=>exact .inr ⟨(λ_ z=>nomatch z),S9 _⟩
 |bl b=>exact .inr ⟨(λ_ z=>nomatch z),S8 _⟩
 |non=>exact .inr ⟨(λ_ z=>nomatch z),Tb⟩
 |lst ds=>exact .inr ⟨(λ_ z=>nomatch z),Ta _⟩
theorem zam{lo hi:Int}{pB:Pu.D→Bool}{d:Pu.D}(h:∀ds,d≠.tup ds):nv lo hi pB d=false:=by
 cases d with
 |tup ds=>exact absurd rfl (h ds)
 |_=>rfl
theorem Ga{d:Pu.D}(h:∀ds,d≠.tup ds):jj d=false:=by
 cases d with
 |tup ds=>exact absurd rfl (h ds)
 |_=>rfl
theorem Yq(n:Nat){d:Pu.D}(h:T0 d)(hn:∀ds,d≠.tup ds):aj (bq (n+1)) ff [d]=.ok (.bl false):=by
 rw[R9 n h];cases d with
 |tup ds=>exact absurd rfl (hn ds)
 |_=>rfl
theorem Ud(n:Nat){d:Pu.D}(h:AT d):aj (bq (n+4)) gp [d]=.ok (.bl (jj d)):=by
 rw[Tw];have hp:=R9 (n+2) h.1;rcases h.1.tup_or with ⟨ds,rfl⟩|⟨hn,_⟩
 ·skip
  by_cases hl:ds.length=2
  ·match ds,hl,h with
   |[a,b],_,h=>
    have ha:=h.2 _ rfl a (by simp);have hb:=h.2 _ rfl b (by simp);have e1:=Gu (n+2) ha.1;have e2:=vd (n+2) (lo:=1) (hi:=4) (y:="is_term") (d:=gi) (pB:=jx) (by kernel_rfl) rfl hb.1 (λxs hx=>⟨(hb.2 xs hx).1,λx hx'=>Gs n ((hb.2 xs hx).2 x hx').1⟩);have e0:aj (bq (n+3)) ff [.tup [a,b]]=.ok (.bl true):=hp;cases hw:mh a
    ·rw[hw]at e1;simp -implicitDefEqProofs [ny,e0,e1,jj,hw]
    ·rw[hw]at e1;simp -implicitDefEqProofs [ny,e0,e1,e2,jj,hw]
  ·have hl':¬(ds.length:Int)=2:=by omega
   have e0:aj (bq (n+3)) ff [.tup ds]=.ok (.bl false):=by rw[hp];simp[hl']
   have hB:jj (.tup ds)=false:=by
    match ds,hl with
    |[],_=>rfl
    |[_],_=>rfl
    |[_,_],hl=>exact absurd rfl hl
    |_::_::_::_,_=>rfl
   simp -implicitDefEqProofs [ny,e0,hB]
 ·have e0:=Yq (n+2) h.1 hn;simp -implicitDefEqProofs [ny,e0,Ga hn]
theorem Iw{α:Type}(b:α→Bool)(l:List α):(l.filter b).isEmpty=l.all λx=> !b x:=by
 induction l with
 |nil=>rfl
 |cons a l ih=>
  rw[List.filter_cons,kAm];cases hb:b a
  ·simpa using ih
  ·simp
theorem L0(n:Nat){d:Pu.D}(h:AT d):aj (bq (n+2)) cv [d]=.ok (.bl (jj d)):=by
 rw[Fk];rcases h.1.tup_or with ⟨ds,rfl⟩|⟨hn,hi⟩
 ·skip
  by_cases hl:ds.length=2
  ·match ds,hl,h with
   |[a,b],_,h=>
    have ha:=h.2 _ rfl a (by simp);have hb:=h.2 _ rfl b (by simp);have e1:=Dq n ha.1;cases hw:mh a
    ·rw[hw]at e1;simp -implicitDefEqProofs [iy,e1,jj,hw]
    ·rw[hw]at e1;rcases hb.1.tup_or with ⟨xs,rfl⟩|⟨bn,bi⟩
     case inr=>simp -implicitDefEqProofs [iy,e1,bi,jj,hw,zam bn]
     case inl=>
      obtain⟨hxl,hx⟩:=hb.2 xs rfl
      by_cases h1:(xs.length:Int)<1
      ·have h1':¬(1:Int)≤(xs.length:Int):=by omega
       simp -implicitDefEqProofs [iy,e1,jj,hw,nv,h1,h1']
      ·by_cases h2:(4:Int)<(xs.length:Int)
       ·have h2':¬(xs.length:Int)≤4:=by omega
        simp -implicitDefEqProofs [iy,e1,jj,hw,nv,h1,h2,h2']
       ·have h1':(1:Int)≤(xs.length:Int):=by omega
        have h2':(xs.length:Int)≤4:=by omega
        have hc:∀δ:En,δ[0]?=some (.bo (.tup [a,.tup xs]))→gz (de (g2 ao (af 0) (gC (.int 1)))) [] (m6 (i9 (g9 (bb (aj (bq (n+1)) cz) (ae (af 0) bc)))) (i9 (g9 (bb (aj (bq (n+1)) di) (ae (af 0) bc))))) (cn 0) δ=.ok (.lst ((xs.filter λx=> !jx x).map id)):=λδ hδ=>
         K9 (f:=id) (by simp[hδ]) (by omega) λx hx'=>by
          have w1:=G8 n (hx x hx').1;have w2:=Dq n (hx x hx').1;rw[←S3];cases hh:xn x
          ·rw[hh]at w1;simp -implicitDefEqProofs [ic,w1,w2]
          ·rw[hh]at w1;simp -implicitDefEqProofs [ic,w1]
        have hs:za8 ((xs.filter λx=> !jx x).map id):=zi9 λd hd=>by
         rw[List.map_id]at hd;exact(hx d (List.mem_filter.mp hd).1).2
        have he:=(Re hs).1;rw[List.map_id]at he;have hf:=Iw (λx=> !jx x) xs;simp only[Bool.not_not]at hf;rw[hf]at he;simp only[List.map_id]at hc;simp -implicitDefEqProofs [iy,e1,jj,hw,nv,h1,h2,h1',h2',hc,he]
  ·have hl':((ds.length:Int)==2)=false:=beq_eq_false_iff_ne.mpr (by omega);have hB:jj (.tup ds)=false:=by
    match ds,hl with
    |[],_=>rfl
    |[_],_=>rfl
    |[_,_],hl=>exact absurd rfl hl
    |_::_::_::_,_=>rfl
   simp -implicitDefEqProofs [iy,hl',hB]
 ·simp -implicitDefEqProofs [iy,hi,Ga hn]
theorem vk:∀{kvs:List (Pu.D×Pu.D)}{j:L2.ja},T6 kvs j=(fg kvs j).isSome
 |[],_=>rfl
 |(k,d)::r,j=>by
  unfold fg
  by_cases h:fq k=some j
  ·rw[if_pos h];simp[T6,h]
  ·rw[if_neg h,←vk];simp[T6,h]
theorem rh:∀{kvs:List (Pu.D×Pu.D)}{j j':L2.ja}{v:Pu.D},fg kvs j=none→fg (kvs++[(kD j,v)]) j'=if j'=j then some v else fg kvs j'
 |[],j,j',v,_=>by
  show(if fq (kD j)=some j' then some v else none)=_;rw[ux]
  by_cases h:j'=j
  ·subst h;rw[if_pos rfl,if_pos rfl]
  ·rw[if_neg (λz=>h (kAi.inj z).symm),if_neg h];rfl
 |(k,d)::r,j,j',v,hn=>by
  unfold fg at hn
  by_cases hk:fq k=some j
  ·rw[if_pos hk]at hn;cases hn
  ·rw[if_neg hk]at hn;show(if fq k=some j' then some d else fg (r++[(kD j,v)]) j')=_;rw[rh hn]
   by_cases h:j'=j
   ·subst h;rw[if_neg hk,if_pos rfl,if_pos rfl]
   ·rw[if_neg h,if_neg h];rfl
theorem J5{kvs:List (Pu.D×Pu.D)}{j:L2.ja}{v:Pu.D}(h:fg kvs j=none):pj kvs j v=kvs++[(kD j,v)]:=by
 unfold pj;rw[vk,h];rfl
noncomputable def Bt:En→Out:=(J8 (Ax jl (jv 1 (g2 ao (af 2) (gC (.int 0))) (g1 fc (g2 ao (af 2) (gC (.int 1))))) (g1 fc (g2 ao (af 2) (gC (.int 1))))) (d4 (gC (.bl false))) ia)
noncomputable def Af(kvs:List (Pu.D×Pu.D)):List At→Bool
 |[]=>true
 |a::r=>match fg kvs (.inr a.nm)with
  |some (.int k)=>if k=(a.ts.length:Int)then Af kvs r else false
  |some _=>false
  |none=>Af (kvs++[(kD (.inr a.nm),.int (a.ts.length:Nat))]) r
def IntV(kvs:List (Pu.D×Pu.D)):Prop:=∀(x:Str) d,fg kvs (.inr x)=some d→∃k:Int,d=.int k
theorem IntV.snoc{kvs:List (Pu.D×Pu.D)}{x:Str}{k:Int}(h:IntV kvs)(e:fg kvs (.inr x)=none):IntV (kvs++[(kD (.inr x),.int k)]):=λy d hd=>by
 rw[rh e]at hd;split at hd
 ·cases hd;exact⟨_,rfl⟩
 ·exact h y d hd
theorem Yk(v0:Sl):∀(as:List At)(kvs:List (Pu.D×Pu.D))(v2:Sl),IntV kvs→kvs.length+as.length≤1000→
  (Af kvs as=true∧∃kvs' w2,gx (bz 2) Bt (as.map At.D) [v0,.od false kvs,v2]=.nx [v0,.od false kvs',w2])∨(Af kvs as=false∧gx (bz 2) Bt (as.map At.D) [v0,.od false kvs,v2]=.rt (.bl false)):=by
 intro as;induction as with
 |nil=>intro kvs v2 _ _;exact .inl ⟨rfl,kvs,v2,rfl⟩
 |cons a as ih=>
  intro kvs v2 hv hl;rw[kA5]at hl;rw[kA0,fy (δ1:=[v0,.od false kvs,.pu a.D]) rfl];have hlt:kvs.length<sizeLine:=by show _<16777216;omega
  unfold Af;cases e:fg kvs (.inr a.nm)with
  |some d=>
   obtain⟨k,rfl⟩:=hv a.nm d e;have es:jv 1 (g2 ao (af 2) (gC (.int 0))) (g1 fc (g2 ao (af 2) (gC (.int 1)))) [v0,.od false kvs,.pu a.D]=.ok (.int k) [v0,.od false kvs,.pu a.D]:=by
    unfold jv;simp[At.D,fq,hlt,e]
   dsimp only
   by_cases hk:k=(a.ts.length:Int)
   ·rw[if_pos hk];have eb:Bt [v0,.od false kvs,.pu a.D]=.nx [v0,.od false kvs,.pu a.D]:=by
     unfold Bt J8 Ax;rw[es];simp[At.D,Res.ef,hk]
    rw[eb];exact ih kvs (.pu a.D) hv (by omega)
   ·rw[if_neg hk];have hk':(k==(a.ts.length:Int))=false:=beq_eq_false_iff_ne.mpr hk;have eb:Bt [v0,.od false kvs,.pu a.D]=.rt (.bl false):=by
     unfold Bt J8 Ax;rw[es];simp[At.D,Res.ef,hk']
    rw[eb];exact .inr ⟨rfl,rfl⟩
  |none=>
   have es:jv 1 (g2 ao (af 2) (gC (.int 0))) (g1 fc (g2 ao (af 2) (gC (.int 1)))) [v0,.od false kvs,.pu a.D]=.ok (.int (a.ts.length:Nat)) [v0,.od false (kvs++[(kD (.inr a.nm),.int (a.ts.length:Nat))]),.pu a.D]:=by
    unfold jv;simp[At.D,fq,hlt,e,J5 e]
   have eb:Bt [v0,.od false kvs,.pu a.D]=.nx [v0,.od false (kvs++[(kD (.inr a.nm),.int (a.ts.length:Nat))]),.pu a.D]:=by
    unfold Bt J8 Ax;rw[es];simp[At.D,Res.ef]
   rw[eb];exact ih _ (.pu a.D) (hv.snoc e) (by rw[kAf];simp;omega)
theorem Hc(n:Nat){as:List At}(hl:as.length≤900):aj (bq (n+1)) bj [.tup (as.map At.D)]=.ok (.bl (Af [] as)):=by
 rw[wa];have hs0:i5 (bz 2) (de (Bp 0)) Bt [.bo (.tup (as.map At.D)),.od false [],.no]=gx (bz 2) Bt (as.map At.D) [.bo (.tup (as.map At.D)),.od false [],.no]:=iz (by simp);rcases Yk (.bo (.tup (as.map At.D))) as [] .no (by intro x d e;cases e) (by simp;omega)with ⟨h1,kvs,w2,e⟩|⟨h1,e⟩
 ·rw[e]at hs0;unfold Bt at hs0;simp -implicitDefEqProofs [jh,hs0,h1]
 ·rw[e]at hs0;unfold Bt at hs0;simp -implicitDefEqProofs [jh,hs0,h1]
noncomputable def Tm.good:Tm→Prop
 |.s x=>F4 x=true
 |.i _=>True
theorem zea{d:Pu.D}(h:jx d=true):∃t:Tm,d=t.D∧t.good:=by
 cases d with
 |str x=>exact⟨.s x,rfl,h⟩
 |int z=>exact⟨.i z,rfl,trivial⟩
 |non=>cases h
 |bl _=>cases h
 |tup _=>cases h
 |lst _=>cases h
 |dct _ _=>cases h
 |obj _ _=>cases h
 |fn _=>cases h
theorem yy:∀{ds:List Pu.D},ds.all jx=true→∃ts:List Tm,ds=ts.map Tm.D∧∀t∈ts,t.good
 |[],_=>⟨[],rfl,by intro t ht;cases ht⟩
 |d::r,h=>by
  rw[kAm,kA4]at h;obtain⟨t,rfl,ht⟩:=zea h.1;obtain⟨ts,rfl,hts⟩:=yy h.2;refine⟨t::ts,rfl,λu hu=>?_⟩;rcases kA8.mp hu with rfl|hu
  ·exact ht
  ·exact hts u hu
def At.good(a:At):Prop:=F4 a.nm=true∧1≤a.ts.length∧a.ts.length≤4∧∀t∈a.ts,t.good
theorem Ks{d:Pu.D}(hb:jj d=true):∃a:At,d=a.D∧a.good:=by
 unfold jj at hb;split at hb
 ·rename_i a b;rw[kA4]at hb;obtain⟨h1,h2⟩:=hb;cases a with
  |str x=>
   cases b with
   |tup xs=>
    have h2':(decide ((1:Int)≤(xs.length:Int)) && decide ((xs.length:Int)≤4) && xs.all jx)=true:=h2;simp only[kA4,decide_eq_true_eq]at h2';obtain⟨ts,rfl,ht⟩:=yy h2'.2;rw[kA2]at h2';exact⟨⟨x,ts⟩,rfl,h1,by show 1≤ts.length;omega,by show ts.length≤4;omega,ht⟩
   |_=>cases h2
  |_=>cases h1
 ·cases hb
theorem n9(k d:Pu.D)(r:List (Pu.D×Pu.D))(j:L2.ja):fg ((k,d)::r) j=if fq k=some j then some d else fg r j:=rfl
theorem L4(j j':L2.ja)(v:Pu.D):∀kvs:List (Pu.D×Pu.D),fg (kvs.map λp=>if fq p.1=some j then(p.1,v)else p) j'=if j'=j then(fg kvs j).map (λ_=>v)else fg kvs j'
 |[]=>by split<;>rfl
 |(k,d)::r=>by
  have ih:=L4 j j' v r;rw[kA0]
  by_cases hk:fq k=some j
  ·rw[if_pos hk,n9,ih,n9,n9,if_pos hk]
   by_cases hj:j'=j
   ·subst hj;rw[if_pos hk,if_pos rfl];rfl
   ·rw[if_neg hj,if_neg hj,hk];have:¬(some j=some j'):=λz=>hj (kAi.inj z).symm;rw[if_neg this,if_neg this]
  ·rw[if_neg hk,n9,ih,n9,n9,if_neg hk]
   by_cases hj:j'=j
   ·subst hj;rw[if_neg hk,if_pos rfl,if_pos rfl]
   ·rw[if_neg hj,if_neg hj]
theorem Ds(kvs:List (Pu.D×Pu.D))(j j':L2.ja)(v:Pu.D):fg (pj kvs j v) j'=if j'=j then some v else fg kvs j':=by
 unfold pj;rw[vk];cases e:fg kvs j with
 |none=>
  rw[if_neg (by decide)];exact rh e
 |some d=>
  rw[if_pos (show(some d).isSome=true from rfl),L4,e];rfl
noncomputable def Rq(n:Nat):En→Out:=(br (ki (wj (i9 (g9 (bb (aj (bq n) cv) (ae (af 3) bc)))) (g2 jl (p7 (af 1) (g2 ao (af 3) (gC (.int 0))) (g1 fc (g2 ao (af 3) (gC (.int 1))))) (g1 fc (g2 ao (af 3) (gC (.int 1)))))) (d4 (gC (.bl false))) ia)
 (br (F5 1 (g2 ao (af 3) (gC (.int 0))) (g1 fc (g2 ao (af 3) (gC (.int 1)))))
 (fz [4] (yn 2 (gz (de (g2 ao (af 3) (gC (.int 1)))) [] (g9 (g1 (cq "str") (af 0))) (cn 0))))))
theorem zeu{a:At}(h:a.good):jj a.D=true:=by
 obtain⟨h1,h2,h3,h4⟩:=h;show(F4 a.nm && (decide ((1:Int)≤((a.ts.map Tm.D).length:Int)) && decide (((a.ts.map Tm.D).length:Int)≤4) && (a.ts.map Tm.D).all jx))=true;rw[kA2,h1,decide_eq_true (by omega),decide_eq_true (by omega)];simp only[Bool.true_and,kAx];intro d hd;obtain⟨t,ht,rfl⟩:=kAv.mp hd;have:=h4 t ht;cases t with
 |s x=>exact this
 |i z=>rfl
theorem qa{x:Str}(h:F4 x=true):Kp x:=.inl (of_decide_eq_true h)
theorem mn{x:Str}(h:Kp x):PyData.strOk x=true:=by
 unfold Kp good bad at h;simp only[kA8,List.not_mem_nil,or_false]at h;rcases h with (rfl|rfl|rfl|rfl|rfl|rfl|rfl|rfl|rfl|rfl|rfl|rfl|rfl)|(rfl|rfl|rfl|rfl)<;>decide+kernel
theorem Tm.good_T0{t:Tm}(h:t.good):T0 t.D∧Smp t.D:=by
 cases t with
 |s x=>exact⟨.str (qa h),Sx (mn (qa h))⟩
 |i z=>exact⟨.int z,zd3 z⟩
theorem At.good_AT{a:At}(h:a.good):AT a.D:=by
 refine⟨.tup _,λds e x hx=>?_⟩;unfold At.D at e;cases e;simp only[kA8,List.not_mem_nil,or_false]at hx;rcases hx with rfl|rfl
 ·exact⟨.str (qa h.1),λds e=>by cases e⟩
 ·refine⟨.tup _,λds e=>?_⟩;cases e;have:=h.2.2.1;refine⟨by rw[kA2];omega,λx hx=>?_⟩;obtain⟨t,ht,rfl⟩:=kAv.mp hx;exact Tm.good_T0 (h.2.2.2 t ht)
noncomputable def Rw(kvs:List (Pu.D×Pu.D))(a:At):Bool:=match fg kvs (.inr a.nm)with
 |none=>true
 |some (.int k)=>k==(a.ts.length:Int)
 |some _=>false
theorem Xz(n:Nat){a:At}(h:a.good){kvs:List (Pu.D×Pu.D)}(hv:IntV kvs)(hlt:kvs.length<16777216){pre:List Str}(hp:pre.length≤1000)(v0:Sl):
  Rq (n+2) [v0,.od false kvs,.ow (pre.map Pu.D.str),.pu a.D,.no]=if Rw kvs a=true then .nx [v0,.od false (pj kvs (.inr a.nm) (.int (a.ts.length:Nat))),.ow ((pre++mr a.ts).map Pu.D.str),.pu a.D,.no]else .rt (.bl false):=by
 have e1:=L0 n (At.good_AT h);rw[zeu h]at e1;have hl4:=h.2.2.1;have hs:=o6 a.ts;have hle:pre.length+(mr a.ts).length≤16777216:=by omega
 have hc:∀δ:En,δ[3]?=some (.pu a.D)→gz (de (g2 ao (af 3) (gC (.int 1)))) [] (g9 (g1 (cq "str") (af 0))) (cn 0) δ=.ok (.lst ((mr a.ts).map Pu.D.str)):=λδ hδ=>
  Gg (r:=de (g2 ao (af 3) (gC (.int 1)))) (δ:=δ) (ts:=a.ts) (by simp[hδ,At.D]) (by omega)
 have hsl:kvs.length<sizeLine:=hlt;have put1:F5 1 (g2 ao (af 3) (gC (.int 0))) (g1 fc (g2 ao (af 3) (gC (.int 1)))) [v0,.od false kvs,.ow (pre.map Pu.D.str),.pu a.D,.no]=.nx [v0,.od false (pj kvs (.inr a.nm) (.int (a.ts.length:Nat))),.ow (pre.map Pu.D.str),.pu a.D,.no]:=by
  simp -implicitDefEqProofs [At.D,F5,zgp,A9,fq,hsl]
 have ft:∀k:Int,p7 (af 1) (g2 ao (af 3) (gC (.int 0))) (g1 fc (g2 ao (af 3) (gC (.int 1)))) [v0,.od false kvs,.ow (pre.map Pu.D.str),.pu a.D,.no]=.ok (.int k)→
   Rq (n+2) [v0,.od false kvs,.ow (pre.map Pu.D.str),.pu a.D,.no]=if(k==(a.ts.length:Int))=true then .nx [v0,.od false (pj kvs (.inr a.nm) (.int (a.ts.length:Nat))),.ow ((pre++mr a.ts).map Pu.D.str),.pu a.D,.no]else .rt (.bl false):=λk hg=>by
  have ll:g1 fc (g2 ao (af 3) (gC (.int 1))) [v0,.od false kvs,.ow (pre.map Pu.D.str),.pu a.D,.no]=.ok (.int (a.ts.length:Nat)):=by simp[At.D]
  have ne:g2 jl (p7 (af 1) (g2 ao (af 3) (gC (.int 0))) (g1 fc (g2 ao (af 3) (gC (.int 1))))) (g1 fc (g2 ao (af 3) (gC (.int 1)))) [v0,.od false kvs,.ow (pre.map Pu.D.str),.pu a.D,.no]=.ok (.bl (!(k==(a.ts.length:Int)))):=by
   rw[zat,hg,ll];rfl
  have tt:wj (i9 (g9 (bb (aj (bq (n+2)) cv) (ae (af 3) bc)))) (g2 jl (p7 (af 1) (g2 ao (af 3) (gC (.int 0))) (g1 fc (g2 ao (af 3) (gC (.int 1))))) (g1 fc (g2 ao (af 3) (gC (.int 1))))) [v0,.od false kvs,.ow (pre.map Pu.D.str),.pu a.D,.no]=.ok (.bl (!(k==(a.ts.length:Int)))):=by
   rw[zpm,zmw];simp only[zm1,zar,Qr,Qs,zfs,kB3,List.getElem?_cons_zero,e1,Am,zax,An,Bool.not_true,ne]
  unfold Rq;rw[Bd,zmu,tt];cases hk:(k==(a.ts.length:Int))with
  |true=>
   simp only[r8,Bool.not_true,zfu,Bd,put1,if_true];simp -implicitDefEqProofs [hc,hle]
  |false=>
   simp only[r8,Bool.not_false,zau,Pu.v_c];rfl
 unfold Rw;cases e:fg kvs (.inr a.nm)with
 |none=>
  dsimp only;rw[ft (a.ts.length:Nat) (by unfold p7;simp[At.D,fq,e])];simp
 |some d=>
  obtain⟨k,rfl⟩:=hv a.nm d e;exact ft k (by unfold p7;simp[At.D,fq,e])
theorem Sq(kvs:List (Pu.D×Pu.D))(j:L2.ja)(v:Pu.D):(pj kvs j v).length≤kvs.length+1:=by
 unfold pj;split
 ·rw[kA2];omega
 ·rw[kAf];simp
theorem IntV.put{kvs:List (Pu.D×Pu.D)}{x:Str}{k:Int}(h:IntV kvs):IntV (pj kvs (.inr x) (.int k)):=λy d hd=>by
 rw[Ds]at hd;split at hd
 ·cases hd;exact⟨_,rfl⟩
 ·exact h y d hd
theorem zb4(n:Nat)(v0:Sl):∀(as:List At)(kvs kvs':List (Pu.D×Pu.D))(pre:List Str)(v3:Sl),(∀a∈as,a.good)→IntV kvs→(∀x:Str,fg kvs' (.inr x)=fg kvs (.inr x))→kvs'.length+as.length≤1000→pre.length+4 * as.length≤900→
  (Af kvs as=true∧∃kvs2 w3,gx (bz 3) (Rq (n+2)) (as.map At.D) [v0,.od false kvs',.ow (pre.map Pu.D.str),v3,.no]=.nx [v0,.od false kvs2,.ow ((pre++b8 as).map Pu.D.str),w3,.no])
  ∨(Af kvs as=false∧gx (bz 3) (Rq (n+2)) (as.map At.D) [v0,.od false kvs',.ow (pre.map Pu.D.str),v3,.no]=.rt (.bl false)):=by
 intro as;induction as with
 |nil=>intro kvs kvs' pre v3 _ _ _ _ _;exact .inl ⟨rfl,kvs',v3,by simp[gx,b8]⟩
 |cons a as ih=>
  intro kvs kvs' pre v3 hg hv hr hl hp;have ha:=hg a kA6;have hg':∀b∈as,b.good:=λb hb=>hg b (kA7 _ hb);rw[kA5]at hl hp;have hv':IntV kvs':=λx d e=>hv x d (by rw[←hr x];exact e);have hs:=o6 a.ts;have h4:=ha.2.2.1;have hA:b8 (a::as)=mr a.ts++b8 as:=by simp[b8]
  have hpl:=Sq kvs' (.inr a.nm) (.int (a.ts.length:Nat));rw[kA0,fy (δ1:=[v0,.od false kvs',.ow (pre.map Pu.D.str),.pu a.D,.no]) rfl,Xz n ha hv' (by omega) (by omega) v0,hA,←List.append_assoc];unfold Af Rw;rw[hr a.nm];cases e:fg kvs (.inr a.nm)with
  |none=>
   dsimp only;rw[if_pos rfl];dsimp only;refine ih _ _ _ _ hg' (hv.snoc e) (λx=>?_) (by omega) (by rw[kAf];omega);rw[Ds,rh e,hr x]
  |some d=>
   obtain⟨k,rfl⟩:=hv a.nm d e;dsimp only
   by_cases hk:k=(a.ts.length:Int)
   ·subst hk;rw[if_pos (beq_self_eq_true _),if_pos rfl];dsimp only;refine ih _ _ _ _ hg' hv (λx=>?_) (by omega) (by rw[kAf];omega);rw[Ds];split
    ·rename_i hx;rw[Sum.inr.inj hx];exact e.symm
    ·exact hr x
   ·rw[if_neg (show¬((k==(a.ts.length:Int))=true) by simpa using hk),if_neg hk];exact .inr ⟨rfl,rfl⟩
theorem zg5(n:Nat)(v0:Sl):∀(ds:List Pu.D)(kvs:List (Pu.D×Pu.D))(pre:List Str)(v3:Sl),(∀d∈ds,AT d)→ds.all jj=false→IntV kvs→kvs.length+ds.length≤1000→pre.length+4 * ds.length≤900→
  gx (bz 3) (Rq (n+2)) ds [v0,.od false kvs,.ow (pre.map Pu.D.str),v3,.no]=.rt (.bl false):=by
 intro ds;induction ds with
 |nil=>intro kvs pre v3 _ h;cases h
 |cons d ds ih=>
  intro kvs pre v3 hat hb hv hl hp;rw[kA5]at hl hp;rw[fy (δ1:=[v0,.od false kvs,.ow (pre.map Pu.D.str),.pu d,.no]) rfl];cases e:jj d with
  |false=>
   have e1:=L0 n (hat d kA6);rw[e]at e1;have:Rq (n+2) [v0,.od false kvs,.ow (pre.map Pu.D.str),.pu d,.no]=.rt (.bl false):=by
    simp -implicitDefEqProofs [Rq,e1]
   rw[this]
  |true=>
   rw[kAm,e,Bool.true_and]at hb;obtain⟨a,rfl,ha⟩:=Ks e;have hs:=o6 a.ts;have h4:=ha.2.2.1;have hpl:=Sq kvs (.inr a.nm) (.int (a.ts.length:Nat));rw[Xz n ha hv (by omega) (by omega) v0]
   by_cases hk:Rw kvs a=true
   ·rw[if_pos hk];dsimp only;exact ih _ _ _ (λd hd=>hat d (kA7 _ hd)) hb hv.put (by omega) (by rw[kAf];omega)
   ·rw[if_neg hk]
noncomputable def X3(n:Nat):En→Out:=(ki (wj (m6 (i9 (g9 (bb (aj (bq n) cz) (ae (af 4) bc)))) (i9 (g9 (bb (aj (bq n) di) (ae (af 4) bc))))) (m6 (g9 (g1 (cq "str") (af 4))) (g2 i8 (af 4) (af 2)))) (d4 (gC (.bl false))) ia)
noncomputable def Xg(kn:List Str):Pu.D→Bool
 |.str x=>F4 x && decide (x∈kn)
 |.int _=>true
 |_=>false
theorem xm:∀l:List Str,gw (l.map Pu.D.str)=some (l.map PyData.str)
 |[]=>rfl
 |x::l=>by
  show(match ij (.str x)with|some p=>(match gw (l.map Pu.D.str)with|some ps=>some (p::ps)|none=>none)|none=>none)=_;rw[xm l];rfl
theorem ui:∀{l:List Str},(∀x∈l,PyData.strOk x=true)→PyData.canLayAll0 (l.map PyData.str)=true
 |[],_=>rfl
 |x::l,h=>by
  show(PyData.strOk x && PyData.canLayAll0 (l.map PyData.str))=true;rw[h x kA6,ui λy hy=>h y (kA7 _ hy)];rfl
theorem V3(l:List Str)(x:Str):((l.map PyData.str).any λy=>PyData.eqv y (.str x))=decide (x∈l):=by
 induction l with
 |nil=>rfl
 |cons y l ih=>
  rw[kA0,List.any_cons,ih];show((y==x)||decide (x∈l))=_
  by_cases h:y=x
  ·subst h;simp
  ·have h':¬x=y:=λz=>h z.symm;have:(y==x)=false:=by simpa using h
   rw[this];simp[h']
theorem I9{l:List Str}{x:Str}(hl:∀y∈l,PyData.strOk y=true)(hx:PyData.strOk x=true):M9 (.str x) (.lst (l.map Pu.D.str))=some (.bl (decide (x∈l)))∧i8 (.str x) (.lst (l.map Pu.D.str))=some (.bl (!decide (x∈l))):=by
 have e:A7 (.str x) (.lst (l.map Pu.D.str))=some (decide (x∈l)):=by
  show(match gw (l.map Pu.D.str),ij (.str x)with
   |some ps,some q=>if PyData.canLayAll0 ps && SeqAt.shaped q then some (ps.any λy=>PyData.eqv y q)else none
   |_,_=>none)=_
  rw[xm];show(if PyData.canLayAll0 (l.map PyData.str) && SeqAt.shaped (.str x)then some ((l.map PyData.str).any λy=>PyData.eqv y (.str x))else none)=_;rw[ui hl,o4 (p:=.str x) hx (kAl _),V3];rfl
 unfold M9 i8;rw[e];exact⟨rfl,rfl⟩
theorem zg9(n:Nat){d:Pu.D}(h:T0 d){kn:List Str}(hk:∀x∈kn,F4 x=true)(v0 v1 v3:Sl):
  X3 (n+1) [v0,v1,.ow (kn.map Pu.D.str),v3,.pu d]=if Xg kn d then .nx [v0,v1,.ow (kn.map Pu.D.str),v3,.pu d]else .rt (.bl false):=by
 have e1:=G8 n h;have e2:=Dq n h;have gen:∀{d:Pu.D}(e1:aj (bq (n+1)) cz [d]=.ok (.bl false))(e2:aj (bq (n+1)) di [d]=.ok (.bl false)),Xg kn d=false→
   X3 (n+1) [v0,v1,.ow (kn.map Pu.D.str),v3,.pu d]=if Xg kn d then .nx [v0,v1,.ow (kn.map Pu.D.str),v3,.pu d]else .rt (.bl false):=λ{d} e1 e2 hb=>by
  rw[hb];simp -implicitDefEqProofs [X3,e1,e2]
 cases h with
 |str h=>
  rename_i x;have e3:=(I9 (l:=kn) (x:=x) (λy hy=>mn (qa (hk y hy))) (mn h)).2;show _=if(F4 x && decide (x∈kn))=true then _ else _
  have e2':aj (bq (n+1)) di [.str x]=.ok (.bl (F4 x)):=e2;have e1':aj (bq (n+1)) cz [.str x]=.ok (.bl false):=e1;cases ho:F4 x with
  |false=>
   rw[ho]at e2';simp -implicitDefEqProofs [X3,e1',e2']
  |true=>
   rw[ho]at e2'
   by_cases hx:x∈kn
   ·rw[decide_eq_true hx]at e3;simp -implicitDefEqProofs [X3,e1',e2',e3,hx]
   ·rw[decide_eq_false hx]at e3;simp -implicitDefEqProofs [X3,e1',e2',e3,hx]
 |int i=>
  have e1':aj (bq (n+1)) cz [.int i]=.ok (.bl true):=e1;simp -implicitDefEqProofs [X3,e1',Xg]
 |bl b=>exact gen (e1:=e1) (e2:=e2) rfl
 |non=>exact gen (e1:=e1) (e2:=e2) rfl
 |tup ds=>exact gen (e1:=e1) (e2:=e2) rfl
 |lst ds=>exact gen (e1:=e1) (e2:=e2) rfl
theorem zb9(n:Nat){kn:List Str}(hk:∀x∈kn,F4 x=true)(v0 v1 v3:Sl):∀(ds:List Pu.D)(v4:Sl),(∀d∈ds,T0 d)→
  (ds.all (Xg kn)=true∧∃w4,gx (bz 4) (X3 (n+1)) ds [v0,v1,.ow (kn.map Pu.D.str),v3,v4]=.nx [v0,v1,.ow (kn.map Pu.D.str),v3,w4])
  ∨(ds.all (Xg kn)=false∧gx (bz 4) (X3 (n+1)) ds [v0,v1,.ow (kn.map Pu.D.str),v3,v4]=.rt (.bl false)):=by
 intro ds;induction ds with
 |nil=>intro v4 _;exact .inl ⟨rfl,v4,rfl⟩
 |cons d ds ih=>
  intro v4 h;rw[fy (δ1:=[v0,v1,.ow (kn.map Pu.D.str),v3,.pu d]) rfl,zg9 n (h d kA6) hk,kAm];cases e:Xg kn d with
  |true=>
   rw[if_pos rfl,Bool.true_and];exact ih (.pu d) λd hd=>h d (kA7 _ hd)
  |false=>exact .inr ⟨rfl,rfl⟩
noncomputable def jd(acc:List Str):List Str→List Str
 |[]=>acc
 |x::r=>if x∈acc then jd acc r else jd (acc++[x]) r
noncomputable def km(l:List Str):List (Pu.D×Pu.D):=l.map λx=>(.str x,.bl true)
theorem X5(l:List Str)(x:Str):fg (km l) (.inr x)=if x∈l then some (.bl true)else none:=by
 induction l with
 |nil=>rfl
 |cons y l ih=>
  show(if fq (.str y)=some (.inr x)then some (Pu.D.bl true)else fg (km l) (.inr x))=_;rw[ih]
  by_cases h:y=x
  ·subst h;simp[fq]
  ·have h':¬x=y:=λz=>h z.symm;have hk:¬fq (.str y)=some (.inr x):=by simp[fq,h]
   rw[if_neg hk];simp[h']
theorem zdi(l:List Str)(x:Str):pj (km l) (.inr x) (.bl true)=km (if x∈l then l else l++[x]):=by
 have h:=X5 l x
 by_cases hx:x∈l
 ·rw[if_pos hx]at h⊢;unfold pj;rw[vk,h];show(km l).map _=km l;unfold km;rw[kAw];apply List.map_congr_left;intro y _;show(if fq (.str y)=some (.inr x)then(Pu.D.str y,Pu.D.bl true)else(.str y,.bl true))=_;split<;>rfl
 ·rw[if_neg hx]at h⊢;rw[J5 h];unfold km;rw[List.map_append];rfl
noncomputable def siB:En→Out:=(ki (g9 (g1 (cq "str") (af 2))) (F5 1 (af 2) (gC (.bl true))) ia)
theorem Sw(v0:Sl):∀(ts:List Tm)(acc:List Str)(v2:Sl),acc.length+ts.length≤1000→∃w2,gx (bz 2) siB (ts.map Tm.D) [v0,.od false (km acc),v2]=.nx [v0,.od false (km (jd acc (mr ts))),w2]:=by
 intro ts;induction ts with
 |nil=>intro acc v2 _;exact⟨v2,rfl⟩
 |cons t ts ih=>
  intro acc v2 hl;rw[kA5]at hl;rw[kA0,fy (δ1:=[v0,.od false (km acc),.pu t.D]) rfl];cases t with
  |i z=>
   have eb:siB [v0,.od false (km acc),.pu (Tm.i z).D]=.nx [v0,.od false (km acc),.pu (Tm.i z).D]:=by simp[siB,Tm.D]
   rw[eb];exact ih acc _ (by omega)
  |s x=>
   have hlt:(km acc).length<sizeLine:=by unfold km;rw[kA2];show _<16777216;omega
   have eb:siB [v0,.od false (km acc),.pu (Tm.s x).D]=.nx [v0,.od false (km (if x∈acc then acc else acc++[x])),.pu (Tm.s x).D]:=by
    simp[siB,Tm.D,F5,zgp,A9,fq,hlt,zdi]
   rw[eb];have hde:jd acc (mr (.s x::ts))=jd (if x∈acc then acc else acc++[x]) (mr ts):=by
    show(if x∈acc then jd acc (mr ts)else jd (acc++[x]) (mr ts))=_
    by_cases h:x∈acc<;>simp[h]
   rw[hde];refine ih _ _ ?_;split
   ·omega
   ·rw[kAf];simp;omega
theorem Ly(l:List Str):Ro (km l)=l.map Pu.D.str:=by unfold Ro km;rw[kAw];rfl
theorem yq(n:Nat)(ts:List Tm)(hl:ts.length≤1000)(b:Bool):aj (bq (n+1)) cm [if b then .tup (ts.map Tm.D)else .lst (ts.map Tm.D)]=.ok (.lst ((jd [] (mr ts)).map Pu.D.str)):=by
 rw[Lk];cases b with
 |true=>
  obtain⟨w2,e⟩:=Sw (.bo (.tup (ts.map Tm.D))) ts [] .no (by simpa using hl);have hs:i5 (bz 2) (de (Bp 0)) siB [.bo (.tup (ts.map Tm.D)),.od false [],.no]=.nx [.bo (.tup (ts.map Tm.D)),.od false (km (jd [] (mr ts))),w2]:=by
   rw[iz (ds:=ts.map Tm.D) (by simp)];exact e
  unfold siB at hs;simp[pv,hs,jw,Ly]
 |false=>
  obtain⟨w2,e⟩:=Sw (.bo (.lst (ts.map Tm.D))) ts [] .no (by simpa using hl);have hs:i5 (bz 2) (de (Bp 0)) siB [.bo (.lst (ts.map Tm.D)),.od false [],.no]=.nx [.bo (.lst (ts.map Tm.D)),.od false (km (jd [] (mr ts))),w2]:=by
   rw[iz (ds:=ts.map Tm.D) (by simp)];exact e
  unfold siB at hs;simp[pv,hs,jw,Ly]
theorem mq(x:Str):∀(l acc:List Str),x∈jd acc l↔x∈acc∨x∈l
 |[],acc=>by simp[jd]
 |y::l,acc=>by
  unfold jd
  by_cases h:y∈acc
  ·rw[if_pos h,mq x l acc,kA8];constructor
   ·rintro (z|z)
    ·exact .inl z
    ·exact .inr (.inr z)
   ·rintro (z|z|z)
    ·exact .inl z
    ·subst z;exact .inl h
    ·exact .inr z
  ·rw[if_neg h,mq x l,List.mem_append,List.mem_singleton,kA8];constructor
   ·rintro ((z|z)|z)
    ·exact .inl z
    ·exact .inr (.inl z)
    ·exact .inr (.inr z)
   ·rintro (z|z|z)
    ·exact .inl (.inl z)
    ·exact .inl (.inr z)
    ·exact .inr z
noncomputable def q8(as:List At):List Tm:=as.flatMap At.ts
theorem Et(v0:Sl):∀(as:List At)(pre:List Tm)(v2:Sl),(∀a∈as,a.good)→pre.length+4 * as.length≤4000→
  ∃w2,gx (bz 2) (yn 1 (g2 ao (af 2) (gC (.int 1)))) (as.map At.D) [v0,.ow (pre.map Tm.D),v2]=.nx [v0,.ow ((pre++q8 as).map Tm.D),w2]:=by
 intro as;induction as with
 |nil=>intro pre v2 _ _;exact⟨v2,by simp[gx,q8]⟩
 |cons a as ih=>
  intro pre v2 hok hl;have ha:=(hok a kA6).2;rw[kA5]at hl;obtain⟨w2,e⟩:=ih (pre++a.ts) (.pu a.D) (λb hb=>hok b (kA7 _ hb)) (by rw[kAf];omega);refine⟨w2,?_⟩;rw[kA0,fy (δ1:=[v0,.ow (pre.map Tm.D),.pu a.D]) rfl];have hle:pre.length+a.ts.length≤16777216:=by omega
  have eb:yn 1 (g2 ao (af 2) (gC (.int 1))) [v0,.ow (pre.map Tm.D),.pu a.D]=.nx [v0,.ow ((pre++a.ts).map Tm.D),.pu a.D]:=by simp[At.D,hle]
  rw[eb];dsimp only;rw[e];simp[q8]
theorem yx(n:Nat){as:List At}(h:∀a∈as,a.good)(hl:as.length≤900)(b:Bool):aj (bq (n+1)) df [if b then .tup (as.map At.D)else .lst (as.map At.D)]=.ok (.lst ((q8 as).map Tm.D)):=by
 rw[Om];cases b with
 |true=>
  obtain⟨w2,e⟩:=Et (.bo (.tup (as.map At.D))) as [] .no h (by simp;omega);have hs:i5 (bz 2) (de (Bp 0)) (yn 1 (g2 ao (af 2) (gC (.int 1)))) [.bo (.tup (as.map At.D)),.ow [],.no]=.nx [.bo (.tup (as.map At.D)),.ow ((q8 as).map Tm.D),w2]:=by
   rw[iz (ds:=as.map At.D) (by simp)];simpa using e
  simp[sj,hs]
 |false=>
  obtain⟨w2,e⟩:=Et (.bo (.lst (as.map At.D))) as [] .no h (by simp;omega);have hs:i5 (bz 2) (de (Bp 0)) (yn 1 (g2 ao (af 2) (gC (.int 1)))) [.bo (.lst (as.map At.D)),.ow [],.no]=.nx [.bo (.lst (as.map At.D)),.ow ((q8 as).map Tm.D),w2]:=by
   rw[iz (ds:=as.map At.D) (by simp)];simpa using e
  simp[sj,hs]
theorem Qg(a b:List Tm):mr (a++b)=mr a++mr b:=List.filterMap_append ..
theorem Kl(as:List At):mr (q8 as)=b8 as:=by
 induction as with
 |nil=>rfl
 |cons a as ih=>
  have:q8 (a::as)=a.ts++q8 as:=by simp[q8]
  rw[this,Qg,ih];simp[b8]
theorem zei{as:List At}(h:∀a∈as,a.good):(q8 as).length≤4 * as.length:=by
 induction as with
 |nil=>simp[q8]
 |cons a as ih=>
  have h2:=(h a kA6).2.2.1;have h3:=ih λb hb=>h b (kA7 _ hb);unfold q8 at h3⊢;rw[List.flatMap_cons,kAf,kA5];omega
theorem S1{ts:List Tm}(h:∀t∈ts,t.good):∀x∈mr ts,F4 x=true:=λx hx=>by
 unfold mr at hx;obtain⟨t,ht,e⟩:=List.mem_filterMap.mp hx;cases t with
 |s y=>cases e;exact h _ ht
 |i z=>cases e
theorem Hl{as:List At}(h:∀a∈as,a.good):∀x∈b8 as,F4 x=true:=λx hx=>by
 obtain⟨a,ha,hx⟩:=List.mem_flatMap.mp hx;exact S1 (h a ha).2.2.2 x hx
theorem xy:∀(l acc:List Str),(jd acc l).length≤acc.length+l.length:=by
 intro l;induction l with
 |nil=>intro acc;simp[jd]
 |cons x l ih=>
  intro acc;unfold jd;split
  ·have:=ih acc;simp;omega
  ·have:=ih (acc++[x]);simp at this⊢;omega
noncomputable def stB(hd:List Tm)(as:List At):Bool:=(jd [] (mr hd)).all λx=>decide (x∈jd [] (b8 as))
theorem Ni(n:Nat){hd:List Tm}{as:List At}(hh:∀t∈hd,t.good)(ha:∀a∈as,a.good)(hl1:hd.length≤900)(hl2:as.length≤200):aj (bq (n+2)) cy [.tup (hd.map Tm.D),.tup (as.map At.D)]=.ok (.bl (stB hd as)):=by
 rw[C5];have hl3:=zei ha;have e1:=yx n ha (by omega) true;have e2:=yq n (q8 as) (by omega) false;have e3:=yq n hd (by omega) true;simp only[if_true,kAn,if_false]at e1 e2 e3;rw[Kl]at e2;have hw:=Hl ha;have hw2:=S1 hh;have hdl:(jd [] (mr hd)).length≤1000:=by
  have h1:=xy (mr hd) [];have h2:=o6 hd;simp at h1;omega
 have hc:gz (de (bb (aj (bq (n+1)) cm) (ae (af 0) bc))) [2] (gC (.bl true)) (g2 M9 (af 0) (af 1)) [.bo (.tup (hd.map Tm.D)),.bo (.tup (as.map At.D)),.pu (.lst ((jd [] (b8 as)).map Pu.D.str))]=.ok (.lst ((jd [] (mr hd)).map λx=>Pu.D.bl (decide (x∈jd [] (b8 as))))):=
  q9 (f:=Pu.D.str) (by simp[e3]) (by omega) λy hy=>by
   have hy':y∈mr hd:=by simpa using(mq y (mr hd) []).mp hy
   have:=(I9 (l:=jd [] (b8 as)) (x:=y) (λz hz=>mn (qa (hw z (by simpa using(mq z _ []).mp hz)))) (mn (qa (hw2 y hy')))).1;simp[ic,this]
 have hall:=Qx (λx=>decide (x∈jd [] (b8 as))) (jd [] (mr hd));unfold stB;simp -implicitDefEqProofs [oh,e1,e2,hc,hall,-kAw]
theorem Ke(hd:List Tm)(as:List At):stB hd as=(mr hd).all λx=>decide (x∈b8 as):=by
 unfold stB;rw[Bool.eq_iff_iff,kAx,kAx];have m1:∀x,x∈jd [] (mr hd)↔x∈mr hd:=λx=>by rw[mq];simp
 have m2:∀x,x∈jd [] (b8 as)↔x∈b8 as:=λx=>by rw[mq];simp
 constructor
 ·intro h x hx;have:=of_decide_eq_true (h x ((m1 x).mpr hx));exact decide_eq_true ((m2 x).mp this)
 ·intro h x hx;have:=of_decide_eq_true (h x ((m1 x).mp hx));exact decide_eq_true ((m2 x).mpr this)
theorem B7{kn:List Str}:∀{hd:List Tm},(∀t∈hd,t.good)→(hd.map Tm.D).all (Xg kn)=(mr hd).all λx=>decide (x∈kn)
 |[],_=>rfl
 |.s x::r,h=>by
  have hx:F4 x=true:=h _ kA6;have ih:=B7 (kn:=kn) (hd:=r) λt ht=>h t (kA7 _ ht);show((F4 x && decide (x∈kn)) && (r.map Tm.D).all (Xg kn))=(decide (x∈kn) && (mr r).all λx=>decide (x∈kn));rw[ih,hx,Bool.true_and]
 |.i z::r,h=>by
  have ih:=B7 (kn:=kn) (hd:=r) λt ht=>h t (kA7 _ ht);show(true && (r.map Tm.D).all (Xg kn))=(mr r).all λx=>decide (x∈kn);rw[ih,Bool.true_and]
theorem Xh{kn:List Str}{d:Pu.D}(h:Xg kn d=true):jx d=true:=by
 cases d with
 |str x=>
  have h':(F4 x && decide (x∈kn))=true:=h;rw[kA4]at h';exact h'.1
 |int i=>rfl
 |_=>cases h
theorem Kt:∀{ds:List Pu.D},ds.all jj=true→∃as:List At,ds=as.map At.D∧∀a∈as,a.good
 |[],_=>⟨[],rfl,by intro a ha;cases ha⟩
 |d::r,h=>by
  rw[kAm,kA4]at h;obtain⟨a,rfl,ha⟩:=Ks h.1;obtain⟨as,rfl,has⟩:=Kt h.2;refine⟨a::as,rfl,λb hb=>?_⟩;rcases kA8.mp hb with rfl|hb
  ·exact ha
  ·exact has b hb
structure PT(h a:Pu.D):Prop where
 h0:T0 h
 h1:∀ds,h=.tup ds→ds.length≤1000∧∀x∈ds,T0 x
 a0:T0 a
 a1:∀ds,a=.tup ds→ds.length≤1000∧∀x∈ds,AT x
section
variable(n:Nat){h a:Pu.D}
theorem Ib(P:PT h a):aj (bq (n+5)) b9 [h,.int 0,.int 4,.fn "is_term"]=.ok (.bl (nv 0 4 jx h)):=
 vd (n+4) (lo:=0) (hi:=4) (y:="is_term") (d:=gi) (pB:=jx) (by kernel_rfl) rfl P.h0 (λxs hx=>⟨(P.h1 xs hx).1,λx hx'=>Gs (n+2) ((P.h1 xs hx).2 x hx')⟩)
theorem Ia(P:PT h a):aj (bq (n+5)) b9 [a,.int 1,.int 6,.fn "is_atom"]=.ok (.bl (nv 1 6 jj a)):=
 vd (n+4) (lo:=1) (hi:=6) (y:="is_atom") (d:=gp) (pB:=jj) (by kernel_rfl) rfl P.a0 (λxs hx=>⟨(P.a1 xs hx).1,λx hx'=>Ud n ((P.a1 xs hx).2 x hx')⟩)
theorem Ic:aj (bq (n+5)) ff [.tup [h,a]]=.ok (.bl true):=by rw[Gk];simp[jq]
theorem K6(P:PT h a)(e:nv 0 4 jx h=false):aj (bq (n+6)) aq [.tup [h,a]]=.er "NoAsking":=by
 rw[kf];have e1:=Ic n (h:=h) (a:=a);have e2:=Ib n P;rw[e]at e2;simp -implicitDefEqProofs [ir,e1,e2,lq]
theorem K7(P:PT h a)(e:nv 1 6 jj a=false):aj (bq (n+6)) aq [.tup [h,a]]=.er "NoAsking":=by
 cases f:nv 0 4 jx h with
 |false=>exact K6 n P f
 |true=>
  rw[kf];have e1:=Ic n (h:=h) (a:=a);have e2:=Ib n P;have e3:=Ia n P;rw[e]at e3;rw[f]at e2;simp -implicitDefEqProofs [ir,e1,e2,e3,lq]
theorem zkm(P:PT h a){as:List At}(ha:a=.tup (as.map At.D))(hl:as.length≤900)(e:Af [] as=false):aj (bq (n+6)) aq [.tup [h,a]]=.er "NoAsking":=by
 cases f:nv 0 4 jx h with
 |false=>exact K6 n P f
 |true=>
  cases g:nv 1 6 jj a with
  |false=>exact K7 n P g
  |true=>
   rw[kf];have e1:=Ic n (h:=h) (a:=a);have e2:=Ib n P;have e3:=Ia n P;have e4:=Hc (n+4) hl;rw[e,←ha]at e4;rw[f]at e2;rw[g]at e3;simp -implicitDefEqProofs [ir,e1,e2,e3,e4,lq]
theorem Wl{hd:List Tm}{as:List At}(P:PT (.tup (hd.map Tm.D)) (.tup (as.map At.D)))(hh:∀t∈hd,t.good)(ha:∀a∈as,a.good)(l1:hd.length≤4)(l2:1≤as.length)(l3:as.length≤6)(e:Af [] as=true):
  aj (bq (n+6)) aq [jy hd as]=if stB hd as then .ok (jy hd as)else .er "NoAsking":=by
 rw[kf];have e1:=Ic n (h:=.tup (hd.map Tm.D)) (a:=.tup (as.map At.D));have e2:=Ib n P;have e3:=Ia n P;have e4:=Hc (n+4) (as:=as) (by omega);have e5:=Ni (n+3) hh ha (by omega) (by omega);have f:nv 0 4 jx (.tup (hd.map Tm.D))=true:=by
  show(decide ((0:Int)≤((hd.map Tm.D).length:Int)) && decide (((hd.map Tm.D).length:Int)≤4) && (hd.map Tm.D).all jx)=true;rw[kA2,decide_eq_true (by omega),decide_eq_true (by omega)];simp only[Bool.true_and,kAx];intro d hd';obtain⟨t,ht,rfl⟩:=kAv.mp hd';have:=hh t ht;cases t with
  |s x=>exact this
  |i z=>rfl
 have g:nv 1 6 jj (.tup (as.map At.D))=true:=by
  show(decide ((1:Int)≤((as.map At.D).length:Int)) && decide (((as.map At.D).length:Int)≤6) && (as.map At.D).all jj)=true;rw[kA2,decide_eq_true (by omega),decide_eq_true (by omega)];simp only[Bool.true_and,kAx];intro d hd';obtain⟨b,hb,rfl⟩:=kAv.mp hd';exact zeu (ha b hb)
 rw[f]at e2;rw[g]at e3;rw[e]at e4;unfold jy;cases hs:stB hd as with
 |true=>
  rw[hs]at e5;simp -implicitDefEqProofs [ir,e1,e2,e3,e4,e5,lq]
 |false=>
  rw[hs]at e5;simp -implicitDefEqProofs [ir,e1,e2,e3,e4,e5,lq]
end
noncomputable def zka(n m:Nat)(t:Pu.D):Prop:=
 (aj (bq (n+3)) bp [t]=.ok (.bl true)∧aj (bq (m+6)) aq [t]=.ok t∧∃hd as,t=jy hd as∧(∀x∈hd,x.good)∧∀b∈as,b.good)∨(aj (bq (n+3)) bp [t]=.ok (.bl false)∧aj (bq (m+6)) aq [t]=.er "NoAsking")
theorem Rv(n:Nat){hs ds:List Pu.D}{d:Pu.D}(l1:hs.length≤4)(l2:1≤ds.length)(l3:ds.length≤6)(ht:gx (bz 3) (Rq (n+2)) ds [.bo (.tup [.tup hs,.tup ds]),.od false [],.ow [],.no,.no]=.rt d):
  aj (bq (n+3)) bp [.tup [.tup hs,.tup ds]]=.ok d:=by
 rw[je];have a1:¬(4:Int)<(hs.length:Int):=by omega
 have a2:¬(ds.length:Int)<1:=by omega
 have a3:¬(6:Int)<(ds.length:Int):=by omega
 have hs0:i5 (bz 3) (de (g2 ao (af 0) (gC (.int 1)))) (Rq (n+2)) [.bo (.tup [.tup hs,.tup ds]),.od false [],.ow [],.no,.no]=.rt d:=(iz (by simp)).trans ht;unfold Rq at hs0;simp -implicitDefEqProofs [gf,a1,a2,a3,hs0]
theorem Ru(n:Nat){hs ds:List Pu.D}{δ:En}{o:Out}(l1:hs.length≤4)(l2:1≤ds.length)(l3:ds.length≤6)(ht:gx (bz 3) (Rq (n+2)) ds [.bo (.tup [.tup hs,.tup ds]),.od false [],.ow [],.no,.no]=.nx δ)(hf:i5 (bz 4) (de (g2 ao (af 0) (gC (.int 0)))) (X3 (n+2)) δ=o)(ho:(∃δ',o=.nx δ')∨o=.rt (.bl false)):
  aj (bq (n+3)) bp [.tup [.tup hs,.tup ds]]=.ok (.bl (match o with|.nx _=>true|_=>false)):=by
 rw[je];have a1:¬(4:Int)<(hs.length:Int):=by omega
 have a2:¬(ds.length:Int)<1:=by omega
 have a3:¬(6:Int)<(ds.length:Int):=by omega
 have hs0:i5 (bz 3) (de (g2 ao (af 0) (gC (.int 1)))) (Rq (n+2)) [.bo (.tup [.tup hs,.tup ds]),.od false [],.ow [],.no,.no]=.nx δ:=(iz (by simp)).trans ht;unfold Rq at hs0;unfold X3 at hf;rcases ho with ⟨δ',rfl⟩|rfl
 ·simp -implicitDefEqProofs [gf,a1,a2,a3,hs0,hf]
 ·simp -implicitDefEqProofs [gf,a1,a2,a3,hs0,hf]
theorem za9(n m:Nat){h a:Pu.D}(P:PT h a):zka n m (.tup [h,a]):=by
 have nb:∀{d:Pu.D},T0 d→(∃ds,d=.tup ds)∨((∀ds,d≠.tup ds)∧cq "tuple" d=some (.bl false)):=λ{d} hd=>by
  cases hd with
  |tup ds=>exact .inl ⟨ds,rfl⟩
  |str h=>exact .inr ⟨(λ_ z=>nomatch z),Tc _⟩
  |int i=>exact .inr ⟨(λ_ z=>nomatch z),S9 _⟩
  |bl b=>exact .inr ⟨(λ_ z=>nomatch z),S8 _⟩
  |non=>exact .inr ⟨(λ_ z=>nomatch z),Tb⟩
  |lst ds=>exact .inr ⟨(λ_ z=>nomatch z),Ta _⟩
 have nt:∀{lo hi:Int}{pB:Pu.D→Bool}{d:Pu.D},(∀ds,d≠.tup ds)→nv lo hi pB d=false:=λ{lo hi pB d} hd=>by
  cases d with
  |tup ds=>exact absurd rfl (hd ds)
  |_=>rfl
 rcases nb P.h0 with ⟨hs,rfl⟩|⟨hn,hi⟩
 ·by_cases l1:hs.length≤4
  ·rcases nb P.a0 with ⟨ds,rfl⟩|⟨an,ai⟩
   ·by_cases l2:1≤ds.length∧ds.length≤6
    ·have hx:=(P.h1 hs rfl).2;have ax:=(P.a1 ds rfl).2;cases e:ds.all jj with
     |false=>
      refine .inr ⟨Rv n l1 l2.1 l2.2 (zg5 n _ ds [] [] .no ax e (by intro x d z;cases z) (by simp;omega) (by simp;omega)),K7 m P ?_⟩;show(_ && ds.all jj)=false;rw[e,Bool.and_false]
     |true=>
      obtain⟨as,rfl,hg⟩:=Kt e;have l2':=l2;rw[kA2]at l2';rcases zb4 n (.bo (.tup [.tup hs,.tup (as.map At.D)])) as [] [] [] .no hg (by intro x d z;cases z) (λ_=>rfl) (by simp;omega) (by simp;omega)with ⟨o1,kvs2,w3,t1⟩|⟨o1,t1⟩
      ·rw[List.nil_append]at t1;rcases zb9 (n+1) (Hl hg) (.bo (.tup [.tup hs,.tup (as.map At.D)])) (.od false kvs2) w3 hs .no hx with ⟨b1,w4,t2⟩|⟨b1,t2⟩
       ·have hl:=Ru n l1 l2.1 l2.2 t1 ((iz (ds:=hs) (by simp)).trans t2) (.inl ⟨_,rfl⟩);have ht:hs.all jx=true:=by
         rw[kAx]at b1⊢;exact λd hd=>Xh (b1 d hd)
        obtain⟨hd,rfl,hgd⟩:=yy ht;rw[kA2]at l1;rw[B7 hgd,←Ke]at b1;have:=Wl m P hgd hg l1 l2'.1 l2'.2 o1;rw[b1,if_pos rfl]at this;exact .inl ⟨hl,this,hd,as,rfl,hgd,hg⟩
       ·have hl:=Ru n l1 l2.1 l2.2 t1 ((iz (ds:=hs) (by simp)).trans t2) (.inr rfl);refine .inr ⟨hl,?_⟩;cases ht:hs.all jx with
        |false=>
         refine K6 m P ?_;show(_ && hs.all jx)=false;rw[ht,Bool.and_false]
        |true=>
         obtain⟨hd,rfl,hgd⟩:=yy ht;rw[kA2]at l1;rw[B7 hgd,←Ke]at b1;have:=Wl m P hgd hg l1 l2'.1 l2'.2 o1;rw[b1]at this;exact this
      ·exact .inr ⟨Rv n l1 l2.1 l2.2 t1,zkm m P rfl (by omega) o1⟩
    ·refine .inr ⟨?_,K7 m P ?_⟩
     ·rw[je];have a1:¬(4:Int)<(hs.length:Int):=by omega
      by_cases l3:1≤ds.length
      ·have a2:¬(ds.length:Int)<1:=by omega
       have a3:(6:Int)<(ds.length:Int):=by omega
       simp -implicitDefEqProofs [gf,a1,a2,a3]
      ·have a2:(ds.length:Int)<1:=by omega
       simp -implicitDefEqProofs [gf,a1,a2]
     ·show(decide ((1:Int)≤(ds.length:Int)) && decide ((ds.length:Int)≤6) && ds.all jj)=false
      by_cases l3:1≤ds.length
      ·rw[decide_eq_false (p:=(ds.length:Int)≤6) (by omega)];simp
      ·rw[decide_eq_false (p:=(1:Int)≤(ds.length:Int)) (by omega)];simp
   ·refine .inr ⟨?_,K7 m P (nt an)⟩;rw[je];have a1:¬(4:Int)<(hs.length:Int):=by omega
    simp -implicitDefEqProofs [gf,a1,ai]
  ·refine .inr ⟨?_,K6 m P ?_⟩
   ·rw[je];have a1:(4:Int)<(hs.length:Int):=by omega
    simp -implicitDefEqProofs [gf,a1]
   ·show(decide ((0:Int)≤(hs.length:Int)) && decide ((hs.length:Int)≤4) && hs.all jx)=false;rw[decide_eq_false (p:=(hs.length:Int)≤4) (by omega)];simp
 ·refine .inr ⟨?_,K6 m P (nt hn)⟩;rw[je];simp -implicitDefEqProofs [gf,hi]
end LK
end
section
namespace LK
open PySem Pu
noncomputable abbrev kg:=List Tm×List At
noncomputable abbrev Sub:=List (Str×Tm)
noncomputable def lk:Sub→Str→Option Tm
 |[],_=>none
 |(y,v)::r,x=>if y=x then some v else lk r x
theorem B9(x:Str)(w:Tm):∀(s:Sub)(y:Str),lk (s++[(x,w)]) y=match lk s y with
  |some v=>some v
  |none=>if x=y then some w else none
 |[],y=>rfl
 |(z,v)::r,y=>by
  show(if z=y then some v else lk (r++[(x,w)]) y)=match (if z=y then some v else lk r y)with
   |some v=>some v
   |none=>if x=y then some w else none
  by_cases e:z=y
  ·rw[if_pos e,if_pos e]
  ·rw[if_neg e,if_neg e];exact B9 x w r y
noncomputable def ap(φ:Str→Tm):Tm→Tm
 |.i i=>.i i
 |.s x=>φ x
noncomputable def evs(s:Sub):Tm→Option Tm
 |.i i=>some (.i i)
 |.s x=>lk s x
noncomputable def pf:Sub→List Tm→List Tm→Option Sub
 |s,[],[]=>some s
 |s,.i i::ts,w::ws=>if(Tm.i i)=w then pf s ts ws else none
 | s, .s x :: ts, w :: ws => (match lk s x with
  |some v=>if v=w then pf s ts ws else none
  |none=>pf (s++[(x,w)]) ts ws)
 |_,_,_=>none
def Le(s s':Sub):Prop:=∀x v,lk s x=some v→lk s' x=some v
theorem Le.refl(s:Sub):Le s s:=λ_ _ h=>h
theorem Le.trans{a b c:Sub}(h:Le a b)(k:Le b c):Le a c:=λx v e=>k x v (h x v e)
theorem Le.snoc{s:Sub}{x:Str}{w:Tm}:Le s (s++[(x,w)]):=λy v e=>by rw[B9,e]
theorem Lm{s s':Sub}(h:Le s s'){t w:Tm}(e:evs s t=some w):evs s' t=some w:=by
 cases t with
 |i i=>exact e
 |s x=>exact h x w e
theorem u6:∀{ts ws:List Tm}{s s':Sub},pf s ts ws=some s'→Le s s'∧ts.map (evs s')=ws.map some
 |[],[],s,s',h=>by cases h;exact⟨Le.refl _,rfl⟩
 |[],_::_,s,s',h=>by cases h
 |.i _::_,[],s,s',h=>by cases h
 |.s _::_,[],s,s',h=>by cases h
 |.i i::ts,w::ws,s,s',h=>by
  unfold pf at h;split at h
  ·rename_i e;obtain⟨a,b⟩:=u6 h;exact⟨a,by rw[kA0,kA0,b,←e];rfl⟩
  ·cases h
 |.s x::ts,w::ws,s,s',h=>by
  unfold pf at h;split at h
  ·rename_i v e;split at h
   ·rename_i e2;obtain⟨a,b⟩:=u6 h;exact⟨a,by rw[kA0,kA0,b,←e2];show lk s' x::_=_;rw[a x v e]⟩
   ·cases h
  ·rename_i e;obtain⟨a,b⟩:=u6 h;refine⟨Le.snoc.trans a,?_⟩;rw[kA0,kA0,b];show lk s' x::_=_;rw[a x w (by rw[B9,e];exact if_pos rfl)]
def Fit(φ:Str→Tm)(s:Sub):Prop:=∀x v,lk s x=some v→φ x=v
theorem my{φ:Str→Tm}:∀(ts:List Tm){s:Sub},Fit φ s→∃s',pf s ts (ts.map (ap φ))=some s'∧Fit φ s'
 |[],s,h=>⟨s,rfl,h⟩
 |.i i::ts,s,h=>by
  obtain⟨s',a,b⟩:=my ts h;exact⟨s',by rw[kA0,pf];show(if(Tm.i i)=Tm.i i then _ else _)=_;rw[if_pos rfl];exact a,b⟩
 |.s x::ts,s,h=>by
  rw[kA0,pf];cases e:lk s x with
  |some v=>
   dsimp only;rw[if_pos (show v=ap φ (Tm.s x)from(h x v e).symm)];exact my ts h
  |none=>
   dsimp only;refine my ts λy v q=>?_;rw[B9]at q;cases e2:lk s y with
   |some u=>rw[e2]at q;cases q;exact h y v e2
   |none=>
    rw[e2]at q;dsimp only at q;split at q
    ·rename_i z;cases q;rw[←z];rfl
    ·cases q
noncomputable def fw:List At→List At→Sub→Option Sub
 |[],_,s=>some s
 |a::A,T,s=>T.findSome? λt=>if t.1=a.1 then(pf s a.2 t.2).bind (fw A T)else none
theorem Lp{T:List At}:∀{A:List At}{s s':Sub},fw A T s=some s'→Le s s'∧∀a∈A,∃t∈T,t.1=a.1∧a.2.map (evs s')=t.2.map some
 |[],s,s',h=>by cases h;exact⟨Le.refl _,λa ha=>by simp at ha⟩
 |a::A,s,s',h=>by
  unfold fw at h;obtain⟨t,ht,e⟩:=List.exists_of_findSome?_eq_some h;split at e
  ·rename_i en;cases e1:pf s a.2 t.2 with
   |none=>rw[e1]at e;cases e
   |some s1=>
    rw[e1]at e;obtain⟨l1,b1⟩:=u6 e1;obtain⟨l2,b2⟩:=Lp (show fw A T s1=some s' from e);refine⟨l1.trans l2,λc hc=>?_⟩;rcases kA8.mp hc with rfl|hc
    ·refine⟨t,ht,en,?_⟩;refine List.ext_getElem? λi=>?_;have q:=congrArg (λl=>l[i]?) b1;simp only[kAr]at q⊢;cases z:c.2[i]? with
     |none=>rw[z]at q;exact q
     |some u=>
      rw[z]at q;cases z2:t.2[i]? with
      |none=>rw[z2]at q;cases q
      |some w=>
       rw[z2]at q;simp only[Option.map_some,kAi.injEq]at q⊢;exact Lm l2 q
    ·exact b2 c hc
  ·cases e
theorem Aw{φ:Str→Tm}{T:List At}:∀{A:List At}{s:Sub},Fit φ s→(∀a∈A,(At.mk a.1 (a.2.map (ap φ)))∈T)→(fw A T s).isSome
 |[],s,_,_=>rfl
 |a::A,s,h,m=>by
  unfold fw;rw[List.findSome?_isSome_iff];refine⟨_,m a kA6,?_⟩;dsimp only;rw[if_pos rfl];obtain⟨s1,e,f⟩:=my a.2 h;rw[e];exact Aw f λb hb=>m b (kA7 _ hb)
noncomputable def Vw(one other:kg):Option Sub:=(pf [] other.1 one.1).bind (fw other.2 one.2)
def Hom(φ:Str→Tm)(other one:kg):Prop:=other.1.map (ap φ)=one.1∧∀a∈other.2,(At.mk a.1 (a.2.map (ap φ)))∈one.2
theorem vg{φ:Str→Tm}{one other:kg}(h:Hom φ other one):(Vw one other).isSome:=by
 unfold Vw;obtain⟨s1,e,f⟩:=my (φ:=φ) other.1 (s:=[]) (λx v q=>by cases q);rw[h.1]at e;rw[e];exact Aw f h.2
theorem Nv{one other:kg}{s:Sub}(h:Vw one other=some s):other.1.map (evs s)=one.1.map some∧∀a∈other.2,∃t∈one.2,t.1=a.1∧a.2.map (evs s)=t.2.map some:=by
 unfold Vw at h;cases e:pf [] other.1 one.1 with
 |none=>rw[e]at h;cases h
 |some s1=>
  rw[e]at h;obtain⟨_,b1⟩:=u6 e;obtain⟨l2,b2⟩:=Lp (show fw other.2 one.2 s1=some s from h);refine⟨?_,b2⟩;refine List.ext_getElem? λi=>?_;have q:=congrArg (λl=>l[i]?) b1;simp only[kAr]at q⊢;cases z:other.1[i]? with
  |none=>rw[z]at q;exact q
  |some u=>
   rw[z]at q;cases z2:one.1[i]? with
   |none=>rw[z2]at q;cases q
   |some w=>
    rw[z2]at q;simp only[Option.map_some,kAi.injEq]at q⊢;exact Lm l2 q
noncomputable def phi(s:Sub):Str→Tm:=λx=>(lk s x).getD (.s x)
theorem Jn{s:Sub}:∀{ts ws:List Tm},ts.map (evs s)=ws.map some→ts.map (ap (phi s))=ws
 |[],[],_=>rfl
 |[],_::_,h=>by cases h
 |_::_,[],h=>by cases h
 |t::ts,w::ws,h=>by
  rw[kA0,kA0]at h;injection h with h1 h2
  rw[kA0,Jn h2]
  congr 1
  cases t with
  |i i=>exact kAi.inj h1
  |s x=>show(lk s x).getD _=w;rw[show lk s x=some w from h1];rfl
theorem Ko{one other:kg}{s:Sub}(h:Vw one other=some s):Hom (phi s) other one:=by
 obtain⟨h1,h2⟩:=Nv h;refine⟨Jn h1,λa ha=>?_⟩;obtain⟨t,ht,e1,e2⟩:=h2 a ha;rw[Jn e2,←e1];exact ht
theorem Hom.trans{φ ψ:Str→Tm}{a b c:kg}(h:Hom φ a b)(k:Hom ψ b c):Hom (λx=>ap ψ (φ x)) a c:=by
 have e:∀t:Tm,ap (λx=>ap ψ (φ x)) t=ap ψ (ap φ t):=λt=>by cases t<;>rfl
 have em:∀ts:List Tm,ts.map (ap λx=>ap ψ (φ x))=(ts.map (ap φ)).map (ap ψ):=λts=>by
  rw[kAw];exact List.map_congr_left λt _=>e t
 refine⟨by rw[em,h.1,k.1],λx hx=>?_⟩;rw[em];exact k.2 _ (h.2 x hx)
theorem Hom.sub{φ:Str→Tm}{a b c:kg}(h:Hom φ a b)(e:b.1=c.1)(k:∀x∈b.2,x∈c.2):Hom φ a c:=⟨h.1.trans e,λx hx=>k _ (h.2 x hx)⟩
theorem Xk{a b:kg}(e:a.1=b.1)(k:∀x∈a.2,x∈b.2):Hom Tm.s a b:=by
 have q:∀ts:List Tm,ts.map (ap Tm.s)=ts:=λts=>by
  have:ap Tm.s=id:=funext λt=>by cases t<;>rfl
  rw[this,List.map_id]
 refine⟨by rw[q,e],λx hx=>?_⟩;rw[q];exact k x hx
noncomputable def wo(a:kg)(k:Nat):kg:=(a.1,a.2.eraseIdx k)
def IsAsk(a:kg):Prop:=a.2≠[]∧∀x:Str,(Tm.s x)∈a.1→∃b∈a.2,(Tm.s x)∈b.2
noncomputable def Kg(a:kg):Bool:=a.1.all λt=>match t with
 |.i _=>true
 |.s x=>a.2.any λb=>b.2.any λt=>decide (t=Tm.s x)
noncomputable def i3(a:kg):Bool:= !a.2.isEmpty && Kg a
theorem lh(a:kg):i3 a=true↔IsAsk a:=by
 unfold i3 IsAsk Kg;rw[kA4,kAx];constructor
 ·rintro ⟨h1,h2⟩
  refine⟨λz=>(by rw[z]at h1;cases h1),λx hx=>?_⟩;have:=h2 _ hx;simpa using this
 ·rintro ⟨h1,h2⟩
  refine⟨?_,λt ht=>?_⟩
  ·cases h:a.2 with
   |nil=>exact absurd h h1
   |cons _ _=>rfl
  cases t with
  |i i=>rfl
  |s x=>simpa using h2 x ht
noncomputable def nd(a:kg)(k:Nat):Bool:=i3 (wo a k) && (Vw (wo a k) a).isSome
theorem Dy{α:Type}:∀{l:List α}{j k:Nat}{x:α},j<k→x∈(l.eraseIdx k).eraseIdx j→x∈l.eraseIdx j
 |[],_,_,_,_,h=>by simpa using h
 |a::l,j,0,x,h,_=>by omega
 |a::l,0,k+1,x,_,h=>by
  simp only[List.eraseIdx_cons_succ,List.eraseIdx_zero,List.tail_cons]at h⊢;exact List.mem_of_mem_eraseIdx h
 |a::l,j+1,k+1,x,hjk,h=>by
  simp only[List.eraseIdx_cons_succ]at h⊢;rcases kA8.mp h with rfl|h
  ·exact kA6
  ·exact kA7 _ (Dy (by omega) h)
theorem IsAsk.sub{a b:kg}(h:IsAsk a)(e:a.1=b.1)(k:∀x∈a.2,x∈b.2):IsAsk b:=by
 refine⟨λz=>?_,λx hx=>?_⟩
 ·cases q:a.2 with
  |nil=>exact h.1 q
  |cons y r=>have:=k y (by rw[q];exact kA6);rw[z]at this;simp at this
 ·obtain⟨c,hc,m⟩:=h.2 x (by rw[e];exact hx);exact⟨c,k c hc,m⟩
theorem zch{a:kg}{j k:Nat}(hjk:j<k)(hk:nd a k=true)(hj:nd a j=false):nd (wo a k) j=false:=by
 cases h:nd (wo a k) j with
 |false=>rfl
 |true=>
  exfalso;unfold nd at h hk hj;rw[kA4]at h hk;obtain⟨s1,e1⟩:=Option.isSome_iff_exists.mp h.2;obtain⟨s2,e2⟩:=Option.isSome_iff_exists.mp hk.2;have sub:∀x∈(wo (wo a k) j).2,x∈(wo a j).2:=λx hx=>Dy hjk hx;have i1:IsAsk (wo a j):=((lh _).mp h.1).sub rfl sub;have c:=vg (((Ko e2).trans (Ko e1)).sub (c:=wo a j) rfl sub);rw[(lh _).mpr i1,c]at hj;cases hj
noncomputable def mf:Nat→kg→Nat→kg
 |0,a,_=>a
 |n+1,a,k=>if k<a.2.length then(if nd a k then mf n (wo a k) k else mf n a (k+1))else a
theorem Qu{a:kg}{k:Nat}(h:k<a.2.length):(wo a k).2.length+1=a.2.length:=by
 show(a.2.eraseIdx k).length+1=_;rw[List.length_eraseIdx,if_pos h];omega
theorem Jg(a0:kg):∀(n:Nat)(a:kg)(k:Nat),2 * a.2.length≤n+k→IsAsk a→(∀j<k,nd a j=false)→a.1=a0.1→(∀x∈a.2,x∈a0.2)→(∃φ,Hom φ a0 a)→k≤a.2.length→
  (∀j<(mf n a k).2.length,nd (mf n a k) j=false)∧IsAsk (mf n a k)∧(mf n a k).1=a0.1∧(∀x∈(mf n a k).2,x∈a0.2)∧∃φ,Hom φ a0 (mf n a k)
 |0,a,k,h1,h2,h3,h4,h5,h6,h7=>⟨λj hj=>h3 j (by have:(mf 0 a k).2.length=a.2.length:=rfl;omega),h2,h4,h5,h6⟩
 |n+1,a,k,h1,h2,h3,h4,h5,h6,h7=>by
  unfold mf
  by_cases hk:k<a.2.length
  ·rw[if_pos hk];cases e:nd a k with
   |true=>
    rw[if_pos rfl];have w:=Qu hk;have e':=e;unfold nd at e';rw[kA4]at e';obtain⟨s,es⟩:=Option.isSome_iff_exists.mp e'.2;obtain⟨φ,hφ⟩:=h6;exact Jg a0 n (wo a k) k (by omega) ((lh _).mp e'.1) (λj hj=>zch hj e (h3 j hj)) h4 (λx hx=>h5 x (List.mem_of_mem_eraseIdx hx)) ⟨_,hφ.trans (Ko es)⟩ (by omega)
   |false=>
    rw[if_neg (by decide)];refine Jg a0 n a (k+1) (by omega) h2 (λj hj=>?_) h4 h5 h6 hk;rcases Nat.lt_succ_iff_lt_or_eq.mp hj with q|q
    ·exact h3 j q
    ·rw[q];exact e
  ·rw[if_neg hk];exact⟨λj hj=>h3 j (by omega),h2,h4,h5,h6⟩
end LK
end
section
namespace LK
open PySem PySem.Spec PyProof.Rows Pu
noncomputable def Tm.P:Tm→PyData
 |.s x=>.str x
 |.i z=>.int z
def Tm.w(t:Tm):Prop:=match t with
 |.s x=>PyData.strOk x=true
 |.i _=>True
theorem Tm.good.w{t:Tm}(h:t.good):t.w:=by
 cases t with
 |s x=>exact mn (qa h)
 |i z=>trivial
theorem Km(t:Tm):ij t.D=some t.P:=by cases t<;>rfl
theorem rq:∀ts:List Tm,gw (ts.map Tm.D)=some (ts.map Tm.P)
 |[]=>rfl
 |t::ts=>by rw[kA0,gw,Km,rq ts];rfl
theorem O3{t:Tm}(h:t.w):t.P.canLay0=true:=by cases t<;>first|exact h|rfl
theorem vp:∀{ts:List Tm},(∀t∈ts,t.w)→PyData.canLayAll0 (ts.map Tm.P)=true
 |[],_=>rfl
 |t::ts,h=>by rw[kA0,PyData.canLayAll0,O3 (h t kA6),vp λu hu=>h u (kA7 _ hu)];rfl
theorem B5:∀ts:List Tm,PyData.depthAll (ts.map Tm.P)≤0
 |[]=>kA1 0
 |t::ts=>by
  rw[kA0,PyData.depthAll];have:=B5 ts;have h:t.P.depth≤0:=by cases t<;>exact kA1 0
  omega
theorem Iu:∀a b:Tm,a.P.eqv b.P=decide (a=b)
 |.s x,.s y=>by rw[Tm.P,Tm.P,PyData.eqv];by_cases e:x=y<;>simp[e]
 |.s x,.i y=>by rw[Tm.P,Tm.P];simp[PyData.eqv]
 |.i x,.s y=>by rw[Tm.P,Tm.P];simp[PyData.eqv]
 |.i x,.i y=>by rw[Tm.P,Tm.P,PyData.eqv];by_cases e:x=y<;>simp[e]
theorem x9{α:Type}[DecidableEq α]{f:α→PyData}(h:∀a b,(f a).eqv (f b)=decide (a=b)):∀a b:List α,PyData.eqvAll (a.map f) (b.map f)=decide (a=b)
 |[],[]=>by simp[PyData.eqvAll]
 |[],_::_=>by simp[PyData.eqvAll]
 |_::_,[]=>by simp[PyData.eqvAll]
 |x::xs,y::ys=>by
  rw[kA0,kA0,PyData.eqvAll,h,x9 h xs ys]
  by_cases h1:x=y<;>by_cases h2:xs=ys<;>simp[h1,h2]
theorem W3{a b:Tm}(ha:a.w)(hb:b.w):Rc a.D b.D=some (decide (a=b)):=by
 have q:∀t:Tm,t.P.depth≤63:=λt=>by cases t<;>exact kAl _
 rw[C8 (Km a) (Km b) (O3 ha) (q a) (O3 hb) (q b),Iu]
theorem Yd{a b:Tm}(ha:a.w)(hb:b.w):jl a.D b.D=some (.bl (!decide (a=b))):=by unfold jl;rw[W3 ha hb];rfl
theorem zgh{x y:Str}(hx:PyData.strOk x=true)(hy:PyData.strOk y=true):jn (.str x) (.str y)=some (.bl (decide (x=y))):=by
 have:=W3 (a:=.s x) (b:=.s y) hx hy;unfold jn;rw[show Rc (.str x) (.str y)=_ from this]
 by_cases e:x=y<;>simp[e]
theorem zbo{a b:List Tm}(ha:∀t∈a,t.w)(hb:∀t∈b,t.w):Rc (.tup (a.map Tm.D)) (.tup (b.map Tm.D))=some (decide (a=b)):=by
 have q:∀ts:List Tm,(PyData.tuple (ts.map Tm.P)).depth≤63:=λts=>by have:=B5 ts;rw[PyData.depth];omega
 have e:∀ts:List Tm,ij (.tup (ts.map Tm.D))=some (.tuple (ts.map Tm.P)):=λts=>by rw[ij,rq]
 rw[C8 (e a) (e b) (by rw[PyData.canLay0];exact vp ha) (q a) (by rw[PyData.canLay0];exact vp hb) (q b),PyData.eqv,x9 Iu]
noncomputable def At.P(a:At):PyData:=.tuple [.str a.nm,.tuple (a.ts.map Tm.P)]
def At.w(a:At):Prop:=PyData.strOk a.nm=true∧∀t∈a.ts,t.w
theorem At.good.w{a:At}(h:a.good):a.w:=⟨mn (qa h.1),λt ht=>(h.2.2.2 t ht).w⟩
theorem S5(a:At):ij a.D=some a.P:=by rw[At.D,ij,gw,gw,gw,ij,ij,rq];rfl
theorem Ak:∀as:List At,gw (as.map At.D)=some (as.map At.P)
 |[]=>rfl
 |a::as=>by rw[kA0,gw,S5,Ak as];rfl
theorem X1{a:At}(h:a.w):a.P.canLay0=true:=by
 rw[At.P,PyData.canLay0,PyData.canLayAll0,PyData.canLayAll0,PyData.canLayAll0,PyData.canLay0,PyData.canLay0,vp h.2,h.1];rfl
theorem Jf:∀{as:List At},(∀a∈as,a.w)→PyData.canLayAll0 (as.map At.P)=true
 |[],_=>rfl
 |t::ts,h=>by rw[kA0,PyData.canLayAll0,X1 (h t kA6),Jf λu hu=>h u (kA7 _ hu)];rfl
theorem Wt(a:At):a.P.depth≤2:=by
 have:=B5 a.ts;rw[At.P,PyData.depth,PyData.depthAll,PyData.depthAll,PyData.depthAll,PyData.depth,PyData.depth];omega
theorem Q7:∀as:List At,PyData.depthAll (as.map At.P)≤2
 |[]=>kAl _
 |t::ts=>by
  rw[kA0,PyData.depthAll];have:=Q7 ts;have:=Wt t;omega
theorem W5(a b:At):a.P.eqv b.P=decide (a=b):=by
 obtain⟨an,ats⟩:=a;obtain⟨bn,bts⟩:=b;have h1:PyData.eqv (.str an) (.str bn)=decide (an=bn):=by rw[PyData.eqv];by_cases e:an=bn<;>simp[e]
 have h2:PyData.eqv (.tuple (ats.map Tm.P)) (.tuple (bts.map Tm.P))=decide (ats=bts):=by rw[PyData.eqv];exact x9 Iu ats bts
 rw[At.P,At.P,PyData.eqv,PyData.eqvAll,PyData.eqvAll,PyData.eqvAll,h1,h2]
 by_cases e1:an=bn<;>by_cases e2:ats=bts<;>simp[e1,e2]
theorem Xl{a:At}{as:List At}(ha:a.w)(h:∀b∈as,b.w):i8 a.D (.tup (as.map At.D))=some (.bl (!decide (a∈as))):=by
 have e:A7 a.D (.tup (as.map At.D))=some (decide (a∈as)):=by
  show(match gw (as.map At.D),ij a.D with
   |some ps,some q=>if PyData.canLayAll0 ps && SeqAt.shaped q then some (ps.any λy=>PyData.eqv y q)else none
   |_,_=>none)=_
  rw[Ak,S5];dsimp only;have:=Wt a;rw[Jf h,o4 (X1 ha) (by omega)];show some _=_
  congr 1
  clear h;induction as with
  |nil=>rfl
  |cons b as ih=>
   rw[kA0,List.any_cons,ih,W5]
   by_cases q:a=b
   ·simp[q]
   ·have q':¬b=a:=λz=>q z.symm;simp[q,q']
 unfold i8;rw[e];rfl
noncomputable abbrev aD(a:kg):Pu.D:=jy a.1 a.2
theorem zhg{a b:kg}(h1:∀t∈a.1,t.w)(h2:∀x∈a.2,x.w)(h3:∀t∈b.1,t.w)(h4:∀x∈b.2,x.w):jl (aD a) (aD b)=some (.bl (!decide (a=b))):=by
 obtain⟨ah,aa⟩:=a;obtain⟨bh,ba⟩:=b;have e:∀(h:List Tm)(l:List At),ij (jy h l)=some (.tuple [.tuple (h.map Tm.P),.tuple (l.map At.P)]):=λh l=>by
  rw[jy,ij,gw,gw,gw,ij,ij,rq,Ak]
 have c:∀{h:List Tm}{l:List At},(∀t∈h,t.w)→(∀x∈l,x.w)→(PyData.tuple [.tuple (h.map Tm.P),.tuple (l.map At.P)]).canLay0=true:=λ{h l} q1 q2=>by
  rw[PyData.canLay0,PyData.canLayAll0,PyData.canLayAll0,PyData.canLayAll0,PyData.canLay0,PyData.canLay0,vp q1,Jf q2];rfl
 have d:∀(h:List Tm)(l:List At),(PyData.tuple [.tuple (h.map Tm.P),.tuple (l.map At.P)]).depth≤63:=λh l=>by
  have:=B5 h;have:=Q7 l;rw[PyData.depth,PyData.depthAll,PyData.depthAll,PyData.depthAll,PyData.depth,PyData.depth];omega
 have f1:PyData.eqv (.tuple (ah.map Tm.P)) (.tuple (bh.map Tm.P))=decide (ah=bh):=by rw[PyData.eqv];exact x9 Iu ah bh
 have f2:PyData.eqv (.tuple (aa.map At.P)) (.tuple (ba.map At.P))=decide (aa=ba):=by rw[PyData.eqv];exact x9 W5 aa ba
 unfold jl;rw[C8 (e ah aa) (e bh ba) (c h1 h2) (d _ _) (c h3 h4) (d _ _),PyData.eqv,PyData.eqvAll,PyData.eqvAll,PyData.eqvAll,f1,f2];show some (Pu.D.bl _)=_
 congr 2
 by_cases e1:ah=bh<;>by_cases e2:aa=ba<;>simp[e1,e2]
noncomputable def sD(s:Sub):List (Pu.D×Pu.D):=s.map λp=>(.str p.1,p.2.D)
theorem vt(x:Str):∀s:Sub,fg (sD s) (.inr x)=(lk s x).map Tm.D
 |[]=>rfl
 |(y,v)::r=>by
  show(if fq (.str y)=some (.inr x)then some v.D else fg (sD r) (.inr x))=((if y=x then some v else lk r x)).map Tm.D;rw[vt x r]
  by_cases h:y=x
  ·rw[if_pos h,if_pos (by rw[h];rfl)];rfl
  ·rw[if_neg h,if_neg (by simp[fq,h])]
theorem P4{x:Str}{s:Sub}(w:Tm)(h:lk s x=none):pj (sD s) (.inr x) w.D=sD (s++[(x,w)]):=by
 rw[J5 (by rw[vt,h];rfl)];unfold sD;rw[List.map_append];rfl
theorem Zu(s:Sub):(sD s).length=s.length:=by unfold sD;rw[kA2]
noncomputable def pfB:En→Out:=(br (fz [4,5,4] (u9 6 (Bq (g9 (g1 (cq "str") (af 4))) (jv 3 (af 4) (cn 5)) (Df (cn 4)))))
 (ki (g2 jl (af 6) (af 5)) (d4 (gC .non)) ia))
theorem zcz{v0 v1 v2 w6:Sl}{t w:Tm}{s:Sub}(ht:t.w)(hw:w.w)(hs:∀p∈s,p.2.w)(hl:s.length<16777216):
  pfB [v0,v1,v2,.od false (sD s),.pu t.D,.pu w.D,w6]=match pf s [t] [w]with
   |some s'=>.nx [v0,v1,v2,.od false (sD s'),.pu t.D,.pu w.D,.pu w.D]
   |none=>.rt .non:=by
 have hlt:(sD s).length<sizeLine:=by rw[Zu];exact hl
 cases t with
 |i z=>
  have ez:(Tm.i z).D=.int z:=rfl;have e:=Yd (a:=.i z) (b:=w) ht hw;have e':jl (.int z) w.D=some (.bl (!decide (Tm.i z=w))):=e
  by_cases q:Tm.i z=w
  ·subst q;simp[pfB,u9,Bq,Df,Res.ef,ez,pf]
  ·have e2:pf s [.i z] [w]=none:=by simp[pf,q]
   rw[e2];simp[pfB,u9,Bq,Df,Res.ef,ez,e',q]
 |s x=>
  have hk:fq (.str x)=some (.inr x):=rfl;have ex:(Tm.s x).D=.str x:=rfl;have hlk:=vt x s;cases e1:lk s x with
  |some v=>
   rw[e1]at hlk;have hv:v.w:=by
    have:∀(s:Sub),(∀p∈s,p.2.w)→lk s x=some v→v.w:=λs=>by
     induction s with
     |nil=>intro _ h;cases h
     |cons p r ih=>
      intro hp h;obtain⟨y,u⟩:=p;unfold lk at h;split at h
      ·cases h;exact hp (y,v) kA6
      ·exact ih (λq hq=>hp q (kA7 _ hq)) h
    exact this s hs e1
   have e:=Yd hv hw;have hlk':fg (sD s) (.inr x)=some v.D:=hlk
   by_cases q:v=w
   ·subst q;have e2:pf s [.s x] [v]=some s:=by simp[pf,e1]
    rw[e2];simp[pfB,u9,Bq,jv,ex,hk,hlt,hlk',e]
   ·have e2:pf s [.s x] [w]=none:=by simp[pf,e1,q]
    rw[e2];simp[pfB,u9,Bq,jv,ex,hk,hlt,hlk',e,q]
  |none=>
   rw[e1]at hlk;have hlk':fg (sD s) (.inr x)=none:=hlk;have e:=Yd hw hw;have e2:pf s [.s x] [w]=some (s++[(x,w)]):=by simp[pf,e1]
   rw[e2];simp[pfB,u9,Bq,jv,ex,hk,hlt,hlk',e,P4 w e1]
theorem pz{fn:List Pu.D→Res}{r:En→ResL}{δ:En}{ds:List Pu.D}{x:Res}(h1:r δ=.ok ds)(h2:fn ds=x):bb fn r δ=x:=by
 unfold bb;rw[h1];exact h2
def Sub.w(s:Sub):Prop:=∀p∈s,p.2.w
theorem Sub.w.snoc{s:Sub}{x:Str}{w:Tm}(h:s.w)(hw:w.w):(s++[(x,w)]:Sub).w:=λp hp=>by
 rcases List.mem_append.mp hp with hp|hp
 ·exact h p hp
 ·rw[List.mem_singleton.mp hp];exact hw
theorem P1(s:Sub):pf s [] []=some s:=by rw[pf]
theorem zlj(s:Sub)(z:Int)(w:Tm)(ts ws:List Tm):pf s (.i z::ts) (w::ws)=if Tm.i z=w then pf s ts ws else none:=by rw[pf]
theorem zlk(s:Sub)(x:Str)(w:Tm)(ts ws:List Tm):pf s (.s x::ts) (w::ws)=match lk s x with
  |some v=>if v=w then pf s ts ws else none
  |none=>pf (s++[(x,w)]) ts ws:=by rw[pf]<;>cases lk s x<;>rfl
theorem J3(s:Sub)(t w:Tm)(ts ws:List Tm):pf s (t::ts) (w::ws)=(pf s [t] [w]).bind λs'=>pf s' ts ws:=by
 cases t with
 |i z=>
  rw[zlj,zlj]
  by_cases q:Tm.i z=w
  ·rw[if_pos q,if_pos q,P1];rfl
  ·rw[if_neg q,if_neg q];rfl
 |s x=>
  rw[zlk,zlk];cases lk s x with
  |none=>dsimp only;rw[P1];rfl
  |some v=>
   dsimp only
   by_cases q:v=w
   ·rw[if_pos q,if_pos q,P1];rfl
   ·rw[if_neg q,if_neg q];rfl
theorem Yz{s s':Sub}{t w:Tm}(hs:s.w)(hw:w.w)(h:pf s [t] [w]=some s'):s'.w∧s'.length≤s.length+1:=by
 cases t with
 |i z=>
  unfold pf at h;split at h
  ·cases h;exact⟨hs,by omega⟩
  ·cases h
 |s x=>
  unfold pf at h;split at h
  ·split at h
   ·cases h;exact⟨hs,by omega⟩
   ·cases h
  ·cases h;exact⟨hs.snoc hw,by simp⟩
theorem Sd(v0 v1 v2:Sl):∀(ts ws:List Tm)(s:Sub)(v4 v5 v6:Sl),ts.length=ws.length→(∀t∈ts,t.w)→(∀t∈ws,t.w)→s.w→s.length+ts.length≤1000→
  ∃w4 w5 w6,gx (yc [4,5]) pfB (wd (ts.map Tm.D) (ws.map Tm.D)) [v0,v1,v2,.od false (sD s),v4,v5,v6]=match pf s ts ws with
   |some s'=>.nx [v0,v1,v2,.od false (sD s'),w4,w5,w6]
   |none=>.rt .non
 |[],[],s,v4,v5,v6,_,_,_,_,_=>⟨v4,v5,v6,rfl⟩
 |[],_::_,s,v4,v5,v6,h,_,_,_,_=>by cases h
 |_::_,[],s,v4,v5,v6,h,_,_,_,_=>by cases h
 |t::ts,w::ws,s,v4,v5,v6,h,ht,hw,hs,hl=>by
  rw[kA5]at hl;have e:=zcz (v0:=v0) (v1:=v1) (v2:=v2) (w6:=v6) (ht t kA6) (hw w kA6) hs (by omega);rw[kA0,kA0,wd,fy (δ1:=[v0,v1,v2,.od false (sD s),.pu t.D,.pu w.D,v6]) rfl,e,J3 s t w ts ws];cases e1:pf s [t] [w]with
  |none=>exact⟨v4,v5,v6,rfl⟩
  |some s1=>
   obtain⟨a1,a2⟩:=Yz hs (hw w kA6) e1;exact Sd v0 v1 v2 ts ws s1 _ _ _ (by simpa using h) (λu hu=>ht u (kA7 _ hu)) (λu hu=>hw u (kA7 _ hu)) a1 (by omega)
theorem Yy:∀{ts ws:List Tm}{s:Sub},ts.length≠ws.length→pf s ts ws=none
 |[],[],s,h=>absurd rfl h
 |[],_::_,s,h=>rfl
 |.i _::_,[],s,h=>rfl
 |.s _::_,[],s,h=>rfl
 |t::ts,w::ws,s,h=>by
  rw[J3 s t w ts ws];cases pf s [t] [w]with
  |none=>rfl
  |some s'=>exact Yy (by simpa using h)
theorem zh1:∀{ts ws:List Tm}{s s':Sub},s.w→(∀t∈ws,t.w)→pf s ts ws=some s'→s'.w∧s'.length≤s.length+ts.length
 |[],[],s,s',h,_,e=>by cases e;exact⟨h,by simp⟩
 |[],_::_,s,s',h,_,e=>by cases e
 |.i _::_,[],s,s',h,_,e=>by cases e
 |.s _::_,[],s,s',h,_,e=>by cases e
 |t::ts,w::ws,s,s',h,hw,e=>by
  rw[J3 s t w ts ws]at e;cases e1:pf s [t] [w]with
  |none=>rw[e1]at e;cases e
  |some s1=>
   rw[e1]at e;obtain⟨a1,a2⟩:=Yz h (hw w kA6) e1;obtain⟨b1,b2⟩:=zh1 a1 (λu hu=>hw u (kA7 _ hu)) (show pf s1 ts ws=some s' from e);exact⟨b1,by rw[kA5];omega⟩
noncomputable def rD:Option Sub→Pu.D
 |some s=>.dct false (sD s)
 |none=>.non
theorem Da(n:Nat){ts ws:List Tm}{s:Sub}(ht:∀t∈ts,t.w)(hw:∀t∈ws,t.w)(hs:s.w)(hl:s.length+ts.length≤1000):
  aj (bq (n+1)) bw [.dct false (sD s),.tup (ts.map Tm.D),.tup (ws.map Tm.D)]=.ok (rD (pf s ts ws)):=by
 rw[Fl]
 by_cases h:ts.length=ws.length
 ·obtain⟨w4,w5,w6,e⟩:=Sd (.bo (.dct false (sD s))) (.bo (.tup (ts.map Tm.D))) (.bo (.tup (ws.map Tm.D))) ts ws s .no .no .no h ht hw hs hl;have hf:i5 (yc [4,5]) (Ov (ae (af 1) (ae (af 2) bc))) pfB [.bo (.dct false (sD s)),.bo (.tup (ts.map Tm.D)),.bo (.tup (ws.map Tm.D)),.od false (sD s),.no,.no,.no]=_:=(iz (ds:=wd (ts.map Tm.D) (ws.map Tm.D)) (by simp[Ov])).trans e;unfold pfB at hf;cases ep:pf s ts ws with
  |none=>rw[ep]at hf;simp -implicitDefEqProofs [kl,h,hf,rD]
  |some s'=>rw[ep]at hf;simp -implicitDefEqProofs [kl,h,hf,rD]
 ·rw[Yy h];have h':((ts.length:Int)==(ws.length:Int))=false:=beq_eq_false_iff_ne.mpr (by omega);simp -implicitDefEqProofs [kl,h',rD]
noncomputable def fwB(p f:List Pu.D→Res):En→Out:=(br (gr 5 (Ri (g2 jn (g2 ao (af 4) (gC (.int 0))) (af 3)) (bb p (ae (af 2) (ae (g2 ao (g2 ao (af 0) (gC (.int 0))) (gC (.int 1))) (ae (g2 ao (af 4) (gC (.int 1))) bc)))) (gC .non)))
 (br (fz [5] (gr 6 (Ri (g2 qf (af 5) (gC .non)) (gC .non) (bb f (ae (Br (af 0) (some (gC (.int 1))) none) (ae (af 1) (ae (cn 5) bc)))))))
 (ki (g2 j9 (af 6) (gC .non)) (fz [6] (d4 (cn 6))) ia)))
theorem zoq(d:Pu.D)(ds:List Pu.D):vy (.tup (d::ds)) (some 1) none=some (.tup ds):=by
 show some (Pu.D.tup (Fh (d::ds) (some ((1:Nat):Int)) none))=_;unfold Fh;rw[HT.Ea,HT.J9]
 congr 2
 rw[Nat.min_eq_left (by simp)];simp
theorem ix0(d:Pu.D)(ds:List Pu.D):ao (.tup (d::ds)) (.int 0)=some d:=by
 show L2.atI (d::ds) ((0:Nat):Int)=_;exact L2.B3 rfl
theorem zbq{p f:List Pu.D→Res}{a t:At}{A T:List At}{s:Sub}(ha:PyData.strOk a.nm=true)(ht:PyData.strOk t.nm=true)(hp:p [.dct false (sD s),.tup (a.ts.map Tm.D),.tup (t.ts.map Tm.D)]=.ok (rD (pf s a.ts t.ts)))
  (hf:∀s1,pf s a.ts t.ts=some s1→f [.tup (A.map At.D),.tup (T.map At.D),.dct false (sD s1)]=.ok (rD (fw A T s1)))(v5 v6:Sl):
  ∃w5 w6,fwB p f [.bo (.tup ((a::A).map At.D)),.bo (.tup (T.map At.D)),.pu (.dct false (sD s)),.pu (.str a.nm),.pu t.D,v5,v6]=match (if t.nm=a.nm then(pf s a.ts t.ts).bind (fw A T)else none)with
   |some s'=>.rt (.dct false (sD s'))
   |none=>.nx [.bo (.tup ((a::A).map At.D)),.bo (.tup (T.map At.D)),.pu (.dct false (sD s)),.pu (.str a.nm),.pu t.D,w5,w6]:=by
 have e0:=zgh ht ha;have i0:ao (.tup (.tup [.str a.nm,.tup (a.ts.map Tm.D)]::A.map At.D)) (.int 0)=some (.tup [.str a.nm,.tup (a.ts.map Tm.D)]):=ix0 _ _;have c1:=zoq (.tup [.str a.nm,.tup (a.ts.map Tm.D)]) (A.map At.D)
 by_cases hn:t.nm=a.nm
 ·rw[if_pos hn];rw[decide_eq_true hn]at e0;cases ep:pf s a.ts t.ts with
  |none=>
   rw[ep]at hp;have hp':p [.dct false (sD s),.tup (a.ts.map Tm.D),.tup (t.ts.map Tm.D)]=.ok .non:=hp;exact⟨.pu .non,.pu .non,by simp[fwB,At.D,e0,i0,hp',ot]⟩
  |some s1=>
   rw[ep]at hp;have hp':p [.dct false (sD s),.tup (a.ts.map Tm.D),.tup (t.ts.map Tm.D)]=.ok (.dct false (sD s1)):=hp;have hf1:=hf s1 ep;rw[show(some s1).bind (fw A T)=fw A T s1 from rfl];cases ef:fw A T s1 with
   |none=>
    rw[ef]at hf1;have hf':f [.tup (A.map At.D),.tup (T.map At.D),.dct false (sD s1)]=.ok .non:=hf1;exact⟨.pu (.dct false (sD s1)),.pu .non,by simp[fwB,At.D,e0,i0,hp',hf',ot,Br,gPt,c1]⟩
   |some s2=>
    rw[ef]at hf1;have hf':f [.tup (A.map At.D),.tup (T.map At.D),.dct false (sD s1)]=.ok (.dct false (sD s2)):=hf1;exact⟨.no,.no,by simp[fwB,At.D,e0,i0,hp',hf',ot,Br,gPt,c1]⟩
 ·rw[if_neg hn];rw[decide_eq_false hn]at e0;exact⟨.pu .non,.pu .non,by simp[fwB,At.D,e0,ot]⟩
theorem Rh{p f:List Pu.D→Res}{a:At}{A T:List At}{s:Sub}(ha:PyData.strOk a.nm=true)(hp:∀t∈T,p [.dct false (sD s),.tup (a.ts.map Tm.D),.tup (t.ts.map Tm.D)]=.ok (rD (pf s a.ts t.ts)))
  (hf:∀t∈T,∀s1,pf s a.ts t.ts=some s1→f [.tup (A.map At.D),.tup (T.map At.D),.dct false (sD s1)]=.ok (rD (fw A T s1))):∀(L:List At)(v4 v5 v6:Sl),(∀t∈L,t∈T∧PyData.strOk t.nm=true)→
  ∃w4 w5 w6,gx (bz 4) (fwB p f) (L.map At.D) [.bo (.tup ((a::A).map At.D)),.bo (.tup (T.map At.D)),.pu (.dct false (sD s)),.pu (.str a.nm),v4,v5,v6]=match L.findSome? (λt=>if t.nm=a.nm then(pf s a.ts t.ts).bind (fw A T)else none)with
   |some s'=>.rt (.dct false (sD s'))
   |none=>.nx [.bo (.tup ((a::A).map At.D)),.bo (.tup (T.map At.D)),.pu (.dct false (sD s)),.pu (.str a.nm),w4,w5,w6]
 |[],v4,v5,v6,_=>⟨v4,v5,v6,rfl⟩
 |t::L,v4,v5,v6,h=>by
  obtain⟨h1,h2⟩:=h t kA6;obtain⟨w5,w6,e⟩:=zbq (A:=A) (T:=T) ha h2 (hp t h1) (hf t h1) v5 v6;rw[kA0,fy (δ1:=[.bo (.tup ((a::A).map At.D)),.bo (.tup (T.map At.D)),.pu (.dct false (sD s)),.pu (.str a.nm),.pu t.D,v5,v6]) rfl,e,List.findSome?_cons];cases (if t.nm=a.nm then(pf s a.ts t.ts).bind (fw A T)else none)with
  |some s'=>exact⟨.no,.no,.no,rfl⟩
  |none=>exact Rh ha hp hf L (.pu t.D) w5 w6 λu hu=>h u (kA7 _ hu)
theorem Lo(T:List At)(hT:∀t∈T,t.w):∀(A:List At)(s:Sub)(n:Nat),(∀a∈A,a.w∧a.ts.length≤4)→s.w→s.length+4 * A.length≤900→
  aj (bq (n+A.length+2)) ck [.tup (A.map At.D),.tup (T.map At.D),.dct false (sD s)]=.ok (rD (fw A T s))
 |[],s,n,_,_,_=>by
  show aj (bq (n+1+1)) _ _=_;rw[Au];have tr:bD (Ew (.tup []))=some (.bl false):=rfl;simp -implicitDefEqProofs [pq,tr,rD,fw]
 |a::A,s,n,hA,hs,hl=>by
  rw[kA5]at hl;obtain⟨ha,hal⟩:=hA a kA6;show aj (bq ((n+A.length+2)+1)) _ _=_;rw[Au];obtain⟨w4,w5,w6,e⟩:=Rh (p:=aj (bq (n+A.length+2)) bw) (f:=aj (bq (n+A.length+2)) ck) (a:=a) (A:=A) (T:=T) (s:=s) ha.1
   (λt ht=>Da (n+A.length+1) ha.2 (hT t ht).2 hs (by omega)) (λt ht s1 e1=>by
    obtain⟨b1,b2⟩:=zh1 hs (hT t ht).2 e1;exact Lo T hT A s1 n (λb hb=>hA b (kA7 _ hb)) b1 (by omega)) T .no .no .no λt ht=>⟨ht,(hT t ht).1⟩
  have hf:i5 (bz 4) (de (Bp 1)) (fwB (aj (bq (n+A.length+2)) bw) (aj (bq (n+A.length+2)) ck)) [.bo (.tup ((a::A).map At.D)),.bo (.tup (T.map At.D)),.pu (.dct false (sD s)),.pu (.str a.nm),.no,.no,.no]=_:=(iz (ds:=T.map At.D) (by simp)).trans e;have hb:pq (n+A.length+2)=(br (ki (i9 (g9 (af 0))) (fz [2] (d4 (cn 2))) ia)
   (br (gr 3 (g2 ao (g2 ao (af 0) (gC (.int 0))) (gC (.int 0))))
   (br (fz [1] (i5 (bz 4) (de (Bp 1)) (fwB (aj (bq (n+A.length+2)) bw) (aj (bq (n+A.length+2)) ck))))
   (d4 (gC .non))))):=rfl
  rw[hb];have tr:bD (Ew (.tup ((a::A).map At.D)))=some (.bl true):=rfl;have i0:ao (.tup ((a::A).map At.D)) (.int 0)=some (.tup [.str a.nm,.tup (a.ts.map Tm.D)]):=ix0 _ _;have ent:(fb [true,true,false] [Pu.D.tup ((a::A).map At.D),.tup (T.map At.D),.dct false (sD s)]++kAa (7 - [Pu.D.tup ((a::A).map At.D),.tup (T.map At.D),.dct false (sD s)].length) .no)=[.bo (.tup ((a::A).map At.D)),.bo (.tup (T.map At.D)),.pu (.dct false (sD s)),.no,.no,.no,.no]:=rfl;rw[ent];generalize hA1:Pu.D.tup ((a::A).map At.D)=DA at *;generalize fwB (aj (bq (n+A.length+2)) bw) (aj (bq (n+A.length+2)) ck)=FB at hf⊢;have hfw:fw (a::A) T s=T.findSome? λt=>if t.nm=a.nm then(pf s a.ts t.ts).bind (fw A T)else none:=rfl
  rw[hfw];cases er:T.findSome? (λt=>if t.nm=a.nm then(pf s a.ts t.ts).bind (fw A T)else none)with
  |some s'=>rw[er]at hf;simp -implicitDefEqProofs [tr,i0,hf,rD]
  |none=>rw[er]at hf;simp -implicitDefEqProofs [tr,i0,hf,rD]
noncomputable def lsB:En→Out:=(ki (m6 (g9 (g1 (cq "str") (af 3))) (g2 i8 (af 3) (af 1))) (fz [3] (B2 1 (cn 3))) ia)
theorem Dt(v0 v2:Sl):∀(ts:List Tm)(acc:List Str)(v3:Sl),(∀t∈ts,t.w)→(∀x∈acc,PyData.strOk x=true)→acc.length+ts.length≤1000→
  ∃w3,gx (bz 3) lsB (ts.map Tm.D) [v0,.ow (acc.map Pu.D.str),v2,v3]=.nx [v0,.ow ((jd acc (mr ts)).map Pu.D.str),v2,w3]∧(∀x∈jd acc (mr ts),PyData.strOk x=true)
 |[],acc,v3,_,ha,_=>⟨v3,rfl,ha⟩
 |t::ts,acc,v3,ht,ha,hl=>by
  rw[kA5]at hl;rw[kA0,fy (δ1:=[v0,.ow (acc.map Pu.D.str),v2,.pu t.D]) rfl];have ht':∀u∈ts,u.w:=λu hu=>ht u (kA7 _ hu);cases t with
  |i z=>
   have eb:lsB [v0,.ow (acc.map Pu.D.str),v2,.pu (Tm.i z).D]=.nx [v0,.ow (acc.map Pu.D.str),v2,.pu (Tm.i z).D]:=by simp[lsB,Tm.D]
   rw[eb];exact Dt v0 v2 ts acc _ ht' ha (by omega)
  |s x=>
   have hx:PyData.strOk x=true:=ht _ kA6;have hin:=(I9 ha hx).2;have hlt:acc.length<16777216:=by omega
   have eb:lsB [v0,.ow (acc.map Pu.D.str),v2,.pu (Tm.s x).D]=.nx [v0,.ow ((if x∈acc then acc else acc++[x]).map Pu.D.str),v2,.pu (Tm.s x).D]:=by
    by_cases h:x∈acc
    ·simp[lsB,Tm.D,hin,h]
    ·simp[lsB,Tm.D,hin,h,hlt]
   rw[eb];have hde:jd acc (mr (.s x::ts))=jd (if x∈acc then acc else acc++[x]) (mr ts):=by
    show(if x∈acc then jd acc (mr ts)else jd (acc++[x]) (mr ts))=_
    by_cases h:x∈acc<;>simp[h]
   rw[hde];refine Dt v0 v2 ts _ _ ht' ?_ ?_
   ·split
    ·exact ha
    ·intro y hy;rcases List.mem_append.mp hy with hy|hy
     ·exact ha y hy
     ·rw[List.mem_singleton.mp hy];exact hx
   ·split
    ·omega
    ·rw[kAf];simp;omega
noncomputable def lsO:En→Out:=i5 (bz 3) (de (g2 ao (af 2) (gC (.int 1)))) lsB
theorem w9:∀(a b acc:List Str),jd acc (a++b)=jd (jd acc a) b
 |[],_,_=>rfl
 |x::a,b,acc=>by
  show(if x∈acc then jd acc (a++b)else jd (acc++[x]) (a++b))=jd (if x∈acc then jd acc a else jd (acc++[x]) a) b
  by_cases h:x∈acc
  ·rw[if_pos h,if_pos h];exact w9 a b acc
  ·rw[if_neg h,if_neg h];exact w9 a b _
theorem L6(v0:Sl):∀(as:List At)(acc:List Str)(v2 v3:Sl),(∀a∈as,a.w∧a.ts.length≤4)→(∀x∈acc,PyData.strOk x=true)→acc.length+4 * as.length≤900→
  ∃w2 w3,gx (bz 2) lsO (as.map At.D) [v0,.ow (acc.map Pu.D.str),v2,v3]=.nx [v0,.ow ((jd acc (b8 as)).map Pu.D.str),w2,w3]
 |[],acc,v2,v3,_,_,_=>⟨v2,v3,rfl⟩
 |a::as,acc,v2,v3,h,ha,hl=>by
  rw[kA5]at hl;obtain⟨h1,h2⟩:=h a kA6;obtain⟨w3,e,h3⟩:=Dt v0 (.pu a.D) a.ts acc v3 h1.2 ha (by omega);have eo:lsO [v0,.ow (acc.map Pu.D.str),.pu a.D,v3]=.nx [v0,.ow ((jd acc (mr a.ts)).map Pu.D.str),.pu a.D,w3]:=(iz (ds:=a.ts.map Tm.D) (by simp[At.D])).trans e;have hlen:(jd acc (mr a.ts)).length≤acc.length+4:=by
   have q1:=xy (mr a.ts) acc;have q2:=o6 a.ts;omega
  obtain⟨w2',w3',e'⟩:=L6 v0 as (jd acc (mr a.ts)) (.pu a.D) w3 (λb hb=>h b (kA7 _ hb)) h3 (by omega);refine⟨w2',w3',?_⟩;rw[kA0,fy (δ1:=[v0,.ow (acc.map Pu.D.str),.pu a.D,v3]) rfl,eo];dsimp only;rw[e'];have:b8 (a::as)=mr a.ts++b8 as:=by simp[b8]
  rw[this,w9]
theorem Ul(n:Nat){as:List At}(h:∀a∈as,a.w∧a.ts.length≤4)(hl:as.length≤200):aj (bq (n+1)) bx [.tup (as.map At.D)]=.ok (.lst ((jd [] (b8 as)).map Pu.D.str)):=by
 rw[Bj];obtain⟨w2,w3,e⟩:=L6 (.bo (.tup (as.map At.D))) as [] .no .no h (by simp) (by simp;omega);have hf:i5 (bz 2) (de (Bp 0)) lsO [.bo (.tup (as.map At.D)),.ow [],.no,.no]=.nx [.bo (.tup (as.map At.D)),.ow ((jd [] (b8 as)).map Pu.D.str),w2,w3]:=(iz (ds:=as.map At.D) (by simp)).trans e;unfold lsO lsB at hf;simp -implicitDefEqProofs [m5,hf]
noncomputable def m4(s:Sub)(xs:List Str):List (Str×Tm):=xs.map λx=>(x,(lk s x).getD (.s x))
noncomputable def r9(l:List (Str×Tm)):Pu.D:=.lst (l.map λp=>.tup [.str p.1,p.2.D])
noncomputable def Zk:En→Out:=(F5 2 (g2 ao (af 3) (gC (.int 0))) (g2 ao (af 3) (gC (.int 1))))
theorem Dg(v0 v1:Sl):∀(l:List (Str×Tm))(acc:Sub)(v3:Sl),(acc.map (·.1)++l.map (·.1)).Nodup→acc.length+l.length≤1000→
  ∃w3,gx (bz 3) Zk (l.map λp=>Pu.D.tup [.str p.1,p.2.D]) [v0,v1,.od false (sD acc),v3]=.nx [v0,v1,.od false (sD (acc++l)),w3]
 |[],acc,v3,_,_=>⟨v3,by simp[gx]⟩
 |(x,w)::l,acc,v3,nd,hl=>by
  rw[kA5]at hl;have hno:lk acc x=none:=by
   have hx:x∉acc.map (·.1):=λhm=>by
    have:=(List.nodup_append.mp nd).2.2 x hm x (by simp);exact this rfl
   clear nd hl;induction acc with
   |nil=>rfl
   |cons p r ih=>
    obtain⟨y,u⟩:=p;simp only[kA0,kA8,not_or]at hx;show(if y=x then some u else lk r x)=none;rw[if_neg (λz=>hx.1 z.symm)];exact ih hx.2
  have hlt:(sD acc).length<sizeLine:=by rw[Zu];show _<16777216;omega
  have eb:Zk [v0,v1,.od false (sD acc),.pu (.tup [.str x,w.D])]=.nx [v0,v1,.od false (sD (acc++[(x,w)])),.pu (.tup [.str x,w.D])]:=by
   have hk:fq (.str x)=some (.inr x):=rfl;simp[Zk,F5,zgp,A9,hk,hlt,P4 w hno]
  obtain⟨w3,e⟩:=Dg v0 v1 l (acc++[(x,w)]) (.pu (.tup [.str x,w.D])) (by simpa using nd) (by rw[kAf];simp;omega);refine⟨w3,?_⟩;rw[kA0,fy (δ1:=[v0,v1,.od false (sD acc),.pu (.tup [.str x,w.D])]) rfl,eb];dsimp only;rw[e];simp
theorem L3(z:Int):∀l:Sub,fg (sD l) (.inl z)=none
 |[]=>rfl
 |(y,u)::r=>by
  show(if fq (.str y)=some (.inl z)then some u.D else fg (sD r) (.inl z))=none;rw[if_neg (by simp[fq])];exact L3 z r
noncomputable def yo(s:Sub):Tm→Tm
 |.i z=>.i z
 |.s x=>(lk s x).getD (.s x)
theorem Sv(n:Nat){l:List (Str×Tm)}{ts:List Tm}(nd:(l.map (·.1)).Nodup)(hl:l.length≤900)(ht:ts.length≤900):aj (bq (n+1)) d5 [r9 l,.tup (ts.map Tm.D)]=.ok (.tup ((ts.map (yo l)).map Tm.D)):=by
 rw[Oi];obtain⟨w3,e⟩:=Dg (.bo (r9 l)) (.bo (.tup (ts.map Tm.D))) l [] .no (by simpa using nd) (by simp;omega);have hf:i5 (bz 3) (de (Bp 0)) Zk [.bo (r9 l),.bo (.tup (ts.map Tm.D)),.od false [],.no]=.nx [.bo (r9 l),.bo (.tup (ts.map Tm.D)),.od false (sD l),w3]:=(iz (ds:=l.map λp=>Pu.D.tup [.str p.1,p.2.D]) (by simp[r9])).trans (by rw[List.nil_append]at e;exact e);have hc:gz (de (af 1)) [2] (gC (.bl true)) (p7 (af 1) (af 0) (cn 0)) [.bo (r9 l),.bo (.tup (ts.map Tm.D)),.od false (sD l),w3]=.ok (.lst (ts.map λt=>(yo l t).D)):=
  q9 (f:=Tm.D) (by simp) (by omega) λt ht=>by
   cases t with
   |i z=>
    have hk:fq (.int z)=some (.inl z):=rfl;have hn:=L3 z l;simp[ic,p7,Tm.D,hk,hn,yo]
   |s x=>
    have hk:fq (.str x)=some (.inr x):=rfl;have hn:=vt x l;cases e2:lk l x with
    |none=>rw[e2]at hn;have hn':fg (sD l) (.inr x)=none:=hn;simp[ic,p7,Tm.D,hk,hn',yo,e2]
    |some v=>rw[e2]at hn;have hn':fg (sD l) (.inr x)=some v.D:=hn;simp[ic,p7,Tm.D,hk,hn',yo,e2]
 have hm:(ts.map λt=>(yo l t).D)=(ts.map (yo l)).map Tm.D:=by rw[kAw];rfl
 rw[hm]at hc;unfold Zk at hf;simp -implicitDefEqProofs [wx,hf,hc]
theorem zci{l:List Str}(h:∀x∈l,PyData.strOk x=true):jl (.lst (l.map Pu.D.str)) (.lst (l.map Pu.D.str))=some (.bl false):=by
 have e:ij (.lst (l.map Pu.D.str))=some (.list (l.map PyData.str)):=by rw[ij,xm]
 have c:(PyData.list (l.map PyData.str)).canLay0=true:=by rw[PyData.canLay0];exact ui h
 have d:∀l:List Str,PyData.depthAll (l.map PyData.str)≤0:=λl=>by
  induction l with
  |nil=>exact kA1 0
  |cons x r ih=>rw[kA0,PyData.depthAll];have:(PyData.str x).depth=0:=rfl;omega
 have d':(PyData.list (l.map PyData.str)).depth≤63:=by have:=d l;rw[PyData.depth];omega
 unfold jl;rw[C8 e e c d' c d',PySem.SeqAt.eqv_refl _ c];rfl
theorem X4(s:Sub)(x:Str):∀xs:List Str,lk (m4 s xs) x=if x∈xs then some ((lk s x).getD (.s x))else none
 |[]=>rfl
 |y::r=>by
  show(if y=x then some ((lk s y).getD (.s y))else lk (m4 s r) x)=_;rw[X4 s x r]
  by_cases h:y=x
  ·subst h;simp
  ·have h':¬x=y:=λz=>h z.symm;rw[if_neg h];simp[h']
theorem Zz{s:Sub}{xs:List Str}{t:Tm}(h:∀x,t=.s x→x∈xs):yo (m4 s xs) t=ap (phi s) t:=by
 cases t with
 |i z=>rfl
 |s x=>
  show(lk (m4 s xs) x).getD (.s x)=phi s x;rw[X4,if_pos (h x rfl)];rfl
theorem Ca{ts:List Tm}{x:Str}:x∈mr ts↔Tm.s x∈ts:=by
 unfold mr;rw[List.mem_filterMap];constructor
 ·rintro ⟨t,ht,e⟩
  cases t with
  |s y=>cases e;exact ht
  |i z=>cases e
 ·exact λh=>⟨_,h,rfl⟩
theorem jr{as:List At}{x:Str}:x∈b8 as↔∃a∈as,Tm.s x∈a.ts:=by
 unfold b8;rw[List.mem_flatMap];exact⟨λ⟨a,ha,h⟩=>⟨a,ha,Ca.mp h⟩,λ⟨a,ha,h⟩=>⟨a,ha,Ca.mpr h⟩⟩
theorem vi:∀(l acc:List Str),acc.Nodup→(jd acc l).Nodup
 |[],acc,h=>h
 |x::l,acc,h=>by
  unfold jd
  by_cases hx:x∈acc
  ·rw[if_pos hx];exact vi l acc h
  ·rw[if_neg hx];refine vi l _ (List.nodup_append.mpr ⟨h,by simp,λa ha b hb=>?_⟩);rw[List.mem_singleton.mp hb];exact λz=>hx (z▸ha)
noncomputable def isB:En→Out:=(ki (wj (i9 (g9 (g1 (cq "tuple") (af 3)))) (g2 jl (g1 fc (af 3)) (gC (.int 2)))) (d4 (gC (.bl false))) ia)
theorem Rn(v0 v1 v2 v4:Sl):∀(l:List (Str×Tm))(v3:Sl),∃w3,gx (bz 3) isB (l.map λp=>Pu.D.tup [.str p.1,p.2.D]) [v0,v1,v2,v3,v4]=.nx [v0,v1,v2,w3,v4]
 |[],v3=>⟨v3,rfl⟩
 |(x,w)::l,v3=>by
  obtain⟨w3,e⟩:=Rn v0 v1 v2 v4 l (.pu (.tup [.str x,w.D]));refine⟨w3,?_⟩;rw[kA0,fy (δ1:=[v0,v1,v2,.pu (.tup [.str x,w.D]),v4]) rfl];have eb:isB [v0,v1,v2,.pu (.tup [.str x,w.D]),v4]=.nx [v0,v1,v2,.pu (.tup [.str x,w.D]),v4]:=by simp[isB]
  rw[eb];exact e
noncomputable def iaB(f:List Pu.D→Res):En→Out:=(ki (g2 i8 (jt (ae (g2 ao (af 4) (gC (.int 0))) (ae (bb f (ae (af 0) (ae (g2 ao (af 4) (gC (.int 1))) bc))) bc))) (g2 ao (af 1) (gC (.int 1)))) (d4 (gC (.bl false))) ia)
theorem Rk{f:List Pu.D→Res}{W:Pu.D}{one:kg}{g:Tm→Tm}(v2 v3:Sl)(ho:∀b∈one.2,b.w):∀(as:List At)(v4:Sl),(∀a∈as,f [W,.tup (a.ts.map Tm.D)]=.ok (.tup ((a.ts.map g).map Tm.D))∧At.mk a.nm (a.ts.map g)∈one.2)→
  ∃w4,gx (bz 4) (iaB f) (as.map At.D) [.bo W,.bo (aD one),v2,v3,v4]=.nx [.bo W,.bo (aD one),v2,v3,w4]
 |[],v4,_=>⟨v4,rfl⟩
 |a::as,v4,h=>by
  obtain⟨h1,h2⟩:=h a kA6;obtain⟨w4,e⟩:=Rk (W:=W) (g:=g) v2 v3 ho as (.pu a.D) λb hb=>h b (kA7 _ hb);refine⟨w4,?_⟩;rw[kA0,fy (δ1:=[.bo W,.bo (aD one),v2,v3,.pu a.D]) rfl];have k:bb f (ae (af 0) (ae (g2 ao (af 4) (gC (.int 1))) bc)) [.bo W,.bo (aD one),v2,v3,.pu a.D]=.ok (.tup ((a.ts.map g).map Tm.D)):=pz (ds:=[W,.tup (a.ts.map Tm.D)]) (by simp[At.D]) h1;have q:=Xl (ho _ h2) ho;rw[decide_eq_true h2]at q;have q':i8 (.tup [.str a.nm,.tup ((a.ts.map g).map Tm.D)]) (.tup (one.2.map At.D))=some (.bl false):=q;have eb:iaB f [.bo W,.bo (aD one),v2,v3,.pu a.D]=.nx [.bo W,.bo (aD one),v2,v3,.pu a.D]:=by
   simp[iaB,At.D,aD,jy,h1,q',-kAw]
  rw[eb];exact e
noncomputable def iwB(ls st:List Pu.D→Res):En→Out:=(br (ki (i9 (g9 (g1 (cq "list") (af 0)))) (d4 (gC (.bl false))) ia)
 (br (fz [0] (i5 (bz 3) (de (Bp 0)) isB))
 (br (ki (g2 jl (gz (de (af 0)) [] (gC (.bl true)) (g2 ao (af 0) (gC (.int 0)))) (bb ls (ae (g2 ao (af 2) (gC (.int 1))) bc))) (d4 (gC (.bl false))) ia)
 (br (i5 (bz 4) (de (g2 ao (af 2) (gC (.int 1)))) (iaB st))
 (d4 (g2 jn (bb st (ae (af 0) (ae (g2 ao (af 2) (gC (.int 0))) bc))) (g2 ao (af 1) (gC (.int 0)))))))))
theorem zgt{ls st:List Pu.D→Res}{W L:Pu.D}{h1 a1 h2 a2:Pu.D}{w3 w4:Sl}(hW:cq "list" W=some (.bl true))
  (f3:i5 (bz 3) (de (Bp 0)) isB [.bo W,.bo (.tup [h1,a1]),.bo (.tup [h2,a2]),.no,.no]=.nx [.bo W,.bo (.tup [h1,a1]),.bo (.tup [h2,a2]),w3,.no])
  (hc:gz (de (af 0)) [] (gC (.bl true)) (g2 ao (af 0) (gC (.int 0))) [.bo W,.bo (.tup [h1,a1]),.bo (.tup [h2,a2]),w3,.no]=.ok L) (es:ls [a2]=.ok L) (en:jl L L=some (.bl false))
  (f4:i5 (bz 4) (de (g2 ao (af 2) (gC (.int 1)))) (iaB st) [.bo W,.bo (.tup [h1,a1]),.bo (.tup [h2,a2]),w3,.no]=.nx [.bo W,.bo (.tup [h1,a1]),.bo (.tup [h2,a2]),w3,w4])
  (eh:st [W,h2]=.ok h1) (eq:jn h1 h1=some (.bl true)):iwB ls st [.bo W,.bo (.tup [h1,a1]),.bo (.tup [h2,a2]),.no,.no]=.rt (.bl true):=by
 unfold iwB;simp -implicitDefEqProofs [hW,f3,hc,es,en,f4,eh,eq]
structure Askd(a:kg):Prop where
 h:∀t∈a.1,t.good
 g:∀x∈a.2,x.good
 hl:a.1.length≤4
 al:a.2.length≤6
theorem Askd.hw{a:kg}(A:Askd a):∀t∈a.1,t.w:=λt ht=>(A.h t ht).w
theorem Askd.aw{a:kg}(A:Askd a):∀x∈a.2,x.w:=λx hx=>(A.g x hx).w
theorem Askd.a4{a:kg}(A:Askd a):∀x∈a.2,x.w∧x.ts.length≤4:=λx hx=>⟨(A.g x hx).w,(A.g x hx).2.2.1⟩
theorem zd7{as:List At}(h:∀a∈as,a.w):∀x∈jd [] (b8 as),PyData.strOk x=true:=λx hx=>by
 obtain⟨a,ha,m⟩:=jr.mp (by simpa using(mq x (b8 as) []).mp hx);exact(h a ha).2 _ m
theorem xk{as:List At}(h:∀a∈as,a.ts.length≤4):(b8 as).length≤4 * as.length:=by
 induction as with
 |nil=>simp[b8]
 |cons a as ih=>
  have h1:=o6 a.ts;have h2:=h a kA6;have h3:=ih λb hb=>h b (kA7 _ hb);unfold b8 at h3⊢;rw[List.flatMap_cons,kAf,kA5];omega
theorem Dj(n:Nat){one other:kg}{s:Sub}(A1:Askd one)(A2:Askd other)(hi:IsAsk other)(h:Vw one other=some s):
  aj (bq (n+2)) cx [r9 (m4 s (jd [] (b8 other.2))),aD one,aD other]=.ok (.bl true):=by
 have hom:=Ko h;have xl:(jd [] (b8 other.2)).length≤24:=by
  have q1:=xy (b8 other.2) [];have q2:=xk λa ha=>(A2.a4 a ha).2;have:=A2.al;simp at q1;omega
 have nd:((m4 s (jd [] (b8 other.2))).map (·.1)).Nodup:=by
  have:(m4 s (jd [] (b8 other.2))).map (·.1)=jd [] (b8 other.2):=by
   unfold m4;rw[kAw];exact List.map_id _
  rw[this];exact vi _ _ List.nodup_nil
 have wl:(m4 s (jd [] (b8 other.2))).length≤24:=by unfold m4;rw[kA2];exact xl
 have sp:∀{ts:List Tm},(∀x,Tm.s x∈ts→x∈b8 other.2)→ts.map (yo (m4 s (jd [] (b8 other.2))))=ts.map (ap (phi s)):=λ{ts} hts=>List.map_congr_left λt ht=>Zz λx e=>(mq x _ []).mpr (.inr (hts x (e▸ht)));rw[Io];obtain⟨w3,e3⟩:=Rn (.bo (r9 (m4 s (jd [] (b8 other.2))))) (.bo (aD one)) (.bo (aD other)) .no (m4 s (jd [] (b8 other.2))) .no;have f3:i5 (bz 3) (de (Bp 0)) isB [.bo (r9 (m4 s (jd [] (b8 other.2)))),.bo (aD one),.bo (aD other),.no,.no]=.nx [.bo (r9 (m4 s (jd [] (b8 other.2)))),.bo (aD one),.bo (aD other),w3,.no]:=(iz (by simp[r9])).trans e3;obtain⟨w4,e4⟩:=Rk (f:=aj (bq (n+1)) d5) (W:=r9 (m4 s (jd [] (b8 other.2)))) (one:=one) (g:=ap (phi s)) (.bo (aD other)) w3 A1.aw other.2 .no λa ha=>⟨by
  rw[Sv n nd (by omega) (by have:=(A2.a4 a ha).2;omega),sp λx hx=>jr.mpr ⟨a,ha,hx⟩],hom.2 a ha⟩
 have f4:i5 (bz 4) (de (g2 ao (af 2) (gC (.int 1)))) (iaB (aj (bq (n+1)) d5)) [.bo (r9 (m4 s (jd [] (b8 other.2)))),.bo (aD one),.bo (aD other),w3,.no]=.nx [.bo (r9 (m4 s (jd [] (b8 other.2)))),.bo (aD one),.bo (aD other),w3,w4]:=(iz (by simp[aD,jy])).trans e4;have eh:=Sv n (l:=m4 s (jd [] (b8 other.2))) (ts:=other.1) nd (by omega) (by have:=A2.hl;omega);rw[sp λx hx=>jr.mpr (hi.2 x hx),hom.1]at eh;have es:=Ul n (as:=other.2) A2.a4 (by have:=A2.al;omega);have hc:gz (de (af 0)) [] (gC (.bl true)) (g2 ao (af 0) (gC (.int 0))) [.bo (r9 (m4 s (jd [] (b8 other.2)))),.bo (aD one),.bo (aD other),w3,.no]=.ok (.lst ((jd [] (b8 other.2)).map Pu.D.str)):=by
  have q:=q9 (r:=de (af 0)) (ix:=[]) (g:=g2 ao (af 0) (gC (.int 0))) (δ:=[.bo (r9 (m4 s (jd [] (b8 other.2)))),.bo (aD one),.bo (aD other),w3,.no]) (l:=m4 s (jd [] (b8 other.2))) (f:=λp=>Pu.D.tup [.str p.1,p.2.D]) (f':=λp=>Pu.D.str p.1) (by simp[r9]) (by omega) λp _=>by simp[ic]
  rw[q]
  congr 2
  unfold m4;rw[kAw];rfl
 have en:=zci (zd7 A2.aw);have eq1:jn (.tup (one.1.map Tm.D)) (.tup (one.1.map Tm.D))=some (.bl true):=by
  unfold jn;rw[zbo A1.hw A1.hw];simp
 have hb:se (n+1)=iwB (aj (bq (n+1)) bx) (aj (bq (n+1)) d5):=rfl;have r:=zgt (ls:=aj (bq (n+1)) bx) (st:=aj (bq (n+1)) d5) (W:=r9 (m4 s (jd [] (b8 other.2)))) (h1:=.tup (one.1.map Tm.D)) (a1:=.tup (one.2.map At.D)) (h2:=.tup (other.1.map Tm.D)) (a2:=.tup (other.2.map At.D)) (zel _) f3 hc es en f4 eh eq1;rw[hb];exact congrArg gy r
noncomputable def tf(ts:List Tm):List Int:=ts.filterMap λt=>match t with
 |.s _=>none
 |.i z=>some z
noncomputable def Ja:Pu.D→Option Pu.D
 |.int z=>some (.int z)
 |_=>none
theorem Jt:∀ts:List Tm,(ts.map Tm.D).filterMap Ja=(tf ts).map Pu.D.int
 |[]=>rfl
 |.i z::ts=>by
  rw[kA0,kB1];show Pu.D.int z::(ts.map Tm.D).filterMap Ja=Pu.D.int z::(tf ts).map Pu.D.int;rw[Jt ts]
 |.s x::ts=>by
  rw[kA0,kB1];exact Jt ts
theorem Ts{r:En→ResL}{δ:En}{ts:List Tm}(hr:r δ=.ok (ts.map Tm.D))(hl:ts.length≤1000):gz r [] (i9 (g9 (g1 (cq "str") (af 0)))) (cn 0) δ=.ok (.lst ((tf ts).map Pu.D.int)):=by
 rw[Dd (h:=Ja) hr (by rw[kA2];show _≤16777216;omega) λd hd=>by
  obtain⟨t,_,rfl⟩:=kAv.mp hd;cases t with
  |s x=>rw[y6 (b:=false) (y:=.non) (by simp[ic,Tm.D]) (by simp)];rfl
  |i z=>rw[y6 (b:=true) (y:=.int z) (by simp[ic,Tm.D]) (by simp[ic,Tm.D])];rfl,Jt]
theorem y4{as:List At}(h:∀a∈as,a.ts.length≤4):(q8 as).length≤4 * as.length:=by
 induction as with
 |nil=>simp[q8]
 |cons a as ih=>
  have h2:=h a kA6;have h3:=ih λb hb=>h b (kA7 _ hb);unfold q8 at h3⊢;rw[List.flatMap_cons,kAf,kA5];omega
theorem D2(n:Nat){a:kg}(A:Askd a):aj (bq (n+2)) cf [aD a]=.ok (.lst ((tf (a.1++q8 a.2)).map Pu.D.int)):=by
 have hl:=A.hl;have al:=A.al;have tl:=y4 λx hx=>(A.a4 x hx).2;have e1:=yx n A.g (by omega) true;simp only[if_true]at e1;have k:bb (aj (bq (n+1)) df) (ae (g2 ao (af 0) (gC (.int 1))) bc) [.bo (aD a)]=.ok (.lst ((q8 a.2).map Tm.D)):=pz (ds:=[.tup (a.2.map At.D)]) (by simp[aD,jy]) e1;have hz:(a.1.map Tm.D).length+((q8 a.2).map Tm.D).length≤sizeLine:=by rw[kA2,kA2];show _≤16777216;omega
 have ad:cw (.lst (a.1.map Tm.D)) (.lst ((q8 a.2).map Tm.D))=some (.lst ((a.1++q8 a.2).map Tm.D)):=by
  show(if _ then some (Pu.D.lst _)else none)=_;rw[if_pos hz,List.map_append]
 have hr:de (g2 cw (g1 jw (g2 ao (af 0) (gC (.int 0)))) (bb (aj (bq (n+1)) df) (ae (g2 ao (af 0) (gC (.int 1))) bc))) [.bo (aD a)]=.ok ((a.1++q8 a.2).map Tm.D):=by
  rw[zjm,zat,k];simp[aD,jy,jw,ad,-List.map_append]
 have hc:=Ts hr (by rw[kAf];omega);rw[Iq];show gy (d4 _ _)=_;rw[zau];exact(congrArg (λr=>gy (r.then .rt)) hc).trans rfl
noncomputable def nu(m:Int):Nat→List Str→Sub
 |_,[]=>[]
 |i,x::r=>(x,.i (m+(i:Int)))::nu m (i+1) r
theorem Ac(m:Int):∀(i:Nat)(xs:List Str),(nu m i xs).map (·.1)=xs
 |_,[]=>rfl
 |i,x::r=>by rw[nu,kA0,Ac m (i+1) r]
theorem R8(m:Int){x:Str}:∀(i:Nat){xs:List Str},x∈xs→∃z,lk (nu m i xs) x=some (.i z)
 |_,[],h=>by simp at h
 |i,y::r,h=>by
  unfold nu lk
  by_cases e:y=x
  ·rw[if_pos e];exact⟨_,rfl⟩
  ·rw[if_neg e];rcases kA8.mp h with h|h
   ·exact absurd h.symm e
   ·exact R8 m (i+1) h
theorem He(m:Int):∀(i:Nat)(xs:List Str),m9 ((nu m i xs).map λp=>Pu.D.tup [.str p.1,p.2.D])=some ((nu m i xs).map λp=>(.inr p.1,p.2.D))
 |_,[]=>rfl
 |i,x::r=>by
  rw[nu,kA0,kA0];unfold m9;rw[He m (i+1) r];rfl
theorem Me:∀(l acc:Sub),(acc.map (·.1)++l.map (·.1)).Nodup→zz (sD acc) (l.map λp=>(.inr p.1,p.2.D))=sD (acc++l)
 |[],acc,_=>by simp[zz]
 |(x,w)::l,acc,nd=>by
  have hno:lk acc x=none:=by
   have hx:x∉acc.map (·.1):=λhm=>(List.nodup_append.mp nd).2.2 x hm x (by simp) rfl;clear nd;induction acc with
   |nil=>rfl
   |cons p r ih=>
    obtain⟨y,u⟩:=p;simp only[kA0,kA8,not_or]at hx;show(if y=x then some u else lk r x)=none;rw[if_neg (λz=>hx.1 z.symm)];exact ih hx.2
  show zz (pj (sD acc) (.inr x) w.D) (l.map λp=>(.inr p.1,p.2.D))=_;rw[P4 w hno,Me l (acc++[(x,w)]) (by simpa using nd)];simp
theorem Gn(m:Int)(v0 v1:Sl):∀(i:Nat)(xs:List Str),lz (Bb [2] (jt (ae (cn 1) (ae (g2 cw (af 2) (af 0)) bc))) [v0,v1,.pu (.int m)]) (ni i (xs.map Pu.D.str))=some ((nu m i xs).map λp=>Pu.D.tup [.str p.1,p.2.D])
 |_,[]=>rfl
 |i,x::r=>by
  rw[kA0,ni];unfold lz;have e:Bb [2] (jt (ae (cn 1) (ae (g2 cw (af 2) (af 0)) bc))) [v0,v1,.pu (.int m)] (.tup [.int (i:Int),.str x])=some (some (.tup [.str x,.int (m+(i:Int))])):=by
   simp[Bb,td2]
  rw[e,Gn m v0 v1 (i+1) r];rfl
theorem Mr(n:Nat){one other:kg}(A1:Askd one)(A2:Askd other):∃m:Int,aj (bq (n+3)) az [aD one,aD other]=.ok (.dct false (sD (nu m 0 (jd [] (b8 one.2))))):=by
 have n1:=D2 n A1;have n2:=D2 n A2;have hl1:=A1.hl;have hl2:=A2.hl;have al1:=A1.al;have al2:=A2.al;have tl1:=y4 λx hx=>(A1.a4 x hx).2;have tl2:=y4 λx hx=>(A2.a4 x hx).2;have e1:=yx (n+1) A1.g (by omega) true;simp only[if_true]at e1;have e2:=yq (n+1) (q8 one.2) (by omega) false;simp only[kAn,if_false]at e2;rw[Kl]at e2;have nl:∀l:List Tm,(tf l).length≤l.length:=λl=>List.length_filterMap_le ..;have q1:=nl (one.1++q8 one.2);have q2:=nl (other.1++q8 other.2);rw[kAf]at q1 q2;have hz:((tf (one.1++q8 one.2)).map Pu.D.int).length+((tf (other.1++q8 other.2)).map Pu.D.int).length≤sizeLine:=by rw[kA2,kA2];show _≤16777216;omega
 have ad:cw (.lst ((tf (one.1++q8 one.2)).map Pu.D.int)) (.lst ((tf (other.1++q8 other.2)).map Pu.D.int))=some (.lst ((tf (one.1++q8 one.2)++tf (other.1++q8 other.2)).map Pu.D.int)):=by
  show(if _ then some (Pu.D.lst _)else none)=_;rw[if_pos hz,List.map_append]
 have iq:∀l:List Int,yd (l.map Pu.D.int)=some l:=λl=>by
  induction l with
  |nil=>rfl
  |cons i r ih=>rw[kA0,yd,ih];rfl
 have mx:xh 0 (.lst ((tf (one.1++q8 one.2)++tf (other.1++q8 other.2)).map Pu.D.int))=some (.int (Dx 0 (tf (one.1++q8 one.2)++tf (other.1++q8 other.2)))):=by
  show(yd _).map _=_;rw[iq];rfl
 generalize Dx 0 (tf (one.1++q8 one.2)++tf (other.1++q8 other.2))=M at mx;have k1:bb (aj (bq (n+2)) cf) (ae (af 0) bc) [.bo (aD one),.bo (aD other),.no]=.ok (.lst ((tf (one.1++q8 one.2)).map Pu.D.int)):=pz (ds:=[aD one]) (by simp) n1;have k2:bb (aj (bq (n+2)) cf) (ae (af 1) bc) [.bo (aD one),.bo (aD other),.no]=.ok (.lst ((tf (other.1++q8 other.2)).map Pu.D.int)):=pz (ds:=[aD other]) (by simp) n2;have s1:gr 2 (g2 cw (g1 (xh 0) (g2 cw (bb (aj (bq (n+2)) cf) (ae (af 0) bc)) (bb (aj (bq (n+2)) cf) (ae (af 1) bc)))) (gC (.int 1))) [.bo (aD one),.bo (aD other),.no]=.nx [.bo (aD one),.bo (aD other),.pu (.int (M+1))]:=by
  rw[zav,zat,zek,zat,k1,k2];simp[ad,mx,-List.map_append]
 have k3:bb (aj (bq (n+2)) df) (ae (g2 ao (af 0) (gC (.int 1))) bc) [.bo (aD one),.bo (aD other),.pu (.int (M+1))]=.ok (.lst ((q8 one.2).map Tm.D)):=pz (ds:=[.tup (one.2.map At.D)]) (by simp[aD,jy]) e1;have k4:bb (aj (bq (n+2)) cm) (ae (bb (aj (bq (n+2)) df) (ae (g2 ao (af 0) (gC (.int 1))) bc)) bc) [.bo (aD one),.bo (aD other),.pu (.int (M+1))]=.ok (.lst ((jd [] (b8 one.2)).map Pu.D.str)):=pz (ds:=[.lst ((q8 one.2).map Tm.D)]) (by rw[Qr,k3];rfl) e2;have xl:(jd [] (b8 one.2)).length≤24:=by
  have z1:=xy (b8 one.2) [];have z2:=xk λa ha=>(A1.a4 a ha).2;simp at z1;omega
 have nd:(jd [] (b8 one.2)).Nodup:=vi _ _ List.nodup_nil;have hc:oq (ur (bb (aj (bq (n+2)) cm) (ae (bb (aj (bq (n+2)) df) (ae (g2 ao (af 0) (gC (.int 1))) bc)) bc))) (Bb [2] (jt (ae (cn 1) (ae (g2 cw (af 2) (af 0)) bc)))) [.bo (aD one),.bo (aD other),.pu (.int (M+1))]=.ok (.lst ((nu (M+1) 0 (jd [] (b8 one.2))).map λp=>Pu.D.tup [.str p.1,p.2.D])):=by
  unfold oq ur;rw[k4];dsimp only[zi5];rw[if_pos (by rw[vj,kA2];show _≤16777216;omega),Gn]
 have hp:tm (.lst ((nu (M+1) 0 (jd [] (b8 one.2))).map λp=>Pu.D.tup [.str p.1,p.2.D]))=some (.dct false (sD (nu (M+1) 0 (jd [] (b8 one.2))))):=by
  have nl:(nu (M+1) 0 (jd [] (b8 one.2))).length≤24:=by
   have:=congrArg List.length (Ac (M+1) 0 (jd [] (b8 one.2)));rw[kA2]at this;omega
  show(if _ then(m9 _).map _ else none)=_;rw[if_pos (by rw[kA2];show _≤16777216;omega),He];show some (Pu.D.dct false (zz (sD []) _))=_;rw[Me _ [] (by rw[List.map_nil,List.nil_append,Ac];exact nd),List.nil_append]
 refine⟨M+1,?_⟩;rw[rf];show gy (br _ _ [.bo (aD one),.bo (aD other),.no])=_;rw[Bd,s1];show gy (d4 (g1 tm _) _)=_;rw[zau,zek,hc];show gy ((Res.of (tm _)).then .rt)=_;rw[hp];rfl
noncomputable def Ex(s:Sub):Tm→Int
 |.i z=>z
 |.s x=>match lk s x with
  |some (.i z)=>z
  |_=>0
theorem M8(n:Nat){s:Sub}{ts:List Tm}(hl:ts.length≤900)(h:∀x,Tm.s x∈ts→∃z,lk s x=some (.i z)):aj (bq (n+1)) gc [.tup (ts.map Tm.D),.dct false (sD s)]=.ok (.tup ((ts.map (Ex s)).map Pu.D.int)):=by
 rw[Wy];have hc:gz (de (af 0)) [1] (gC (.bl true)) (Ri (g9 (g1 (cq "str") (af 0))) (g2 ao (af 1) (af 0)) (cn 0)) [.bo (.tup (ts.map Tm.D)),.bo (.dct false (sD s))]=.ok (.lst (ts.map λt=>Pu.D.int (Ex s t))):=
  q9 (f:=Tm.D) (by simp) (by omega) λt ht=>by
   cases t with
   |i z=>simp[ic,Tm.D,Ex]
   |s x=>
    obtain⟨z,ez⟩:=h x ht;have hn:=vt x s;rw[ez]at hn;have hn':fg (sD s) (.inr x)=some (.int z):=hn;have hi:ao (.dct false (sD s)) (.str x)=some (.int z):=hn';simp[ic,Tm.D,Ex,hi,ez]
 have hm:(ts.map λt=>Pu.D.int (Ex s t))=(ts.map (Ex s)).map Pu.D.int:=by rw[kAw];rfl
 rw[hm]at hc;simp -implicitDefEqProofs [Cp,hc]
noncomputable abbrev Fc:=Str×List Int
noncomputable def fD(f:Fc):Pu.D:=.tup [.str f.1,.tup (f.2.map Pu.D.int)]
noncomputable def fK(f:Fc):L2.gm:=[.inl (.inr f.1),.inr (f.2.map Sum.inl)]
theorem ze8(f:Fc):kT (fK f)=fD f:=by
 show Pu.D.tup [.str f.1,.tup ((f.2.map Sum.inl).map kD)]=_;rw[kAw];rfl
theorem Gz(f:Fc):ml (fD f)=some (fK f):=by rw[←ze8];exact vn _
theorem zgk{f g:Fc}(h:fK f=fK g):f=g:=by
 obtain⟨x,a⟩:=f;obtain⟨y,b⟩:=g;unfold fK at h;simp only[List.cons.injEq,Sum.inl.injEq,Sum.inr.injEq,and_true]at h;obtain⟨h1,h2⟩:=h;have:a=b:=by
  clear h1;induction a generalizing b with
  |nil=>cases b with
   |nil=>rfl
   |cons _ _=>cases h2
  |cons i r ih=>cases b with
   |nil=>cases h2
   |cons j t=>
    rw[kA0,kA0]at h2;injection h2 with z1 z2
    rw[Sum.inl.inj z1,ih t z2]
 rw[h1,this]
noncomputable def Lz(F:List Fc):List (Pu.D×Pu.D):=F.map λf=>(fD f,.bl true)
theorem Xf(F:List Fc)(f:Fc):Xe (Lz F) (fK f)=decide (f∈F):=by
 unfold Xe Lz;induction F with
 |nil=>rfl
 |cons g F ih=>
  rw[kA0,List.any_cons,ih,Gz]
  by_cases h:f=g
  ·subst h;simp
  ·have h':¬(some (fK g)=some (fK f)):=λe=>h (zgk (kAi.inj e)).symm;rw[decide_eq_false h'];simp[h]
theorem Zm(F:List Fc)(f:Fc):Zl (Lz F) (fK f) (.bl true)=Lz (if f∈F then F else F++[f]):=by
 unfold Zl;rw[Xf]
 by_cases h:f∈F
 ·rw[if_pos (decide_eq_true h),if_pos h];unfold Lz;rw[kAw];refine List.map_congr_left λg _=>?_;show(if ml (fD g)=some (fK f)then(fD g,Pu.D.bl true)else(fD g,.bl true))=_;split<;>rfl
 ·rw[if_neg (by simp[h]),if_neg h,ze8];unfold Lz;rw[List.map_append];rfl
noncomputable def E5(F:List Fc):List Fc→List Fc
 |[]=>F
 |f::r=>E5 (if f∈F then F else F++[f]) r
theorem Cm:∀(l F:List Fc),F.Nodup→(E5 F l).Nodup
 |[],F,h=>h
 |f::l,F,h=>by
  unfold E5;refine Cm l _ ?_;split
  ·exact h
  ·rename_i hf;refine List.nodup_append.mpr ⟨h,by simp,λa ha b hb=>?_⟩;rw[List.mem_singleton.mp hb];exact λz=>hf (z▸ha)
theorem Kq:∀(l F:List Fc),(E5 F l).length≤F.length+l.length
 |[],F=>by simp[E5]
 |f::l,F=>by
  unfold E5;have:=Kq l (if f∈F then F else F++[f]);split at this
  ·simp;rename_i h;rw[if_pos h];omega
  ·rename_i h;rw[if_neg h];simp at this⊢;omega
theorem Kr:∀(l F:List Fc),(∀f∈F,PyData.strOk f.1=true)→(∀f∈l,PyData.strOk f.1=true)→∀f∈E5 F l,PyData.strOk f.1=true
 |[],F,h,_=>h
 |g::l,F,h,k=>by
  unfold E5;refine Kr l _ ?_ λf hf=>k f (kA7 _ hf);split
  ·exact h
  ·intro f hf;rcases List.mem_append.mp hf with hf|hf
   ·exact h f hf
   ·rw[List.mem_singleton.mp hf];exact k g kA6
theorem W0{x y:Str}{c d:List Int}(h:Bl x c=Bl y d):x=y∧c=d:=by
 have l1:=B6 x.cps.toList y.cps.toList c d;have l2:=B6 y.cps.toList x.cps.toList d c;have n1:¬(x.cps.toList.map Int.ofNat++(-1)::c<y.cps.toList.map Int.ofNat++(-1)::d):=λz=>by
  have h':x.cps.toList.map Int.ofNat++(-1)::c=y.cps.toList.map Int.ofNat++(-1)::d:=h;rw[h']at z;exact List.lt_irrefl _ z
 have n2:¬(y.cps.toList.map Int.ofNat++(-1)::d<x.cps.toList.map Int.ofNat++(-1)::c):=λz=>by
  have h':x.cps.toList.map Int.ofNat++(-1)::c=y.cps.toList.map Int.ofNat++(-1)::d:=h;rw[h']at z;exact List.lt_irrefl _ z
 have m1:=λz=>n1 (l1.mpr z);have m2:=λz=>n2 (l2.mpr z);have ex:x.cps.toList=y.cps.toList:=by
  by_cases q:x.cps.toList=y.cps.toList
  ·exact q
  ·exact absurd (.inl (Std.lt_of_le_of_ne (λz=>m1 (.inl z)) (Ne.symm q))) m2
 refine⟨S0 ex,?_⟩
 by_cases q:c=d
 ·exact q
 ·exact absurd (.inr ⟨ex.symm,Std.lt_of_le_of_ne (λz=>m1 (.inr ⟨ex,z⟩)) (Ne.symm q)⟩) m2
theorem Lv:∀{F:List Fc},(∀f∈F,PyData.strOk f.1=true)→ub (F.map fD)=some (F.map λf=>Bl f.1 f.2)
 |[],_=>rfl
 |f::F,h=>by
  have iL:∀l:List Int,uu (l.map Pu.D.int)=some l:=λl=>by
   induction l with
   |nil=>rfl
   |cons i r ih=>rw[kA0,uu,ih];rfl
  have e:Ue (fD f)=some (Bl f.1 f.2):=by
   show(if PyData.strOk f.1 then(uu (f.2.map Pu.D.int)).map (Bl f.1)else none)=_;rw[if_pos (h f kA6),iL];rfl
  rw[kA0,ub,e,Lv λg hg=>h g (kA7 _ hg)];rfl
theorem Kd{F:List Fc}(nd:F.Nodup)(hw:∀f∈F,PyData.strOk f.1=true)(hl:F.length<64):∃d,oz (.dct true (Lz F))=some d:=by
 have ek:(Lz F).map (·.1)=F.map fD:=by unfold Lz;rw[kAw];rfl
 show∃d,(va ((Lz F).map (·.1))).map Pu.D.lst=some d;rw[ek];unfold va
 by_cases h2:(F.map fD).length<2
 ·rw[if_pos h2];exact⟨_,rfl⟩
 ·rw[if_neg h2,if_pos (by rw[kA2];exact hl)];have ka:ye (F.map fD)=none:=by
   cases F with
   |nil=>simp at h2
   |cons f r=>rw[kA0];rfl
  have e:qr (F.map fD)=some (2,F.map λf=>Bl f.1 f.2):=by
   unfold qr;rw[ka,Lv hw];rfl
  rw[e];dsimp only;have q:(F.map λf=>Bl f.1 f.2).Nodup:=by
   rw[List.Nodup,List.pairwise_map];refine List.Pairwise.imp (λ{a b} hab he=>?_) nd;obtain⟨z1,z2⟩:=W0 he;exact hab (Prod.ext z1 z2)
  rw[if_pos q];exact⟨_,rfl⟩
noncomputable def bkB(p:List Pu.D→Res):En→Out:=(xi 3 (jt (ae (g2 ao (af 4) (gC (.int 0))) (ae (bb p (ae (g2 ao (af 4) (gC (.int 1))) (ae (af 2) bc))) bc))) (gC (.bl true)))
theorem Q1{p:List Pu.D→Res}{P:Pu.D}{v:Tm→Int}(v0 v1:Sl):∀(as:List At)(F:List Fc)(v4:Sl),(∀a∈as,p [.tup (a.ts.map Tm.D),P]=.ok (.tup ((a.ts.map v).map Pu.D.int)))→F.length+as.length≤1000→
  ∃w4,gx (bz 4) (bkB p) (as.map At.D) [v0,v1,.pu P,.od true (Lz F),v4]=.nx [v0,v1,.pu P,.od true (Lz (E5 F (as.map λa=>(a.nm,a.ts.map v)))),w4]
 |[],F,v4,_,_=>⟨v4,rfl⟩
 |a::as,F,v4,h,hl=>by
  rw[kA5]at hl;have h1:=h a kA6;have hlt:(Lz F).length<sizeLine:=by unfold Lz;rw[kA2];show _<16777216;omega
  have hk:=Gz (a.nm,a.ts.map v);have hk':ml (.tup [.str a.nm,.tup ((a.ts.map v).map Pu.D.int)])=some (fK (a.nm,a.ts.map v)):=hk;have eb:bkB p [v0,v1,.pu P,.od true (Lz F),.pu a.D]=.nx [v0,v1,.pu P,.od true (Lz (if(a.nm,a.ts.map v)∈F then F else F++[(a.nm,a.ts.map v)])),.pu a.D]:=by
   rw[←Zm];simp[bkB,xi,At.D,h1,hk',hlt,-kAw]
  have hle:(if(a.nm,a.ts.map v)∈F then F else F++[(a.nm,a.ts.map v)]).length≤F.length+1:=by split<;>simp
  obtain⟨w4,e⟩:=Q1 (P:=P) (v:=v) v0 v1 as (if(a.nm,a.ts.map v)∈F then F else F++[(a.nm,a.ts.map v)]) (.pu a.D) (λb hb=>h b (kA7 _ hb)) (by omega);refine⟨w4,?_⟩;rw[kA0,fy (δ1:=[v0,v1,.pu P,.od true (Lz F),.pu a.D]) rfl,eb];exact e
noncomputable def baB(nf p:List Pu.D→Res):En→Out:=(br (gr 2 (bb nf (ae (af 0) (ae (af 1) bc))))
 (br (Ec 3)
 (br (i5 (bz 4) (de (g2 ao (af 0) (gC (.int 1)))) (bkB p))
 (d4 (jt (ae (gC (.str "book")) (ae (g1 oz (af 3)) (ae (bb p (ae (g2 ao (af 0) (gC (.int 0))) (ae (af 2) bc))) bc))))))))
theorem zf6{nf p:List Pu.D→Res}{h1 a1 O P S R:Pu.D}{kvs:List (Pu.D×Pu.D)}{w4:Sl}(e1:nf [.tup [h1,a1],O]=.ok P)
  (e2:i5 (bz 4) (de (g2 ao (af 0) (gC (.int 1)))) (bkB p) [.bo (.tup [h1,a1]),.bo O,.pu P,.od true [],.no]=.nx [.bo (.tup [h1,a1]),.bo O,.pu P,.od true kvs,w4])(e3:oz (.dct true kvs)=some S)(e4:p [h1,P]=.ok R):
  baB nf p [.bo (.tup [h1,a1]),.bo O,.no,.no,.no]=.rt (.tup [.str "book",S,R]):=by
 unfold baB;simp[e1,Ec,e2,e3,e4]
theorem zbi(n:Nat){one other:kg}(A1:Askd one)(A2:Askd other)(hi:IsAsk one):∃S R,aj (bq (n+4)) cb [aD one,aD other]=.ok (.tup [.str "book",S,R]):=by
 obtain⟨m,e1⟩:=Mr n A1 A2;have hl:=A1.hl;have al:=A1.al;have lks:∀{x:Str},x∈b8 one.2→∃z,lk (nu m 0 (jd [] (b8 one.2))) x=some (.i z):=λ{x} hx=>R8 m 0 ((mq x _ []).mpr (.inr hx));have pa:∀a∈one.2,aj (bq (n+3)) gc [.tup (a.ts.map Tm.D),.dct false (sD (nu m 0 (jd [] (b8 one.2))))]=.ok (.tup ((a.ts.map (Ex (nu m 0 (jd [] (b8 one.2))))).map Pu.D.int)):=λa ha=>M8 (n+2) (by have:=(A1.a4 a ha).2;omega) λx hx=>lks (jr.mpr ⟨a,ha,hx⟩);have ph:=M8 (n+2) (s:=nu m 0 (jd [] (b8 one.2))) (ts:=one.1) (by omega) λx hx=>lks (jr.mpr (hi.2 x hx));obtain⟨w4,e⟩:=Q1 (p:=aj (bq (n+3)) gc) (P:=.dct false (sD (nu m 0 (jd [] (b8 one.2))))) (v:=Ex (nu m 0 (jd [] (b8 one.2)))) (.bo (aD one)) (.bo (aD other)) one.2 [] .no pa (by simp;omega);have e2:i5 (bz 4) (de (g2 ao (af 0) (gC (.int 1)))) (bkB (aj (bq (n+3)) gc)) [.bo (aD one),.bo (aD other),.pu (.dct false (sD (nu m 0 (jd [] (b8 one.2))))),.od true [],.no]=_:=(iz (ds:=one.2.map At.D) (by simp[aD,jy])).trans e;obtain⟨S,e3⟩:=Kd (F:=E5 [] (one.2.map λa=>(a.nm,a.ts.map (Ex (nu m 0 (jd [] (b8 one.2))))))) (Cm _ _ List.nodup_nil) (Kr _ _ (by simp) λf hf=>by
  obtain⟨a,ha,rfl⟩:=kAv.mp hf;exact(A1.aw a ha).1) (by
   have:=Kq (one.2.map λa=>(a.nm,a.ts.map (Ex (nu m 0 (jd [] (b8 one.2)))))) [];rw[kA2]at this;simp at this;omega)
 refine⟨S,.tup ((one.1.map (Ex (nu m 0 (jd [] (b8 one.2))))).map Pu.D.int),?_⟩;rw[C6];have hb:oi (n+3)=baB (aj (bq (n+3)) az) (aj (bq (n+3)) gc):=rfl;rw[hb];exact congrArg gy (zf6 (nf:=aj (bq (n+3)) az) (p:=aj (bq (n+3)) gc) (h1:=.tup (one.1.map Tm.D)) (a1:=.tup (one.2.map At.D)) (O:=aD other) e1 e2 e3 ph)
noncomputable def wpB(p f:List Pu.D→Res):En→Out:=(br (gr 2 (bb p (ae (gC (.dct false [])) (ae (g2 ao (af 1) (gC (.int 0))) (ae (g2 ao (af 0) (gC (.int 0))) bc)))))
 (fz [2] (d4 (Ri (g2 qf (af 2) (gC .non)) (gC .non) (bb f (ae (g2 ao (af 1) (gC (.int 1))) (ae (g2 ao (af 0) (gC (.int 1))) (ae (cn 2) bc))))))))
theorem zjp{p f:List Pu.D→Res}{h1 a1 h2 a2:Pu.D}{r:Option Sub}{g:Sub→Option Sub}(e1:p [.dct false [],h2,h1]=.ok (rD r))(e2:∀s,r=some s→f [a2,a1,.dct false (sD s)]=.ok (rD (g s))):
  wpB p f [.bo (.tup [h1,a1]),.bo (.tup [h2,a2]),.no]=.rt (rD (r.bind g)):=by
 cases r with
 |none=>
  have e1':p [.dct false [],h2,h1]=.ok .non:=e1;simp[wpB,e1',ot,rD]
 |some s=>
  have e1':p [.dct false [],h2,h1]=.ok (.dct false (sD s)):=e1;have e2':=e2 s rfl;simp[wpB,e1',ot,e2']
theorem Vu(n:Nat){one other:kg}(A1:Askd one)(A2:Askd other):aj (bq (n+9)) gj [aD one,aD other]=.ok (rD (Vw one other)):=by
 have hl:=A2.hl;have al:=A2.al;rw[Tz];have hb:zb (n+8)=wpB (aj (bq (n+8)) bw) (aj (bq (n+8)) ck):=rfl;rw[hb];refine congrArg gy (zjp (p:=aj (bq (n+8)) bw) (f:=aj (bq (n+8)) ck) (h1:=.tup (one.1.map Tm.D)) (a1:=.tup (one.2.map At.D)) (h2:=.tup (other.1.map Tm.D)) (a2:=.tup (other.2.map At.D)) (Da (n+7) (s:=[]) A2.hw A1.hw (by intro p hp;cases hp) (by simp;omega)) λs es=>?_);obtain⟨b1,b2⟩:=zh1 (s:=[]) (by intro p hp;cases hp) A1.hw es;have q:=Lo one.2 A1.aw other.2 s (n+6 - other.2.length) A2.a4 b1 (by simp at b2;omega);rw[show n+6 - other.2.length+other.2.length+2=n+8 by omega]at q;exact q
def Sh(a:At):Prop:=(a.nm="r"∧a.ts.length=2)∨(a.nm="s"∧a.ts.length=3)∨(a.nm="t"∧a.ts.length=1)
theorem Sh.len{a b:At}(h:Sh a)(k:Sh b)(e:a.nm=b.nm):a.ts.length=b.ts.length:=by
 have n1:("r":Str)≠"s":=by decide+kernel
 have n2:("r":Str)≠"t":=by decide+kernel
 have n3:("s":Str)≠"t":=by decide+kernel
 rcases h with ⟨h1,h2⟩|⟨h1,h2⟩|⟨h1,h2⟩<;>rcases k with ⟨k1,k2⟩|⟨k1,k2⟩|⟨k1,k2⟩<;>rw[h1,k1]at e<;>
  first
  |exact h2.trans k2.symm
  |exact absurd e n1
  |exact absurd e n2
  |exact absurd e n3
  |exact absurd e.symm n1
  |exact absurd e.symm n2
  |exact absurd e.symm n3
theorem Jz:∀(as:List At)(kvs:List (Pu.D×Pu.D)),(∀a∈as,Sh a)→(∀a∈as,∀d,fg kvs (.inr a.nm)=some d→d=.int (a.ts.length:Nat))→Af kvs as=true
 |[],_,_,_=>rfl
 |a::as,kvs,h,k=>by
  unfold Af;cases e:fg kvs (.inr a.nm)with
  |some d=>
   have:=k a kA6 d e;subst this;dsimp only;rw[if_pos rfl];exact Jz as kvs (λb hb=>h b (kA7 _ hb)) λb hb=>k b (kA7 _ hb)
  |none=>
   dsimp only;refine Jz as _ (λb hb=>h b (kA7 _ hb)) λb hb d hd=>?_;rw[rh e]at hd;split at hd
   ·rename_i z;cases hd;have:b.nm=a.nm:=Sum.inr.inj z;rw[(h b (kA7 _ hb)).len (h a kA6) this]
   ·exact k b (kA7 _ hb) d hd
structure GA(a:kg):Prop extends Askd a where
 sh:∀x∈a.2,Sh x
theorem GA.wo{a:kg}(A:GA a)(k:Nat):GA (wo a k) where
 h:=A.h
 g:=λx hx=>A.g x (List.mem_of_mem_eraseIdx hx)
 hl:=A.hl
 al:=kAk (List.length_eraseIdx_le ..) A.al
 sh:=λx hx=>A.sh x (List.mem_of_mem_eraseIdx hx)
theorem GA.pt{a:kg}(A:GA a):PT (.tup (a.1.map Tm.D)) (.tup (a.2.map At.D)) where
 h0:=.tup _
 h1:=λds e=>by
  cases e;refine⟨by rw[kA2];have:=A.hl;omega,λx hx=>?_⟩;obtain⟨t,ht,rfl⟩:=kAv.mp hx;exact(Tm.good_T0 (A.h t ht)).1
 a0:=.tup _
 a1:=λds e=>by
  cases e;refine⟨by rw[kA2];have:=A.al;omega,λx hx=>?_⟩;obtain⟨b,hb,rfl⟩:=kAv.mp hx;exact At.good_AT (A.g b hb)
theorem Qc(a:kg):stB a.1 a.2=Kg a:=by
 rw[Ke,Bool.eq_iff_iff,kAx];unfold Kg;rw[kAx];constructor
 ·intro h t ht;cases t with
  |i z=>rfl
  |s x=>
   have:=of_decide_eq_true (h x (Ca.mpr ht));obtain⟨b,hb,m⟩:=jr.mp this;exact List.any_eq_true.mpr ⟨b,hb,List.any_eq_true.mpr ⟨_,m,decide_eq_true rfl⟩⟩
 ·intro h x hx;have:=h _ (Ca.mp hx);obtain⟨b,hb,m⟩:=List.any_eq_true.mp this;obtain⟨t,ht,e⟩:=List.any_eq_true.mp m;have e':=of_decide_eq_true e;exact decide_eq_true (jr.mpr ⟨b,hb,e'▸ht⟩)
theorem zh(n:Nat){a:kg}(A:GA a):aj (bq (n+6)) aq [aD a]=if i3 a then .ok (aD a)else .er "NoAsking":=by
 by_cases h:a.2=[]
 ·have e:i3 a=false:=by unfold i3;rw[h];rfl
  rw[e];refine K7 n A.pt ?_;rw[h];rfl
 ·have l:1≤a.2.length:=by cases q:a.2 with
   |nil=>exact absurd q h
   |cons _ _=>simp
  have e:i3 a=stB a.1 a.2:=by
   unfold i3;rw[Qc];cases q:a.2 with
   |nil=>exact absurd q h
   |cons _ _=>rfl
  rw[e];exact Wl n A.pt A.h A.g A.hl l A.al (Jz a.2 [] A.sh λb _ d hd=>by cases hd)
theorem zb5(n:Nat){a:kg}(A:GA a):aj (bq (n+3)) bp [aD a]=.ok (.bl (i3 a)):=by
 have c:=zh 0 A;rcases za9 n 0 A.pt with ⟨h1,h2,_⟩|⟨h1,h2⟩
 ·have h2':aj (bq (0+6)) aq [aD a]=.ok (aD a):=h2;rw[h2']at c;cases e:i3 a with
  |true=>exact h1
  |false=>rw[e]at c;cases c
 ·have h2':aj (bq (0+6)) aq [aD a]=.er "NoAsking":=h2;rw[h2']at c;cases e:i3 a with
  |true=>rw[e]at c;cases c
  |false=>exact h1
theorem Cg(ds:List Pu.D)(p:Nat):vy (.tup ds) none (some (p:Int))=some (.tup (ds.take p)):=by
 show some (Pu.D.tup (Fh ds none (some (p:Int))))=_;unfold Fh;rw[HT.Ea,HT.J9,List.drop_zero,Nat.sub_zero]
 congr 2
 rw[←List.take_eq_take_min]
theorem S2(ds:List Pu.D)(p:Nat):vy (.tup ds) (some (p:Int)) none=some (.tup (ds.drop p)):=by
 show some (Pu.D.tup (Fh ds (some (p:Int)) none))=_;unfold Fh;rw[HT.Ea,HT.J9]
 congr 2
 by_cases h:p≤ds.length
 ·rw[Nat.min_eq_left h,List.take_of_length_le (by rw[List.length_drop];omega)]
 ·rw[Nat.min_eq_right (by omega),List.drop_length,List.take_nil,List.drop_eq_nil_of_le (by omega)]
theorem Aj(ds:List Pu.D)(p:Nat):vy (.tup ds) (some ((p:Int)+1)) none=some (.tup (ds.drop (p+1))):=by
 rw[show((p:Int)+1)=((p+1:Nat):Int) by omega];exact S2 ds (p+1)
theorem V2{xs ys:List Pu.D}(h:xs.length+ys.length≤1000):cw (.tup xs) (.tup ys)=some (.tup (xs++ys)):=by
 show(if xs.length+ys.length≤sizeLine then some (Pu.D.tup (xs++ys))else none)=_;rw[if_pos (by rw[sizeLine_eq];omega)]
theorem Ij(as:List At)(k:Nat)(hl:as.length≤100):cw (.tup ((as.map At.D).take k)) (.tup ((as.map At.D).drop (k+1)))=some (.tup ((as.eraseIdx k).map At.D)):=by
 rw[V2 (by rw[List.length_take,List.length_drop,kA2];omega),List.eraseIdx_eq_take_drop_succ,List.map_append,List.map_take,List.map_drop]
theorem Ey(n:Nat){a:kg}(k:Nat)(hl:a.2.length≤6):aj (bq (n+1)) fi [aD a,.int (k:Int)]=.ok (aD (wo a k)):=by
 rw[T1];have c:=Ij a.2 k (by omega);simp[zc,aD,jy,Br,gPt,Cg,Aj,c,wo,-List.map_take,-List.map_drop]
theorem zkl{one other:kg}{s:Sub}(h:Vw one other=some s){x:Str}(hx:x∈b8 other.2):∃v,lk s x=some v:=by
 obtain⟨a,ha,m⟩:=jr.mp hx;obtain⟨t,_,_,e⟩:=(Nv h).2 a ha;obtain⟨i,hi⟩:=List.mem_iff_getElem?.mp m;have q:=congrArg (λl=>l[i]?) e;simp only[kAr,hi,Option.map_some]at q;cases z:t.2[i]? with
 |none=>rw[z]at q;cases q
 |some w=>rw[z]at q;exact⟨w,(kAi.inj q:evs s (Tm.s x)=some w)⟩
noncomputable def wiB(c w b si t:List Pu.D→Res):En→Out:=(br (fz [0] (m3 (bb c (ae (cn 0) bc))))
 (br (fz [1] (m3 (bb c (ae (cn 1) bc))))
 (br (ki (g2 jl (g1 fc (g2 ao (af 0) (gC (.int 0)))) (g1 fc (g2 ao (af 1) (gC (.int 0))))) (lq "Unlike" (ae (gC (.str "the heads have unlike many terms")) bc)) ia)
 (br (gr 2 (bb w (ae (af 0) (ae (af 1) bc))))
 (br (ki (g2 qf (af 2) (gC .non)) (d4 (bb b (ae (af 0) (ae (af 1) bc)))) ia)
 (d4 (jt (ae (gC (.str "way")) (ae (gz (de (bb si (ae (bb t (ae (g2 ao (af 1) (gC (.int 1))) bc)) bc))) [2] (gC (.bl true)) (jt (ae (cn 0) (ae (g2 ao (af 1) (af 0)) bc)))) bc)))))))))
theorem zm6{c w b si t:List Pu.D→Res}{x y:Pu.D}{e:Str}(h:c [x]=.er e):wiB c w b si t [.pu x,.pu y,.no]=.er e:=by
 unfold wiB;simp[h,m3]
theorem zeo{c w b si t:List Pu.D→Res}{h1 h2:List Pu.D}{a1 a2 R:Pu.D}(e1:c [.tup [.tup h1,a1]]=.ok (.tup [.tup h1,a1]))(e2:c [.tup [.tup h2,a2]]=.ok (.tup [.tup h2,a2]))(hl:h1.length=h2.length)
  (e3:w [.tup [.tup h1,a1],.tup [.tup h2,a2]]=.ok .non)(e4:b [.tup [.tup h1,a1],.tup [.tup h2,a2]]=.ok R):wiB c w b si t [.pu (.tup [.tup h1,a1]),.pu (.tup [.tup h2,a2]),.no]=.rt R:=by
 unfold wiB;simp[e1,e2,hl,e3,e4,m3,ot]
theorem zep{c w b si t:List Pu.D→Res}{h1 h2:List Pu.D}{a1 a2 T:Pu.D}{kvs:List (Pu.D×Pu.D)}{xs:List Str}{f:Str→Pu.D}(e1:c [.tup [.tup h1,a1]]=.ok (.tup [.tup h1,a1]))(e2:c [.tup [.tup h2,a2]]=.ok (.tup [.tup h2,a2]))(hl:h1.length=h2.length)
  (e3:w [.tup [.tup h1,a1],.tup [.tup h2,a2]]=.ok (.dct false kvs))(e4:t [a2]=.ok T)(e5:si [T]=.ok (.lst (xs.map Pu.D.str)))(hx:xs.length≤1000)(e6:∀x∈xs,fg kvs (.inr x)=some (f x)):
  wiB c w b si t [.pu (.tup [.tup h1,a1]),.pu (.tup [.tup h2,a2]),.no]=.rt (.tup [.str "way",.lst (xs.map λx=>.tup [.str x,f x])]):=by
 have hc:gz (de (bb si (ae (bb t (ae (g2 ao (af 1) (gC (.int 1))) bc)) bc))) [2] (gC (.bl true)) (jt (ae (cn 0) (ae (g2 ao (af 1) (af 0)) bc))) [.pu (.tup [.tup h1,a1]),.pu (.tup [.tup h2,a2]),.pu (.dct false kvs)]=.ok (.lst (xs.map λx=>.tup [.str x,f x])):=
  q9 (f:=Pu.D.str) (by simp[e4,e5]) (by omega) λx hx'=>by
   have q:ao (.dct false kvs) (.str x)=some (f x):=e6 x hx';simp[ic,q]
 unfold wiB;simp[e1,e2,hl,e3,m3,ot,hc]
theorem Ao(n:Nat):Cq n=wiB (aj (bq n) aq) (aj (bq n) gj) (aj (bq n) cb) (aj (bq n) cm) (aj (bq n) df):=rfl
def zkk(d:Pu.D):Prop:=∃S R,d=.tup [.str "book",S,R]
theorem Vv(n:Nat){one other:kg}(A1:GA one)(i1:i3 one=false):aj (bq (n+7)) fh [aD one,aD other]=.er "NoAsking":=by
 rw[C7,Ao];have c:=zh n A1;rw[i1]at c;exact congrArg gy (zm6 (x:=aD one) (y:=aD other) c)
theorem v9(n:Nat){one other:kg}(A1:GA one)(A2:GA other)(i1:i3 one=true)(i2:i3 other=true)(hl:one.1.length=other.1.length):
  (∀s,Vw one other=some s→aj (bq (n+10)) fh [aD one,aD other]=.ok (.tup [.str "way",r9 (m4 s (jd [] (b8 other.2)))]))∧(Vw one other=none→∃d,zkk d∧aj (bq (n+10)) fh [aD one,aD other]=.ok d):=by
 have c1:=zh (n+3) A1;have c2:=zh (n+3) A2;rw[i1,if_pos rfl]at c1;rw[i2,if_pos rfl]at c2;have w:=Vu n A1.toAskd A2.toAskd;have al:=A2.al;constructor
 ·intro s hs;rw[hs]at w;have e4:=yx (n+8) A2.g (by omega) true;simp only[if_true]at e4;have tl:=y4 λx hx=>(A2.a4 x hx).2;have e5:=yq (n+8) (q8 other.2) (by omega) false;simp only[kAn,if_false]at e5;rw[Kl]at e5;rw[C7,Ao];have xl:(jd [] (b8 other.2)).length≤1000:=by
   have q1:=xy (b8 other.2) [];have q2:=xk λa ha=>(A2.a4 a ha).2;simp at q1;omega
  have r:=zep (b:=aj (bq (n+9)) cb) (a1:=.tup (one.2.map At.D)) (a2:=.tup (other.2.map At.D)) (f:=λx=>((lk s x).getD (.s x)).D) c1 c2 (by rw[kA2,kA2];exact hl) w e4 e5 xl λx hx=>by
   obtain⟨v,ev⟩:=zkl hs (by simpa using(mq x _ []).mp hx);rw[vt,ev];rfl
  refine(congrArg gy r).trans ?_;show Res.ok _=_
  congr 3
  unfold r9 m4;rw[kAw];rfl
 ·intro hs;rw[hs]at w;obtain⟨S,R,e⟩:=zbi (n+5) A1.toAskd A2.toAskd ((lh _).mp i1);refine⟨_,⟨S,R,rfl⟩,?_⟩;rw[C7,Ao];exact congrArg gy (zeo (a1:=.tup (one.2.map At.D)) (a2:=.tup (other.2.map At.D)) c1 c2 (by rw[kA2,kA2];exact hl) w e)
theorem Nu:jn (.str "book") (.str "way")=some (.bl false):=by kernel_rfl
theorem Kn:jn (.str "way") (.str "way")=some (.bl true):=by kernel_rfl
noncomputable def neB(T:GT)(c w o:List Pu.D→Res):En→Out:=(br (fz [0] (m3 (bb c (ae (cn 0) bc))))
 (br (fz [1,0] (Ee 2 w (ae (bb o (ae (af 0) (ae (cn 1) bc))) (ae (cn 0) bc)) (kRb T "NoAsking" false)))
 (d4 (g2 jn (g2 ao (af 2) (gC (.int 0))) (gC (.str "way"))))))
theorem zk6{T:GT}{c w o:List Pu.D→Res}{a l:Pu.D}{k:Int}(hT:T.xs.sub "NoAsking" "NoAsking"=true)(e1:c [a]=.ok a)(e2:o [a,.int k]=.ok l)(e3:w [l,a]=.er "NoAsking"):neB T c w o [.pu a,.pu (.int k),.no]=.rt (.bl false):=by
 unfold neB;simp[e1,e2,e3,m3,Ee,kRb,hT]
theorem zfd{T:GT}{c w o:List Pu.D→Res}{a l d x:Pu.D}{b:Bool}{k:Int}(e1:c [a]=.ok a)(e2:o [a,.int k]=.ok l)(e3:w [l,a]=.ok d)(e4:ao d (.int 0)=some x)(e5:jn x (.str "way")=some (.bl b)):neB T c w o [.pu a,.pu (.int k),.no]=.rt (.bl b):=by
 unfold neB;simp[e1,e2,e3,m3,Ee,e4,e5]
theorem zjq(n:Nat):(bq (n+1)).xs.sub "NoAsking" "NoAsking"=true:=by
 have:(bq (n+1)).xs=xs:=zjr (n+1);rw[this]
 decide+kernel
theorem A0(n:Nat){a:kg}(A:GA a)(i:i3 a=true){k:Nat}(hk:k<a.2.length):aj (bq (n+11)) d7 [aD a,.int (k:Int)]=.ok (.bl (nd a k)):=by
 rw[Ol];have hb:wz (n+10)=neB (bq (n+11)) (aj (bq (n+10)) aq) (aj (bq (n+10)) fh) (aj (bq (n+10)) fi):=rfl;rw[hb];have c:=zh (n+4) A;rw[i,if_pos rfl]at c;have o:=Ey (n+9) (a:=a) k A.al;unfold nd;cases il:i3 (wo a k)with
 |false=>exact congrArg gy (zk6 (a:=aD a) (l:=aD (wo a k)) (zjq (n+10)) c o (Vv (n+3) (A.wo k) il))
 |true=>
  obtain⟨w1,w2⟩:=v9 n (A.wo k) A il i rfl;cases hs:Vw (wo a k) a with
  |some s=>exact congrArg gy (zfd (a:=aD a) (l:=aD (wo a k)) (x:=.str "way") (b:=true) c o (w1 s hs) rfl Kn)
  |none=>
   obtain⟨d,⟨S,R,rfl⟩,e⟩:=w2 hs;exact congrArg gy (zfd (a:=aD a) (l:=aD (wo a k)) (x:=.str "book") (b:=false) c o e rfl Nu)
noncomputable def mgB(la w iw:List Pu.D→Res):En→Out:=(br (gr 2 (jt (ae (g2 ao (af 0) (gC (.int 0))) (ae (g2 cw (Br (g2 ao (af 0) (gC (.int 1))) none (some (cn 1))) (Br (g2 ao (af 0) (gC (.int 1))) (some (g2 cw (af 1) (gC (.int 1)))) none)) bc))))
 (br (ki (i9 (g9 (bb la (ae (af 2) bc)))) (d4 (gC (.bl false))) ia)
 (br (fz [2,0] (gr 3 (bb w (ae (cn 2) (ae (cn 0) bc)))))
 (br (ki (g2 jn (g2 ao (af 3) (gC (.int 0))) (gC (.str "way"))) (d4 (g2 ao (mv (ae (gC .non) (ae (gC (.bl true)) bc))) (g1 Hi (bb iw (ae (g2 ao (af 3) (gC (.int 1))) (ae (af 2) (ae (af 0) bc))))))) ia)
 (d4 (gC (.bl false)))))))
theorem X2{a:kg}{k:Nat}(hl:a.2.length≤6)(v2 v3:Sl):gr 2 (jt (ae (g2 ao (af 0) (gC (.int 0))) (ae (g2 cw (Br (g2 ao (af 0) (gC (.int 1))) none (some (cn 1))) (Br (g2 ao (af 0) (gC (.int 1))) (some (g2 cw (af 1) (gC (.int 1)))) none)) bc))) [.pu (aD a),.pu (.int (k:Int)),v2,v3]=.nx [.pu (aD a),.pu (.int (k:Int)),.pu (aD (wo a k)),v3]:=by
 have c:=Ij a.2 k (by omega);simp[aD,jy,Br,gPt,Cg,Aj,c,wo,-List.map_take,-List.map_drop]
theorem zk0{la w iw:List Pu.D→Res}{a:kg}{k:Nat}(hl:a.2.length≤6)(e1:la [aD (wo a k)]=.ok (.bl false)):mgB la w iw [.pu (aD a),.pu (.int (k:Int)),.no,.no]=.rt (.bl false):=by
 unfold mgB;rw[Bd,X2 hl];simp[e1]
theorem zcb{la w iw:List Pu.D→Res}{a:kg}{k:Nat}{d x:Pu.D}(hl:a.2.length≤6)(e1:la [aD (wo a k)]=.ok (.bl true))(e2:w [aD (wo a k),aD a]=.ok d)(e4:ao d (.int 0)=some x)(e5:jn x (.str "way")=some (.bl false)):mgB la w iw [.pu (aD a),.pu (.int (k:Int)),.no,.no]=.rt (.bl false):=by
 unfold mgB;rw[Bd,X2 hl];simp[e1,e2,e4,e5]
theorem zhe{la w iw:List Pu.D→Res}{a:kg}{k:Nat}{W:Pu.D}(hl:a.2.length≤6)(e1:la [aD (wo a k)]=.ok (.bl true))(e2:w [aD (wo a k),aD a]=.ok (.tup [.str "way",W]))(e3:iw [W,aD (wo a k),aD a]=.ok (.bl true)):mgB la w iw [.pu (aD a),.pu (.int (k:Int)),.no,.no]=.rt (.bl true):=by
 have i1:ao (.lst [.non,.bl true]) (.int 1)=some (.bl true):=rfl;have t1:Hi (.bl true)=some (.int 1):=rfl;unfold mgB;rw[Bd,X2 hl];simp[e1,e2,e3,Kn,i1,t1]
theorem Mc(n:Nat){a:kg}(A:GA a)(i:i3 a=true){k:Nat}:aj (bq (n+11)) cc [aD a,.int (k:Int)]=.ok (.bl (nd a k)):=by
 rw[Ip];have hb:sf (n+10)=mgB (aj (bq (n+10)) bp) (aj (bq (n+10)) fh) (aj (bq (n+10)) cx):=rfl;rw[hb];have l:=zb5 (n+7) (A.wo k);unfold nd;cases il:i3 (wo a k)with
 |false=>
  rw[il]at l;exact congrArg gy (zk0 (k:=k) A.al l)
 |true=>
  rw[il]at l;obtain⟨w1,w2⟩:=v9 n (A.wo k) A il i rfl;cases hs:Vw (wo a k) a with
  |some s=>exact congrArg gy (zhe (k:=k) A.al l (w1 s hs) (Dj (n+8) (A.wo k).toAskd A.toAskd ((lh _).mp i) hs))
  |none=>
   obtain⟨d,⟨S,R,rfl⟩,e⟩:=w2 hs;exact congrArg gy (zcb (k:=k) (x:=.str "book") A.al l e rfl Nu)
noncomputable def lnC:En→Res:=(g2 u7 (af 2) (g1 fc (g2 ao (af 1) (gC (.int 1)))))
noncomputable def lnB(nf wf:List Pu.D→Res):En→Out:=(fz [1,2] (ki (g9 (bb nf (ae (cn 1) (ae (cn 2) bc)))) (fz [2] (gr 1 (bb wf (ae (af 1) (ae (cn 2) bc))))) (P8 2 (λa b=>a+b) (gC (.int 1)))))
theorem Yb{a:kg}{k:Nat}(h:nd a k=true):i3 (wo a k)=true:=by
 unfold nd at h;rw[kA4]at h;exact h.1
theorem Rz{a:kg}{k:Nat}(v0:Sl):lnC [v0,.pu (aD a),.pu (.int (k:Int))]=.ok (.bl (decide (k<a.2.length))):=by
 have:decide ((k:Int)<(a.2.length:Int))=decide (k<a.2.length):=by
  by_cases h:k<a.2.length
  ·rw[decide_eq_true h,decide_eq_true (by omega)]
  ·rw[decide_eq_false h,decide_eq_false (by omega)]
 simp[lnC,aD,jy,this]
theorem y9{c:En→Res}{F:En→Out}{n:Nat}{δ δ':En}(h1:c δ=.ok (.bl true))(h2:F δ=.nx δ'):nh c F (n+1) δ=nh c F n δ':=by
 show(c δ).then _=_;rw[h1];show(match F δ with
  |.nx δ'=>nh c F n δ'
  |.ct δ'=>nh c F n δ'
  |.bk δ'=>.nx δ'
  |o=>o)=_
 rw[h2]
theorem y8{c:En→Res}{F:En→Out}{n:Nat}{δ:En}(h1:c δ=.ok (.bl false)):nh c F (n+1) δ=.nx δ:=by
 show(c δ).then _=_;rw[h1];rfl
theorem zw{nf wf:List Pu.D→Res}(v0:Sl)(H1:∀(a:kg)(k:Nat),GA a→i3 a=true→k<a.2.length→nf [aD a,.int (k:Int)]=.ok (.bl (nd a k)))(H2:∀(a:kg)(k:Nat),a.2.length≤6→wf [aD a,.int (k:Int)]=.ok (aD (wo a k))):
  ∀(n:Nat)(a:kg)(k m:Nat),GA a→i3 a=true→k≤a.2.length→2 * a.2.length≤n+k→∃k':Nat,nh lnC (lnB nf wf) (m+(n+1)) [v0,.pu (aD a),.pu (.int (k:Int))]=.nx [v0,.pu (aD (mf n a k)),.pu (.int (k':Int))]
 |0,a,k,m,A,i,h1,h2=>by
  refine⟨k,?_⟩;have c:=Rz (a:=a) (k:=k) v0;rw[decide_eq_false (by omega)]at c;exact y8 c
 |n+1,a,k,m,A,i,h1,h2=>by
  have c:=Rz (a:=a) (k:=k) v0;unfold mf
  by_cases hk:k<a.2.length
  ·rw[if_pos hk];rw[decide_eq_true hk]at c;have e:=H1 a k A i hk;cases hn:nd a k with
   |true=>
    rw[hn]at e;have e2:=H2 a k A.al;have w:=Qu hk;have eb:lnB nf wf [v0,.pu (aD a),.pu (.int (k:Int))]=.nx [v0,.pu (aD (wo a k)),.pu (.int (k:Int))]:=by
     simp[lnB,e,e2]
    obtain⟨k',q⟩:=zw v0 H1 H2 n (wo a k) k m (A.wo k) (Yb hn) (by omega) (by omega);refine⟨k',?_⟩;rw[show m+(n+1+1)=(m+(n+1))+1 by omega,y9 c eb,q];rfl
   |false=>
    rw[hn]at e;have eb:lnB nf wf [v0,.pu (aD a),.pu (.int (k:Int))]=.nx [v0,.pu (aD a),.pu (.int ((k+1:Nat):Int))]:=by
     simp[lnB,e,P8]
    obtain⟨k',q⟩:=zw v0 H1 H2 n a (k+1) m A i hk (by omega);refine⟨k',?_⟩;rw[show m+(n+1+1)=(m+(n+1))+1 by omega,y9 c eb,q];rfl
  ·rw[if_neg hk];rw[decide_eq_false hk]at c;exact⟨k,y8 c⟩
noncomputable def leB(c nf wf:List Pu.D→Res):En→Out:=(br (fz [0] (m3 (bb c (ae (cn 0) bc))))
 (br (fz [0] (gr 1 (cn 0)))
 (br (gr 2 (gC (.int 0)))
 (br (fz [] (sWh lnC (lnB nf wf)))
 (fz [1] (d4 (cn 1)))))))
theorem zg8{c nf wf:List Pu.D→Res}{a L:Pu.D}{k:Int}(e1:c [a]=.ok a)(e2:sWh lnC (lnB nf wf) [.pu a,.pu a,.pu (.int 0)]=.nx [.pu a,.pu L,.pu (.int k)]):leB c nf wf [.pu a,.no,.no]=.rt L:=by
 unfold leB;simp[e1,e2,m3]
noncomputable def ma(a:kg):kg:=mf 12 a 0
theorem zb8(n:Nat){a:kg}(A:GA a)(i:i3 a=true):aj (bq (n+12)) jm [aD a]=.ok (aD (ma a)):=by
 rw[zgg];have hb:N0 (n+11)=leB (aj (bq (n+11)) aq) (aj (bq (n+11)) d7) (aj (bq (n+11)) fi):=rfl;rw[hb];have c:=zh (n+5) A;rw[i,if_pos rfl]at c;have al:=A.al;obtain⟨k',q⟩:=zw (nf:=aj (bq (n+11)) d7) (wf:=aj (bq (n+11)) fi) (.pu (aD a)) (λb k B ib hk=>A0 n B ib hk) (λb k hl=>Ey (n+10) k hl) 12 a 0 999987 A i (kAl _) (by omega);exact congrArg gy (zg8 (a:=aD a) c q)
theorem zk3(j:Nat)(h:j<3):∃x,x∈good∧mz (.str "w") (.int (1+(j:Int)))=some (.str x):=by
 have:j=0∨j=1∨j=2:=by omega
 rcases this with rfl|rfl|rfl
 ·exact⟨"w",by decide+kernel,by kernel_rfl⟩
 ·exact⟨"ww",by decide+kernel,by kernel_rfl⟩
 ·exact⟨"www",by decide+kernel,by kernel_rfl⟩
theorem zgn{x:Str}{hd:List Tm}(hx:PyData.strOk x=true)(h:∀t∈hd,t.w):∃b,i8 (.str x) (.tup (hd.map Tm.D))=some (.bl b):=by
 refine⟨!((hd.map Tm.P).any λy=>PyData.eqv y (.str x)),?_⟩;have e:A7 (.str x) (.tup (hd.map Tm.D))=some ((hd.map Tm.P).any λy=>PyData.eqv y (.str x)):=by
  show(match gw (hd.map Tm.D),ij (.str x)with
   |some ps,some q=>if PyData.canLayAll0 ps && SeqAt.shaped q then some (ps.any λy=>PyData.eqv y q)else none
   |_,_=>none)=_
  rw[rq];show(if PyData.canLayAll0 (hd.map Tm.P) && SeqAt.shaped (.str x)then _ else none)=_;rw[vp h,o4 (p:=.str x) hx (kAl _)];rfl
 unfold i8;rw[e];rfl
noncomputable def moB(mx:List Pu.D→Res):En→Out:=(br (ki (m6 (g9 (g1 (cq "str") (af 5))) (m6 (g2 i8 (af 5) (g2 ao (af 1) (gC (.int 0)))) (g2 jn (bb mx (ae (af 0) (ae (g2 cw (gC (.int 62)) (af 4)) (ae (gC (.int 2)) bc)))) (gC (.int 1))))) (gr 5 (g2 mz (gC (.str "w")) (g2 cw (gC (.int 1)) (af 4)))) ia)
 (fz [5] (B2 3 (cn 5))))
theorem zcc{mx:List Pu.D→Res}{ns:List Int}{a:kg}{v2 v6:Sl}{t:Tm}{acc:List Tm}{j:Nat}(Hm:∀z:Int,0≤z→mx [ud ns,.int z,.int 2]=.ok (.int (me ns z 2)))(hh:∀t∈a.1,t.w)(ht:t.good)(hj:j<3)(hl:acc.length≤1000):
  ∃t':Tm,t'.good∧moB mx [.bo (ud ns),.pu (aD a),v2,.ow (acc.map Tm.D),.pu (.int (j:Int)),.pu t.D,v6]=.nx [.bo (ud ns),.pu (aD a),v2,.ow ((acc++[t']).map Tm.D),.pu (.int (j:Int)),.pu t'.D,v6]:=by
 have hlt:acc.length<16777216:=by omega
 cases t with
 |i z=>exact⟨.i z,trivial,by simp[moB,Tm.D,hlt]⟩
 |s x=>
  obtain⟨b,hb⟩:=zgn (ht:(Tm.s x).good).w hh;have hm:=Hm (62+(j:Int)) (by omega);cases b with
  |false=>exact⟨.s x,ht,by simp[moB,Tm.D,hlt,aD,jy,hb]⟩
  |true=>
   by_cases h1:me ns (62+(j:Int)) 2=1
   ·obtain⟨y,hy,ey⟩:=zk3 j hj;rw[h1]at hm;exact⟨.s y,decide_eq_true hy,by simp[moB,Tm.D,hlt,aD,jy,hb,hm,ey]⟩
   ·have h1':(me ns (62+(j:Int)) 2==1)=false:=by simpa using h1
    exact⟨.s x,ht,by simp[moB,Tm.D,hlt,aD,jy,hb,hm,h1']⟩
theorem R5{mx:List Pu.D→Res}{ns:List Int}{a:kg}(v2 v6:Sl)(Hm:∀z:Int,0≤z→mx [ud ns,.int z,.int 2]=.ok (.int (me ns z 2)))(hh:∀t∈a.1,t.w):∀(ts acc:List Tm)(j:Nat)(v4 v5:Sl),(∀t∈ts,t.good)→(∀t∈acc,t.good)→j+ts.length≤3→acc.length+ts.length≤900→
  ∃(acc':List Tm) (w4 w5:Sl),(∀t∈acc',t.good)∧acc'.length=acc.length+ts.length∧gx (yc [4,5]) (moB mx) (ni j (ts.map Tm.D)) [.bo (ud ns),.pu (aD a),v2,.ow (acc.map Tm.D),v4,v5,v6]=.nx [.bo (ud ns),.pu (aD a),v2,.ow (acc'.map Tm.D),w4,w5,v6]
 |[],acc,j,v4,v5,_,ha,_,_=>⟨acc,v4,v5,ha,by simp,rfl⟩
 |t::ts,acc,j,v4,v5,ht,ha,hj,hl=>by
  rw[kA5]at hj hl;obtain⟨t',g',e⟩:=zcc (v2:=v2) (v6:=v6) (t:=t) (acc:=acc) (j:=j) Hm hh (ht t kA6) (by omega) (by omega);obtain⟨acc',w4,w5,q1,q2,q3⟩:=R5 v2 v6 Hm hh ts (acc++[t']) (j+1) (.pu (.int (j:Int))) (.pu t'.D) (λu hu=>ht u (kA7 _ hu)) (λu hu=>by
   rcases List.mem_append.mp hu with hu|hu
   ·exact ha u hu
   ·rw[List.mem_singleton.mp hu];exact g') (by omega) (by rw[kAf];simp;omega)
  refine⟨acc',w4,w5,q1,by rw[q2];simp;omega,?_⟩;rw[kA0,ni,fy (δ1:=[.bo (ud ns),.pu (aD a),v2,.ow (acc.map Tm.D),.pu (.int (j:Int)),.pu t.D,v6]) rfl,e];exact q3
theorem Ww{hd:List Tm}{as:List At}(D:Drawn hd as):GA (hd,as)∧IsAsk (hd,as):=by
 have tg:∀{t:Tm},t.ok→t.good:=λ{t} h=>by
  cases t with
  |s x=>
   have:∀y∈Be,F4 y=true:=by decide+kernel
   exact this x h
  |i z=>trivial
 have ag:∀a∈as,a.good:=λa ha=>by
  obtain⟨h1,h2⟩:=D.ok a ha;have l:=V7 (D.ok a ha);have hn:F4 a.nm=true:=by
   rcases h1 with ⟨e,_⟩|⟨e,_⟩|⟨e,_⟩<;>rw[e]<;>decide+kernel
  exact⟨hn,l.1,by omega,λt ht=>tg (h2 t ht)⟩
 have hx:∀{x:Str},x∈b8 as→(Tm.s x).good:=λ{x} h=>by
  obtain⟨a,ha,m⟩:=jr.mp h;exact(ag a ha).2.2.2 _ m
 refine⟨⟨⟨λt ht=>?_,ag,by have:=D.hl;show hd.length≤4;omega,by have:=D.len;show as.length≤6;omega⟩,λa ha=>(D.ok a ha).1⟩,λz=>?_,λx hx=>?_⟩
 ·rcases D.ho t ht with ⟨z,rfl,_⟩|⟨x,rfl,m⟩
  ·trivial
  ·exact hx m
 ·have:=D.len;have z':as=[]:=z;rw[z']at this;simp at this
 ·rcases D.ho _ hx with ⟨z,e,_⟩|⟨y,e,m⟩
  ·cases e
  ·cases e;exact jr.mp m
theorem zow{as:List At}{k:Nat}(h:k<as.length):ao (.tup (as.map At.D)) (.int (k:Int))=some (as[k].D):=by
 show L2.atI (as.map At.D) (k:Int)=_;exact L2.B3 (by rw[kAr,kB4 h];rfl)
noncomputable def mrB(mx:List Pu.D→Res):En→Out:=(br (ki (g2 jn (bb mx (ae (af 0) (ae (gC (.int 60)) (ae (gC (.int 2)) bc)))) (gC (.int 0))) (fz [1] (d4 (cn 1))) ia)
 (br (gr 2 (bb mx (ae (af 0) (ae (gC (.int 61)) (ae (g1 fc (g2 ao (af 1) (gC (.int 1)))) bc)))))
 (br (qg 3 (mv bc))
 (br (i5 (yc [4,5]) (ur (g2 ao (g2 ao (g2 ao (af 1) (gC (.int 1))) (af 2)) (gC (.int 1)))) (moB mx))
 (br (gr 6 (jt (ae (g2 ao (g2 ao (g2 ao (af 1) (gC (.int 1))) (af 2)) (gC (.int 0))) (ae (g1 ku (af 3)) bc))))
 (fz [6] (d4 (jt (ae (g2 ao (af 1) (gC (.int 0))) (ae (g2 cw (g2 cw (Br (g2 ao (af 1) (gC (.int 1))) none (some (cn 2))) (jt (ae (cn 6) bc))) (Br (g2 ao (af 1) (gC (.int 1))) (some (cn 2)) none)) bc))))))))))
theorem zcd(n:Nat)(ns:List Int){hd:List Tm}{as:List At}(D:Drawn hd as):∃a:kg,GA a∧IsAsk a∧aj (bq (n+3)) fk [ud ns,jy hd as]=.ok (aD a):=by
 obtain⟨A,I⟩:=Ww D;have hb:wu (n+2)=mrB (aj (bq (n+2)) bg):=rfl;have Hm:∀(z m:Int),0≤z→0<m→aj (bq (n+2)) bg [ud ns,.int z,.int m]=.ok (.int (me ns z m)):=λz m hz hm=>mw n ns z m hz hm;rw[Oh,hb];generalize aj (bq (n+2)) bg=mx at Hm;have ent:fb [true,false] [ud ns,jy hd as]++kAa (7 - [ud ns,jy hd as].length) .no=[.bo (ud ns),.pu (jy hd as),.no,.no,.no,.no,.no]:=rfl;rw[ent];have m0:=Hm 60 2 (by decide) (by decide)
 by_cases h0:me ns 60 2=0
 ·rw[h0]at m0;exact⟨(hd,as),A,I,by simp[mrB,m0]⟩
 ·have h0':(me ns 60 2==0)=false:=by simpa using h0
  have lp:0<as.length:=by have:=D.len;omega
  have m1:=Hm 61 (as.length:Int) (by decide) (by omega);obtain⟨r0,r1⟩:=j8 ns 61 (as.length:Int) (by omega);obtain⟨k,hk⟩:∃k:Nat,me ns 61 (as.length:Int)=(k:Int):=⟨(me ns 61 (as.length:Int)).toNat,by omega⟩;rw[hk]at m1 r1;have hkl:k<as.length:=by omega
  have ga:=A.g as[k] (List.getElem_mem hkl);have sa:=A.sh as[k] (List.getElem_mem hkl);have l3:as[k].ts.length≤3:=by rcases sa with ⟨_,e⟩|⟨_,e⟩|⟨_,e⟩<;>omega
  obtain⟨acc,w4,w5,q1,q2,q3⟩:=R5 (a:=(hd,as)) (.pu (.int (k:Int))) .no (λz hz=>Hm z 2 hz (by decide)) A.hw as[k].ts [] 0 .no .no ga.2.2.2 (by simp) (by omega) (by simp;omega);have ix:=zow hkl;have hf:i5 (yc [4,5]) (ur (g2 ao (g2 ao (g2 ao (af 1) (gC (.int 1))) (af 2)) (gC (.int 1)))) (moB mx) [.bo (ud ns),.pu (jy hd as),.pu (.int (k:Int)),.ow [],.no,.no,.no]=.nx [.bo (ud ns),.pu (jy hd as),.pu (.int (k:Int)),.ow (acc.map Tm.D),w4,w5,.no]:=(iz (ds:=ni 0 (as[k].ts.map Tm.D)) (by
   have ix':ao (.tup (as.map At.D)) (.int (k:Int))=some (.tup [.str as[k].nm,.tup (as[k].ts.map Tm.D)]):=ix;simp[ur,jy,ix',zi5])).trans q3
  have al:=D.len;have t1:=Cg (as.map At.D) k;have t2:=S2 (as.map At.D) k;have a1:cw (.tup ((as.map At.D).take k)) (.tup [(At.mk as[k].nm acc).D])=some (.tup ((as.map At.D).take k++[(At.mk as[k].nm acc).D])):=V2 (by rw[List.length_take,kA2];simp;omega);have a2:cw (.tup ((as.map At.D).take k++[(At.mk as[k].nm acc).D])) (.tup ((as.map At.D).drop k))=some (.tup ((as.map At.D).take k++[(At.mk as[k].nm acc).D]++(as.map At.D).drop k)):=V2 (by rw[kAf,List.length_take,List.length_drop,kA2];simp;omega);have em:(as.map At.D).take k++[(At.mk as[k].nm acc).D]++(as.map At.D).drop k=(as.take k++[At.mk as[k].nm acc]++as.drop k).map At.D:=by simp
  rw[em]at a2;have mem:∀x∈as.take k++[At.mk as[k].nm acc]++as.drop k,x∈as∨x=At.mk as[k].nm acc:=λx hx=>by
   rcases List.mem_append.mp hx with hx|hx
   ·rcases List.mem_append.mp hx with hx|hx
    ·exact .inl (List.mem_of_mem_take hx)
    ·exact .inr (List.mem_singleton.mp hx)
   ·exact .inl (List.mem_of_mem_drop hx)
  have back:∀x∈as,x∈as.take k++[At.mk as[k].nm acc]++as.drop k:=λx hx=>by
   have:x∈as.take k++as.drop k:=by rw[List.take_append_drop];exact hx
   rcases List.mem_append.mp this with h|h
   ·exact List.mem_append_left _ (List.mem_append_left _ h)
   ·exact kB0 _ h
  have q2':acc.length=as[k].ts.length:=by simpa using q2
  refine⟨(hd,as.take k++[At.mk as[k].nm acc]++as.drop k),⟨⟨A.h,λx hx=>?_,A.hl,?_⟩,λx hx=>?_⟩,I.sub rfl back,?_⟩
  ·rcases mem x hx with h|rfl
   ·exact A.g x h
   ·exact⟨ga.1,by show 1≤acc.length;rw[q2'];exact ga.2.1,by show acc.length≤4;rw[q2'];exact ga.2.2.1,q1⟩
  ·show(as.take k++[At.mk as[k].nm acc]++as.drop k).length≤6;rw[kAf,kAf,List.length_take,List.length_drop];simp;omega
  ·rcases mem x hx with h|rfl
   ·exact A.sh x h
   ·have:=sa;unfold Sh at this⊢;dsimp only;rw[q2'];exact this
  ·have ix':ao (.tup (as.map At.D)) (.int (k:Int))=some (.tup [.str as[k].nm,.tup (as[k].ts.map Tm.D)]):=ix;have a1':cw (.tup ((as.map At.D).take k)) (.tup [.tup [.str as[k].nm,.tup (acc.map Tm.D)]])=_:=a1;unfold jy at hf;unfold mrB;simp only[Bd,zmu,zat,zar,Qr,Qs,zfs,v_c,kB3,List.getElem?_cons_zero,m0,Am,zmq,h0',An,r8,zfu,zav,zek,jy,zem,zen,kA2,m1,List.set_cons_succ,List.set_cons_zero,zaw,zft,List.length_nil,kAl,if_true];rw[hf];simp[ix',Br,gPt,t1,t2,a1',a2,aD,jy,-List.map_take,-List.map_drop,-List.map_append]
theorem zfc(b:Bool):jl (.bl b) (.bl b)=some (.bl false):=by cases b<;>rfl
noncomputable def lwC:En→Res:=(g2 u7 (af 3) (g1 fc (g2 ao (af 2) (gC (.int 1)))))
noncomputable def lwB(mg ne:List Pu.D→Res):En→Out:=(br (fz [2,3] (gr 4 (bb mg (ae (cn 2) (ae (cn 3) bc)))))
 (br (fz [2,3] (gr 5 (bb ne (ae (cn 2) (ae (cn 3) bc)))))
 (br (ki (wj (g2 qf (af 4) (gC .non)) (wj (i9 (g9 (g1 (cq "bool") (af 5)))) (g2 jl (af 5) (af 4)))) (d4 (gC (.bl false))) ia)
 (ki (g9 (af 5)) (gr 2 (jt (ae (g2 ao (af 2) (gC (.int 0))) (ae (g2 cw (Br (g2 ao (af 2) (gC (.int 1))) none (some (cn 3))) (Br (g2 ao (af 2) (gC (.int 1))) (some (g2 cw (af 3) (gC (.int 1)))) none)) bc)))) (gr 3 (g2 cw (af 3) (gC (.int 1))))))))
theorem R0{a:kg}{k:Nat}(v0 v1 v4 v5 v6 v7 v8:Sl):lwC [v0,v1,.pu (aD a),.pu (.int (k:Int)),v4,v5,v6,v7,v8]=.ok (.bl (decide (k<a.2.length))):=by
 have:decide ((k:Int)<(a.2.length:Int))=decide (k<a.2.length):=by
  by_cases h:k<a.2.length
  ·rw[decide_eq_true h,decide_eq_true (by omega)]
  ·rw[decide_eq_false h,decide_eq_false (by omega)]
 simp[lwC,aD,jy,this]
theorem Dn{mg ne:List Pu.D→Res}(v0 v1 v6 v7 v8:Sl)(H1:∀(a:kg)(k:Nat),GA a→i3 a=true→mg [aD a,.int (k:Int)]=.ok (.bl (nd a k)))(H2:∀(a:kg)(k:Nat),GA a→i3 a=true→k<a.2.length→ne [aD a,.int (k:Int)]=.ok (.bl (nd a k))):
  ∀(n:Nat)(a:kg)(k m:Nat)(v4 v5:Sl),GA a→i3 a=true→k≤a.2.length→2 * a.2.length≤n+k→∃(k':Nat) (w4 w5:Sl),nh lwC (lwB mg ne) (m+(n+1)) [v0,v1,.pu (aD a),.pu (.int (k:Int)),v4,v5,v6,v7,v8]=.nx [v0,v1,.pu (aD (mf n a k)),.pu (.int (k':Int)),w4,w5,v6,v7,v8]
 |0,a,k,m,v4,v5,A,i,h1,h2=>by
  refine⟨k,v4,v5,?_⟩;have c:=R0 (a:=a) (k:=k) v0 v1 v4 v5 v6 v7 v8;rw[decide_eq_false (by omega)]at c;exact y8 c
 |n+1,a,k,m,v4,v5,A,i,h1,h2=>by
  have c:=R0 (a:=a) (k:=k) v0 v1 v4 v5 v6 v7 v8;unfold mf
  by_cases hk:k<a.2.length
  ·rw[if_pos hk];rw[decide_eq_true hk]at c;have e1:=H1 a k A i;have e2:=H2 a k A i hk;cases hn:nd a k with
   |true=>
    rw[hn]at e1 e2;have w:=Qu hk;have cu:=Ij a.2 k (by have:=A.al;omega);have eb:lwB mg ne [v0,v1,.pu (aD a),.pu (.int (k:Int)),v4,v5,v6,v7,v8]=.nx [v0,v1,.pu (aD (wo a k)),.pu (.int (k:Int)),.pu (.bl true),.pu (.bl true),v6,v7,v8]:=by
     unfold aD jy at e1 e2;simp[lwB,e1,e2,ot,zfc,aD,jy,Br,gPt,Cg,Aj,cu,wo,-List.map_take,-List.map_drop]
    obtain⟨k',w4,w5,q⟩:=Dn v0 v1 v6 v7 v8 H1 H2 n (wo a k) k m (.pu (.bl true)) (.pu (.bl true)) (A.wo k) (Yb hn) (by omega) (by omega);refine⟨k',w4,w5,?_⟩;rw[show m+(n+1+1)=(m+(n+1))+1 by omega,y9 c eb,q];rfl
   |false=>
    rw[hn]at e1 e2;have eb:lwB mg ne [v0,v1,.pu (aD a),.pu (.int (k:Int)),v4,v5,v6,v7,v8]=.nx [v0,v1,.pu (aD a),.pu (.int ((k+1:Nat):Int)),.pu (.bl false),.pu (.bl false),v6,v7,v8]:=by
     simp[lwB,e1,e2,ot,zfc]
    obtain⟨k',w4,w5,q⟩:=Dn v0 v1 v6 v7 v8 H1 H2 n a (k+1) m (.pu (.bl false)) (.pu (.bl false)) A i hk (by omega);refine⟨k',w4,w5,?_⟩;rw[show m+(n+1+1)=(m+(n+1))+1 by omega,y9 c eb,q];rfl
  ·rw[if_neg hk];rw[decide_eq_false hk]at c;exact⟨k,v4,v5,y8 c⟩
noncomputable def lkB(mg:List Pu.D→Res):En→Out:=(fz [2,7] (ki (g2 j9 (bb mg (ae (cn 2) (ae (cn 7) bc))) (gC (.bl false))) (d4 (gC (.bl false))) ia))
theorem Ry{mg:List Pu.D→Res}{L:kg}(v0 v1 v3 v4 v5 v6 v8:Sl):∀(l:List Int)(v7:Sl),(∀j∈l,mg [aD L,.int j]=.ok (.bl false))→∃w7,gx (bz 7) (lkB mg) (l.map Pu.D.int) [v0,v1,.pu (aD L),v3,v4,v5,v6,v7,v8]=.nx [v0,v1,.pu (aD L),v3,v4,v5,v6,w7,v8]
 |[],v7,_=>⟨v7,rfl⟩
 |j::l,v7,h=>by
  obtain⟨w7,q⟩:=Ry v0 v1 v3 v4 v5 v6 v8 l (.pu (.int j)) λi hi=>h i (kA7 _ hi);refine⟨w7,?_⟩;have e:=h j kA6;have n1:j9 (.bl false) (.bl false)=some (.bl false):=rfl;have eb:lkB mg [v0,v1,.pu (aD L),v3,v4,v5,v6,.pu (.int j),v8]=.nx [v0,v1,.pu (aD L),v3,v4,v5,v6,.pu (.int j),v8]:=by
   simp[lkB,e,n1]
  rw[kA0,fy (δ1:=[v0,v1,.pu (aD L),v3,v4,v5,v6,.pu (.int j),v8]) rfl,eb];exact q
noncomputable def zg6(mo ak mg ne le wi iw:List Pu.D→Res):En→Out:=(br (gr 1 (bb mo (ae (af 0) (ae (bb ak (ae (af 0) (ae (gC (.int 0)) (ae (gC (.int 4)) bc)))) bc))))
 (br (fz [1] (gr 2 (cn 1)))
 (br (gr 3 (gC (.int 0)))
 (br (fz [] (sWh lwC (lwB mg ne)))
 (br (fz [1] (gr 6 (bb le (ae (cn 1) bc))))
 (br (ki (g2 jl (af 6) (af 2)) (d4 (gC (.bl false))) ia)
 (br (i5 (bz 7) (j7 (ae (g1 fc (g2 ao (af 2) (gC (.int 1)))) bc)) (lkB mg))
 (br (fz [6,1] (gr 8 (bb wi (ae (cn 6) (ae (cn 1) bc)))))
 (br (ki (wj (g2 jl (g2 ao (af 8) (gC (.int 0))) (gC (.str "way"))) (i9 (g9 (bb iw (ae (g2 ao (af 8) (gC (.int 1))) (ae (af 6) (ae (af 1) bc))))))) (d4 (gC (.bl false))) ia)
 (br (fz [1,6] (gr 8 (bb wi (ae (cn 1) (ae (cn 6) bc)))))
 (d4 (m6 (g2 jn (g2 ao (af 8) (gC (.int 0))) (gC (.str "way"))) (bb iw (ae (g2 ao (af 8) (gC (.int 1))) (ae (af 1) (ae (af 6) bc))))))))))))))))
theorem zjn:jl (.str "way") (.str "way")=some (.bl false):=by kernel_rfl
theorem zb7{mo ak mg ne le wi iw:List Pu.D→Res}{S K W1 W2:Pu.D}{A L:kg}{k:Int}{w3 w4 w5 w7:Sl}(e1:ak [S,.int 0,.int 4]=.ok K)(e2:mo [S,K]=.ok (aD A))
  (e3:sWh lwC (lwB mg ne) [.pu S,.pu (aD A),.pu (aD A),.pu (.int 0),.no,.no,.no,.no,.no]=.nx [.pu S,.pu (aD A),.pu (aD L),w3,w4,w5,.no,.no,.no])(e4:le [aD A]=.ok (aD L))(e5:jl (aD L) (aD L)=some (.bl false))
  (e6:i5 (bz 7) (j7 (ae (g1 fc (g2 ao (af 2) (gC (.int 1)))) bc)) (lkB mg) [.pu S,.pu (aD A),.pu (aD L),w3,w4,w5,.pu (aD L),.no,.no]=.nx [.pu S,.pu (aD A),.pu (aD L),w3,w4,w5,.pu (aD L),w7,.no])
  (e7:wi [aD L,aD A]=.ok (.tup [.str "way",W1])) (e8:iw [W1,aD L,aD A]=.ok (.bl true)) (e9:wi [aD A,aD L]=.ok (.tup [.str "way",W2])) (e10:iw [W2,aD A,aD L]=.ok (.bl true)):
  zg6 mo ak mg ne le wi iw [.pu S,.no,.no,.no,.no,.no,.no,.no,.no]=.rt (.bl true):=by
 unfold zg6;generalize sWh lwC (lwB mg ne)=WH at e3⊢;generalize i5 (bz 7) (j7 (ae (g1 fc (g2 ao (af 2) (gC (.int 1)))) bc)) (lkB mg)=FR at e6⊢;generalize aD A=DA at *;generalize aD L=DL at *;simp -implicitDefEqProofs [e1,e2,e3,e4,e5,e6,e7,e8,e9,e10,zjn,Kn]
theorem zb6(n:Nat)(ns:List Int):aj (bq (n+13)) j6 [ud ns]=.ok (.bl true):=by
 obtain⟨hd,as,D,ea⟩:=Ti (n+7) ns 0 4 (by decide) (by decide) (by decide);obtain⟨A,GA1,IA,em⟩:=zcd (n+9) ns D;have iA:=(lh A).mpr IA;have al:=GA1.al;obtain⟨q1,q2,q3,q4,φ,q5⟩:=Jg A 12 A 0 (by omega) IA (λj hj=>by omega) rfl (λx hx=>hx) ⟨Tm.s,Xk rfl λx hx=>hx⟩ (kAl _);have gl:GA (ma A):=⟨⟨λt ht=>GA1.h t (by rw[←q3];exact ht),λx hx=>GA1.g x (q4 x hx),by rw[show(ma A).1=A.1 from q3];exact GA1.hl,by
  have:∀(n:Nat)(a:kg)(k:Nat),(mf n a k).2.length≤a.2.length:=λn=>by
   induction n with
   |zero=>intro a k;exact kA1 _
   |succ n ih=>
    intro a k;unfold mf;split
    ·split
     ·exact kAk (ih _ _) (List.length_eraseIdx_le ..)
     ·exact ih _ _
    ·exact kA1 _
  exact kAk (this 12 A 0) al⟩,λx hx=>GA1.sh x (q4 x hx)⟩
 have iL:i3 (ma A)=true:=(lh _).mpr q2;have el:=zb8 n GA1 iA;obtain⟨k',w4,w5,e3⟩:=Dn (mg:=aj (bq (n+12)) cc) (ne:=aj (bq (n+12)) d7) (.pu (ud ns)) (.pu (aD A)) .no .no .no (λa k B ib=>Mc (n+1) B ib) (λa k B ib hk=>A0 (n+1) B ib hk) 12 A 0 999987 .no .no GA1 iA (kAl _) (by omega);have e5:=zhg (a:=ma A) (b:=ma A) gl.hw gl.aw gl.hw gl.aw;rw[decide_eq_true rfl]at e5;obtain⟨w7,t6⟩:=Ry (mg:=aj (bq (n+12)) cc) (L:=ma A) (.pu (ud ns)) (.pu (aD A)) (.pu (.int (k':Int))) w4 w5 (.pu (aD (ma A))) .no (tq (ma A).2.length) .no λj hj=>by
  obtain⟨j0,j1⟩:=Hj hj;obtain⟨i,rfl⟩:∃i:Nat,j=(i:Int):=⟨j.toNat,by omega⟩;have:=Mc (n+1) gl iL (k:=i);have z:nd (ma A) i=false:=q1 i (by have:(ma A).2.length=(mf 12 A 0).2.length:=rfl;omega);rw[z]at this;exact this
 have e6:i5 (bz 7) (j7 (ae (g1 fc (g2 ao (af 2) (gC (.int 1)))) bc)) (lkB (aj (bq (n+12)) cc)) [.pu (ud ns),.pu (aD A),.pu (aD (ma A)),.pu (.int (k':Int)),w4,w5,.pu (aD (ma A)),.no,.no]=_:=(iz (ds:=(tq (ma A).2.length).map Pu.D.int) (by
  have hl:=gl.al;rw[y7 _ _ (j':=((ma A).2.length:Int)) (by simp[aD,jy]) (by omega),Int.toNat_natCast,Na])).trans t6
 have s1:=vg (one:=ma A) (other:=A) q5;obtain⟨s,hs⟩:=Option.isSome_iff_exists.mp s1;have s2:=vg (one:=A) (other:=ma A) (Xk q3 q4);obtain⟨s',hs'⟩:=Option.isSome_iff_exists.mp s2;have w1:=(v9 (n+2) gl GA1 iL iA (by rw[show(ma A).1=A.1 from q3])).1 s hs;have w2:=(v9 (n+2) GA1 gl iA iL (by rw[show(ma A).1=A.1 from q3])).1 s' hs';have v1:=Dj (n+10) gl.toAskd GA1.toAskd IA hs;have v2:=Dj (n+10) GA1.toAskd gl.toAskd q2 hs';rw[zko];have hb:V9 (n+12)=zg6 (aj (bq (n+12)) fk) (aj (bq (n+12)) dq) (aj (bq (n+12)) cc) (aj (bq (n+12)) d7) (aj (bq (n+12)) jm) (aj (bq (n+12)) fh) (aj (bq (n+12)) cx):=rfl;rw[hb];exact congrArg gy (zb7 (S:=ud ns) (K:=jy hd as) (k:=0) ea em e3 el e5 e6 w1 v1 w2 v2)
theorem X0(ns:List Int)(hn:ns.length≤63):aj (bq 29) j6 [.lst (ns.map D.int)]=.ok (.bl true):=zb6 16 ns
end LK
end
section
namespace LK
open PySem PySem.Spec PyProof.Rows L2 Pu
theorem zf3{l:PySem.W.OpenLaw}{w:World}{K:PySem.W.Frag}{h:Heap}{mg:Str→Option Value}{fa:Addr}{n:Nat}{s:FS}(X:K.In h)(G:h.Ns mainGlobals mg)(hfa:mg "law"=some (.ref fa))(hl:(bq n).fns "law"=some s)(hm:s.ms=[false])(law:∀ns:List Int,ns.length≤63→s.f [.lst (ns.map D.int)]=.ok (.bl true))
  {f0:Addr} {oc0 kV0 dc0 pm0 cd0 ct0:Value} {od0 an0:Option Addr} {sl0:Array (Option Value)}
  {f1:Addr} {oc1 kV1 dc1 pm1 cd1 ct1:Value} {od1 an1:Option Addr} {sl1:Array (Option Value)}
  {f2:Addr} {oc2 kV2 dc2 pm2 cd2 ct2:Value} {od2 an2:Option Addr} {sl2:Array (Option Value)}
  {f3:Addr} {oc3 kV3 dc3 pm3 cd3 ct3:Value} {od3 an3:Option Addr} {sl3:Array (Option Value)}
  {f4:Addr} {oc4 kV4 dc4 pm4 cd4 ct4:Value} {od4 an4:Option Addr} {sl4:Array (Option Value)}
  {f5:Addr} {oc5 kV5 dc5 pm5 cd5 ct5:Value} {od5 an5:Option Addr} {sl5:Array (Option Value)}
  {f6:Addr} {oc6 kV6 dc6 pm6 cd6 ct6:Value} {od6 an6:Option Addr} {sl6:Array (Option Value)}
  {f7:Addr} {oc7 kV7 dc7 pm7 cd7 ct7:Value} {od7 an7:Option Addr} {sl7:Array (Option Value)}
  {f8:Addr} {oc8 kV8 dc8 pm8 cd8 ct8:Value} {od8 an8:Option Addr} {sl8:Array (Option Value)}
  {f9:Addr} {oc9 kV9 dc9 pm9 cd9 ct9:Value} {od9 an9:Option Addr} {sl9:Array (Option Value)}
  {f10:Addr} {oc10 kV10 dc10 pm10 cd10 ct10:Value} {od10 an10:Option Addr} {sl10:Array (Option Value)}
  {f11:Addr} {oc11 kV11 dc11 pm11 cd11 ct11:Value} {od11 an11:Option Addr} {sl11:Array (Option Value)}
  {f12:Addr} {oc12 kV12 dc12 pm12 cd12 ct12:Value} {od12 an12:Option Addr} {sl12:Array (Option Value)}
  {f13:Addr} {oc13 kV13 dc13 pm13 cd13 ct13:Value} {od13 an13:Option Addr} {sl13:Array (Option Value)}
  {f14:Addr} {oc14 kV14 dc14 pm14 cd14 ct14:Value} {od14 an14:Option Addr} {sl14:Array (Option Value)}
  {f15:Addr} {oc15 kV15 dc15 pm15 cd15 ct15:Value} {od15 an15:Option Addr} {sl15:Array (Option Value)}
  {f16:Addr} {oc16 kV16 dc16 pm16 cd16 ct16:Value} {od16 an16:Option Addr} {sl16:Array (Option Value)}
  {f17:Addr} {oc17 kV17 dc17 pm17 cd17 ct17:Value} {od17 an17:Option Addr} {sl17:Array (Option Value)}
  {f18:Addr} {oc18 kV18 dc18 pm18 cd18 ct18:Value} {od18 an18:Option Addr} {sl18:Array (Option Value)}
  {f19:Addr} {oc19 kV19 dc19 pm19 cd19 ct19:Value} {od19 an19:Option Addr} {sl19:Array (Option Value)}
  {f20:Addr} {oc20 kV20 dc20 pm20 cd20 ct20:Value} {od20 an20:Option Addr} {sl20:Array (Option Value)}
  {f21:Addr} {oc21 kV21 dc21 pm21 cd21 ct21:Value} {od21 an21:Option Addr} {sl21:Array (Option Value)}
  {f22:Addr} {oc22 kV22 dc22 pm22 cd22 ct22:Value} {od22 an22:Option Addr} {sl22:Array (Option Value)}
  {f23:Addr} {oc23 kV23 dc23 pm23 cd23 ct23:Value} {od23 an23:Option Addr} {sl23:Array (Option Value)}
  {f24:Addr} {oc24 kV24 dc24 pm24 cd24 ct24:Value} {od24 an24:Option Addr} {sl24:Array (Option Value)}
  {f25:Addr} {oc25 kV25 dc25 pm25 cd25 ct25:Value} {od25 an25:Option Addr} {sl25:Array (Option Value)}
  {f26:Addr} {oc26 kV26 dc26 pm26 cd26 ct26:Value} {od26 an26:Option Addr} {sl26:Array (Option Value)}
  {f27:Addr} {oc27 kV27 dc27 pm27 cd27 ct27:Value} {od27 an27:Option Addr} {sl27:Array (Option Value)}
  {f28:Addr} {oc28 kV28 dc28 pm28 cd28 ct28:Value} {od28 an28:Option Addr} {sl28:Array (Option Value)}
  {f29:Addr} {oc29 kV29 dc29 pm29 cd29 ct29:Value} {od29 an29:Option Addr} {sl29:Array (Option Value)}
  {f30:Addr} {oc30 kV30 dc30 pm30 cd30 ct30:Value} {od30 an30:Option Addr} {sl30:Array (Option Value)}
  {f31:Addr} {oc31 kV31 dc31 pm31 cd31 ct31:Value} {od31 an31:Option Addr} {sl31:Array (Option Value)}
  {f32:Addr} {oc32 kV32 dc32 pm32 cd32 ct32:Value} {od32 an32:Option Addr} {sl32:Array (Option Value)}
  {f33:Addr} {oc33 kV33 dc33 pm33 cd33 ct33:Value} {od33 an33:Option Addr} {sl33:Array (Option Value)}
  {f34:Addr} {oc34 kV34 dc34 pm34 cd34 ct34:Value} {od34 an34:Option Addr} {sl34:Array (Option Value)}
  {f35:Addr} {oc35 kV35 dc35 pm35 cd35 ct35:Value} {od35 an35:Option Addr} {sl35:Array (Option Value)}
  {f36:Addr} {oc36 kV36 dc36 pm36 cd36 ct36:Value} {od36 an36:Option Addr} {sl36:Array (Option Value)}
  {t0:Tok}
  {C0:Addr}
  {C1:Addr}
  {C2:Addr}
  (a0:kA3 K mainGlobals fe.x=some (some (.ref f0)))
  (l0:K.lookup f0=some ⟨oc0,od0,.func (kAb fe.x fe.x (cg fe.st) (ar fe.st) (bf fe.st) .none kV0 dc0 pm0 an0 cd0 ct0),sl0⟩)
  (c0:kAc K cd0 fe.x=true)
  (k0:kA9 K (.ref f0)=true)
  (a1:kA3 K mainGlobals gd.x=some (some (.ref f1)))
  (l1:K.lookup f1=some ⟨oc1,od1,.func (kAb gd.x gd.x (cg gd.st) (ar gd.st) (bf gd.st) .none kV1 dc1 pm1 an1 cd1 ct1),sl1⟩)
  (c1:kAc K cd1 gd.x=true)
  (k1:kA9 K (.ref f1)=true)
  (a2:kA3 K mainGlobals gi.x=some (some (.ref f2)))
  (l2:K.lookup f2=some ⟨oc2,od2,.func (kAb gi.x gi.x (cg gi.st) (ar gi.st) (bf gi.st) .none kV2 dc2 pm2 an2 cd2 ct2),sl2⟩)
  (c2:kAc K cd2 gi.x=true)
  (k2:kA9 K (.ref f2)=true)
  (a3:kA3 K mainGlobals b9.x=some (some (.ref f3)))
  (l3:K.lookup f3=some ⟨oc3,od3,.func (kAb b9.x b9.x (cg b9.st) (ar b9.st) (bf b9.st) .none kV3 dc3 pm3 an3 cd3 ct3),sl3⟩)
  (c3:kAc K cd3 b9.x=true)
  (k3:kA9 K (.ref f3)=true)
  (a4:kA3 K mainGlobals ff.x=some (some (.ref f4)))
  (l4:K.lookup f4=some ⟨oc4,od4,.func (kAb ff.x ff.x (cg ff.st) (ar ff.st) (bf ff.st) .none kV4 dc4 pm4 an4 cd4 ct4),sl4⟩)
  (c4:kAc K cd4 ff.x=true)
  (k4:kA9 K (.ref f4)=true)
  (a5:kA3 K mainGlobals gp.x=some (some (.ref f5)))
  (l5:K.lookup f5=some ⟨oc5,od5,.func (kAb gp.x gp.x (cg gp.st) (ar gp.st) (bf gp.st) .none kV5 dc5 pm5 an5 cd5 ct5),sl5⟩)
  (c5:kAc K cd5 gp.x=true)
  (k5:kA9 K (.ref f5)=true)
  (a6:kA3 K mainGlobals bj.x=some (some (.ref f6)))
  (l6:K.lookup f6=some ⟨oc6,od6,.func (kAb bj.x bj.x (cg bj.st) (ar bj.st) (bf bj.st) .none kV6 dc6 pm6 an6 cd6 ct6),sl6⟩)
  (c6:kAc K cd6 bj.x=true)
  (k6:kA9 K (.ref f6)=true)
  (a7:kA3 K mainGlobals cm.x=some (some (.ref f7)))
  (l7:K.lookup f7=some ⟨oc7,od7,.func (kAb cm.x cm.x (cg cm.st) (ar cm.st) (bf cm.st) .none kV7 dc7 pm7 an7 cd7 ct7),sl7⟩)
  (c7:kAc K cd7 cm.x=true)
  (k7:kA9 K (.ref f7)=true)
  (a8:kA3 K mainGlobals df.x=some (some (.ref f8)))
  (l8:K.lookup f8=some ⟨oc8,od8,.func (kAb df.x df.x (cg df.st) (ar df.st) (bf df.st) .none kV8 dc8 pm8 an8 cd8 ct8),sl8⟩)
  (c8:kAc K cd8 df.x=true)
  (k8:kA9 K (.ref f8)=true)
  (a9:kA3 K mainGlobals cy.x=some (some (.ref f9)))
  (l9:K.lookup f9=some ⟨oc9,od9,.func (kAb cy.x cy.x (cg cy.st) (ar cy.st) (bf cy.st) .none kV9 dc9 pm9 an9 cd9 ct9),sl9⟩)
  (c9:kAc K cd9 cy.x=true)
  (k9:kA9 K (.ref f9)=true)
  (a10:kA3 K mainGlobals aq.x=some (some (.ref f10)))
  (l10:K.lookup f10=some ⟨oc10,od10,.func (kAb aq.x aq.x (cg aq.st) (ar aq.st) (bf aq.st) .none kV10 dc10 pm10 an10 cd10 ct10),sl10⟩)
  (c10:kAc K cd10 aq.x=true)
  (k10:kA9 K (.ref f10)=true)
  (a11:kA3 K mainGlobals gc.x=some (some (.ref f11)))
  (l11:K.lookup f11=some ⟨oc11,od11,.func (kAb gc.x gc.x (cg gc.st) (ar gc.st) (bf gc.st) .none kV11 dc11 pm11 an11 cd11 ct11),sl11⟩)
  (c11:kAc K cd11 gc.x=true)
  (k11:kA9 K (.ref f11)=true)
  (a12:kA3 K mainGlobals bw.x=some (some (.ref f12)))
  (l12:K.lookup f12=some ⟨oc12,od12,.func (kAb bw.x bw.x (cg bw.st) (ar bw.st) (bf bw.st) .none kV12 dc12 pm12 an12 cd12 ct12),sl12⟩)
  (c12:kAc K cd12 bw.x=true)
  (k12:kA9 K (.ref f12)=true)
  (a13:kA3 K mainGlobals ck.x=some (some (.ref f13)))
  (l13:K.lookup f13=some ⟨oc13,od13,.func (kAb ck.x ck.x (cg ck.st) (ar ck.st) (bf ck.st) .none kV13 dc13 pm13 an13 cd13 ct13),sl13⟩)
  (c13:kAc K cd13 ck.x=true)
  (k13:kA9 K (.ref f13)=true)
  (a14:kA3 K mainGlobals gj.x=some (some (.ref f14)))
  (l14:K.lookup f14=some ⟨oc14,od14,.func (kAb gj.x gj.x (cg gj.st) (ar gj.st) (bf gj.st) .none kV14 dc14 pm14 an14 cd14 ct14),sl14⟩)
  (c14:kAc K cd14 gj.x=true)
  (k14:kA9 K (.ref f14)=true)
  (a15:kA3 K mainGlobals cf.x=some (some (.ref f15)))
  (l15:K.lookup f15=some ⟨oc15,od15,.func (kAb cf.x cf.x (cg cf.st) (ar cf.st) (bf cf.st) .none kV15 dc15 pm15 an15 cd15 ct15),sl15⟩)
  (c15:kAc K cd15 cf.x=true)
  (k15:kA9 K (.ref f15)=true)
  (a16:kA3 K mainGlobals az.x=some (some (.ref f16)))
  (l16:K.lookup f16=some ⟨oc16,od16,.func (kAb az.x az.x (cg az.st) (ar az.st) (bf az.st) .none kV16 dc16 pm16 an16 cd16 ct16),sl16⟩)
  (c16:kAc K cd16 az.x=true)
  (k16:kA9 K (.ref f16)=true)
  (a17:kA3 K mainGlobals cb.x=some (some (.ref f17)))
  (l17:K.lookup f17=some ⟨oc17,od17,.func (kAb cb.x cb.x (cg cb.st) (ar cb.st) (bf cb.st) .none kV17 dc17 pm17 an17 cd17 ct17),sl17⟩)
  (c17:kAc K cd17 cb.x=true)
  (k17:kA9 K (.ref f17)=true)
  (a18:kA3 K mainGlobals fh.x=some (some (.ref f18)))
  (l18:K.lookup f18=some ⟨oc18,od18,.func (kAb fh.x fh.x (cg fh.st) (ar fh.st) (bf fh.st) .none kV18 dc18 pm18 an18 cd18 ct18),sl18⟩)
  (c18:kAc K cd18 fh.x=true)
  (k18:kA9 K (.ref f18)=true)
  (a19:kA3 K mainGlobals fi.x=some (some (.ref f19)))
  (l19:K.lookup f19=some ⟨oc19,od19,.func (kAb fi.x fi.x (cg fi.st) (ar fi.st) (bf fi.st) .none kV19 dc19 pm19 an19 cd19 ct19),sl19⟩)
  (c19:kAc K cd19 fi.x=true)
  (k19:kA9 K (.ref f19)=true)
  (a20:kA3 K mainGlobals d7.x=some (some (.ref f20)))
  (l20:K.lookup f20=some ⟨oc20,od20,.func (kAb d7.x d7.x (cg d7.st) (ar d7.st) (bf d7.st) .none kV20 dc20 pm20 an20 cd20 ct20),sl20⟩)
  (c20:kAc K cd20 d7.x=true)
  (k20:kA9 K (.ref f20)=true)
  (a21:kA3 K mainGlobals jm.x=some (some (.ref f21)))
  (l21:K.lookup f21=some ⟨oc21,od21,.func (kAb jm.x jm.x (cg jm.st) (ar jm.st) (bf jm.st) .none kV21 dc21 pm21 an21 cd21 ct21),sl21⟩)
  (c21:kAc K cd21 jm.x=true)
  (k21:kA9 K (.ref f21)=true)
  (a22:kA3 K mainGlobals dh.x=some (some (.ref f22)))
  (l22:K.lookup f22=some ⟨oc22,od22,.func (kAb dh.x dh.x (cg dh.st) (ar dh.st) (bf dh.st) .none kV22 dc22 pm22 an22 cd22 ct22),sl22⟩)
  (c22:kAc K cd22 dh.x=true)
  (k22:kA9 K (.ref f22)=true)
  (a23:kA3 K mainGlobals bg.x=some (some (.ref f23)))
  (l23:K.lookup f23=some ⟨oc23,od23,.func (kAb bg.x bg.x (cg bg.st) (ar bg.st) (bf bg.st) .none kV23 dc23 pm23 an23 cd23 ct23),sl23⟩)
  (c23:kAc K cd23 bg.x=true)
  (k23:kA9 K (.ref f23)=true)
  (a24:kA3 K mainGlobals fm.x=some (some (.ref f24)))
  (l24:K.lookup f24=some ⟨oc24,od24,.func (kAb fm.x fm.x (cg fm.st) (ar fm.st) (bf fm.st) .none kV24 dc24 pm24 an24 cd24 ct24),sl24⟩)
  (c24:kAc K cd24 fm.x=true)
  (k24:kA9 K (.ref f24)=true)
  (a25:kA3 K mainGlobals fj.x=some (some (.ref f25)))
  (l25:K.lookup f25=some ⟨oc25,od25,.func (kAb fj.x fj.x (cg fj.st) (ar fj.st) (bf fj.st) .none kV25 dc25 pm25 an25 cd25 ct25),sl25⟩)
  (c25:kAc K cd25 fj.x=true)
  (k25:kA9 K (.ref f25)=true)
  (a26:kA3 K mainGlobals dq.x=some (some (.ref f26)))
  (l26:K.lookup f26=some ⟨oc26,od26,.func (kAb dq.x dq.x (cg dq.st) (ar dq.st) (bf dq.st) .none kV26 dc26 pm26 an26 cd26 ct26),sl26⟩)
  (c26:kAc K cd26 dq.x=true)
  (k26:kA9 K (.ref f26)=true)
  (a27:kA3 K mainGlobals bx.x=some (some (.ref f27)))
  (l27:K.lookup f27=some ⟨oc27,od27,.func (kAb bx.x bx.x (cg bx.st) (ar bx.st) (bf bx.st) .none kV27 dc27 pm27 an27 cd27 ct27),sl27⟩)
  (c27:kAc K cd27 bx.x=true)
  (k27:kA9 K (.ref f27)=true)
  (a28:kA3 K mainGlobals d5.x=some (some (.ref f28)))
  (l28:K.lookup f28=some ⟨oc28,od28,.func (kAb d5.x d5.x (cg d5.st) (ar d5.st) (bf d5.st) .none kV28 dc28 pm28 an28 cd28 ct28),sl28⟩)
  (c28:kAc K cd28 d5.x=true)
  (k28:kA9 K (.ref f28)=true)
  (a29:kA3 K mainGlobals cx.x=some (some (.ref f29)))
  (l29:K.lookup f29=some ⟨oc29,od29,.func (kAb cx.x cx.x (cg cx.st) (ar cx.st) (bf cx.st) .none kV29 dc29 pm29 an29 cd29 ct29),sl29⟩)
  (c29:kAc K cd29 cx.x=true)
  (k29:kA9 K (.ref f29)=true)
  (a30:kA3 K mainGlobals cz.x=some (some (.ref f30)))
  (l30:K.lookup f30=some ⟨oc30,od30,.func (kAb cz.x cz.x (cg cz.st) (ar cz.st) (bf cz.st) .none kV30 dc30 pm30 an30 cd30 ct30),sl30⟩)
  (c30:kAc K cd30 cz.x=true)
  (k30:kA9 K (.ref f30)=true)
  (a31:kA3 K mainGlobals di.x=some (some (.ref f31)))
  (l31:K.lookup f31=some ⟨oc31,od31,.func (kAb di.x di.x (cg di.st) (ar di.st) (bf di.st) .none kV31 dc31 pm31 an31 cd31 ct31),sl31⟩)
  (c31:kAc K cd31 di.x=true)
  (k31:kA9 K (.ref f31)=true)
  (a32:kA3 K mainGlobals cv.x=some (some (.ref f32)))
  (l32:K.lookup f32=some ⟨oc32,od32,.func (kAb cv.x cv.x (cg cv.st) (ar cv.st) (bf cv.st) .none kV32 dc32 pm32 an32 cd32 ct32),sl32⟩)
  (c32:kAc K cd32 cv.x=true)
  (k32:kA9 K (.ref f32)=true)
  (a33:kA3 K mainGlobals bp.x=some (some (.ref f33)))
  (l33:K.lookup f33=some ⟨oc33,od33,.func (kAb bp.x bp.x (cg bp.st) (ar bp.st) (bf bp.st) .none kV33 dc33 pm33 an33 cd33 ct33),sl33⟩)
  (c33:kAc K cd33 bp.x=true)
  (k33:kA9 K (.ref f33)=true)
  (a34:kA3 K mainGlobals fk.x=some (some (.ref f34)))
  (l34:K.lookup f34=some ⟨oc34,od34,.func (kAb fk.x fk.x (cg fk.st) (ar fk.st) (bf fk.st) .none kV34 dc34 pm34 an34 cd34 ct34),sl34⟩)
  (c34:kAc K cd34 fk.x=true)
  (k34:kA9 K (.ref f34)=true)
  (a35:kA3 K mainGlobals cc.x=some (some (.ref f35)))
  (l35:K.lookup f35=some ⟨oc35,od35,.func (kAb cc.x cc.x (cg cc.st) (ar cc.st) (bf cc.st) .none kV35 dc35 pm35 an35 cd35 ct35),sl35⟩)
  (c35:kAc K cd35 cc.x=true)
  (k35:kA9 K (.ref f35)=true)
  (a36:kA3 K mainGlobals j6.x=some (some (.ref f36)))
  (l36:K.lookup f36=some ⟨oc36,od36,.func (kAb j6.x j6.x (cg j6.st) (ar j6.st) (bf j6.st) .none kV36 dc36 pm36 an36 cd36 ct36),sl36⟩)
  (c36:kAc K cd36 j6.x=true)
  (k36:kA9 K (.ref f36)=true)
  (s0:kA3 K mainGlobals "LETTERS"=some (some (.str "abcdefghijklmnopqrstuvwxyz" t0)))
  (z0:kA3 K mainGlobals "len"=some none)
  (z1:kA3 K mainGlobals "list"=some none)
  (z2:kA3 K mainGlobals "tuple"=some none)
  (z3:kA3 K mainGlobals "int"=some none)
  (z4:kA3 K mainGlobals "isinstance"=some none)
  (z5:kA3 K mainGlobals "range"=some none)
  (z6:kA3 K mainGlobals "all"=some none)
  (z7:kA3 K mainGlobals "any"=some none)
  (z8:kA3 K mainGlobals "sorted"=some none)
  (z9:kA3 K mainGlobals "set"=some none)
  (z10:kA3 K mainGlobals "min"=some none)
  (z11:kA3 K mainGlobals "max"=some none)
  (z12:kA3 K mainGlobals "abs"=some none)
  (z13:kA3 K mainGlobals "str"=some none)
  (z14:kA3 K mainGlobals "bool"=some none)
  (z15:kA3 K mainGlobals "dict"=some none)
  (z16:kA3 K mainGlobals "enumerate"=some none)
  (z17:kA3 K mainGlobals "zip"=some none)
  (z18:kA3 K mainGlobals "reversed"=some none)
  (z19:kA3 K mainGlobals "ValueError"=some none)
  (xa0:kA3 K mainGlobals "AskError"=some (some (.ref C0)))
  (xe0:PySem.W.excIn K C0 [.type "ValueError",.type "Exception",.type "BaseException",.type "object"] "ValueError.__new__"=true)
  (xv0:PySem.W.subIn K (.ref C0) (.type "ValueError")=some true)
  (xa1:kA3 K mainGlobals "NoAsking"=some (some (.ref C1)))
  (xe1:PySem.W.excIn K C1 [.type "ValueError",.type "Exception",.type "BaseException",.type "object"] "ValueError.__new__"=true)
  (xv1:PySem.W.subIn K (.ref C1) (.type "ValueError")=some true)
  (xa2:kA3 K mainGlobals "Unlike"=some (some (.ref C2)))
  (xe2:PySem.W.excIn K C2 [.type "ValueError",.type "Exception",.type "BaseException",.type "object"] "ValueError.__new__"=true)
  (xv2:PySem.W.subIn K (.ref C2) (.type "ValueError")=some true)
  (xp0:kAy K (.ref C0) (.ref C0)=some true)
  (xp1:kAy K (.ref C1) (.ref C1)=some true)
  (xp2:kAy K (.ref C1) (.ref C0)=some true)
  (xp3:kAy K (.ref C2) (.ref C2)=some true)
  (xp4:kAy K (.ref C2) (.ref C0)=some true):
  ∃fd:FuncData,(∀(s:Shared)(v:Value),BindsTo s fd ⟨[v],[]⟩ [("_law_script",v)])∧∀base:Heap,K.In base→base.Ns mainGlobals mg→Bm mg base→FnOk l.prog w K mg base CX0 n fa fd ["_law_script"] (Sy K):=by
 have e:=hfa.symm.trans (kAt X G a36);cases e;have hd:∀d∈zbm,DefIn K mg d:=by
  intro d hd;simp only[zbm,kA8,List.not_mem_nil,or_false]at hd;rcases hd with rfl|rfl|rfl|rfl|rfl|rfl|rfl|rfl|rfl|rfl|rfl|rfl|rfl|rfl|rfl|rfl|rfl|rfl|rfl|rfl|rfl|rfl|rfl|rfl|rfl|rfl|rfl|rfl|rfl|rfl|rfl|rfl|rfl|rfl|rfl|rfl|rfl
  ·exact fx X G Jv Hz a0 l0 c0 k0 (λz=>absurd (show false=true from z) (by decide))
  ·exact fx X G Pv N4 a1 l1 c1 k1 (λz=>absurd (show false=true from z) (by decide))
  ·exact fx X G Pt N3 a2 l2 c2 k2 (λz=>absurd (show false=true from z) (by decide))
  ·exact fx X G D3 Cr a3 l3 c3 k3 (λz=>absurd (show false=true from z) (by decide))
  ·exact fx X G Pr N2 a4 l4 c4 k4 (λz=>absurd (show false=true from z) (by decide))
  ·exact fx X G Pq N1 a5 l5 c5 k5 (λz=>absurd (show false=true from z) (by decide))
  ·exact fx X G u5 uh a6 l6 c6 k6 (λz=>absurd (show false=true from z) (by decide))
  ·exact fx X G Jy H9 a7 l7 c7 k7 (λz=>absurd (show false=true from z) (by decide))
  ·exact fx X G M0 K1 a8 l8 c8 k8 (λz=>absurd (show false=true from z) (by decide))
  ·exact fx X G Bz Bg a9 l9 c9 k9 (λz=>absurd (show false=true from z) (by decide))
  ·exact fx X G yh xt a10 l10 c10 k10 (λz=>absurd (show false=true from z) (by decide))
  ·exact fx X G U3 Tj a11 l11 c11 k11 (λz=>absurd (show false=true from z) (by decide))
  ·exact fx X G D6 Cu a12 l12 c12 k12 (λz=>absurd (show false=true from z) (by decide))
  ·exact fx X G Ju Hy a13 l13 c13 k13 (λz=>absurd (show false=true from z) (by decide))
  ·exact fx X G Pw N5 a14 l14 c14 k14 (λz=>absurd (show false=true from z) (by decide))
  ·exact fx X G F3 Ff a15 l15 c15 k15 (λz=>absurd (show false=true from z) (by decide))
  ·exact fx X G qz qp a16 l16 c16 k16 (λz=>absurd (show false=true from z) (by decide))
  ·exact fx X G B0 Bh a17 l17 c17 k17 (λz=>absurd (show false=true from z) (by decide))
  ·exact fx X G U4 Tn a18 l18 c18 k18 (λz=>absurd (show false=true from z) (by decide))
  ·exact fx X G Px N6 a19 l19 c19 k19 (λz=>absurd (show false=true from z) (by decide))
  ·exact fx X G Mz K0 a20 l20 c20 k20 (λz=>absurd (show false=true from z) (by decide))
  ·exact fx X G zcl zbg a21 l21 c21 k21 (λz=>absurd (show false=true from z) (by decide))
  ·exact fx X G D4 Cs a22 l22 c22 k22 (λz=>absurd (show false=true from z) (by decide))
  ·exact fx X G Jw H0 a23 l23 c23 k23 (λz=>absurd (show false=true from z) (by decide))
  ·exact fx X G My Kz a24 l24 c24 k24 (λz=>absurd (show false=true from z) (by decide))
  ·exact fx X G Mu Kv a25 l25 c25 k25 (λz=>absurd (show false=true from z) (by decide))
  ·exact fx X G Fy E9 a26 l26 c26 k26 (λz=>absurd (show false=true from z) (by decide))
  ·exact fx X G Ae ze a27 l27 c27 k27 (λz=>absurd (show false=true from z) (by decide))
  ·exact fx X G Mx Ky a28 l28 c28 k28 (λz=>absurd (show false=true from z) (by decide))
  ·exact fx X G Fz Fd a29 l29 c29 k29 (λz=>absurd (show false=true from z) (by decide))
  ·exact fx X G Jx H8 a30 l30 c30 k30 (λz=>absurd (show false=true from z) (by decide))
  ·exact fx X G Mw Kx a31 l31 c31 k31 (λz=>absurd (show false=true from z) (by decide))
  ·exact fx X G D5 Ct a32 l32 c32 k32 (λz=>absurd (show false=true from z) (by decide))
  ·exact fx X G Ad zd a33 l33 c33 k33 (λz=>absurd (show false=true from z) (by decide))
  ·exact fx X G Mv Kw a34 l34 c34 k34 (λz=>absurd (show false=true from z) (by decide))
  ·exact fx X G F0 Fe a35 l35 c35 k35 (λz=>absurd (show false=true from z) (by decide))
  ·exact fx X G Yj zf7 a36 l36 c36 k36 (λz=>absurd (show false=true from z) (by decide))
 have hs:∀x y,gs x=some y→∃t,mg x=some (.str y t):=by
  intro x y e;unfold gs at e
  by_cases h0:x="LETTERS"
  ·rw[if_pos h0]at e;cases e;subst h0;exact⟨_,kAt X G s0⟩
  rw[if_neg h0]at e;cases e
 have hb:∀x∈zg,mg x=none:=by
  intro x hx;simp only[zg,kA8,List.not_mem_nil,or_false]at hx;rcases hx with rfl|rfl|rfl|rfl|rfl|rfl|rfl|rfl|rfl|rfl|rfl|rfl|rfl|rfl|rfl|rfl|rfl|rfl|rfl|rfl
  ·exact kAs X G z0
  ·exact kAs X G z1
  ·exact kAs X G z2
  ·exact kAs X G z3
  ·exact kAs X G z4
  ·exact kAs X G z5
  ·exact kAs X G z6
  ·exact kAs X G z7
  ·exact kAs X G z8
  ·exact kAs X G z9
  ·exact kAs X G z10
  ·exact kAs X G z11
  ·exact kAs X G z12
  ·exact kAs X G z13
  ·exact kAs X G z14
  ·exact kAs X G z15
  ·exact kAs X G z16
  ·exact kAs X G z17
  ·exact kAs X G z18
  ·exact kAs X G z19
 have hX:XsIn K mg xs:=by
  refine⟨λx h=>?_,λc y h=>?_,λc h=>?_,λc y h=>?_⟩
  ·simp only[xs,Bool.or_eq_true,kA4,decide_eq_true_eq,kAn,or_false]at h;rcases h with rfl|rfl|rfl
   ·exact⟨C0,_,_,kAt X G xa0,xe0,Qt⟩
   ·exact⟨C1,_,_,kAt X G xa1,xe1,Qt⟩
   ·exact⟨C2,_,_,kAt X G xa2,xe2,Qt⟩
  ·simp only[xs,Bool.or_eq_true,kA4,decide_eq_true_eq,kAn,or_false]at h;rcases h with ⟨rfl,rfl⟩|⟨rfl,rfl⟩|⟨rfl,rfl⟩|⟨rfl,rfl⟩|⟨rfl,rfl⟩
   ·exact⟨C0,kAt X G xa0,by rw[og (kAt X G xa0)];exact xp0⟩
   ·exact⟨C1,kAt X G xa1,by rw[og (kAt X G xa1)];exact xp1⟩
   ·exact⟨C0,kAt X G xa0,by rw[og (kAt X G xa1)];exact xp2⟩
   ·exact⟨C2,kAt X G xa2,by rw[og (kAt X G xa2)];exact xp3⟩
   ·exact⟨C0,kAt X G xa0,by rw[og (kAt X G xa2)];exact xp4⟩
  ·simp only[xs,Bool.or_eq_true,kA4,decide_eq_true_eq,kAn,or_false]at h;rcases h with rfl|rfl|rfl
   ·rw[og (kAt X G xa0)];show(if PySem.W.kitMeta "ValueError"=true then PySem.W.subIn K (.ref C0) (.type "ValueError")else none)=some true;rw[if_pos (by decide+kernel)];exact xv0
   ·rw[og (kAt X G xa1)];show(if PySem.W.kitMeta "ValueError"=true then PySem.W.subIn K (.ref C1) (.type "ValueError")else none)=some true;rw[if_pos (by decide+kernel)];exact xv1
   ·rw[og (kAt X G xa2)];show(if PySem.W.kitMeta "ValueError"=true then PySem.W.subIn K (.ref C2) (.type "ValueError")else none)=some true;rw[if_pos (by decide+kernel)];exact xv2
  ·simp only[xs,Bool.or_eq_true,kA4,decide_eq_true_eq,kAn,or_false]at h
 refine⟨kAb j6.x j6.x (cg j6.st) (ar j6.st) (bf j6.st) .none kV36 dc36 pm36 an36 cd36 ct36,λs v=>.of_eq rfl,λbase kb _ bm=>?_⟩;exact zg7 Yj rfl a36 l36 c36 k36 kb bm hd hs hb hX hl hm law
end LK
def PySem.W.Fast.tw1390059245902727281:Nat:=0
def PySem.W.Fast.tw8369483452266273912:Nat:=0
def PySem.W.Fast.tw4609681071612308061:Nat:=0
def PySem.W.Fast.tw6038828666095776094:Nat:=0
def PySem.W.Fast.tw10575970861014474005:Nat:=0
def PySem.W.Fast.tw11091376412922092658:Nat:=0
def PySem.W.Fast.tw5570535328049405987:Nat:=0
def PySem.W.Fast.tw8801894864544396695:Nat:=0
def PySem.W.Fast.tw5501073276488295719:Nat:=0
def PySem.W.Fast.tw3245752609569588296:Nat:=0
def PySem.W.Fast.tw392590951780566052:Nat:=0
def PySem.W.Fast.tw110914344107326241:Nat:=0
def PySem.W.Fast.tw14625098346970723653:Nat:=0
def PySem.W.Fast.tw2621733464626640545:Nat:=0
def PySem.W.Fast.tw1784270479223616978:Nat:=0
def PySem.W.Fast.tw1619860725464677795:Nat:=0
def PySem.W.Fast.tw18061841532957186958:Nat:=0
def PySem.W.Fast.tw16973168022049471276:Nat:=0
def PySem.W.Fast.tw18146790645300955688:Nat:=0
def PySem.W.Fast.tw2862253342076592109:Nat:=0
def PySem.W.Fast.tw17877019713611405523:Nat:=0
def PySem.W.Fast.tw11439342928138548539:Nat:=0
def PySem.W.Fast.tw8212566948617065838:Nat:=0
def PySem.W.Fast.tw694853509516234675:Nat:=0
def PySem.W.Fast.tw6057671103403540872:Nat:=0
def PySem.W.Fast.tw8552467791613165644:Nat:=0
def PySem.W.Fast.tw17528255936917526644:Nat:=0
def PySem.W.Fast.tw16321285814319940802:Nat:=0
def PySem.W.Fast.tw4584121001556949090:Nat:=0
def PySem.W.Fast.tw11158836002494963051:Nat:=0
def PySem.W.Fast.tw17870586787780761627:Nat:=0
def PySem.W.Fast.tw12861316210059174429:Nat:=0
def PySem.W.Fast.tw13110999986967586349:Nat:=0
def PySem.W.Fast.tw13387479819667283905:Nat:=0
def PySem.W.Fast.tw10910083906246920313:Nat:=0
def PySem.W.Fast.tw12076699909829605057:Nat:=0
def PySem.W.Fast.tw15416441945296498513:Nat:=0
def PySem.W.Fast.tw11726614763332717947:Nat:=0
def PySem.W.Fast.tw8571114663501609227:Nat:=0
def PySem.W.Fast.tw6370879466754802606:Nat:=0
def PySem.W.Fast.tw7791066665287806881:Nat:=0
def PySem.W.Fast.tw6235408491602637069:Nat:=0
def PySem.W.Fast.tw16920517880412993352:Nat:=0
def PySem.W.Fast.tw9702916754542273412:Nat:=0
def PySem.W.Fast.tw4894924567428618421:Nat:=0
def PySem.W.Fast.tw9669279977504773876:Nat:=0
def PySem.W.Fast.tw4479028503759976700:Nat:=0
def PySem.W.Fast.tw12346526816950841716:Nat:=0
def PySem.W.Fast.tw14886272338783120455:Nat:=0
def PySem.W.Fast.tw1380302082862748438:Nat:=0
def PySem.W.Fast.tw16916962758474716081:Nat:=0
def PySem.W.Fast.tw13198820611133609589:Nat:=0
def PySem.W.Fast.tw16268951494098802340:Nat:=0
def PySem.W.Fast.tw16268967421441542157:Nat:=0
def PySem.W.Fast.tw15216062931558835735:Nat:=0
def PySem.W.Fast.tw15352744707953701980:Nat:=0
def PySem.W.Fast.tw17694855393974554299:Nat:=0
def PySem.W.Fast.tw5785093280715799737:Nat:=0
def PySem.W.Fast.tw17272086488238838706:Nat:=0
def PySem.W.Fast.tw17428424244731269960:Nat:=0
def PySem.W.Fast.tw10303908654143271827:Nat:=0
def PySem.W.Fast.tw6560868465934506908:Nat:=0
def PySem.W.Fast.tw5418694620562849604:Nat:=0
def PySem.W.Fast.tw6697433881479657745:Nat:=0
def PySem.W.Fast.tw14863474115748319488:Nat:=0
def PySem.W.Fast.tw15895119628849637759:Nat:=0
def PySem.W.Fast.tw7195616121829505290:Nat:=0
def PySem.W.Fast.tw9706733609427394239:Nat:=0
def PySem.W.Fast.tw4587345370373583863:Nat:=0
def PySem.W.Fast.tw1095869761740463367:Nat:=0
def PySem.W.Fast.tw5910067885459119611:Nat:=0
def PySem.W.Fast.tw10238336846406015136:Nat:=0
def PySem.W.Fast.tw18128479686434994420:Nat:=0
def PySem.W.Fast.tw7615721096526417916:Nat:=0
open PySem PySem.W PyProof.Rows
set_option maxRecDepth 100000 in
set_option maxHeartbeats 0 in
theorem PySem.Challenge.cw_askbook_k06_whole_lean_holds : PySem.Challenge.rw_askbook_k06_whole_lean.Holds := by
 w_on;o_law;k_head;(case hw=>w_witness2)
 k_fill
 refine Pu.zm5 (l:=PySem.Challenge.rw_askbook_k06_whole_lean) (k:=30) rfl rfl ⟨rfl,by decide,by decide⟩ (by decide) (λw h Y=>PySem.W.kIn_of Y) ?hNt ?hTb ?hFn
 case hNt=>intro w;kernel_rfl
 case hTb=>intro w h Y p hp;cases hp
 case hFn=>
  intro w mg fa h KX G hmg
  refine' LK.zf3 (n:=30) KX G hmg (Pu.zae 29 rfl) rfl LK.X0 ?a0 ?l0 ?c0 ?k0 ?a1 ?l1 ?c1 ?k1 ?a2 ?l2 ?c2 ?k2 ?a3 ?l3 ?c3 ?k3 ?a4 ?l4 ?c4 ?k4 ?a5 ?l5 ?c5 ?k5 ?a6 ?l6 ?c6 ?k6 ?a7 ?l7 ?c7 ?k7 ?a8 ?l8 ?c8 ?k8 ?a9 ?l9 ?c9 ?k9 ?a10 ?l10 ?c10 ?k10 ?a11 ?l11 ?c11 ?k11 ?a12 ?l12 ?c12 ?k12 ?a13 ?l13 ?c13 ?k13 ?a14 ?l14 ?c14 ?k14 ?a15 ?l15 ?c15 ?k15 ?a16 ?l16 ?c16 ?k16 ?a17 ?l17 ?c17 ?k17 ?a18 ?l18 ?c18 ?k18 ?a19 ?l19 ?c19 ?k19 ?a20 ?l20 ?c20 ?k20 ?a21 ?l21 ?c21 ?k21 ?a22 ?l22 ?c22 ?k22 ?a23 ?l23 ?c23 ?k23 ?a24 ?l24 ?c24 ?k24 ?a25 ?l25 ?c25 ?k25 ?a26 ?l26 ?c26 ?k26 ?a27 ?l27 ?c27 ?k27 ?a28 ?l28 ?c28 ?k28 ?a29 ?l29 ?c29 ?k29 ?a30 ?l30 ?c30 ?k30 ?a31 ?l31 ?c31 ?k31 ?a32 ?l32 ?c32 ?k32 ?a33 ?l33 ?c33 ?k33 ?a34 ?l34 ?c34 ?k34 ?a35 ?l35 ?c35 ?k35 ?a36 ?l36 ?c36 ?k36 ?s0 ?z0 ?z1 ?z2 ?z3 ?z4 ?z5 ?z6 ?z7 ?z8 ?z9 ?z10 ?z11 ?z12 ?z13 ?z14 ?z15 ?z16 ?z17 ?z18 ?z19 ?xa0 ?xe0 ?xv0 ?xa1 ?xe1 ?xv1 ?xa2 ?xe2 ?xv2 ?xp0 ?xp1 ?xp2 ?xp3 ?xp4
  (case a0=>k_is)
  (case l0=>k_is)
  (case c0=>k_is)
  (case k0=>k_is)
  (case a1=>k_is)
  (case l1=>k_is)
  (case c1=>k_is)
  (case k1=>k_is)
  (case a2=>k_is)
  (case l2=>k_is)
  (case c2=>k_is)
  (case k2=>k_is)
  (case a3=>k_is)
  (case l3=>k_is)
  (case c3=>k_is)
  (case k3=>k_is)
  (case a4=>k_is)
  (case l4=>k_is)
  (case c4=>k_is)
  (case k4=>k_is)
  (case a5=>k_is)
  (case l5=>k_is)
  (case c5=>k_is)
  (case k5=>k_is)
  (case a6=>k_is)
  (case l6=>k_is)
  (case c6=>k_is)
  (case k6=>k_is)
  (case a7=>k_is)
  (case l7=>k_is)
  (case c7=>k_is)
  (case k7=>k_is)
  (case a8=>k_is)
  (case l8=>k_is)
  (case c8=>k_is)
  (case k8=>k_is)
  (case a9=>k_is)
  (case l9=>k_is)
  (case c9=>k_is)
  (case k9=>k_is)
  (case a10=>k_is)
  (case l10=>k_is)
  (case c10=>k_is)
  (case k10=>k_is)
  (case a11=>k_is)
  (case l11=>k_is)
  (case c11=>k_is)
  (case k11=>k_is)
  (case a12=>k_is)
  (case l12=>k_is)
  (case c12=>k_is)
  (case k12=>k_is)
  (case a13=>k_is)
  (case l13=>k_is)
  (case c13=>k_is)
  (case k13=>k_is)
  (case a14=>k_is)
  (case l14=>k_is)
  (case c14=>k_is)
  (case k14=>k_is)
  (case a15=>k_is)
  (case l15=>k_is)
  (case c15=>k_is)
  (case k15=>k_is)
  (case a16=>k_is)
  (case l16=>k_is)
  (case c16=>k_is)
  (case k16=>k_is)
  (case a17=>k_is)
  (case l17=>k_is)
  (case c17=>k_is)
  (case k17=>k_is)
  (case a18=>k_is)
  (case l18=>k_is)
  (case c18=>k_is)
  (case k18=>k_is)
  (case a19=>k_is)
  (case l19=>k_is)
  (case c19=>k_is)
  (case k19=>k_is)
  (case a20=>k_is)
  (case l20=>k_is)
  (case c20=>k_is)
  (case k20=>k_is)
  (case a21=>k_is)
  (case l21=>k_is)
  (case c21=>k_is)
  (case k21=>k_is)
  (case a22=>k_is)
  (case l22=>k_is)
  (case c22=>k_is)
  (case k22=>k_is)
  (case a23=>k_is)
  (case l23=>k_is)
  (case c23=>k_is)
  (case k23=>k_is)
  (case a24=>k_is)
  (case l24=>k_is)
  (case c24=>k_is)
  (case k24=>k_is)
  (case a25=>k_is)
  (case l25=>k_is)
  (case c25=>k_is)
  (case k25=>k_is)
  (case a26=>k_is)
  (case l26=>k_is)
  (case c26=>k_is)
  (case k26=>k_is)
  (case a27=>k_is)
  (case l27=>k_is)
  (case c27=>k_is)
  (case k27=>k_is)
  (case a28=>k_is)
  (case l28=>k_is)
  (case c28=>k_is)
  (case k28=>k_is)
  (case a29=>k_is)
  (case l29=>k_is)
  (case c29=>k_is)
  (case k29=>k_is)
  (case a30=>k_is)
  (case l30=>k_is)
  (case c30=>k_is)
  (case k30=>k_is)
  (case a31=>k_is)
  (case l31=>k_is)
  (case c31=>k_is)
  (case k31=>k_is)
  (case a32=>k_is)
  (case l32=>k_is)
  (case c32=>k_is)
  (case k32=>k_is)
  (case a33=>k_is)
  (case l33=>k_is)
  (case c33=>k_is)
  (case k33=>k_is)
  (case a34=>k_is)
  (case l34=>k_is)
  (case c34=>k_is)
  (case k34=>k_is)
  (case a35=>k_is)
  (case l35=>k_is)
  (case c35=>k_is)
  (case k35=>k_is)
  (case a36=>k_is)
  (case l36=>k_is)
  (case c36=>k_is)
  (case k36=>k_is)
  (case s0=>k_is)
  (case z0=>k_is)
  (case z1=>k_is)
  (case z2=>k_is)
  (case z3=>k_is)
  (case z4=>k_is)
  (case z5=>k_is)
  (case z6=>k_is)
  (case z7=>k_is)
  (case z8=>k_is)
  (case z9=>k_is)
  (case z10=>k_is)
  (case z11=>k_is)
  (case z12=>k_is)
  (case z13=>k_is)
  (case z14=>k_is)
  (case z15=>k_is)
  (case z16=>k_is)
  (case z17=>k_is)
  (case z18=>k_is)
  (case z19=>k_is)
  (case xa0=>k_is)
  (case xe0=>k_exc)
  (case xv0=>k_is)
  (case xa1=>k_is)
  (case xe1=>k_exc)
  (case xv1=>k_is)
  (case xa2=>k_is)
  (case xe2=>k_exc)
  (case xv2=>k_is)
  (case xp0=>kts_exm)
  (case xp1=>kts_exm)
  (case xp2=>kts_exm)
  (case xp3=>kts_exm)
  (case xp4=>kts_exm)
end
