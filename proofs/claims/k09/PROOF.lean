import PyProof.Rows.All
import Wide.All
import OpenK.AllK
import Wide.FinOn
import PySem.Challenge.RW_pegleap_k09_first_rows
import PyProof.TupleKey
import PyProof.DictUpdate
import PyProof.DictRoadsH
import PyProof.DictItems
import PySem.SetOps
import Lean
import PyProof.EqAt
import PyProof.EqKinds
import PyProof.TupleCall
import PyProof.NeKinds
import KE.KIsAll
import PyProof.ExcAttrAll.ValueError
import OpenK.KDescr
import PyProof.ZipIter
import KE.KDictOf
import PyProof.AttrMissHeap
import PyProof.FactsAll.zip_1
import PyProof.EnumMake
import PyProof.ConsumeWalk
import PyProof.Rows.TupDisplay
import PyProof.FactsAll.list_3
import PyProof.SumWalkG
import PyProof.WalkInts
import PyProof.SeqI3
import Open.Pieces
set_option Elab.async false
set_option linter.all false
set_option maxRecDepth 100000
set_option maxHeartbeats 4000000
set_option hygiene false in
local macro_rules|`(tactic|walk_at $s:str)=>do
  let mut t:=#[]
  for c in s.getString.toList do
    t:=t.push (<-match c with
    |'!'=>`(tactic|exact au)
    |'#'=>`(tactic|obtain rfl:=aV)
    |'$'=>`(tactic|dsimp only)
    |'%'=>`(tactic|refine af (κ:=.new) (aA:=.new) ?_ ?_)
    |'&'=>`(tactic|refine af (κ:=.aF) (aA:=.old) ?_ ?_)
    |'\''=>`(tactic|exact ay (κ:=.aF))
    |'('=>`(tactic|refine aE ?_ ?_)
    |')'=>`(tactic|exact ah 0 (pv 0))
    |'*'=>`(tactic|refine aR ?_)
    |'+'=>`(tactic|exact ah 1 (pv 1))
    |','=>`(tactic|dsimp only at q)
    |'-'=>`(tactic|exact ay (κ:=.new))
    |'.'=>`(tactic|refine af (κ:=.aF) (aA:=.new) ?_ ?_)
    |'/'=>`(tactic|refine bw (aA:=.old) (bC:=.new) ?_ ?_ (fun _ _=>rfl))
    |'0'=>`(tactic|refine cN zz fun A st r q=>?_)
    |'1'=>`(tactic|rw[hf] at q)
    |'2'=>`(tactic|clear zz)
    |'3'=>`(tactic|exact ah 2 (pv 2))
    |'4'=>`(tactic|refine⟨A,st,r,?_⟩)
    |'5'=>`(tactic|refine bF (κ:=.old) ?_)
    |'6'=>`(tactic|exact ah 3 (pv 3))
    |'7'=>`(tactic|refine cC ?_)
    |'8'=>`(tactic|obtain rfl:=gM)
    |'9'=>`(tactic|refine c7 (κ:=.new) ?_)
    |':'=>`(tactic|refine gh ?_   ?_   dG)
    |';'=>`(tactic|refine dO ?_)
    |'<'=>`(tactic|intro pins s σ H Q I h)
    |'='=>`(tactic|exact ah 4 (pv 4))
    |'>'=>`(tactic|refine wpAny_bind (wpAny_pure ?_))
    |'?'=>`(tactic|intro pins s σ H D I h)
    |'@'=>`(tactic|refine⟨A,st,r.mono e1,?_⟩)
    |'A'=>`(tactic|refine aJ (κ:=.aF) bV hr (by decide) ?_ (aq (aq (aq aO))))
    |'B'=>`(tactic|intro X hP hw hK hc i pins s σ H E I hf st hg)
    |'C'=>`(tactic|rcases List.mem_append.mp m with m | m)
    |'D'=>`(tactic|refine cu cS rfl T.oA k7 ?_)
    |'E'=>`(tactic|refine dP (aA:=.aF) j5 ?_)
    |'F'=>`(tactic|rw[List.nil_append] at e)
    |'G'=>`(tactic|refine uw (hf it (by simp)) fun f0 f1 f2 f3 f4 f5=>?_)
    |'H'=>`(tactic|refine bA (aA:=.old) (bC:=.new) dM cM ?_ ?_)
    |'I'=>`(tactic|refine bA (aA:=.new) (bC:=.new) dM cM ?_ ?_)
    |'J'=>`(tactic|rcases List.mem_cons.mp m with rfl | m)
    |'K'=>`(tactic|simp only[Bool.false_eq_true,if_false])
    |'L'=>`(tactic|refine af (κ:=.aF) (aA:=.loc) ?_ ?_)
    |'M'=>`(tactic|obtain rfl:xs=sU:=by injection e1)
    |'N'=>`(tactic|refine aN (nW w) fun v gM w1=>?_)
    |'O'=>`(tactic|refine bD (i:=2) (k:=.par) (κ:=.new) ?_ ?_)
    |'P'=>`(tactic|refine bA (aA:=.old) (bC:=.new) iP gy ?_ ?_)
    |'Q'=>`(tactic|intro pins s σ H x y v u Q I rx ry h)
    |'R'=>`(tactic|simp only[Bool.not_true,Bool.false_eq_true,if_false])
    |'S'=>`(tactic|refine aN (List.mem_map.mp hd) fun n _ aV=>?_)
    |'T'=>`(tactic|refine bA (aA:=.new) (bC:=.new) jK jN ?_ ?_)
    |'U'=>`(tactic|refine bA (aA:=.old) (bC:=.old) dM cM ?_ ?_)
    |'V'=>`(tactic|refine bD (i:=3) (k:=.par) (κ:=.new) ?_ ?_)
    |'W'=>`(tactic|rcases dN h with ⟨_,_,e1,_⟩ | ⟨sU,ys,e1,rfl,q⟩ | ⟨_,_,e1,_⟩)
    |'X'=>`(tactic|rw[h,if_pos (by decide),if_pos (by lia),if_neg (by lia)])
    |'Y'=>`(tactic|rw[h,if_pos (by decide),if_neg (by lia),if_pos (by lia)])
    |'Z'=>`(tactic|rw[h,if_neg (by decide),if_pos (by lia),if_pos (by lia)])
    |'['=>`(tactic|refine aJ (κ:=.aF) lC hr (by decide) ?_ (aq (aq aO)))
    |']'=>`(tactic|refine aJ (κ:=.aF) cG hr (by decide) ?_ (aq (aq aO)))
    |'^'=>`(tactic|simp only[List.isEmpty_nil,Bool.not_true,Bool.false_eq_true,if_false,bind_assoc,List.length_nil,bne_self_eq_false])
    |'_'=>`(tactic|simp only[List.pairwise_cons,List.mem_cons,List.not_mem_nil,or_false,List.Pairwise.nil,and_true])
    |'`'=>`(tactic|refine c5 (aA:=.old) (bC:=.old) (kY hr.units) gP ?_ ?_ (by with_unfolding_all rfl))
    |'a'=>`(tactic|refine c5 (aA:=.old) (bC:=.old) (lN hr.units) gP ?_ ?_ (by with_unfolding_all rfl))
    |'b'=>`(tactic|refine c5 (aA:=.new) (bC:=.old) (lN hr.units) gP ?_ ?_ (by with_unfolding_all rfl))
    |'c'=>`(tactic|rw[show nO f v ((k,x)::r)=(if k=f then (k,v)::r else (k,x)::nO f v r) from rfl])
    |'d'=>`(tactic|rcases dN h with ⟨_,_,e1,_⟩ | ⟨_,_,e1,_⟩ | ⟨sU,ys,e1,rfl,q⟩)
    |'e'=>`(tactic|have fj:A.units < cLine:=Nat.lt_of_le_of_lt (Nat.le_add_right _ _) hr)
    |'f'=>`(tactic|refine⟨p::A,⟨r.base.trans ee,fun a m=>?_,by simp[r.len],fun j d' h=>?_,fun a b n' m' p' F0 BS sS g1 g2 s1 s2 o1 o2 w1 w2=>?_⟩,ee,fun _ m=>.tail _ m⟩)
    |'g'=>`(tactic|have I1:Inv X pins σ H { s with heap:=h' }:=I.turned (t':=s.toks) (fun b o hb e=>(sb.2 b hb).trans e) f0 f1 f3 f4 f5)
    |'h'=>`(tactic|obtain ⟨⟨N3,hz,ho,hx,_⟩,_,_⟩:=(show fT X.prog X.w H s.heap a (.ext (DY a o ps)) from I.dS a _ ha))
    |_=>Lean.Macro.throwUnsupported)
  `(tactic|($[$t];*))
noncomputable section
section Yp
namespace Hk
open PySem
section
variable {prog:Program}{w:World}{K:Type}[DecidableEq K](kh:HeapKind prog w K)
def Refs(h:Heap):List K->List Value->Prop
 | [],vs=>vs=[]
 | k::ks,vs=>∃a r,vs = .ref a::r/\kh.is h k a/\Refs h ks r
def qR(h:Heap)(ks:List K)(a:Addr):Prop:=∃o bh n,h.get? a=some o/\o.cls = .type "tuple" /\o.data = .seq bh n/\Refs kh h ks bh.toList
def BY(ks:List K):Int:=reduceHash (Builtin.Tuple.tupleHashOf (ks.map kh.hash))
def dW:List K->Nat
 | []=>0
 | k::ks=>kh.draws k+dW ks
variable {kh}
theorem Refs.inj{h:Heap}:∀{x y:List K} {vs:List Value},Refs kh h x vs->Refs kh h y vs->x=y
 | [],[],_,_,_=>rfl
 | [],_::_,_,e,⟨_,_,z,_⟩=>by rw[Refs] at e;rw[e] at z;cases z
 | _::_,[],_,⟨_,_,z,_⟩,e=>by rw[Refs] at e;rw[e] at z;cases z
 | _::_,_::_,_,⟨_,_,z,p,r⟩,⟨_,_,z',p',r'⟩=>by rw[z] at z';cases z';rw[kh.inj p p',r.inj r']
theorem Refs.keeps{h h':Heap}{d:Addr}{o:Obj}{es ep}(ho:h.get? d=some o)(hd:o.data = .dict es ep)(hs:Heap.SameBut d h h'):∀{x:List K} {vs:List Value},Refs kh h x vs->Refs kh h' x vs
 | [],_,e=>e
 | _::_,_,⟨a,r,z,p,q⟩=>⟨a,r,z,kh.keeps p ho hd hs,q.keeps ho hd hs⟩
theorem xP:∀(x y:List K),dW kh (x++y)=dW kh x+dW kh y
 | [],y=>by rw[dW,Nat.zero_add];rfl
 | k::x,y=>by rw[List.cons_append,dW,dW,xP x y,Nat.add_assoc]
theorem qR.tuple{s:Shared}{ks:List K}{a:Addr}(x:qR kh s.heap ks a):s.TypeIs (.ref a) "tuple":=x.elim fun o z=>z.elim fun _ z=>z.elim fun _ z=>⟨o,z.1,z.2.1⟩
theorem qR.inj{h:Heap}{a:Addr}{x y:List K}(hx:qR kh h x a)(hy:qR kh h y a):x=y:=by
 obtain ⟨o,bh,n,e,_,d,r⟩:=hx
 obtain ⟨o',its',n',e',_,d',r'⟩:=hy
 rw[e] at e';cases e'
 rw[d] at d';cases d'
 exact r.inj r'
theorem qR.keeps{h h':Heap}{ks:List K}{a d:Addr}{o:Obj}{es ep}(x:qR kh h ks a)(ho:h.get? d=some o)(hd:o.data = .dict es ep)(hs:Heap.SameBut d h h'):qR kh h' ks a:=by
 obtain ⟨u,bh,n,e,c,q,r⟩:=x
 refine⟨u,bh,n,(hs.2 a fun z=>?_).trans e,c,q,r.keeps ho hd hs⟩
 rw[z,ho] at e;cases e
 rw[hd] at q;cases q
variable {A:Around}{E:Value->Shared->Prop}{s:Shared}
theorem JS{ks:List K}{a:Addr}{Q:Int->Shared->Prop}(hu:A.units < cLine)(hr:kh.room A.in1)(hk:qR kh s.heap ks a)(h:Q (BY kh ks) { s with toks:=s.toks+(dW kh ks+1) }):wpAny (model prog w) A (pyHash (.ref a)) Q E s:=by
 have hT:=hk.tuple
 have sl:=F.slot_tuple_hash
 obtain ⟨o,bh,n,ho,_,hd,hi⟩:=hk
 (unfold pyHash);(first | unfold pyHashByItsType | skip);(first | refine wpAny_bind (wpAny_cRoomFor_or (.inr hu) ?_) | skip)
 (refine wpAny_bind (wpAny_specialOf hT sl.lookup ?_));(show wpAny _ _ (if (some (Value.builtin "tuple.__hash__")==some Value.none)=true then _ else _) Q E s)
 (rw[if_neg (by rw[beq_builtin_none];exact Bool.false_ne_true)]);(refine wpAny_bind (wpAny_specialOf hT sl.lookup ?_));(show wpAny _ _ (callSpecialIfBoundUnlessNone? (.ref a) "__hash__" _>>=_) Q E s)
 refine wpAny_bind (wpAny_callSpecialIfBoundUnlessNone?_slot hT sl (wpAny_call_entry sl hT F.entry_tuple_hash ?_ (F.args_tuple_hash_1 _)))
 (show wpAny _ _ (Builtin.Tuple.tupleItemsOf (.ref a)>>=_) _ _ s);(refine wpAny_bind (wpAny_tupleItemsOf ho hd (wpAny_bind ?_)));(rw[<- Array.forIn_toList])
 refine wpAny_forIn_list _ (fun rest (b:Array Int) s'=>∃x y,ks=x++y/\Refs kh s.heap y rest/\b.toList=x.map kh.hash/\s'={ s with toks:=s.toks+dW kh x }) _ ?_ ?_ _ _ ⟨[],ks,rfl,hi,rfl,rfl⟩
 ·rintro v rest b s' ⟨x,y,rfl,hl,hb,rfl⟩
  cases y with
  | nil=>rw[Refs] at hl;cases hl
  | cons k y=>
   obtain ⟨c,r,z,p,q⟩:=hl
   cases z
   have e:dW kh (x++[k])=dW kh x+kh.draws k:=by rw[xP];rfl
   have nx:∃x' y',x++k::y=x'++y'/\Refs kh s.heap y' rest/\(b.push (kh.hash k)).toList=x'.map kh.hash/\({ s with toks:=s.toks+dW kh x+kh.draws k }:Shared)={ s with toks:=s.toks+dW kh x' }:=⟨x++[k],y,by simp,q,by simp[hb],by rw[e,Nat.add_assoc]⟩
   refine wpAny_bind (kh.pyHash (s:={ s with toks:=s.toks+dW kh x }) hr p ?_)
   first
    | exact wpAny_pure nx
    | exact wpAny_bind (wpAny_pure (wpAny_pure nx))
 ·rintro b s' ⟨x,y,rfl,hl,hb,rfl⟩
  cases y with
  | cons k y=>obtain ⟨_,_,z,_⟩:=hl;cases z
  | nil=>
   rw[List.append_nil] at h
   (show wpAny _ _ (retInt (Builtin.Tuple.tupleHashOf b.toList)) _ _ _);(rw[hb]);(refine wpAny_ret_mkInt ?_)
   show wpAny _ _ (if (decide (-(2:Int) ^ 63<=Builtin.Tuple.tupleHashOf (x.map kh.hash))&&decide (Builtin.Tuple.tupleHashOf (x.map kh.hash) < 2 ^ 63))=true then _ else _) Q E _
   unfold BY reduceHash at h
   split
   ·rename_i c
    rw[if_pos c] at h
    exact wpAny_pure (by simpa[Nat.add_assoc] using h)
   ·rename_i c
    rw[if_neg c] at h
    exact wpAny_bind (wpAny_rule (wpAny_pure (by simpa[Nat.add_assoc] using h)))
theorem Rh{x y:List K}{a b:Addr}{P:Fin->Shared->Prop}(hr:kh.room A)(hx:qR kh s.heap x a)(hy:qR kh s.heap y b)(h:P (.done (.ret (.bool (decide (x=y))))) s):wpAny (model prog w) A (Builtin.«tuple.__eq__» ⟨[.ref a,.ref b],[]⟩) P E s:=by
 have hT:=hy.tuple
 obtain ⟨oa,us,na,ea,_,da,ra⟩:=hx
 obtain ⟨ob,vs,nb,eb,_,db,rb⟩:=hy
 (show wpAny _ _ (isInstance (.ref b) (.type "tuple")>>=_) _ _ s);(refine wpAny_bind (wpAny_isInstance hT isSubtype_tuple_tuple ?_));(simp only[Bool.not_true,Bool.false_eq_true,if_false])
 refine wpAny_bind (wpAny_tupleItemsOf ea da (wpAny_bind (wpAny_tupleItemsOf eb db (wpAny_bind ?_))))
 refine wpAny_forIn_list _ (fun rest r s'=>r.1=none/\s'=s/\∃x' y' Ri MU,rest=List.zip Ri MU/\Refs kh s.heap x' Ri/\Refs kh s.heap y' MU/\decide (x'=y')=decide (x=y)/\(Ri.length==MU.length)=(us.size==vs.size)) _ ?_ ?_ _ _ ⟨rfl,rfl,x,y,us.toList,vs.toList,rfl,ra,rb,rfl,by simp⟩
 ·rintro ⟨u,v⟩ rest r s' ⟨Gf,rfl,x',y',Ri,MU,hz,qS,FU,JT,hlen⟩
  cases x' with
  | nil=>rw[Refs] at qS;subst qS;simp at hz
  | cons k1 x1=>
   obtain ⟨c1,r1,z1,p1,q1⟩:=qS
   subst z1
   cases y' with
   | nil=>rw[Refs] at FU;subst FU;simp at hz
   | cons k2 y1=>
    obtain ⟨c2,r2,z2,p2,q2⟩:=FU
    subst z2
    rw[List.zip_cons_cons] at hz
    cases hz
    refine wpAny_bind (kh.eqBool (x:=k1) (y:=k2) hr p1 p2 ?_)
    by_cases hk:k1=k2
    ·subst hk
     (rw[decide_eq_true rfl]);(simp only[Bool.not_true,Bool.false_eq_true,if_false])
     exact wpAny_pure ⟨rfl,rfl,x1,y1,r1,r2,rfl,q1,q2,by rw[<- JT];simp,by simpa using hlen⟩
    ·(rw[decide_eq_false hk]);(simp only[Bool.not_false,if_true])
     rw[show decide (x=y)=false by rw[<- JT];simp[hk]] at h
     exact wpAny_bind (wpAny_pure (wpAny_pure (wpAny_pure h)))
 ·rintro ⟨r1,r2⟩ s' ⟨Gf,rfl,x',y',Ri,MU,hz,qS,FU,JT,hlen⟩
  dsimp only at Gf
  subst Gf
  refine wpAny_pure ?_
  have e:(us.size==vs.size)=decide (x=y):=by
   rw[<- JT,<- hlen]
   cases x' with
   | nil=>
    rw[Refs] at qS;subst qS
    cases y' with
    | nil=>rw[Refs] at FU;subst FU;rfl
    | cons k2 y1=>obtain ⟨c2,r2,rfl,_⟩:=FU;simp
   | cons k1 x1=>
    obtain ⟨c1,r1,rfl,_⟩:=qS
    cases y' with
    | nil=>rw[Refs] at FU;subst FU;simp
    | cons k2 y1=>obtain ⟨c2,r2,rfl,_⟩:=FU;simp at hz
  show P (.done (.ret (.bool (us.size==vs.size)))) s'
  rw[e];exact h
theorem Ei{x y:List K}{a b:Addr}{Q:Bool->Shared->Prop}(hu:A.units < cLine)(hr:kh.room A.in1)(hx:qR kh s.heap x a)(hy:qR kh s.heap y b)(h:Q (decide (x=y)) s):wpAny (model prog w) A (eqBool (.ref a) (.ref b)) Q E s:=by
 (unfold eqBool);(try with_reducible refine wpAny_holding ?_);(show wpAny _ _ (if (Value.ref a==Value.ref b)=true then _ else _) Q E s)
 by_cases c:(Value.ref a==Value.ref b)=true
 ·rw[if_pos c]
  cases eq_of_beq c
  obtain rfl:=hx.inj hy
  exact wpAny_bind (wpAny_rule (wpAny_pure (by simpa using h)))
 ·(rw[if_neg c]);(refine wpAny_bind (wpAny_richCompare_same_room (op:=.Eq) hx.tuple hy.tuple F.slot_tuple_eq (wpAny_call_entry F.slot_tuple_eq hx.tuple F.entry_tuple_eq (Rh hr hx hy ⟨_,rfl,(fun e=>nomatch e),wpAny_truthy_bool h⟩) (F.args_tuple_eq_2 _ _)) hu))
theorem Ac{a:Addr}{o:Obj}{bh:Array Value}{m n:Nat}{Q:Bool->Shared->Prop}(ho:s.heap.get? a=some o)(hc:o.cls = .type "tuple")(hd:o.data = .seq bh m)(q:∀v∈bh.toList,∀{A:Around} {R:Bool->Shared->Prop},R true s->wpAny (model prog w) A (eqIsQuiet n v) R E s)(h:Q true s):wpAny (model prog w) A (eqIsQuiet (n+1) (.ref a)) Q E s:=by
 have hT:s.TypeIs (.ref a) "tuple":=⟨o,ho,hc⟩
 (unfold eqIsQuiet);(refine wpAny_bind (wpAny_specialOf hT F.slot_tuple_eq.lookup ?_));(show wpAny _ _ (isInstance (.ref a) (.type "tuple")>>=_) _ _ s)
 (refine wpAny_bind (wpAny_isInstance hT isSubtype_tuple_tuple ?_));(simp only[Bool.not_true,Bool.false_eq_true,if_false]);(refine wpAny_bind (wpAny_seqItems ho hd (wpAny_bind ?_)))
 (show wpAny _ _ (forIn bh _ _) _ _ s);(rw[<- Array.forIn_toList])
 refine wpAny_forIn_list _ (fun rest r s'=>r.1=none/\s'=s/\∀v∈rest,v∈bh.toList) _ ?_ ?_ _ _ ⟨rfl,rfl,fun _ m=>m⟩
 ·rintro v rest r s' ⟨hr,rfl,kR⟩
  (refine wpAny_bind (q v (kR v (.head _)) ?_));(simp only[Bool.not_true,Bool.false_eq_true,if_false])
  exact wpAny_pure ⟨rfl,rfl,fun u m=>kR u (.tail _ m)⟩
 ·rintro ⟨r1,r2⟩ s' ⟨hr,rfl,_⟩
  dsimp only at hr
  subst hr
  exact wpAny_pure h
end
theorem Refs.mem{prog:Program}{w:World}{K:Type}[DecidableEq K]{kh:HeapKind prog w K}{h:Heap}:∀{ks:List K} {vs:List Value} {v:Value},Refs kh h ks vs->v∈vs->∃k a,v = .ref a/\kh.is h k a
 | [],_,_,e,m=>by rw[Refs] at e;rw[e] at m;cases m
 | k::ks,_,v,⟨a,r,z,p,q⟩,m=>by
  rw[z] at m
  walk_at"J"
  ·exact⟨k,a,rfl,p⟩
  ·exact q.mem m
def jQ{prog:Program}{w:World}{K:Type}[DecidableEq K](knd:KeyKind prog w K):HeapKind prog w (List (List K)) where
 is:=qR (tupleKind knd)
 hash:=BY (tupleKind knd)
 draws:=fun ks=>dW (tupleKind knd) ks+1
 room:=fun A=>A.units+1 < cLine
 inj:=fun hx hy=>hx.inj hy
 keeps:=fun x ho hd hs=>x.keeps ho hd hs
 pyHash:=fun hu hk h=>JS (Nat.lt_of_succ_lt hu) hu hk h
 eqBool:=fun hu hx hy h=>Ei (Nat.lt_of_succ_lt hu) hu hx hy h
 quiet:=fun {A E s k a Q} hk h=>by
  obtain ⟨o,bh,n,ho,hc,hd,hi⟩:=hk
  refine Ac (n:=7) ho hc hd (fun v m A' R hR=>?_) h
  obtain ⟨k1,c,rfl,o1,aw7,n1,Ws,hc1,hd1,hi1⟩:=hi.mem m
  refine Ac (n:=6) Ws hc1 hd1 (fun v m A'' R' hR'=>?_) hR
  rw[eqIsQuiet_byValue _ (hi1.byValue v m)]
  exact wpAny_pure hR'
end Hk
end Yp
section Yq
namespace Hk
open PySem
section
variable {prog:Program}{w:World}{K:Type}[DecidableEq K]{knd:HeapKind prog w K}{A:Around}{E:Value->Shared->Prop}{s:Shared}{d o:Addr}
theorem xr{xs:List (K×Addr×Value)}{k:K}{a:Addr}{v:Value}{Q:Unit->Shared->Prop}(hu:knd.room A)(JU:knd.is s.heap k a)(hm:s.heap.DictOfH knd d xs)(Rj:k∉xs.map (·.1))(hsz:xs.length<=sizeLine)
  (hQ:∀h',h'.DictOfH knd d (xs++[(k,a,v)])->Heap.SameBut d s.heap h'->Q () { s with heap:=h' }):wpAny (model prog w) A (dictSetHashed d (.ref a) (knd.hash k) v) Q E s:=by
 obtain ⟨od,es,ep,ho,hc,hd,he,his,hn⟩:=hm
 (unfold dictSetHashed);(try with_reducible refine wpAny_holding ?_)
 refine wpAny_bind (wpAny_dictFind_heap hu JU ho hd he his hn (fun _=>?_) (fun j p hj=>?_))
 ·refine wpAny_bind (wpAny_rule (wpAny_updateDictKeys (hz:=by have e:=size_of_entries he;omega) ho hd (hQ _ ⟨_,_,ep+1,Heap.get?_update_self _ ho (Obj.isFreed_of_dict (Obj.data_mapDictKeys hd _)),hc.mapDictKeys _,Obj.data_mapDictKeys hd _,?_,?_,?_⟩ (Heap.SameBut.update ..))))
  ·simp[he,entryOfKey]
  ·intro x hx
   rcases List.mem_append.mp hx with hx | hx
   ·exact knd.keeps (his x hx) ho hd (Heap.SameBut.update ..)
   ·obtain rfl:=List.mem_singleton.mp hx;exact knd.keeps JU ho hd (Heap.SameBut.update ..)
  ·rw[List.map_append,List.nodup_append]
   exact⟨hn,by simp,fun x hx y hy z=>by
    have hy:y=k:=by simpa using hy
    rw[z,hy] at hx;exact Rj hx⟩
 ·exact absurd (List.mem_map.mpr ⟨(k,p),List.mem_of_getElem? hj,rfl⟩) Rj
theorem Ej{nm:String}{ys:List (K×Addr×Value)}{Q:Array DictEntry->Shared->Prop}(ho:s.heap.DictOfH knd o ys)(iy:ys.length<=1)(tp:∀y∈ys,s.TypeIs (.ref y.2.1) "tuple")(hQ:∀es:Array DictEntry,es.toList=ys.map (entryOfKey knd)->Q es s):wpAny (model prog w) A (Builtin.Dict.entriesForEmpty nm o) Q E s:=by
 obtain ⟨oo,es,ep,h1,h2,h3,h4,h5,h6⟩:=ho
 unfold Builtin.Dict.entriesForEmpty
 refine wpAny_bind (wpAny_dictEntries h1 h3 (wpAny_bind ?_))
 rw[<- Array.forIn_toList]
 refine wpAny_forIn_list _ (fun rest _ s'=>s'=s/\∀e∈rest,e∈es.toList) _ ?_ ?_ _ _ ⟨rfl,fun _ m=>m⟩
 ·rintro e rest b s' ⟨rfl,kR⟩
  have m:=kR e (.head _)
  rw[h4] at m
  obtain ⟨y,hy,rfl⟩:=List.mem_map.mp m
  have fs:∀p:DictEntry->Bool,(es.filter p).size<=1:=fun p=>Nat.le_trans (Array.size_filter_le ..) (by rw[size_of_entries h4];exact iy)
  (show wpAny _ _ (Builtin.Dict.quietEq (.ref y.2.1)>>=_) _ _ _);(unfold Builtin.Dict.quietEq);(refine wpAny_bind (wpAny_bind (wpAny_specialOf (tp y hy) F.slot_tuple_eq.lookup (wpAny_pure ?_))))
  rw[if_pos (by decide)]
  rw[if_neg (Nat.not_lt.mpr (fs _))]
  first
   | exact wpAny_pure ⟨rfl,fun u m=>kR u (.tail _ m)⟩
   | exact wpAny_bind (wpAny_pure (wpAny_pure ⟨rfl,fun u m=>kR u (.tail _ m)⟩))
 ·rintro b s' ⟨rfl,_⟩
  exact wpAny_pure (hQ es h4)
theorem BZ{nm:String}{xs ys:List (K×Addr×Value)}{Q:Unit->Shared->Prop}(hu:knd.room A)(Yr:d≠o)(hoS:(o==sysModules)=false)(hd:s.heap.DictOfH knd d xs)(ho:s.heap.DictOfH knd o ys)(Rk:∀y∈ys,y.1∉xs.map (·.1))(iy:xs=[]->ys.length<=1)(tp:∀y∈ys,s.TypeIs (.ref y.2.1) "tuple")(hsz:xs.length+ys.length<=sizeLine)
  (hQ:∀h',h'.DictOfH knd d (xs++ys)->Heap.SameBut d s.heap h'->Q () { s with heap:=h' }):wpAny (model prog w) A (Builtin.Dict.mergeDict nm d o) Q E s:=by
 obtain ⟨od,esd,epd,Rl,C0,JJ,hed,hkd,Rm⟩:=id hd
 obtain ⟨oo,FW,epo,Wt,hco,Gg,JV,hko,Rj⟩:=id ho
 have hlen:ys.length=FW.size:=(size_of_entries JV).symm
 (unfold Builtin.Dict.mergeDict);(rw[if_neg (by simpa using Yr)]);(unfold Builtin.Dict.showsAll);(rw[if_neg (by rw[hoS];exact Bool.false_ne_true)])
 refine wpAny_bind (wpAny_pure (wpAny_bind (wpAny_dictEntries Wt Gg ?_)))
 dsimp only
 split
 case' isTrue=>
  refine wpAny_bind (wpAny_dictEntries Rl JJ ?_)
  split
 case' isTrue.isTrue=>
  rename_i Ys
  have h0:esd=#[]:=Array.isEmpty_iff.mp Ys
  have hx:xs=[]:=by have:=size_of_entries hed;rw[h0] at this;exact List.length_eq_zero_iff.mp this.symm
  subst hx
  refine wpAny_bind (Ej ho (iy rfl) tp fun es FY=>?_)
  rw[List.nil_append] at hQ
  split
  ·have hto:es.size<=sizeLine+1:=by rw[size_of_entries FY];rw[List.length_nil] at hsz;omega
   refine wpAny_bind (wpAny_updateDictKeysTo Rl JJ (wpAny_pure (hQ _ ⟨_,_,epd+1,Heap.get?_update_self _ Rl (Obj.isFreed_of_dict (Obj.data_mapDictKeys JJ _)),C0.mapDictKeys _,Obj.data_mapDictKeys JJ _,FY,fun y m=>knd.keeps (hko y m) Rl JJ (Heap.SameBut.update ..),Rj⟩ (Heap.SameBut.update ..))) hto)
  ·rename_i MV
   have h1:es=#[]:=Array.isEmpty_iff.mp (by simpa using MV)
   have hy:ys=[]:=by have:=size_of_entries FY;rw[h1] at this;exact List.length_eq_zero_iff.mp this.symm
   subst hy
   exact wpAny_pure (hQ _ hd (Heap.SameBut.refl _ _))
 all_goals
  (refine wpAny_bind (wpAny_dictEpoch Wt Gg (wpAny_bind (wpAny_dictEntries Wt Gg (wpAny_bind ?_)))))
  (rw[Std.Legacy.Range.forIn_eq_forIn_range']);(simp only[Std.Legacy.Range.size,Nat.sub_zero,Nat.add_sub_cancel,Nat.div_one])
  refine wpAny_forIn_list _ (fun rest _ s'=>∃h' i,s'={ s with heap:=h' }/\rest=List.range' i (FW.size - i)/\i<=FW.size/\h'.DictOfH knd d (xs++ys.take i)/\Heap.SameBut d s.heap h') _ ?_ ?_ _ _ ⟨s.heap,0,rfl,by simp,Nat.zero_le _,by simpa using hd,Heap.SameBut.refl _ _⟩
  ·rintro x rest b s' ⟨h',i,rfl,hr,hi,JK,BR⟩
   have gG:i < FW.size:=by
    rcases Nat.lt_or_ge i FW.size with h | h
    ·exact h
    ·rw[Nat.sub_eq_zero_of_le h] at hr;cases hr
   have e1:FW.size - i=(FW.size - (i+1))+1:=by omega
   rw[e1,List.range'_succ] at hr
   injection hr with hx Gh
   subst hx
   have Ro:h'.get? o=some oo:=(BR.2 o (Ne.symm Yr)).trans Wt
   have hly:x < ys.length:=by rw[hlen];exact gG
   obtain ⟨y,hy⟩:∃y,ys[x]?=some y:=⟨ys[x],List.getElem?_eq_getElem hly⟩
   have hey:FW[x]?=some (entryOfKey knd y):=by rw[entry_at JV,hy];rfl
   have my:y∈ys:=List.mem_of_getElem? hy
   refine wpAny_bind (wpAny_dictEntries (s:={ s with heap:=h' }) Ro Gg ?_)
   rw[hey]
   have Yt:y.1∉(xs++ys.take x).map (·.1):=fun z=>by
    rw[List.map_append] at z
    rcases List.mem_append.mp z with z | z
    ·exact Rk y my z
    ·obtain ⟨u,Rp,e⟩:=List.mem_map.mp z
     obtain ⟨j,hj⟩:=List.mem_iff_getElem?.mp Rp
     rw[List.getElem?_take] at hj
     split at hj
     ·rename_i hjx
      obtain ⟨k,a,v⟩:=u
      obtain ⟨k2,a2,v2⟩:=y
      dsimp only at e
      subst e
      have:=idxH_unique Rj hj hy
      omega
     ·cases hj
   show wpAny _ _ (holding [Value.ref y.2.1,y.2.2] (dictSetHashed d (.ref y.2.1) (knd.hash y.1) y.2.2)>>=_) _ _ _
   refine wpAny_bind (wpAny_holding (xr (s:={ s with heap:=h' }) hu (knd.keeps (hko y my) Rl JJ BR) JK Yt (by rw[List.length_append,List.length_take];omega) fun Yu Yv Rq=>?_))
   have Rt:Yu.get? o=some oo:=(Rq.2 o (Ne.symm Yr)).trans Ro
   refine wpAny_bind (wpAny_dictEpoch (s:={ s with heap:=Yu }) Rt Gg ?_)
   rw[if_neg (by simp)]
   exact wpAny_pure ⟨Yu,x+1,rfl,Gh,gG,by
    rw[List.take_succ,hy,<- List.append_assoc];exact Yv,BR.trans Rq⟩
  ·rintro b s' ⟨h',i,rfl,hr,hi,JK,BR⟩
   have JL:i=FW.size:=by
    rcases Nat.lt_or_ge i FW.size with h | h
    ·have e1:FW.size - i=(FW.size - (i+1))+1:=by omega
     rw[e1,List.range'_succ] at hr;cases hr
    ·exact Nat.le_antisymm hi h
   rw[JL,<- hlen,List.take_length] at JK
   exact wpAny_pure (hQ h' JK BR)
end
end Hk
end Yq
section Yw
namespace Hk
open PySem
section
variable {prog:Program}{w:World}{A:Around}{E:Value->Shared->Prop}{s:Shared}{d it:Addr}{od:Obj}{es:Array DictEntry}{ep:Nat}
theorem C1{Q:Value->Shared->Prop}(ho:s.heap.get? d=some od)(hx:od.ExactDict)(hd:(d==sysModules)=false)(hQ:Q (.ref s.heap.objs.size) { s with heap:=s.heap.push { cls:=.type "dict_items",data:=.fields #[.ref d] } }):wpAny (model prog w) A (call (.builtin "dict.items") [.ref d]) Q E s:=by
 have hT:s.TypeIs (.ref d) "dict":=⟨od,ho,hx.1⟩
 refine wpAny_call_entry F.slot_dict_items hT F.entry_dict_items ?_ (F.args_dict_items_1 _)
 (unfold Builtin.«dict.items»);(refine wpAny_bind ?_);(unfold Builtin.Dict.noArgs);(refine wpAny_bind (wpAny_notOrdered_dict hT ?_));(show wpAny _ _ (pure d) _ _ s);(refine wpAny_pure ?_)
 (show wpAny _ _ (Builtin.Dict.showsAll d>>=_) _ _ s);(unfold Builtin.Dict.showsAll);(rw[if_neg (by rw[hd];exact Bool.false_ne_true)])
 exact wpAny_bind (wpAny_pure (wpAny_bind (wpAny_newObj_type (wpAny_pure ⟨_,rfl,hQ⟩))))
theorem C2{v:Addr}{Q:Value->Shared->Prop}(hv:s.heap.IsItemsView v d)(ho:s.heap.get? d=some od)(pS:od.data = .dict es ep)
  (hQ:Q (.ref s.heap.objs.size) { s with heap:=s.heap.push { cls:=.type "dict_itemiterator",data:=.fields #[.none,.bool false,.ref d,.int 0 0,.int es.size 0,.int ep 0,.none,.none] } }):wpAny (model prog w) A (pyIter (.ref v)) Q E s:=by
 obtain ⟨ov,hov,hcv,hdv⟩:=id hv
 refine wpAny_pyIter_slot hv.typeIs F.slot_dict_items_iter (wpAny_call_entry F.slot_dict_items_iter hv.typeIs F.entry_dict_items_iter ?_ (F.args_dict_items_iter_1 _))
 (unfold Builtin.«dict_items.__iter__»);(refine wpAny_bind (wpAny_pure (wpAny_bind ?_)));(unfold Builtin.Dict_items.dictOf);(refine wpAny_bind (wpAny_field hov hdv (x:=.ref d) rfl (wpAny_pure (wpAny_bind ?_))))
 (unfold Builtin.Dict_items.newIterator);(refine wpAny_bind (wpAny_dictEntries ho pS (wpAny_bind (wpAny_dictEpoch ho pS ?_))))
 (have own:Builtin.Dict_items.ownsTuple "dict_itemiterator" =true:=by decide);(simp only[own,if_true])
 refine wpAny_newObj_type (wpAny_pure ⟨_,rfl,"dict_itemiterator",_,⟨_,Heap.get?_push_size _ rfl,rfl⟩,F.slot_dict_itemiterator_next.lookup,by simpa[rawInt,Builtin.Dict_items.ownedTupleFields] using hQ⟩) (by
  simp only[sizeOk,Builtin.Dict_items.ownedTupleFields,List.size_toArray,List.length_append,List.length_cons,List.length_nil,sizeLine_eq];omega)
theorem C3{i:Nat}{e:DictEntry}{ok ov:Value}{Q:Option Value->Shared->Prop}(hit:IsItemIter s.heap it d i es.size ep ok ov)(ho:s.heap.get? d=some od)(pS:od.data = .dict es ep)(hx:es[i]?=some e)
  (hQ:∀h',IsItemIterOut h' it d (i+1) es.size ep e.key e.val s.heap.objs.size->h'.get? s.heap.objs.size=some { cls:=.type "tuple",data:=.seq #[e.key,e.val] }->h'.objs.size=s.heap.objs.size+1->
   (∀b o,b≠it->s.heap.get? b=some o->h'.get? b=some o)->Q (some (.ref s.heap.objs.size)) { s with heap:=h' }):wpAny (model prog w) A (pyNext (.ref it)) Q E s:=by
 obtain ⟨hp,g,dr,tk,os⟩:=s
 have hT:Shared.TypeIs ⟨hp,g,dr,tk,os⟩ (.ref it) "dict_itemiterator":=⟨_,hit,rfl⟩
 have own:Builtin.Dict_items.ownsTuple "dict_itemiterator" =true:=by decide
 have gG:i < es.size:=(Array.getElem?_eq_some_iff.mp hx).1
 have he:es[i]=e:=(Array.getElem?_eq_some_iff.mp hx).2
 unfold pyNext
 refine wpAny_bind (wpAny_attempt (wpAny_callSpecial?_slot (name:=Str.ofString "__next__") hT F.slot_dict_itemiterator_next (wpAny_call_entry F.slot_dict_itemiterator_next hT F.entry_dict_itemiterator_next ?_ (F.args_dict_itemiterator_next_1 _))))
 (refine wpAny_bind (wpAny_pure (wpAny_bind (wpAny_bind ?_))));(first | refine wpAny_bind (wpAny_typeNameOfWhole_itemiter hT (wpAny_pure ?_)) | refine wpAny_bind (wpAny_typeNameOf_itemiter hT (wpAny_pure ?_)))
 (refine wpAny_bind (wpAny_fieldsOf hit rfl ?_));(simp only[own,if_true]);(show wpAny _ _ (if (Value.ref d==Value.none)=true then _ else _) _ _ _);(rw[if_neg (show ¬ ((Value.ref d==Value.none)=true) from Bool.false_ne_true)])
 (refine wpAny_bind (wpAny_pure (wpAny_bind (wpAny_dictEntries ho pS ?_))));(rw[if_neg (by simp)]);(refine wpAny_bind (wpAny_pure (wpAny_bind (wpAny_dictEpoch ho pS ?_))));(rw[if_neg (by simp)]);(refine wpAny_pure ?_)
 (simp only[show ¬ ((i:Int) < 0) from by omega,if_false,Int.toNat_natCast,Array.getElem?_eq_getElem gG,he]);(refine wpAny_bind ?_)
 (first | refine wpAny_bind (wpAny_typeNameOfWhole_itemiter hT (wpAny_pure ?_)) | refine wpAny_bind (wpAny_typeNameOf_itemiter hT (wpAny_pure ?_)));(refine wpAny_bind (wpAny_isOneOf_itemiter hT ?_))
 (show wpAny _ _ (setField (.ref it) 3 (rawInt ((i:Int)+1))>>=_) _ _ ⟨hp,g,dr,tk,os⟩);(refine wpAny_bind (wpAny_setField_rec hit (by simp) fun h1 f1 s1=>?_))
 replace s1:Heap.SameBut it hp h1:=s1
 replace f1:IsItemIter h1 it d (i+1) es.size ep ok ov:=by
  have z:((i+1:Nat):Int)=(i:Int)+1:=by omega
  unfold IsItemIter;rw[z];simpa[rawInt] using f1
 have hT1:Shared.TypeIs ⟨h1,g,dr,tk,os⟩ (.ref it) "dict_itemiterator":=⟨_,f1,rfl⟩
 refine wpAny_bind (wpAny_holding (wpAny_bind (wpAny_isOneOf_itemiter hT1 (wpAny_bind (wpAny_isOneOf_itemiter hT1 ?_)))))
 (show wpAny _ _ (Builtin.Dict_items.pairFromOwner (.ref it) 6 e.key e.val) _ _ ⟨h1,g,dr,tk,os⟩);(unfold Builtin.Dict_items.pairFromOwner);(refine wpAny_bind (wpAny_newTuple ?_))
 have f2:IsItemIter (h1.push { cls:=.type "tuple",data:=.seq #[e.key,e.val] }) it d (i+1) es.size ep ok ov:=Heap.get?_push_of_some _ f1
 have z1:h1.objs.size=hp.objs.size:=s1.1
 have Ru:hp.objs.size≠it:=Nat.ne_of_gt (Heap.lt_size hit)
 have t2:(h1.push { cls:=.type "tuple",data:=.seq #[e.key,e.val] }).get? hp.objs.size=some { cls:=.type "tuple",data:=.seq #[e.key,e.val] }:=by rw[<- z1];exact Heap.get?_push_size _ rfl
 have z2:(h1.push { cls:=.type "tuple",data:=.seq #[e.key,e.val] }).objs.size=hp.objs.size+1:=by rw[Heap.size_push,z1]
 have k2:∀b o,b≠it->hp.get? b=some o->(h1.push { cls:=.type "tuple",data:=.seq #[e.key,e.val] }).get? b=some o:=fun b o hb q=>Heap.get?_push_of_some _ (s1.extBut b o hb q)
 rw[z1]
 generalize h1.push { cls:=.type "tuple",data:=.seq #[e.key,e.val] }=h2 at f2 t2 z2 k2 ⊢
 (show wpAny _ _ (Builtin.Dict_items.ownedTupleIsFree (.ref it)>>=_) _ _ ⟨h2,g,dr,tk,os⟩);(refine wpAny_bind ?_);(unfold Builtin.Dict_items.ownedTupleIsFree);(refine wpAny_bind (wpAny_field f2 rfl (x:=.none) rfl (wpAny_pure ?_)))
 simp only[if_true]
 refine wpAny_bind (wpAny_field f2 rfl (x:=ok) rfl (wpAny_bind (wpAny_field f2 rfl (x:=ov) rfl (wpAny_bind (wpAny_setField_rec f2 (by simp) fun h3 f3 s3=>?_)))))
 replace s3:Heap.SameBut it h2 h3:=s3
 replace f3:IsItemIter h3 it d (i+1) es.size ep e.key ov:=f3
 refine wpAny_bind (wpAny_setField_rec f3 (by simp) fun h4 f4 s4=>?_)
 replace s4:Heap.SameBut it h3 h4:=s4
 replace f4:IsItemIter h4 it d (i+1) es.size ep e.key e.val:=f4
 refine wpAny_bind (wpAny_setField_rec f4 (by simp) fun h5 f5 s5=>?_)
 replace s5:Heap.SameBut it h4 h5:=s5
 replace f5:IsItemIterOut h5 it d (i+1) es.size ep e.key e.val hp.objs.size:=f5
 refine wpAny_bind (wpAny_setField_rec f5 (by simp) fun h6 f6 s6=>?_)
 replace s6:Heap.SameBut it h5 h6:=s6
 replace f6:IsItemIterOut h6 it d (i+1) es.size ep e.key e.val hp.objs.size:=f6
 have all:∀b o,b≠it->h2.get? b=some o->h6.get? b=some o:=fun b o hb q=>s6.extBut b o hb (s5.extBut b o hb (s4.extBut b o hb (s3.extBut b o hb q)))
 exact wpAny_bind (wpAny_letGo (wpAny_pure (wpAny_pure ⟨_,rfl,wpAny_pure (hQ h6 f6 (all _ _ Ru t2) (by show h6.objs.size=_;rw[s6.1,s5.1,s4.1,s3.1,z2]) fun b o hb q=>all b o hb (k2 b o hb q))⟩)))
theorem Ek{i:Nat}{ok ov:Value}{Q:Option Value->Shared->Prop}(hh:A.handled=none)(hit:IsItemIter s.heap it d i es.size ep ok ov)(ho:s.heap.get? d=some od)(pS:od.data = .dict es ep)(hx:es.size<=i)
  (hQ:∀h',Heap.ExtBut it s.heap h'->Q none { s with heap:=h' }):wpAny (model prog w) A (pyNext (.ref it)) Q E s:=by
 have hT:s.TypeIs (.ref it) "dict_itemiterator":=⟨_,hit,rfl⟩
 have own:Builtin.Dict_items.ownsTuple "dict_itemiterator" =true:=by decide
 unfold pyNext
 refine wpAny_bind (wpAny_attempt (wpAny_callSpecial?_slot (name:=Str.ofString "__next__") hT F.slot_dict_itemiterator_next (wpAny_call_entry F.slot_dict_itemiterator_next hT F.entry_dict_itemiterator_next ?_ (F.args_dict_itemiterator_next_1 _))))
 (refine wpAny_bind (wpAny_pure (wpAny_bind (wpAny_bind ?_))));(first | refine wpAny_bind (wpAny_typeNameOfWhole_itemiter hT (wpAny_pure ?_)) | refine wpAny_bind (wpAny_typeNameOf_itemiter hT (wpAny_pure ?_)))
 (refine wpAny_bind (wpAny_fieldsOf hit rfl ?_));(simp only[own,if_true]);(show wpAny _ _ (if (Value.ref d==Value.none)=true then _ else _) _ _ s);(rw[if_neg (show ¬ ((Value.ref d==Value.none)=true) from Bool.false_ne_true)])
 (refine wpAny_bind (wpAny_pure (wpAny_bind (wpAny_dictEntries ho pS ?_))));(rw[if_neg (by simp)]);(refine wpAny_bind (wpAny_pure (wpAny_bind (wpAny_dictEpoch ho pS ?_))));(rw[if_neg (by simp)]);(refine wpAny_pure ?_)
 (simp only[show ¬ ((i:Int) < 0) from by omega,if_false,Int.toNat_natCast,Array.getElem?_eq_none hx]);(refine wpAny_bind ?_)
 (first | refine wpAny_bind (wpAny_typeNameOfWhole_itemiter hT (wpAny_pure ?_)) | refine wpAny_bind (wpAny_typeNameOf_itemiter hT (wpAny_pure ?_)))
 (show wpAny _ _ (setField (.ref it) 2 .none>>=_) _ _ s);(refine wpAny_bind (wpAny_setField hit rfl (by simp) ?_));(show wpAny _ _ (newExc (.type "StopIteration") []>>=_) _ _ _);(refine wpAny_bind ?_)
 (simp only[newExc,newTuple]);(refine wpAny_bind (wpAny_newObj_type ?_ (by size_fits)));(refine wpAny_bind (m:=firstArgMember _ _) (wpAny_of_eq (a:=Value.none) (by first | rfl | (simp only[firstArgMember];rfl)) ?_))
 (refine wpAny_newObj_type ?_ (by size_fits));(simp only[raiseNew]);(refine wpAny_bind (wpAny_handled ?_));(rw[show A.in1.handled=none from hh])
 (refine wpAny_bind (wpAny_pure (wpAny_throw ?_)));(refine wpAny_bind (wpAny_isInstance (T:="StopIteration") (b:=true) ⟨_,Heap.get?_push_size _ rfl,rfl⟩ isSubtype_stop ?_))
 exact wpAny_pure (hQ _ (((Heap.SameBut.update ..).extBut.push _).push _))
end
end Hk
end Yw
section Yx
theorem qT{p0 p1 p2:Prop}{G:Prop}(h:p0/\p1/\p2)(f:p0->p1->p2->G):G:=f h.1 h.2.1 h.2.2
theorem aN{jR:Sort _}{p0 p1:jR->Prop}{G:Prop}(h:∃a0,p0 a0/\p1 a0)(f:∀a0,p0 a0->p1 a0->G):G:=h.elim fun a0 h=>f a0 h.1 h.2
theorem qq{jR nH:Sort _}{p0:jR->nH->Prop}{G:Prop}(h:∃a0 a1,p0 a0 a1)(f:∀a0 a1,p0 a0 a1->G):G:=h.elim fun a0 h=>h.elim fun a1 h=>f a0 a1 h
theorem Ad{p0 p1 p2 p3:Prop}{G:Prop}(h:p0/\p1/\p2/\p3)(f:p0->p1->p2->p3->G):G:=f h.1 h.2.1 h.2.2.1 h.2.2.2
theorem bQ{jR:Sort _}{p0 p1 p2:jR->Prop}{G:Prop}(h:∃a0,p0 a0/\p1 a0/\p2 a0)(f:∀a0,p0 a0->p1 a0->p2 a0->G):G:=h.elim fun a0 h=>f a0 h.1 h.2.1 h.2.2
theorem cN{jR nH:Sort _}{p0 p1:jR->nH->Prop}{G:Prop}(h:∃a0 a1,p0 a0 a1/\p1 a0 a1)(f:∀a0 a1,p0 a0 a1->p1 a0 a1->G):G:=h.elim fun a0 h=>h.elim fun a1 h=>f a0 a1 h.1 h.2
theorem El{p0 p1 p2 p3 p4:Prop}{G:Prop}(h:p0/\p1/\p2/\p3/\p4)(f:p0->p1->p2->p3->p4->G):G:=f h.1 h.2.1 h.2.2.1 h.2.2.2.1 h.2.2.2.2
theorem Yy{jR:Sort _}{p0 p1 p2 p3:jR->Prop}{G:Prop}(h:∃a0,p0 a0/\p1 a0/\p2 a0/\p3 a0)(f:∀a0,p0 a0->p1 a0->p2 a0->p3 a0->G):G:=h.elim fun a0 h=>f a0 h.1 h.2.1 h.2.2.1 h.2.2.2
theorem b8{jR nH:Sort _}{p0 p1 p2:jR->nH->Prop}{G:Prop}(h:∃a0 a1,p0 a0 a1/\p1 a0 a1/\p2 a0 a1)(f:∀a0 a1,p0 a0 a1->p1 a0 a1->p2 a0 a1->G):G:=h.elim fun a0 h=>h.elim fun a1 h=>f a0 a1 h.1 h.2.1 h.2.2
theorem JW{jR nH uV:Sort _}{p0 p1:jR->nH->uV->Prop}{G:Prop}(h:∃a0 a1 a2,p0 a0 a1 a2/\p1 a0 a1 a2)(f:∀a0 a1 a2,p0 a0 a1 a2->p1 a0 a1 a2->G):G:=h.elim fun a0 h=>h.elim fun a1 h=>h.elim fun a2 h=>f a0 a1 a2 h.1 h.2
theorem uw{p0 p1 p2 p3 p4 p5:Prop}{G:Prop}(h:p0/\p1/\p2/\p3/\p4/\p5)(f:p0->p1->p2->p3->p4->p5->G):G:=f h.1 h.2.1 h.2.2.1 h.2.2.2.1 h.2.2.2.2.1 h.2.2.2.2.2
theorem JX{jR:Sort _}{p0 p1 p2 p3 p4:jR->Prop}{G:Prop}(h:∃a0,p0 a0/\p1 a0/\p2 a0/\p3 a0/\p4 a0)(f:∀a0,p0 a0->p1 a0->p2 a0->p3 a0->p4 a0->G):G:=h.elim fun a0 h=>f a0 h.1 h.2.1 h.2.2.1 h.2.2.2.1 h.2.2.2.2
theorem ux{jR nH:Sort _}{p0 p1 p2 p3:jR->nH->Prop}{G:Prop}(h:∃a0 a1,p0 a0 a1/\p1 a0 a1/\p2 a0 a1/\p3 a0 a1)(f:∀a0 a1,p0 a0 a1->p1 a0 a1->p2 a0 a1->p3 a0 a1->G):G:=h.elim fun a0 h=>h.elim fun a1 h=>f a0 a1 h.1 h.2.1 h.2.2.1 h.2.2.2
theorem NF{jR nH uV:Sort _}{p0 p1 p2:jR->nH->uV->Prop}{G:Prop}(h:∃a0 a1 a2,p0 a0 a1 a2/\p1 a0 a1 a2/\p2 a0 a1 a2)(f:∀a0 a1 a2,p0 a0 a1 a2->p1 a0 a1 a2->p2 a0 a1 a2->G):G:=h.elim fun a0 h=>h.elim fun a1 h=>h.elim fun a2 h=>f a0 a1 a2 h.1 h.2.1 h.2.2
theorem Yz{jR nH uV Em:Sort _}{p0 p1:jR->nH->uV->Em->Prop}{G:Prop}(h:∃a0 a1 a2 a3,p0 a0 a1 a2 a3/\p1 a0 a1 a2 a3)(f:∀a0 a1 a2 a3,p0 a0 a1 a2 a3->p1 a0 a1 a2 a3->G):G:=h.elim fun a0 h=>h.elim fun a1 h=>h.elim fun a2 h=>h.elim fun a3 h=>f a0 a1 a2 a3 h.1 h.2
theorem YA{jR nH uV Em YB:Sort _}{p0:jR->nH->uV->Em->YB->Prop}{G:Prop}(h:∃a0 a1 a2 a3 a4,p0 a0 a1 a2 a3 a4)(f:∀a0 a1 a2 a3 a4,p0 a0 a1 a2 a3 a4->G):G:=h.elim fun a0 h=>h.elim fun a1 h=>h.elim fun a2 h=>h.elim fun a3 h=>h.elim fun a4 h=>f a0 a1 a2 a3 a4 h
theorem YC{p0 p1 p2 p3 p4 p5 p6:Prop}{G:Prop}(h:p0/\p1/\p2/\p3/\p4/\p5/\p6)(f:p0->p1->p2->p3->p4->p5->p6->G):G:=f h.1 h.2.1 h.2.2.1 h.2.2.2.1 h.2.2.2.2.1 h.2.2.2.2.2.1 h.2.2.2.2.2.2
theorem En{jR nH:Sort _}{p0 p1 p2 p3 p4:jR->nH->Prop}{G:Prop}(h:∃a0 a1,p0 a0 a1/\p1 a0 a1/\p2 a0 a1/\p3 a0 a1/\p4 a0 a1)(f:∀a0 a1,p0 a0 a1->p1 a0 a1->p2 a0 a1->p3 a0 a1->p4 a0 a1->G):G:=h.elim fun a0 h=>h.elim fun a1 h=>f a0 a1 h.1 h.2.1 h.2.2.1 h.2.2.2.1 h.2.2.2.2
theorem JY{jR nH uV:Sort _}{p0 p1 p2 p3:jR->nH->uV->Prop}{G:Prop}(h:∃a0 a1 a2,p0 a0 a1 a2/\p1 a0 a1 a2/\p2 a0 a1 a2/\p3 a0 a1 a2)(f:∀a0 a1 a2,p0 a0 a1 a2->p1 a0 a1 a2->p2 a0 a1 a2->p3 a0 a1 a2->G):G:=h.elim fun a0 h=>h.elim fun a1 h=>h.elim fun a2 h=>f a0 a1 a2 h.1 h.2.1 h.2.2.1 h.2.2.2
theorem YD{jR nH uV Em:Sort _}{p0 p1 p2:jR->nH->uV->Em->Prop}{G:Prop}(h:∃a0 a1 a2 a3,p0 a0 a1 a2 a3/\p1 a0 a1 a2 a3/\p2 a0 a1 a2 a3)(f:∀a0 a1 a2 a3,p0 a0 a1 a2 a3->p1 a0 a1 a2 a3->p2 a0 a1 a2 a3->G):G:=h.elim fun a0 h=>h.elim fun a1 h=>h.elim fun a2 h=>h.elim fun a3 h=>f a0 a1 a2 a3 h.1 h.2.1 h.2.2
theorem NG{jR nH:Sort _}{p0 p1 p2 p3 p4 p5:jR->nH->Prop}{G:Prop}(h:∃a0 a1,p0 a0 a1/\p1 a0 a1/\p2 a0 a1/\p3 a0 a1/\p4 a0 a1/\p5 a0 a1)(f:∀a0 a1,p0 a0 a1->p1 a0 a1->p2 a0 a1->p3 a0 a1->p4 a0 a1->p5 a0 a1->G):G:=h.elim fun a0 h=>h.elim fun a1 h=>f a0 a1 h.1 h.2.1 h.2.2.1 h.2.2.2.1 h.2.2.2.2.1 h.2.2.2.2.2
theorem Ae{jR nH uV:Sort _}{p0 p1 p2 p3 p4:jR->nH->uV->Prop}{G:Prop}(h:∃a0 a1 a2,p0 a0 a1 a2/\p1 a0 a1 a2/\p2 a0 a1 a2/\p3 a0 a1 a2/\p4 a0 a1 a2)(f:∀a0 a1 a2,p0 a0 a1 a2->p1 a0 a1 a2->p2 a0 a1 a2->p3 a0 a1 a2->p4 a0 a1 a2->G):G:=h.elim fun a0 h=>h.elim fun a1 h=>h.elim fun a2 h=>f a0 a1 a2 h.1 h.2.1 h.2.2.1 h.2.2.2.1 h.2.2.2.2
theorem Rv{jR nH uV Em:Sort _}{p0 p1 p2 p3:jR->nH->uV->Em->Prop}{G:Prop}(h:∃a0 a1 a2 a3,p0 a0 a1 a2 a3/\p1 a0 a1 a2 a3/\p2 a0 a1 a2 a3/\p3 a0 a1 a2 a3)(f:∀a0 a1 a2 a3,p0 a0 a1 a2 a3->p1 a0 a1 a2 a3->p2 a0 a1 a2 a3->p3 a0 a1 a2 a3->G):G:=h.elim fun a0 h=>h.elim fun a1 h=>h.elim fun a2 h=>h.elim fun a3 h=>f a0 a1 a2 a3 h.1 h.2.1 h.2.2.1 h.2.2.2
theorem YE{jR nH uV:Sort _}{p0 p1 p2 p3 p4 p5:jR->nH->uV->Prop}{G:Prop}(h:∃a0 a1 a2,p0 a0 a1 a2/\p1 a0 a1 a2/\p2 a0 a1 a2/\p3 a0 a1 a2/\p4 a0 a1 a2/\p5 a0 a1 a2)(f:∀a0 a1 a2,p0 a0 a1 a2->p1 a0 a1 a2->p2 a0 a1 a2->p3 a0 a1 a2->p4 a0 a1 a2->p5 a0 a1 a2->G):G:=h.elim fun a0 h=>h.elim fun a1 h=>h.elim fun a2 h=>f a0 a1 a2 h.1 h.2.1 h.2.2.1 h.2.2.2.1 h.2.2.2.2.1 h.2.2.2.2.2
theorem NH{jR nH uV Em:Sort _}{p0 p1 p2 p3 p4:jR->nH->uV->Em->Prop}{G:Prop}(h:∃a0 a1 a2 a3,p0 a0 a1 a2 a3/\p1 a0 a1 a2 a3/\p2 a0 a1 a2 a3/\p3 a0 a1 a2 a3/\p4 a0 a1 a2 a3)(f:∀a0 a1 a2 a3,p0 a0 a1 a2 a3->p1 a0 a1 a2 a3->p2 a0 a1 a2 a3->p3 a0 a1 a2 a3->p4 a0 a1 a2 a3->G):G:=h.elim fun a0 h=>h.elim fun a1 h=>h.elim fun a2 h=>h.elim fun a3 h=>f a0 a1 a2 a3 h.1 h.2.1 h.2.2.1 h.2.2.2.1 h.2.2.2.2
theorem YF{jR nH uV Em:Sort _}{p0 p1 p2 p3 p4 p5:jR->nH->uV->Em->Prop}{G:Prop}(h:∃a0 a1 a2 a3,p0 a0 a1 a2 a3/\p1 a0 a1 a2 a3/\p2 a0 a1 a2 a3/\p3 a0 a1 a2 a3/\p4 a0 a1 a2 a3/\p5 a0 a1 a2 a3)(f:∀a0 a1 a2 a3,p0 a0 a1 a2 a3->p1 a0 a1 a2 a3->p2 a0 a1 a2 a3->p3 a0 a1 a2 a3->p4 a0 a1 a2 a3->p5 a0 a1 a2 a3->G):G:=h.elim fun a0 h=>h.elim fun a1 h=>h.elim fun a2 h=>h.elim fun a3 h=>f a0 a1 a2 a3 h.1 h.2.1 h.2.2.1 h.2.2.2.1 h.2.2.2.2.1 h.2.2.2.2.2
theorem NI{jR nH uV Em YB α5 α6 α7 α8:Sort _}{p0 p1 p2:jR->nH->uV->Em->YB->α5->α6->α7->α8->Prop}{G:Prop}(h:∃a0 a1 a2 a3 a4 a5 a6 a7 a8,p0 a0 a1 a2 a3 a4 a5 a6 a7 a8/\p1 a0 a1 a2 a3 a4 a5 a6 a7 a8/\p2 a0 a1 a2 a3 a4 a5 a6 a7 a8)(f:∀a0 a1 a2 a3 a4 a5 a6 a7 a8,p0 a0 a1 a2 a3 a4 a5 a6 a7 a8->p1 a0 a1 a2 a3 a4 a5 a6 a7 a8->p2 a0 a1 a2 a3 a4 a5 a6 a7 a8->G):G:=h.elim fun a0 h=>h.elim fun a1 h=>h.elim fun a2 h=>h.elim fun a3 h=>h.elim fun a4 h=>h.elim fun a5 h=>h.elim fun a6 h=>h.elim fun a7 h=>h.elim fun a8 h=>f a0 a1 a2 a3 a4 a5 a6 a7 a8 h.1 h.2.1 h.2.2
end Yx
section YG
namespace Tb
open PySem PySem.SetTable
def jc(mask:Nat)(p:Probe):Probe:=
 if p.more > 0 then { p with j:=p.j+1,more:=p.more - 1 } else
  { p with j:=(leap mask p.i p.perturb).1,more:=runEnd mask (leap mask p.i p.perturb).1 - (leap mask p.i p.perturb).1,i:=(leap mask p.i p.perturb).1,perturb:=(leap mask p.i p.perturb).2 }
theorem uW(t:SetTable)(p:Probe):t.advance p=jc t.mask p:=by
 unfold SetTable.advance jc;rfl
def FZ(mask i jd:Nat):Probe:={ j:=i,more:=runEnd mask i - i,i:=i,perturb:=jd,dummy:=none }
theorem uX(t:SetTable)(h:Int):t.probeStart h=FZ t.mask (bits h % (t.mask+1)) (bits h):=rfl
def W(mask:Nat):Probe->Nat->Probe
 | p,0=>p
 | p,k+1=>W mask (jc mask p) k
theorem nI(mask:Nat):∀(a b:Nat) (p:Probe),W mask p (a+b)=W mask (W mask p a) b
 | 0,b,p=>by rw[Nat.zero_add];rfl
 | a+1,b,p=>by
  rw[show a+1+b=(a+b)+1 by lia]
  show W mask (jc mask p) (a+b)=_
  rw[nI mask a b];rfl
theorem NJ(mask:Nat)(p:Probe)(k:Nat):W mask p (k+1)=jc mask (W mask p k):=by
 rw[nI mask k 1 p];rfl
theorem uY(mask:Nat)(p:Probe)(h:p.dummy=none):(jc mask p).dummy=none:=by
 unfold jc;split <;> exact h
theorem Dd(mask:Nat):∀(k:Nat) (p:Probe),p.dummy=none->(W mask p k).dummy=none
 | 0,_,h=>h
 | k+1,p,h=>Dd mask k _ (uY mask p h)
theorem Gi(mask:Nat):∀(k:Nat) (p:Probe),k<=p.more->W mask p k={ p with j:=p.j+k,more:=p.more - k }
 | 0,p,_=>rfl
 | k+1,p,h=>by
  show W mask (jc mask p) k=_
  have e:jc mask p={ p with j:=p.j+1,more:=p.more - 1 }:=by unfold jc;rw[if_pos (by lia)]
  rw[e,Gi mask k _ (by show k<=p.more - 1;lia)]
  simp only[Probe.mk.injEq,and_true,true_and]
  lia
theorem C4(mask i jd:Nat):W mask (FZ mask i jd) (runEnd mask i - i+1)=FZ mask (leap mask i jd).1 (leap mask i jd).2:=by
 rw[NJ,Gi mask (runEnd mask i - i) (FZ mask i jd) (Nat.le_refl _)]
 unfold jc
 rw[if_neg (by show ¬ (runEnd mask i - i - (runEnd mask i - i) > 0);lia)]
 rfl
theorem NK(mask i:Nat):runEnd mask i - i<=9:=by unfold runEnd;split <;> lia
def G(mask:Nat):Nat->Nat->Nat->Nat×Nat
 | 0,i,jd=>(i,jd)
 | n+1,i,jd=>G mask n (leap mask i jd).1 (leap mask i jd).2
theorem Af(mask:Nat):∀(n i jd:Nat),∃k,k<=10 * n/\W mask (FZ mask i jd) k=FZ mask (G mask n i jd).1 (G mask n i jd).2
 | 0,i,jd=>⟨0,by lia,rfl⟩
 | n+1,i,jd=>by
  refine aN (Af mask n (leap mask i jd).1 (leap mask i jd).2) fun k hk e=>?_
  refine⟨runEnd mask i - i+1+k,by have:=NK mask i;lia,?_⟩
  rw[nI,C4,e];rfl
theorem MW(mask:Nat):∀(n i jd:Nat),(G mask n i jd).2=jd / 32 ^ n
 | 0,i,jd=>by simp[G]
 | n+1,i,jd=>by
  show (G mask n (leap mask i jd).1 (leap mask i jd).2).2=_
  rw[MW mask n,show (leap mask i jd).2=jd / 32 from rfl,Nat.div_div_eq_div_mul,Nat.pow_succ,Nat.mul_comm]
theorem MX(mask:Nat):∀(a b i jd:Nat),G mask (a+b) i jd=G mask b (G mask a i jd).1 (G mask a i jd).2
 | 0,b,i,jd=>by rw[Nat.zero_add];rfl
 | a+1,b,i,jd=>by
  rw[show a+1+b=(a+b)+1 by lia]
  show G mask (a+b) _ _=_
  rw[MX mask a b];rfl
theorem Rw(mask:Nat):∀(n i jd:Nat),i < mask+1->(G mask n i jd).1 < mask+1
 | 0,_,_,h=>h
 | n+1,i,jd,_=>Rw mask n _ _ (Nat.mod_lt _ (Nat.succ_pos _))
def seen(mask:Nat):Nat->Nat->Nat->Nat
 | 0,_,acc=>acc
 | n+1,i,acc=>seen mask n ((i * 5+1) % (mask+1)) (acc ||| (1 <<< i))
theorem Ag(mask e:Nat):∀(n i acc:Nat),(seen mask n i acc).testBit e=true->acc.testBit e=true\/∃m,m < n/\(G mask m i 0).1=e
 | 0,i,acc,h=>.inl h
 | n+1,i,acc,h=>by
  rcases Ag mask e n _ _ h with h | ⟨m,hm,e'⟩
  ·rw[Nat.testBit_or,Bool.or_eq_true] at h
   rcases h with h | h
   ·exact .inl h
   ·refine .inr ⟨0,by lia,?_⟩
    rw[Nat.one_shiftLeft,Nat.testBit_two_pow] at h
    exact of_decide_eq_true h
  ·exact .inr ⟨m+1,by lia,e'⟩
def nJ(mask:Nat):Bool:=(List.range (mask+1)).all fun i=>seen mask (mask+1) i 0==2 ^ (mask+1) - 1
theorem Rx:nJ 7=true:=by decide +kernel
theorem NL:nJ 31=true:=by decide +kernel
theorem JZ:nJ 127=true:=by decide +kernel
def G1(mask:Nat):Prop:=mask=7\/mask=31\/mask=127
theorem G1.full{mask:Nat}(h:G1 mask):nJ mask=true:=by
 rcases h with rfl | rfl | rfl
 ·exact Rx
 ·exact NL
 ·exact JZ
theorem cover{mask:Nat}(hm:G1 mask){i e:Nat}(hi:i < mask+1)(he:e < mask+1):∃m,m < mask+1/\(G mask m i 0).1=e:=by
 have h:=hm.full
 unfold nJ at h
 rw[List.all_eq_true] at h
 have q:=beq_iff_eq.mp (h i (List.mem_range.mpr hi))
 have b:(seen mask (mask+1) i 0).testBit e=true:=by
  rw[q,Nat.testBit_two_pow_sub_one];exact decide_eq_true he
 rcases Ag mask e _ _ _ b with h0 | h0
 ·rw[Nat.zero_testBit] at h0;cases h0
 ·exact h0
theorem K1(h:Int):bits h < 2 ^ 64:=by
 unfold bits;lia
theorem De{mask:Nat}(hm:G1 mask)(h:Int){e:Nat}(he:e < mask+1):∃n,n<=mask+13/\(G mask n (bits h % (mask+1)) (bits h)).1=e:=by
 have p0:(G mask 13 (bits h % (mask+1)) (bits h)).2=0:=by
  rw[MW];exact Nat.div_eq_of_lt (Nat.lt_of_lt_of_le (K1 h) (by decide))
 obtain ⟨m,yJ,e'⟩:=cover hm (Rw mask 13 _ (bits h) (Nat.mod_lt _ (Nat.succ_pos _))) he
 refine⟨13+m,by lia,?_⟩
 rw[MX,p0];exact e'
theorem reach{mask:Nat}(hm:G1 mask)(h:Int){e:Nat}(he:e < mask+1):∃k,k<=10 * (mask+13)/\(W mask (FZ mask (bits h % (mask+1)) (bits h)) k).j=e:=by
 refine aN (De hm h he) fun n hn e'=>?_
 refine aN (Af mask n (bits h % (mask+1)) (bits h)) fun k hk ek=>?_
 refine⟨k,by lia,?_⟩
 rw[ek];exact e'
def tU(xs:Array Nat):Prop:=∀i j,i < j->j < xs.size->xs.getD i 0 < xs.getD j 0
theorem tU.le{xs:Array Nat}(h:tU xs){i j:Nat}(qP:i<=j)(hj:j < xs.size):xs.getD i 0<=xs.getD j 0:=by
 rcases Nat.lt_or_eq_of_le qP with h' | rfl
 ·exact Nat.le_of_lt (h i j h' hj)
 ·exact Nat.le_refl _
theorem Gj(xs:Array Nat){i a b:Nat}(h:i < xs.size):xs.getD i a=xs.getD i b:=by simp[Array.getD,h]
theorem uZ{xs:Array Nat}(hr:tU xs)(j:Nat):∀(fuel lo hi:Nat),hi<=xs.size->lo<=hi->hi - lo<=fuel->(∀i,i < lo->xs.getD i 0 < j)->(∀i,hi<=i->i < xs.size->j<=xs.getD i 0)->
  lo<=below.go xs j fuel lo hi/\below.go xs j fuel lo hi<=xs.size/\(∀i,i < below.go xs j fuel lo hi->xs.getD i 0 < j)/\∀i,below.go xs j fuel lo hi<=i->i < xs.size->j<=xs.getD i 0
 | 0,lo,hi,h1,h2,h3,a,b=>by
  have:hi=lo:=by lia
  subst this
  exact⟨Nat.le_refl _,h1,a,b⟩
 | fuel+1,lo,hi,h1,h2,h3,a,b=>by
  unfold below.go
  by_cases gG:lo < hi
  ·rw[if_pos gG]
   dsimp only
   have hm:(lo+hi) / 2 < xs.size:=by lia
   rw[Gj xs (b:=0) hm]
   by_cases hc:xs.getD ((lo+hi) / 2) 0 < j
   ·rw[if_pos hc]
    have q:=uZ hr j fuel ((lo+hi) / 2+1) hi h1 (by lia) (by lia) (fun i hi'=>Nat.lt_of_le_of_lt (hr.le (by lia) hm) hc) b
    exact⟨by lia,q.2⟩
   ·rw[if_neg hc]
    have q:=uZ hr j fuel lo ((lo+hi) / 2) (by lia) (by lia) (by lia) a (fun i hi' hs=>Nat.le_trans (Nat.le_of_not_lt hc) (hr.le hi' hs))
    exact⟨by lia,q.2⟩
  ·rw[if_neg gG]
   have:hi=lo:=by lia
   subst this
   exact⟨Nat.le_refl _,h1,a,b⟩
theorem lG{xs:Array Nat}(hr:tU xs)(j:Nat):below xs j<=xs.size/\(∀i,i < below xs j->xs.getD i 0 < j)/\∀i,below xs j<=i->i < xs.size->j<=xs.getD i 0:=
 (uZ hr j xs.size 0 xs.size (Nat.le_refl _) (Nat.zero_le _) (Nat.le_refl _) (fun i h=>absurd h (Nat.not_lt_zero _)) (fun i h h'=>absurd h' (Nat.not_lt.mpr h))).2
theorem below_at{xs:Array Nat}(hr:tU xs){i:Nat}(hi:i < xs.size):below xs (xs.getD i 0)=i:=by
 refine qT (lG hr (xs.getD i 0)) fun a b c=>?_
 rcases Nat.lt_trichotomy (below xs (xs.getD i 0)) i with h | h | h
 ·have:=c _ (Nat.le_refl _) (by lia)
  have:=hr _ _ h hi
  lia
 ·exact h
 ·have:=b i h
  lia
structure Good(t:SetTable)(n:Nat):Prop where
 size:t.place.size=n
 rise:tU t.place
 le:∀i,i < n->t.place.getD i 0<=t.mask
 Ry:t.dummies=#[]
 QU:G1 t.mask
 iy:n < t.mask
theorem Df(j:Nat):has #[] j=false:=by simp[has]
theorem xQ{t:SetTable}{n i:Nat}(g:Good t n)(hi:i < n):t.slot (t.place.getD i 0) = .live i:=by
 have hs:i < t.place.size:=by rw[g.size];exact hi
 unfold SetTable.slot
 dsimp only
 rw[below_at g.rise hs,if_pos (by simp[Array.getD,hs])]
theorem v5{t:SetTable}{n:Nat}(g:Good t n)(j:Nat):(∃i,i < n/\t.place.getD i 0=j/\t.slot j = .live i)\/((∀i,i < n->t.place.getD i 0≠j)/\t.slot j = .empty):=by
 by_cases h:∃i,i < n/\t.place.getD i 0=j
 ·refine aN h fun i hi e=>?_
  clear h
  exact .inl ⟨i,hi,e,by rw[<- e];exact xQ g hi⟩
 ·refine .inr ⟨fun i hi e=>h ⟨i,hi,e⟩,?_⟩
  unfold SetTable.slot
  dsimp only
  rw[if_neg,g.Ry,Df]
  ·rfl
  ·intro q
   have q:=beq_iff_eq.mp q
   obtain ⟨hs,e⟩:=Array.getElem?_eq_some_iff.mp q
   exact h ⟨below t.place j,by rw[<- g.size];exact hs,by simp[Array.getD,hs,e]⟩
theorem dJ{t:SetTable}{n:Nat}(g:Good t n)(j:Nat):t.slot j = .empty↔∀i,i < n->t.place.getD i 0≠j:=by
 rcases v5 g j with ⟨i,hi,e,q⟩ | ⟨a,q⟩
 ·rw[q];exact⟨fun h=>(nomatch h),fun h=>absurd e (h i hi)⟩
 ·exact⟨fun _=>a,fun _=>q⟩
theorem Dg{xs:Array Nat}(h:tU xs):∀i,i < xs.size->i<=xs.getD i 0
 | 0,_=>Nat.zero_le _
 | i+1,hi=>by
  have a:=Dg h i (by lia)
  have b:=h i (i+1) (by lia) hi
  lia
theorem C5{t:SetTable}{n:Nat}(g:Good t n):∃e,e < t.mask+1/\t.slot e = .empty:=by
 by_cases h:∀i,i < n->t.place.getD i 0=i
 ·refine⟨n,by have:=g.iy;lia,(dJ g n).mpr fun i hi e=>?_⟩
  rw[h i hi] at e;lia
 ·have:∃i,i < n/\t.place.getD i 0≠i/\∀k,k < i->t.place.getD k 0=k:=by
   have aux:∀m,m<=n->(∀k,k < m->t.place.getD k 0=k)\/∃i,i < n/\t.place.getD i 0≠i/\∀k,k < i->t.place.getD k 0=k:=by
    intro m
    induction m with
    | zero=>intro _;exact .inl fun k hk=>absurd hk (Nat.not_lt_zero _)
    | succ m ih=>
     intro hm
     rcases ih (by lia) with a | a
     ·by_cases e:t.place.getD m 0=m
      ·refine .inl fun k hk=>?_
       rcases Nat.lt_or_eq_of_le (Nat.le_of_lt_succ hk) with h' | rfl
       ·exact a k h'
       ·exact e
      ·exact .inr ⟨m,by lia,e,a⟩
     ·exact .inr a
   rcases aux n (Nat.le_refl _) with a | a
   ·exact absurd a h
   ·exact a
  refine bQ this fun i hi ne before=>?_
  clear this
  have hs:i < t.place.size:=by rw[g.size];exact hi
  have ge:=Dg g.rise i hs
  refine⟨i,by have:=g.le i hi;lia,(dJ g i).mpr fun k hk e=>?_⟩
  rcases Nat.lt_trichotomy k i with h' | rfl | h'
  ·rw[before k h'] at e;lia
  ·exact ne e
  ·have:=g.rise i k h' (by rw[g.size];exact hk)
   lia
theorem toList_ins{α:Type}(xs:Array α)(p:Nat)(x:α):(SetTable.insertAt xs p x).toList=xs.toList.take p++x::xs.toList.drop p:=by
 simp[SetTable.insertAt,List.extract_eq_take_drop,List.take_of_length_le]
theorem Gk{α:Type}(xs:Array α)(p:Nat)(x:α)(hp:p<=xs.size):(SetTable.insertAt xs p x).size=xs.size+1:=by
 rw[<- Array.length_toList,toList_ins,List.length_append,List.length_cons,List.length_take,List.length_drop,Array.length_toList];lia
theorem qU{α:Type}(xs:Array α)(p:Nat)(x:α)(hp:p<=xs.size)(i:Nat):(SetTable.insertAt xs p x)[i]?=if i < p then xs[i]? else if i=p then some x else xs[i - 1]?:=by
 rw[<- Array.getElem?_toList,toList_ins]
 by_cases h1:i < p
 ·rw[if_pos h1,List.getElem?_append_left (by rw[List.length_take,Array.length_toList];lia),List.getElem?_take_of_lt h1,Array.getElem?_toList]
 ·rw[if_neg h1,List.getElem?_append_right (by rw[List.length_take,Array.length_toList];lia),List.length_take,Array.length_toList,Nat.min_eq_left hp]
  by_cases h2:i=p
  ·subst h2;simp
  ·rw[if_neg h2]
   obtain ⟨m,hm⟩:∃m,i - p=m+1:=⟨i - p - 1,by lia⟩
   rw[hm,List.getElem?_cons_succ,List.getElem?_drop,Array.getElem?_toList]
   congr 1;lia
theorem Ah(xs:Array Nat)(p x:Nat)(hp:p<=xs.size)(i:Nat):(SetTable.insertAt xs p x).getD i 0=if i < p then xs.getD i 0 else if i=p then x else xs.getD (i - 1) 0:=by
 have e:∀ys:Array Nat,∀k,ys.getD k 0=(ys[k]?).getD 0:=fun ys k=>by simp[Array.getD_eq_getD_getElem?]
 rw[e,qU xs p x hp i]
 split
 ·rw[e]
 ·split
  ·rfl
  ·rw[e]
theorem C6{t:SetTable}{n j:Nat}(g:Good t n):t.put j=({ t with place:=SetTable.insertAt t.place (below t.place j) j },below t.place j):=by
 unfold SetTable.put
 dsimp only
 rw[g.Ry,Df]
 walk_at"K"
theorem Ai{t:SetTable}{n j:Nat}(g:Good t n)(hj:j<=t.mask)(he:t.slot j = .empty)(hf:n+1 < t.mask):Good (t.put j).1 (n+1)/\(t.put j).2=below t.place j/\below t.place j<=n/\(t.put j).1.mask=t.mask/\
  (∀k,(t.put j).1.slot k = .empty↔(t.slot k = .empty/\k≠j))/\(t.put j).1.place=SetTable.insertAt t.place (below t.place j) j:=by
 refine qT (lG g.rise j) fun b1 b2 b3=>?_
 rw[g.size] at b1 b3
 have Rz:below t.place j<=t.place.size:=by rw[g.size];exact b1
 have MV:=(dJ g j).mp he
 have gt:∀i,below t.place j<=i->i < n->j < t.place.getD i 0:=fun i h1 h2=>by
  have:=b3 i h1 h2
  have:=MV i h2
  lia
 rw[C6 g]
 have gd:=Ah t.place (below t.place j) j Rz
 have sz:(SetTable.insertAt t.place (below t.place j) j).size=n+1:=by rw[Gk _ _ _ Rz,g.size]
 have gg:Good { t with place:=SetTable.insertAt t.place (below t.place j) j } (n+1):=by
  refine⟨sz,fun i k hik hk=>?_,fun i hi=>?_,g.Ry,g.QU,hf⟩
  ·have hk:k < n+1:=by rw[<- sz];exact hk
   show (SetTable.insertAt t.place (below t.place j) j).getD i 0 < (SetTable.insertAt t.place (below t.place j) j).getD k 0
   rw[gd i,gd k]
   by_cases h1:k < below t.place j
   ·rw[if_pos h1,if_pos (by lia)]
    exact g.rise i k hik (by rw[g.size];lia)
   ·rw[if_neg h1]
    by_cases h2:k=below t.place j
    ·rw[if_pos h2,if_pos (by lia)]
     exact b2 i (by lia)
    ·rw[if_neg h2]
     by_cases h3:i < below t.place j
     ·rw[if_pos h3]
      exact g.rise i (k - 1) (by lia) (by rw[g.size];lia)
     ·rw[if_neg h3]
      by_cases h4:i=below t.place j
      ·rw[if_pos h4]
       exact gt (k - 1) (by lia) (by lia)
      ·rw[if_neg h4]
       exact g.rise (i - 1) (k - 1) (by lia) (by rw[g.size];lia)
  ·show (SetTable.insertAt t.place (below t.place j) j).getD i 0<=t.mask
   rw[gd i]
   by_cases h1:i < below t.place j
   ·rw[if_pos h1];exact g.le i (by lia)
   ·rw[if_neg h1]
    by_cases h2:i=below t.place j
    ·rw[if_pos h2];exact hj
    ·rw[if_neg h2];exact g.le (i - 1) (by lia)
 refine⟨gg,rfl,b1,rfl,fun k=>?_,rfl⟩
 rw[dJ gg,dJ g]
 show (∀i,i < n+1->(SetTable.insertAt t.place (below t.place j) j).getD i 0≠k)↔_
 constructor
 ·intro h
  refine⟨fun i hi e=>?_,fun e=>?_⟩
  ·by_cases h1:i < below t.place j
   ·exact h i (by lia) (by rw[gd i,if_pos h1];exact e)
   ·exact h (i+1) (by lia) (by rw[gd (i+1),if_neg (by lia),if_neg (by lia)];exact e)
  ·exact h (below t.place j) (by lia) (by rw[gd,if_neg (by lia),if_pos rfl];exact e.symm)
 ·rintro ⟨h,YH⟩ i hi e
  rw[gd i] at e
  by_cases h1:i < below t.place j
  ·rw[if_pos h1] at e;exact h i (by lia) e
  ·rw[if_neg h1] at e
   by_cases h2:i=below t.place j
   ·rw[if_pos h2] at e;exact YH e.symm
   ·rw[if_neg h2] at e;exact h (i - 1) (by lia) e
end Tb
end YG
section RA
namespace Tb
open PySem PySem.SetTable
def sH(t:SetTable)(h:Int)(j:Nat):Prop:=∃k,(W t.mask (t.probeStart h) k).j=j/\∀m,m < k->t.slot (W t.mask (t.probeStart h) m).j≠ .empty
def Paths(t:SetTable)(hs:Nat->Int)(n:Nat):Prop:=∀i,i < n->sH t (hs i) (t.place.getD i 0)
theorem least{p:Nat->Prop}[DecidablePred p]{k:Nat}(h:p k):∃d,d<=k/\p d/\∀m,m < d->¬ p m:=by
 induction k using Nat.strongRecOn with
 | _ k ih=>
  by_cases q:∃m,m < k/\p m
  ·refine aN q fun m hm pm=>?_
   clear q
   refine bQ (ih m hm pm) fun d hd a b=>?_
   exact⟨d,by lia,a,b⟩
  ·exact⟨k,Nat.le_refl _,h,fun m hm pm=>q ⟨m,hm,pm⟩⟩
theorem dist{t:SetTable}{n:Nat}(g:Good t n)(h:Int):∃d,d<=10 * (t.mask+13)/\t.slot (W t.mask (t.probeStart h) d).j = .empty/\∀m,m < d->t.slot (W t.mask (t.probeStart h) m).j≠ .empty:=by
 refine aN (C5 g) fun e he se=>?_
 refine aN (reach g.QU h he) fun k hk ek=>?_
 obtain ⟨d,hd,a,b⟩:=least (p:=fun m=>t.slot (W t.mask (t.probeStart h) m).j = .empty) (k:=k) (by rw[uX,ek];exact se)
 exact⟨d,by lia,a,b⟩
theorem Dh{t:SetTable}{n:Nat}(g:Good t n)(hashAt:Nat->Int)(h:Int):∀(d:Nat) (p:Probe) (fuel:Nat),p.dummy=none->d < fuel->t.slot (W t.mask p d).j = .empty->(∀m,m < d->t.slot (W t.mask p m).j≠ .empty)->
  (∃m i,m < d/\i < n/\t.slot (W t.mask p m).j = .live i/\hashAt i=h/\(∀m',m' < m->∀i',t.slot (W t.mask p m').j = .live i'->hashAt i'≠h)/\probe.go t hashAt h fuel p=some (.candidate (W t.mask p m).j i (W t.mask p (m+1))))\/
  ((∀m,m < d->∀i,t.slot (W t.mask p m).j = .live i->hashAt i≠h)/\probe.go t hashAt h fuel p=some (.empty (W t.mask p d).j none))
 | 0,p,fuel+1,hd,_,he,_=>by
  refine .inr ⟨fun m hm=>absurd hm (Nat.not_lt_zero _),?_⟩
  unfold probe.go
  have K2:t.slot p.j = .empty:=he
  rw[K2,hd];rfl
 | d+1,p,fuel+1,hd,hf,he,hb=>by
  have h0:t.slot p.j≠ .empty:=hb 0 (by lia)
  rcases v5 g p.j with ⟨i,hi,_,q⟩ | ⟨_,q⟩
  ·by_cases hh:hashAt i=h
   ·refine .inl ⟨0,i,by lia,hi,q,hh,fun m hm=>absurd hm (Nat.not_lt_zero _),?_⟩
    unfold probe.go
    rw[q]
    dsimp only
    rw[if_pos (beq_iff_eq.mpr hh),uW];rfl
   ·have e:probe.go t hashAt h (fuel+1) p=probe.go t hashAt h fuel (jc t.mask p):=by
     conv=>lhs;unfold probe.go
     rw[q]
     dsimp only
     rw[if_neg (fun z=>hh (beq_iff_eq.mp z)),uW]
    rw[e]
    rcases Dh g hashAt h d (jc t.mask p) fuel (uY _ _ hd) (by lia) he (fun m hm=>hb (m+1) (by lia)) with ⟨m,i',a1,a2,a3,a4,a5,a6⟩ | ⟨a1,a2⟩
    ·refine .inl ⟨m+1,i',by lia,a2,a3,a4,fun m' yJ RB q'=>?_,a6⟩
     cases m' with
     | zero=>
      have q2:t.slot p.j = .live RB:=q'
      rw[q] at q2;cases q2;exact hh
     | succ m'=>exact a5 m' (by lia) RB q'
    ·refine .inr ⟨fun m hm RB q'=>?_,a2⟩
     cases m with
     | zero=>
      have q2:t.slot p.j = .live RB:=q'
      rw[q] at q2;cases q2;exact hh
     | succ m=>exact a1 m (by lia) RB q'
  ·exact absurd q h0
theorem Eo{t:SetTable}{n j:Nat}(g:Good t n)(hj:j<=t.mask)(he:t.slot j = .empty)(hf:n+1 < t.mask){hs BR:Nat->Int}(P:Paths t hs n){h:Int}
  (hh:∀i,i < n+1->BR i=if i < below t.place j then hs i else if i=below t.place j then h else hs (i - 1)) (hp:sH t h j):Paths (t.put j).1 BR (n+1):=by
 refine uw (Ai g hj he hf) fun gg _ hb hm hsl v7=>?_
 have keep:∀{h':Int} {k:Nat},sH t h' k->sH (t.put j).1 h' k:=by
  rintro h' k ⟨s,e,b⟩
  have es:(t.put j).1.probeStart h'=t.probeStart h':=by rw[uX,uX,hm]
  refine⟨s,by rw[hm,es];exact e,fun m yJ z=>?_⟩
  rw[hm,es] at z
  exact b m yJ ((hsl _).mp z).1
 intro i hi
 rw[v7,Ah _ _ _ (by rw[g.size];exact hb),hh i hi]
 by_cases h1:i < below t.place j
 ·rw[if_pos h1,if_pos h1];exact keep (P i (by lia))
 ·rw[if_neg h1,if_neg h1]
  by_cases h2:i=below t.place j
  ·rw[if_pos h2,if_pos h2];exact keep hp
  ·rw[if_neg h2,if_neg h2];exact keep (P (i - 1) (by lia))
def A9(owner:Array (Option Nat))(j:Nat):Bool:=(owner.getD j (some 0)).isSome
def st(mask:Nat)(h:Int):Probe:=FZ mask (bits h % (mask+1)) (bits h)
theorem xR{mask:Nat}(owner:Array (Option Nat))(hz:owner.size=mask+1):∀(fuel i jd n:Nat),i < mask+1->n < fuel->A9 owner (G mask n i jd).1=false->
  ∃k j,layClean.free mask owner fuel i jd=some j/\(W mask (FZ mask i jd) k).j=j/\j < mask+1/\A9 owner j=false/\∀m,m < k->A9 owner (W mask (FZ mask i jd) m).j=true
 | fuel+1,i,jd,n,hi,hn,he=>by
  have aw8:runEnd mask i<=mask:=by unfold runEnd;split <;> lia
  have hge:i<=runEnd mask i:=by unfold runEnd;split <;> lia
  have hW:∀m,m<=runEnd mask i - i->(W mask (FZ mask i jd) m).j=i+m:=fun m hm=>by rw[Gi mask m (FZ mask i jd) hm];rfl
  unfold layClean.free
  cases hf:(List.range (runEnd mask i+1 - i)).find? (fun k=>(owner.getD (i+k) (some 0)).isNone) with
  | some k=>
   dsimp only
   rw[List.find?_range_eq_some] at hf
   refine qT hf fun a b c=>?_
   clear hf
   have hk:k < runEnd mask i+1 - i:=List.mem_range.mp b
   refine⟨k,i+k,rfl,hW k (by lia),by lia,?_,fun m hm=>?_⟩
   ·unfold A9
    cases q:owner.getD (i+k) (some 0) with
    | none=>rfl
    | some z=>rw[q] at a;cases a
   ·rw[hW m (by lia)]
    have q:=c m hm
    unfold A9
    cases q2:owner.getD (i+m) (some 0) with
    | none=>rw[q2] at q;cases q
    | some z=>rfl
  | none=>
   dsimp only
   rw[List.find?_range_eq_none] at hf
   have kR:∀m,m < runEnd mask i+1 - i->A9 owner (i+m)=true:=fun m hm=>by
    have q:=hf m hm
    unfold A9
    cases q2:owner.getD (i+m) (some 0) with
    | none=>rw[q2] at q;cases q
    | some z=>rfl
   cases n with
   | zero=>
    have:A9 owner i=true:=by have:=kR 0 (by lia);rwa [Nat.add_zero] at this
    have K2:A9 owner i=false:=he
    rw[this] at K2;cases K2
   | succ n=>
    refine En (xR owner hz fuel (leap mask i jd).1 (leap mask i jd).2 n (Nat.mod_lt _ (Nat.succ_pos _)) (by lia) he) fun k j e1 e2 e3 e4 e5=>?_
    refine⟨runEnd mask i - i+1+k,j,e1,by rw[nI,C4];exact e2,e3,e4,fun m hm=>?_⟩
    by_cases hm1:m < runEnd mask i - i+1
    ·rw[hW m (by lia)];exact kR m (by lia)
    ·obtain ⟨r,rfl⟩:∃r,m=runEnd mask i - i+1+r:=⟨m - (runEnd mask i - i+1),by lia⟩
     rw[nI,C4]
     exact e5 r (by lia)
end Tb
end RA
section RC
namespace Tb
open PySem PySem.SetTable
theorem RD{mask:Nat}:∀(k:Nat) (p:Probe),p.j+p.more<=mask->(W mask p k).j<=mask
 | 0,p,h=>by show p.j<=mask;lia
 | k+1,p,h=>by
  refine RD k (jc mask p) ?_
  unfold jc
  split
  ·show p.j+1+(p.more - 1)<=mask;lia
  ·show (leap mask p.i p.perturb).1+(runEnd mask (leap mask p.i p.perturb).1 - (leap mask p.i p.perturb).1)<=mask
   have:(leap mask p.i p.perturb).1 < mask+1:=Nat.mod_lt _ (Nat.succ_pos _)
   unfold runEnd;split <;> lia
theorem MY(mask:Nat)(h:Int)(k:Nat):(W mask (st mask h) k).j<=mask:=by
 refine RD k _ ?_
 show bits h % (mask+1)+(runEnd mask (bits h % (mask+1)) - bits h % (mask+1))<=mask
 have:bits h % (mask+1) < mask+1:=Nat.mod_lt _ (Nat.succ_pos _)
 unfold runEnd;split <;> lia
structure Own(mask:Nat)(hs:Nat->Int)(owner:Array (Option Nat))(q:Nat):Prop where
 size:owner.size=mask+1
 lt:∀(j a:Nat),owner[j]?=some (some a)->a < q
 at':∀(a:Nat),a < q->∃j,owner[j]?=some (some a)/\∃k,(W mask (st mask (hs a)) k).j=j/\∀m,m < k->A9 owner (W mask (st mask (hs a)) m).j=true
 uniq:∀(a j j':Nat),owner[j]?=some (some a)->owner[j']?=some (some a)->j=j'
 cnt:owner.toList.countP Option.isNone=mask+1 - q
theorem Ep(mask:Nat)(hs:Nat->Int):Own mask hs (Array.replicate (mask+1) none) 0:=by
 have no:∀(j a:Nat),(Array.replicate (mask+1) (none:Option Nat))[j]?≠some (some a):=fun j a h=>by
  rw[Array.getElem?_replicate] at h
  split at h <;> cases h
 refine⟨by simp,fun j a h=>absurd h (no j a),fun a h=>absurd h (Nat.not_lt_zero _),fun a j _ h=>absurd h (no j a),?_⟩
 rw[Array.toList_replicate,List.countP_replicate];rfl
theorem occ_none{owner:Array (Option Nat)}{j:Nat}(h:A9 owner j=false):owner[j]?=some none:=by
 unfold A9 at h
 rw[Array.getD_eq_getD_getElem?] at h
 cases q:owner[j]? with
 | none=>rw[q] at h;cases h
 | some z=>cases z with
  | none=>rfl
  | some _=>rw[q] at h;cases h
theorem Aj{owner:Array (Option Nat)}{j:Nat}(h:owner[j]?=some none):A9 owner j=false:=by
 unfold A9
 rw[Array.getD_eq_getD_getElem?,h];rfl
theorem K3{owner:Array (Option Nat)}{j q:Nat}(hj:j < owner.size)(i:Nat):(owner.setIfInBounds j (some q))[i]?=if i=j then some (some q) else owner[i]?:=by
 rw[Array.getElem?_setIfInBounds]
 by_cases e:i=j
 ·subst e;simp[hj]
 ·rw[if_neg (fun z=>e z.symm),if_neg e]
theorem Gm{mask:Nat}(hm:G1 mask){hs:Nat->Int}{owner:Array (Option Nat)}{q:Nat}(o:Own mask hs owner q)(hq:q < mask+1) :
  ∃j,layClean.free mask owner (turns mask) (bits (hs q) % (mask+1)) (bits (hs q))=some j/\Own mask hs (owner.setIfInBounds j (some q)) (q+1):=by
 have hc:0 < owner.toList.countP Option.isNone:=by rw[o.cnt];lia
 refine aN (List.countP_pos_iff.mp hc) fun x hx hn=>?_
 obtain ⟨e,he,ex⟩:=List.mem_iff_getElem.mp hx
 have FY:e < owner.size:=by rw[<- Array.length_toList];exact he
 have e0:owner[e]?=some none:=by
  rw[<- Array.getElem?_toList,List.getElem?_eq_getElem he,ex]
  cases x with
  | none=>rfl
  | some _=>cases hn
 obtain ⟨n,yK,en⟩:=De hm (hs q) (e:=e) (by rw[<- o.size];exact FY)
 obtain ⟨k,j,f1,f2,f3,f4,f5⟩:=xR owner o.size (turns mask) (bits (hs q) % (mask+1)) (bits (hs q)) n (Nat.mod_lt _ (Nat.succ_pos _)) (by unfold turns;lia) (by rw[en];exact Aj e0)
 refine⟨j,f1,?_⟩
 have hj:j < owner.size:=by rw[o.size];exact f3
 have g:=K3 (q:=q) hj
 have jn:owner[j]?=some none:=occ_none f4
 have up:∀i,A9 owner i=true->A9 (owner.setIfInBounds j (some q)) i=true:=fun i h=>by
  unfold A9 at h ⊢
  rw[Array.getD_eq_getD_getElem?] at h ⊢
  rw[g i]
  by_cases z:i=j
  ·rw[if_pos z];rfl
  ·rw[if_neg z];exact h
 refine⟨by rw[Array.size_setIfInBounds];exact o.size,fun i a h=>?_,fun a ha=>?_,fun a i i' h h'=>?_,?_⟩
 ·rw[g i] at h
  by_cases z:i=j
  ·rw[if_pos z] at h;cases h;lia
  ·rw[if_neg z] at h;have:=o.lt i a h;lia
 ·by_cases z:a=q
  ·subst z
   exact⟨j,by rw[g,if_pos rfl],k,f2,fun m yJ=>up _ (f5 m yJ)⟩
  ·obtain ⟨i,b1,k',b2,b3⟩:=o.at' a (by lia)
   refine⟨i,?_,k',b2,fun m yJ=>up _ (b3 m yJ)⟩
   rw[g,if_neg,b1]
   rintro rfl
   rw[jn] at b1;cases b1
 ·rw[g i] at h;rw[g i'] at h'
  by_cases z:i=j
  ·by_cases z':i'=j
   ·rw[z,z']
   ·rw[if_pos z] at h;rw[if_neg z'] at h';cases h
    exact absurd (o.lt _ _ h') (Nat.lt_irrefl _)
  ·by_cases z':i'=j
   ·rw[if_neg z] at h;rw[if_pos z'] at h';cases h'
    exact absurd (o.lt _ _ h) (Nat.lt_irrefl _)
   ·rw[if_neg z] at h;rw[if_neg z'] at h';exact o.uniq a i i' h h'
 ·rw[Array.toList_setIfInBounds]
  have K4:j < owner.toList.length:=by rw[Array.length_toList];exact hj
  rw[List.countP_set K4,o.cnt]
  have ej:owner.toList[j]=none:=by
   have q1:owner.toList[j]?=some none:=by rw[Array.getElem?_toList];exact jn
   rw[List.getElem?_eq_getElem K4] at q1
   exact Option.some.inj q1
  rw[ej]
  simp
  lia
theorem Ak{mask:Nat}(hm:G1 mask){hs:Nat->Int}:∀(l:List Int) (owner:Array (Option Nat)) (q:Nat),Own mask hs owner q->q+l.length<=mask->(∀i,i < l.length->l[i]?=some (hs (q+i)))->
  ∃yL,l.foldl (init:=some (owner,q)) (fun acc h=>do
   let (owner,k) <- acc
   let j <- layClean.free mask owner (turns mask) (bits h % (mask+1)) (bits h)
   pure (owner.setIfInBounds j (some k),k+1))=some (yL,q+l.length)/\Own mask hs yL (q+l.length)
 | [],owner,q,o,_,_=>⟨owner,rfl,o⟩
 | h::r,owner,q,o,hl,hh=>by
  have e0:h=hs q:=by have:=hh 0 (by simp);simpa using this
  obtain ⟨j,f1,o1⟩:=Gm hm o (by simp only[List.length_cons] at hl;lia)
  obtain ⟨yL,e,o2⟩:=Ak hm r (owner.setIfInBounds j (some q)) (q+1) o1 (by simp only[List.length_cons] at hl;lia) (fun i hi=>by
   have:=hh (i+1) (by simp;lia)
   simp only[List.getElem?_cons_succ] at this
   rw[this,show q+(i+1)=q+1+i by lia])
  refine⟨yL,?_,by rw[List.length_cons,show q+(r.length+1)=q+1+r.length by lia];exact o2⟩
  rw[List.foldl_cons]
  have e1:(do
   let (owner,k) <- (some (owner,q):Option (Array (Option Nat)×Nat))
   let j <- layClean.free mask owner (turns mask) (bits h % (mask+1)) (bits h)
   pure (owner.setIfInBounds j (some k),k+1))=some (owner.setIfInBounds j (some q),q+1):=by
   show (do
    let j <- layClean.free mask owner (turns mask) (bits h % (mask+1)) (bits h)
    pure (owner.setIfInBounds j (some q),q+1))=_
   rw[e0,f1];rfl
  rw[e1,e,List.length_cons,show q+(r.length+1)=q+1+r.length by lia]
theorem C7{mask:Nat}(hm:G1 mask)(hashes:Array Int)(hn:hashes.size<=mask):∃owner,layClean mask hashes=some owner/\Own mask (fun i=>hashes.getD i 0) owner hashes.size:=by
 obtain ⟨owner,e,o⟩:=Ak hm (hs:=fun i=>hashes.getD i 0) hashes.toList (Array.replicate (mask+1) none) 0 (Ep mask _) (by rw[Array.length_toList];lia) (fun i hi=>by
  rw[Array.length_toList] at hi
  rw[Array.getElem?_toList,Nat.zero_add]
  simp[Array.getD,hi])
 rw[Array.length_toList,Nat.zero_add] at e o
 refine⟨owner,?_,o⟩
 unfold layClean
 rw[<- Array.foldl_toList,e];rfl
def live(mask:Nat)(owner:Array (Option Nat)):List (Nat×Nat):=(List.range (mask+1)).filterMap fun j=>(owner.getD j none).map (j,·)
theorem v8{mask:Nat}{owner:Array (Option Nat)}(hz:owner.size=mask+1){j a:Nat}:(j,a)∈live mask owner↔owner[j]?=some (some a):=by
 unfold live
 rw[List.mem_filterMap]
 constructor
 ·rintro ⟨x,hx,e⟩
  cases q:owner.getD x none with
  | none=>rw[q] at e;cases e
  | some b=>
   rw[q] at e
   cases e
   rw[Array.getD_eq_getD_getElem?] at q
   cases q2:owner[j]? with
   | none=>rw[q2] at q;cases q
   | some z=>rw[q2] at q;have q:z=some a:=q;rw[q]
 ·intro h
  have hj:j < owner.size:=(Array.getElem?_eq_some_iff.mp h).1
  exact⟨j,List.mem_range.mpr (by lia),by rw[Array.getD_eq_getD_getElem?,h];rfl⟩
theorem Er(mask:Nat)(owner:Array (Option Nat)):(live mask owner).Pairwise fun x y=>x.1 < y.1:=by
 unfold live
 refine List.Pairwise.filterMap _ ?_ List.pairwise_lt_range
 intro a a' haa b hb b' xS
 cases q:owner.getD a none with
 | none=>rw[q] at hb;cases hb
 | some z=>
  cases q':owner.getD a' none with
  | none=>rw[q'] at xS;cases xS
  | some z'=>
   rw[q] at hb;rw[q'] at xS
   cases hb;cases xS
   exact haa
theorem yM{owner:Array (Option Nat)}{n:Nat}(hz:owner.size=n):owner.toList=(List.range n).map fun j=>owner.getD j none:=by
 refine List.ext_getElem? fun i=>?_
 rw[Array.getElem?_toList,List.getElem?_map]
 by_cases h:i < n
 ·rw[List.getElem?_range h]
  have h':i < owner.size:=by lia
  simp[Array.getD,h']
 ·rw[Array.getElem?_eq_none (by lia),List.getElem?_eq_none (by simp;lia)];rfl
theorem Gn{mask:Nat}{hs:Nat->Int}{owner:Array (Option Nat)}{n:Nat}(o:Own mask hs owner n)(hn:n<=mask+1):(live mask owner).length=n:=by
 unfold live
 rw[List.length_filterMap_eq_countP]
 have e1:List.countP (fun j=>((owner.getD j none).map fun x=>(j,x)).isSome) (List.range (mask+1))=owner.toList.countP Option.isSome:=by
  rw[yM o.size,List.countP_map]
  congr 1
  funext j
  simp
 rw[e1]
 have e2:=List.length_eq_countP_add_countP (p:=Option.isNone) (l:=owner.toList)
 rw[o.cnt,Array.length_toList,o.size] at e2
 have e3:owner.toList.countP Option.isSome=List.countP (fun a=>decide ¬ (Option.isNone a=true)) owner.toList:=by
  congr 1
  funext a
  cases a <;> rfl
 lia
theorem Es{mask n:Nat}(hm:G1 mask)(hashes:Array Int)(hz:hashes.size=n)(hn:n < mask)(finger moves:Nat)(led plain:Bool) :
  ∃t' order,laid mask finger moves led plain hashes=some (t',order)/\Good t' n/\t'.mask=mask/\t'.led=led/\t'.plain=plain/\order.size=n/\(∀m,m < n->order.getD m 0 < n)/\
   (∀m m',m < n->m' < n->order.getD m 0=order.getD m' 0->m=m')/\(∀a,a < n->∃m,m < n/\order.getD m 0=a)/\Paths t' (fun m=>hashes.getD (order.getD m 0) 0) n:=by
 refine aN (C7 hm hashes (by lia)) fun owner e o=>?_
 rw[hz] at o
 have ll:=Gn o (by lia)
 refine⟨{ mask,place:=((live mask owner).map (·.1)).toArray,dummies:=#[],finger,led,moves,plain },((live mask owner).map (·.2)).toArray,?_,?_⟩
 ·unfold laid
  rw[e];rfl
 have gp:∀m,m < n->∃j a,(live mask owner)[m]?=some (j,a)/\(((live mask owner).map (·.1)).toArray).getD m 0=j/\(((live mask owner).map (·.2)).toArray).getD m 0=a/\owner[j]?=some (some a):=fun m h=>by
  have h':m < (live mask owner).length:=by lia
  refine⟨((live mask owner)[m]).1,((live mask owner)[m]).2,List.getElem?_eq_getElem h',?_,?_,(v8 o.size).mp (List.getElem_mem h')⟩
  ·simp[Array.getD,h']
  ·simp[Array.getD,h']
 have pw:=List.pairwise_iff_getElem.mp (Er mask owner)
 have rise:tU (((live mask owner).map (·.1)).toArray):=fun i j qP hj=>by
  have hj:j < (live mask owner).length:=by simpa using hj
  have hi:i < (live mask owner).length:=by lia
  have:=pw i j hi hj qP
  simpa[Array.getD,hi,hj] using this
 have good:Good { mask,place:=((live mask owner).map (·.1)).toArray,dummies:=#[],finger,led,moves,plain } n:=by
  refine⟨by simp[ll],rise,fun i hi=>?_,rfl,hm,hn⟩
  refine ux (gp i hi) fun j a _ e2 _ e4=>?_
  show (((live mask owner).map (·.1)).toArray).getD i 0<=mask
  rw[e2]
  have:=(Array.getElem?_eq_some_iff.mp e4).1
  have:=o.size
  lia
 refine⟨good,rfl,rfl,rfl,by simp[ll],fun m h=>?_,fun m m' h h' q=>?_,fun a h=>?_,fun m h=>?_⟩
 ·refine ux (gp m h) fun j a _ _ e3 e4=>?_
  rw[e3];exact o.lt j a e4
 ·refine ux (gp m h) fun j a _ e2 e3 e4=>?_
  refine ux (gp m' h') fun j' a' _ e2' e3' e4'=>?_
  rw[e3,e3'] at q
  subst q
  have ej:=o.uniq a j j' e4 e4'
  rcases Nat.lt_trichotomy m m' with z | z | z
  ·have:=rise m m' z (by simp[ll];exact h');lia
  ·exact z
  ·have:=rise m' m z (by simp[ll];exact h);lia
 ·refine aN (o.at' a h) fun j b _=>?_
  obtain ⟨m,yJ,em⟩:=List.mem_iff_getElem.mp ((v8 (mask:=mask) o.size).mpr b)
  refine⟨m,by lia,?_⟩
  simp[Array.getD,yJ,em]
 ·refine ux (gp m h) fun j a _ e2 e3 e4=>?_
  obtain ⟨j',b1,k,b2,b3⟩:=o.at' a (o.lt j a e4)
  have ej:=o.uniq a j j' e4 b1
  subst ej
  dsimp only
  rw[e2,e3]
  refine⟨k,b2,fun m' yJ z=>?_⟩
  have z:=(dJ good _).mp z
  have oc:=b3 m' yJ
  have inr:(W mask (st mask (hashes.getD a 0)) m').j<=mask:=MY mask _ m'
  unfold A9 at oc
  rw[Array.getD_eq_getD_getElem?] at oc
  cases q:owner[(W mask (st mask (hashes.getD a 0)) m').j]? with
  | none=>
   have:=Array.getElem?_eq_none_iff.mp q
   have:=o.size
   lia
  | some x=>
   cases x with
   | none=>rw[q] at oc;cases oc
   | some b=>
    obtain ⟨r,hr,er⟩:=List.mem_iff_getElem.mp ((v8 (mask:=mask) o.size).mpr q)
    refine z r (by lia) ?_
    dsimp only
    simp[Array.getD,hr,er]
    rfl
end Tb
end RC
section YI
namespace So
open PySem PySem.W PyProof.Rows
def Rn(r:Nat->Nat)(n:Nat){α:Type}:KasT α->(α->Prop)->Prop
 | .ret a,P=>P a
 | .ask i j k,P=>i < n/\j < n/\Rn r n (k (decide (r i < r j))) P
theorem Rn.mono{r:Nat->Nat}{n:Nat}{α:Type}{P P':α->Prop}(h:∀a,P a->P' a):∀(t:KasT α),Rn r n t P->Rn r n t P'
 | .ret a,q=>h a q
 | .ask i j k,q=>⟨q.1,q.2.1,Rn.mono h _ q.2.2⟩
theorem Rn.bind{r:Nat->Nat}{n:Nat}{α β:Type}{f:α->KasT β}{P:β->Prop}:∀(t:KasT α),Rn r n t (fun a=>Rn r n (f a) P)->Rn r n (t.bind f) P
 | .ret a,q=>q
 | .ask i j k,q=>⟨q.1,q.2.1,Rn.bind (k _) q.2.2⟩
section
variable {r:Nat->Nat}{n:Nat}
def vl(r:Nat->Nat)(p:Array Nat)(k:Nat):Nat:=r (p.getD k 0)
def Up(r:Nat->Nat)(p:Array Nat)(a:Nat):Prop:=∀i j,i<=j->j < a->vl r p i<=vl r p j
def Dn(r:Nat->Nat)(p:Array Nat)(a:Nat):Prop:=∀i j,i<=j->j < a->vl r p j<=vl r p i
def Lt(n:Nat)(p:Array Nat):Prop:=∀k,p.getD k 0 < n
theorem MZ{p:Array Nat}(hn:0 < n)(h:∀x∈p,x < n):Lt n p:=fun k=>by
 rw[Array.getD_eq_getD_getElem?]
 cases q:p[k]? with
 | none=>exact hn
 | some x=>exact h x (Array.mem_of_getElem? q)
theorem Lt.perm{p p':Array Nat}(hn:0 < n)(h:Lt n p)(e:p'.Perm p):Lt n p':=MZ hn fun x hx=>by
 have hx:=e.mem_iff.mp hx
 obtain ⟨i,hi,ei⟩:=Array.mem_iff_getElem.mp hx
 have:=h i
 simp[Array.getD,hi,ei] at this
 exact this
theorem rev_getD{p:Array Nat}{i j:Nat}(hj:j<=p.size)(k:Nat):(kas_rev p i j).getD k 0=if i<=k/\k < j then p.getD (i+j - 1 - k) 0 else p.getD k 0:=by
 rw[Array.getD_eq_getD_getElem?]
 unfold kas_rev
 rw[getElem?_mirror_all hj]
 split <;> rw[Array.getD_eq_getD_getElem?]
theorem sI{p:Array Nat}{i j:Nat}(hj:j<=p.size)(k:Nat):vl r (kas_rev p i j) k=if i<=k/\k < j then vl r p (i+j - 1 - k) else vl r p k:=by
 unfold vl
 rw[rev_getD hj]
 split <;> rfl
theorem iF(p:Array Nat)(i j:Nat):(kas_rev p i j).Perm p:=mirror_perm _ _ _ _
theorem je(p:Array Nat)(i j:Nat):(kas_rev p i j).size=p.size:=mirror_size _ _ _ _
theorem C8{p:Array Nat}(hp:Lt n p):∀(f a:Nat),1<=a->Up r p a->Rn r n (kas_asc p f a) fun m=>a<=m/\m<=a+f/\Up r p m/\(m=a+f\/vl r p m < vl r p (m - 1))
 | 0,a,_,hu=>⟨Nat.le_refl _,by lia,hu,.inl rfl⟩
 | f+1,a,ha,hu=>by
  refine⟨hp _,hp _,?_⟩
  dsimp only
  by_cases c:r (p.getD a 0) < r (p.getD (a - 1) 0)
  ·rw[decide_eq_true c,if_pos rfl]
   exact⟨Nat.le_refl _,by lia,hu,.inr c⟩
  ·rw[decide_eq_false c,if_neg (by simp)]
   refine Rn.mono (fun m h=>⟨by lia,by lia,h.2.2.1,?_⟩) _ (C8 hp f (a+1) (by lia) fun i j qP hj=>?_)
   ·rcases h.2.2.2 with h | h
    ·left;lia
    ·exact .inr h
   ·by_cases K4:j < a
    ·exact hu i j qP K4
    ·have e:j=a:=by lia
     subst e
     by_cases hi:i=j
     ·subst hi;exact Nat.le_refl _
     ·have q:=hu i (j - 1) (by lia) (by lia)
      unfold vl at q ⊢
      lia
theorem uJ(hn:0 < n):∀(f:Nat) (p:Array Nat) (a q:Nat),Lt n p->1<=a->a+f<=p.size->Dn r p a->q+1<=a->(∀i,a - (q+1)<=i->i < a->vl r p i=vl r p (a - 1))->
  Rn r n (kas_desc f p a q) fun z=>z.1.Perm p/\z.1.size=p.size/\a<=z.2.1/\z.2.1<=a+f/\Dn r z.1 z.2.1/\z.2.2+1<=z.2.1/\(∀i,z.2.1 - (z.2.2+1)<=i->i < z.2.1->vl r z.1 i=vl r z.1 (z.2.1 - 1))
 | 0,p,a,q,_,_,_,hd,hq,he=>⟨.refl _,rfl,Nat.le_refl _,Nat.le_add_right _ _,hd,hq,he⟩
 | f+1,p,a,q,hp,ha,hz,hd,hq,he=>by
  refine⟨hp _,hp _,?_⟩
  dsimp only
  by_cases c:r (p.getD a 0) < r (p.getD (a - 1) 0)
  ·rw[decide_eq_true c,if_pos rfl]
   have step:∀p':Array Nat,(∀k,vl r p' k=vl r p k)->Dn r p' (a+1):=fun p' hv i j qP hj=>by
    rw[hv,hv]
    by_cases K4:j < a
    ·exact hd i j qP K4
    ·have e:j=a:=by lia
     subst e
     by_cases hi:i=j
     ·subst hi;exact Nat.le_refl _
     ·have:=hd i (j - 1) (by lia) (by lia)
      unfold vl at this ⊢
      lia
   by_cases hq0:q > 0
   ·rw[if_pos hq0]
    have hv:∀k,vl r (kas_rev p (a - (q+1)) a) k=vl r p k:=fun k=>by
     rw[sI (by lia)]
     split
     ·rename_i hk
      rw[he _ (by lia) (by lia),he k hk.1 hk.2]
     ·rfl
    refine Rn.mono (fun z h=>⟨h.1.trans (iF _ _ _),h.2.1.trans (je _ _ _),by lia,by lia,h.2.2.2.2⟩) _
     (uJ hn f (kas_rev p (a - (q+1)) a) (a+1) 0 (hp.perm hn (iF _ _ _)) (by lia) (by rw[je];lia) (step _ hv) (by lia) fun i h1 h2=>?_)
    have:i=a:=by lia
    subst this;rfl
   ·rw[if_neg hq0]
    refine Rn.mono (fun z h=>⟨h.1,h.2.1,by lia,by lia,h.2.2.2.2⟩) _ (uJ hn f p (a+1) 0 hp (by lia) (by lia) (step p fun _=>rfl) (by lia) fun i h1 h2=>?_)
    have:i=a:=by lia
    subst this;rfl
  ·rw[decide_eq_false c,if_neg (by simp)]
   refine⟨hp _,hp _,?_⟩
   dsimp only
   by_cases d:r (p.getD (a - 1) 0) < r (p.getD a 0)
   ·rw[decide_eq_true d,if_pos rfl]
    exact⟨.refl _,rfl,Nat.le_refl _,Nat.le_add_right _ _,hd,hq,he⟩
   ·rw[decide_eq_false d,if_neg (by simp)]
    have eq:vl r p a=vl r p (a - 1):=by unfold vl;lia
    refine Rn.mono (fun z h=>⟨h.1,h.2.1,by lia,by lia,h.2.2.2.2⟩) _ (uJ hn f p (a+1) (q+1) hp (by lia) (by lia) (fun i j qP hj=>?_) (by lia) fun i h1 h2=>?_)
    ·by_cases K4:j < a
     ·exact hd i j qP K4
     ·have e:j=a:=by lia
      subst e
      by_cases hi:i=j
      ·subst hi;exact Nat.le_refl _
      ·rw[eq];exact hd i (j - 1) (by lia) (by lia)
    ·show vl r p i=vl r p a
     by_cases hi:i=a
     ·subst hi;rfl
     ·rw[eq];exact he i (by lia) (by lia)
def Out(r:Nat->Nat)(RE:Array Nat)(jf:Nat)(z:Nat×Array Nat):Prop:=z.2.Perm RE/\z.2.size=RE.size/\1<=z.1/\z.1<=jf/\Up r z.2 z.1
theorem Al(hn:0 < n){p:Array Nat}{a jf:Nat}(hp:Lt n p)(h1:1<=a)(h2:a<=jf)(hz:jf<=p.size)(hd:Dn r p a):Rn r n (kas_tail3 a jf p) (Out r p jf):=by
 unfold kas_tail3
 refine Rn.bind _ (Rn.mono (fun m h=>?_) _ (C8 (r:=r) (hp.perm hn (iF p 0 a)) (jf - a) a h1 fun i j qP hj=>?_))
 ·exact⟨iF _ _ _,je _ _ _,by show 1<=m;lia,by show m<=jf;lia,h.2.2.1⟩
 ·rw[sI (by lia),sI (by lia),if_pos (by lia),if_pos (by lia)]
  exact hd _ _ (by lia) (by lia)
theorem tV(hn:0 < n){p:Array Nat}{a jf:Nat}(hp:Lt n p)(h2:a+1<=jf)(hz:jf<=p.size)(hd:Dn r p (a+1)):Rn r n (kas_descPart a jf p) (Out r p jf):=by
 unfold kas_descPart
 refine Rn.bind _ (Rn.mono (fun z h=>?_) _ (uJ (r:=r) hn (jf - (a+1)) p (a+1) 0 hp (by lia) (by lia) hd (by lia) fun i h1 h2=>by
  have:i=a:=by lia
  subst this;rfl))
 refine YC h fun z1 z2 z3 z4 z5 z6 z7=>?_
 clear h
 split
 ·have hv:∀k,vl r (kas_rev z.1 (z.2.1 - (z.2.2+1)) z.2.1) k=vl r z.1 k:=fun k=>by
   rw[sI (by lia)]
   split
   ·rename_i hk
    rw[z7 _ (by lia) (by lia),z7 k hk.1 hk.2]
   ·rfl
  refine Rn.mono (fun y h=>?_) _ (Al hn ((hp.perm hn z1).perm hn (iF _ _ _)) (by lia) (by lia) (by rw[je];lia) fun i j qP hj=>by rw[hv,hv];exact z5 i j qP hj)
  exact⟨h.1.trans ((iF _ _ _).trans z1),h.2.1.trans ((je _ _ _).trans z2),h.2.2⟩
 ·refine Rn.mono (fun y h=>?_) _ (Al hn (hp.perm hn z1) (by lia) (by lia) (by lia) z5)
  exact⟨h.1.trans z1,h.2.1.trans z2,h.2.2⟩
theorem Gp(hn:0 < n){p:Array Nat}{jf:Nat}(hp:Lt n p)(h1:1<=jf)(hz:jf<=p.size):Rn r n (kas_count jf p) (Out r p jf):=by
 unfold kas_count
 refine Rn.bind _ (Rn.mono (fun m h=>?_) _ (C8 (r:=r) hp (jf - 1) 1 (Nat.le_refl _) fun i j qP hj=>by
  have:i=j:=by lia
  subst this;exact Nat.le_refl _))
 refine Ad h fun a1 a2 a3 a4=>?_
 clear h
 by_cases e:m=jf
 ·rw[if_pos (beq_iff_eq.mpr e)]
  exact⟨.refl _,rfl,a1,by show m<=jf;lia,a3⟩
 ·rw[if_neg (fun z=>e (beq_iff_eq.mp z))]
  have gG:vl r p m < vl r p (m - 1):=by
   rcases a4 with a4 | a4
   ·lia
   ·exact a4
  by_cases g:m > 1
  ·rw[if_pos g]
   refine⟨hp _,hp _,?_⟩
   dsimp only
   by_cases c:r (p.getD 0 0) < r (p.getD (m - 1) 0)
   ·rw[decide_eq_true c,if_pos rfl]
    exact⟨.refl _,rfl,a1,by show m<=jf;lia,a3⟩
   ·rw[decide_eq_false c,if_neg (by simp)]
    have all:∀k,k < m->vl r p k=vl r p (m - 1):=fun k hk=>by
     have b1:=a3 0 k (by lia) hk
     have b2:=a3 k (m - 1) (by lia) (by lia)
     unfold vl at b1 b2 ⊢
     lia
    refine Rn.mono (fun y h=>⟨h.1.trans (iF _ _ _),h.2.1.trans (je _ _ _),h.2.2⟩) _ (tV hn (hp.perm hn (iF p 0 m)) (by lia) (by rw[je];lia) fun i j qP hj=>?_)
    rw[sI (by lia),sI (by lia)]
    by_cases K4:j < m
    ·rw[if_pos (by lia),if_pos (by lia),all _ (by lia),all (0+m - 1 - i) (by lia)]
     exact Nat.le_refl _
    ·have ej:j=m:=by lia
     subst ej
     rw[if_neg (show ¬ (0<=j/\j < j) by lia)]
     by_cases hi:i < j
     ·rw[if_pos (show 0<=i/\i < j by lia),all (0+j - 1 - i) (by lia)];exact Nat.le_of_lt gG
     ·have:i=j:=by lia
      subst this
      rw[if_neg (show ¬ (0<=i/\i < i) by lia)]
      exact Nat.le_refl _
  ·rw[if_neg g]
   have em:m=1:=by lia
   subst em
   refine tV hn hp (by lia) hz fun i j qP hj=>?_
   by_cases hi:i=j
   ·subst hi;exact Nat.le_refl _
   ·have e1:i=0:=by lia
    have e2:j=1:=by lia
    subst e1;subst e2
    exact Nat.le_of_lt gG
theorem v9{p:Array Nat}{k:Nat}(hp:Lt n p)(hu:Up r p k):∀(f l q:Nat),q<=k->q - l<=f->l<=q->(∀i,i < l->vl r p i<=vl r p k)->(∀i,q<=i->i < k->vl r p k < vl r p i)->
  Rn r n (kas_place p k f l q) fun m=>m<=k/\(∀i,i < m->vl r p i<=vl r p k)/\(∀i,m<=i->i < k->vl r p k < vl r p i)
 | 0,l,q,h1,h2,h3,a,b=>by
  have:q=l:=by lia
  subst this
  exact⟨h1,a,b⟩
 | f+1,l,q,h1,h2,h3,a,b=>by
  unfold kas_place
  by_cases hc:l ≥ q
  ·rw[if_pos hc]
   have:q=l:=by lia
   subst this
   exact⟨h1,a,b⟩
  ·rw[if_neg hc]
   refine⟨hp _,hp _,?_⟩
   dsimp only
   by_cases c:r (p.getD k 0) < r (p.getD ((l+q) / 2) 0)
   ·rw[decide_eq_true c,if_pos rfl]
    refine v9 hp hu f l ((l+q) / 2) (by lia) (by lia) (by lia) a fun i hi hk=>?_
    have:=hu ((l+q) / 2) i hi hk
    unfold vl at this ⊢
    lia
   ·rw[decide_eq_false c,if_neg (by simp)]
    refine v9 hp hu f ((l+q) / 2+1) q h1 (by lia) (by lia) (fun i hi=>?_) b
    have:=hu i ((l+q) / 2) (by lia) (by lia)
    unfold vl at this ⊢
    lia
theorem NN{p:Array Nat}{k l:Nat}(hk:k < p.size)(hl:l<=k)(j:Nat):vl r (bubble p k (k - l)) j=if j=l then vl r p k else if l < j/\j<=k then vl r p (j - 1) else vl r p j:=by
 unfold vl
 have e:(bubble p k (k - l)).getD j 0=if j=l then p.getD k 0 else if l < j/\j<=k then p.getD (j - 1) 0 else p.getD j 0:=by
  rw[Array.getD_eq_getD_getElem?,getElem?_bubble hk (k - l) (by lia),show k - (k - l)=l by lia]
  by_cases c1:j=l
  ·rw[if_pos c1,if_pos c1,Array.getD_eq_getD_getElem?]
  ·rw[if_neg c1,if_neg c1]
   by_cases c2:l < j/\j<=k
   ·rw[if_pos c2,if_pos c2,Array.getD_eq_getD_getElem?]
   ·rw[if_neg c2,if_neg c2,Array.getD_eq_getD_getElem?]
 rw[e]
 by_cases c1:j=l
 ·rw[if_pos c1,if_pos c1]
 ·rw[if_neg c1,if_neg c1]
  by_cases c2:l < j/\j<=k
  ·rw[if_pos c2,if_pos c2]
  ·rw[if_neg c2,if_neg c2]
theorem Gq(hn:0 < n):∀(f:Nat) (p:Array Nat) (k:Nat),Lt n p->k+f<=p.size->Up r p k->Rn r n (kas_bin f p k) fun z=>z.Perm p/\z.size=p.size/\Up r z (k+f)
 | 0,p,k,_,_,hu=>⟨.refl _,rfl,hu⟩
 | f+1,p,k,hp,hz,hu=>by
  unfold kas_bin
  refine Rn.bind _ (Rn.mono (fun l h=>?_) _ (v9 hp hu k 0 k (Nat.le_refl _) (by lia) (by lia) (fun i hi=>absurd hi (Nat.not_lt_zero _)) (fun i h1 h2=>by lia)))
  refine qT h fun h1 h2 h3=>?_
  clear h
  have bv:=NN (r:=r) (p:=p) (k:=k) (l:=l) (by lia) h1
  have up:Up r (bubble p k (k - l)) (k+1):=fun i j qP hj=>by
   have eq1:∀x,x=l->vl r (bubble p k (k - l)) x=vl r p k:=fun x hx=>by rw[bv x,if_pos hx]
   have eq2:∀x,l < x->x<=k->vl r (bubble p k (k - l)) x=vl r p (x - 1):=fun x hx qS=>by rw[bv x,if_neg (show ¬ x=l by lia),if_pos ⟨hx,qS⟩]
   have eq3:∀x,x < l->vl r (bubble p k (k - l)) x=vl r p x:=fun x hx=>by rw[bv x,if_neg (show ¬ x=l by lia),if_neg (show ¬ (l < x/\x<=k) by lia)]
   by_cases c1:j=l
   ·rw[eq1 j c1]
    by_cases c2:i=l
    ·rw[eq1 i c2];exact Nat.le_refl _
    ·rw[eq3 i (by lia)];exact h2 i (by lia)
   ·by_cases c2:l < j
    ·rw[eq2 j c2 (by lia)]
     by_cases c3:i=l
     ·rw[eq1 i c3];exact Nat.le_of_lt (h3 (j - 1) (by lia) (by lia))
     ·by_cases c4:l < i
      ·rw[eq2 i c4 (by lia)];exact hu (i - 1) (j - 1) (by lia) (by lia)
      ·rw[eq3 i (by lia)];exact hu i (j - 1) (by lia) (by lia)
    ·rw[eq3 j (by lia),eq3 i (by lia)];exact hu i j qP (by lia)
  refine Rn.mono (fun z h=>⟨h.1.trans (bubble_perm _ _ _),h.2.1.trans (bubble_size _ _ _),by rw[show k+(f+1)=k+1+f by lia];exact h.2.2⟩) _
   (Gq hn f (bubble p k (k - l)) (k+1) (hp.perm hn (bubble_perm _ _ _)) (by rw[bubble_size];lia) up)
theorem K5{n:Nat}(r:Nat->Nat)(h:0 < n):Rn r n (kas_sort n) fun z=>z.Perm (List.range n).toArray/\z.size=n/\Up r z n:=by
 unfold kas_sort
 have hl:Lt n (List.range n).toArray:=MZ h fun x hx=>by simpa using hx
 refine Rn.bind _ (Rn.mono (fun z q=>?_) _ (Gp (r:=r) h hl (by lia) (by simp)))
 refine El q fun q1 q2 q3 q4 q5=>?_
 clear q
 have sz:z.2.size=n:=by rw[q2];simp
 split
 ·rw[Nat.max_eq_left q3]
  refine Rn.mono (fun y u=>⟨u.1.trans q1,u.2.1.trans sz,?_⟩) _ (Gq (r:=r) h (n - z.1) z.2 z.1 (hl.perm h q1) (by lia) q5)
  have:=u.2.2
  rw[show z.1+(n - z.1)=n by lia] at this
  exact this
 ·refine⟨q1,sz,?_⟩
  have:z.1=n:=by lia
  rw[this] at q5;exact q5
end
end So
end YI
section RG
namespace So
open PySem PySem.W PyProof.Rows
def Keeps(a:Addr)(h h':Heap):Prop:=∀b o,b≠a->h.get? b=some o->h'.get? b=some o
section
variable {prog:Program}{w:World}{A:Around}{E:Value->Shared->Prop}{s:Shared}{a:Addr}{vs:List Value}{kd:SortKind}{r:Nat->Nat}
theorem N1{n:Nat}{α:Type}{cmp:Nat->Nat->(Bool->Shared->Prop)->Shared->Prop}{Q:α->Shared->Prop}{P:α->Prop}(hc:∀i j C,i < n->j < n->C (decide (r i < r j)) s->cmp i j C s)(hq:∀x,P x->Q x s) :
  ∀t:KasT α,Rn r n t P->t.kasWp cmp Q s
 | .ret x,h=>hq x h
 | .ask i j k,h=>hc i j _ h.1 h.2.1 (N1 hc hq _ h.2.2)
theorem yN{n:Nat}{P:PySem.Fin->Shared->Prop}(ho:s.heap.get? a=some (seqObj "list" vs.toArray n))(h64:vs.length < 64)
  (Gr:2<=vs.length->∀h' Q,Keeps a s.heap h'->Q kd { s with heap:=h' }->wpAny (model prog w) A (keyKind' vs.toArray) Q E { s with heap:=h' })
  (gG:2<=vs.length->∀h' i j C,Keeps a s.heap h'->i < vs.length->j < vs.length->C (decide (r i < r j)) { s with heap:=h' }->wpAny (model prog w) A (keyLt' kd (vs.getD i Value.none) (vs.getD j Value.none)) C (fun _ _=>False) { s with heap:=h' })
  (h:∀h' n' (p:Array Nat),Keeps a s.heap h'->p.Perm (List.range vs.length).toArray->Up r p vs.length->h'.get? a=some (seqObj "list" (p.toList.map fun i=>vs.getD i Value.none).toArray n')->P (.done (.ret .none)) { s with heap:=h' }) :
  wpAny (model prog w) A (Builtin.«list.sort» ⟨[.ref a],[]⟩) P E s:=by
 have ha:a < s.heap.objs.size:=Heap.lt_size ho
 have line:sizeLine=16777216\/64<=sizeLine:=.inr (by rw[sizeLine_eq];decide)
 have big:64<=sizeLine:=by rw[sizeLine_eq];decide
 have K6:=Heap.SameBut.update s.heap a (Obj.mapSeq fun _=>(#[]:Array Value))
 obtain ⟨e1,Ws⟩:∃e1,(s.heap.update a (Obj.mapSeq fun _=>(#[]:Array Value))).get? a=some (seqObj "list" #[] e1):=⟨_,get?_update_seq ho fun _=>#[]⟩
 rw[list_sort_plain]
 refine wpAny_bind (listItems_at ho rfl (wpAny_bind (listUpdate_at ho rfl ?_ (by rw[List.size_toArray];lia) (Nat.zero_le _))))
 refine wpAny_bind (seqEpoch_at Ws rfl (wpAny_bind (wpAny_newTuple ?_ (by show vs.length<=_;lia))))
 refine wpAny_bind (wpAny_newList ?_ (Nat.zero_le _))
 refine wpAny_holding ?_
 generalize hG:((s.heap.update a (Obj.mapSeq fun _=>(#[]:Array Value))).push (seqObj "tuple" vs.toArray 0)).push (seqObj "list" #[] 0)=g
 have kg:Keeps a s.heap g:=fun b o hb e=>by
  rw[<- hG]
  exact Heap.get?_push_of_some _ (Heap.get?_push_of_some _ (by rw[K6.2 b hb];exact e))
 have ag:g.get? a=some (seqObj "list" #[] e1):=by rw[<- hG];exact Heap.get?_push_of_some _ (Heap.get?_push_of_some _ Ws)
 show wpAny (model prog w) A _ P E { s with heap:=g }
 dsimp only
 have fin:∀(p:Array Nat),p.size=vs.length->p.Perm (List.range vs.length).toArray->Up r p vs.length->P (.done (.ret .none)) { s with heap:=g.update a (Obj.mapSeq fun _=>(p.toList.map fun i=>vs.getD i Value.none).toArray) }:=fun p hp h1 h2=>by
  have JM:=Heap.SameBut.update g a (Obj.mapSeq fun _=>(p.toList.map fun i=>vs.getD i Value.none).toArray)
  exact h _ _ p (fun b o hb e=>by rw[JM.2 b hb];exact kg b o hb e) h1 h2 (get?_update_seq ag fun _=>_)
 have psz:∀(p:Array Nat),p.size=vs.length->(p.toList.map fun i=>vs.getD i Value.none).toArray.size<=sizeLine+1:=fun p hp=>by
  rw[List.size_toArray,List.length_map,Array.length_toList,hp];lia
 by_cases h2:vs.toArray.size < 2
 ·rw[if_pos h2,if_pos h2]
  walk_at">"
  rw[StateT.run_pure]
  walk_at">$"
  have Di:vs.length < 2:=by rw[<- List.size_toArray];exact h2
  have ids:(List.range vs.length).toArray.toList.map (fun i=>vs.getD i Value.none)=vs:=by
   show (List.range vs.length).map (fun i=>vs.getD i Value.none)=vs
   refine List.ext_getElem (by simp) fun i h1 h2=>?_
   simp at h1
   simp[h1]
  have out:(arrOf (SortSt.mk' general' (vs.toArray.zip vs.toArray) #[] 7 none)).map (·.2)=((List.range vs.length).toArray.toList.map fun i=>vs.getD i Value.none).toArray:=by
   rw[ids]
   show (vs.toArray.zip vs.toArray).map (·.2)=_
   apply Array.toList_inj.mp
   rw[Array.toList_map,Array.toList_zip]
   exact List.map_snd_zip (Nat.le_refl _)
  rw[out]
  have rs:(List.range vs.length).toArray.size=vs.length:=by rw[List.size_toArray,List.length_range]
  refine wpAny_bind (seqEpoch_at ag rfl ?_)
  refine wpAny_bind (listUpdate_at ag rfl ?_ (Nat.zero_le _) (psz _ rs))
  simp only[bne_self_eq_false,Bool.false_eq_true,if_false]
  refine wpAny_pure (fin _ rs (.refl _) fun i j qP hj=>?_)
  have:i=j:=by lia
  subst this;exact Nat.le_refl _
 ·rw[if_neg h2,if_neg h2]
  have Di:2<=vs.length:=by rw[<- List.size_toArray];lia
  refine wpAny_bind (Gr Di g _ kg ?_)
  have est:SortSt.mk' kd (vs.toArray.zip vs.toArray) #[] 7 none=kas_st kd (pairsOf vs) (List.toArray (List.range vs.length)):=by
   have e:=kas_range (pairsOf vs)
   rw[pairsOf_size] at e
   show SortSt.mk' kd (pairsOf vs) #[] 7 none=SortSt.mk' kd _ #[] 7 none
   rw[e]
  have ask:=N1 (s:={ s with heap:=g }) (cmp:=kas_ask prog w A kd vs) (Q:=fun (p:Array Nat) s'=>s'={ s with heap:=g }/\p.Perm (List.range vs.length).toArray/\p.size=vs.length/\Up r p vs.length)
   (fun i j C hi hj hc=>gG Di g i j C kg hi hj hc) (fun x hx=>⟨rfl,hx⟩) (kas_sort vs.length) (K5 r (by lia))
  rw[kas_ask_eq] at ask
  have run:=kas_runs (E:=E) (Q:=fun _ st' s'=>s'={ s with heap:=g }/\failedOf st'=none/\∃p:Array Nat,arrOf st'=p.map (kas_item (pairsOf vs))/\p.Perm (List.range vs.length).toArray/\p.size=vs.length/\Up r p vs.length)
   Di h64 (fun p' st' s' a1 a2 a3 a4=>⟨a4.1,a3,p',a2,a4.2⟩) ask
  rw[<- est] at run
  refine wpAny_bind (wpAny_mono run ?_ fun _ _ e=>e)
  rintro ⟨⟨⟩,st'⟩ s' ⟨rfl,hf,p,har,p1,p2,p3⟩
  dsimp only
  have out:(arrOf st').map (·.2)=(p.toList.map fun i=>vs.getD i Value.none).toArray:=by
   apply Array.toList_inj.mp
   rw[har,Array.map_map,Array.toList_map]
   refine List.map_congr_left fun i _=>?_
   show (kas_item (pairsOf vs) i).2=_
   rw[kas_item_eq]
  rw[out]
  refine wpAny_bind (seqEpoch_at ag rfl ?_)
  refine wpAny_bind (listUpdate_at ag rfl ?_ (Nat.zero_le _) (psz _ p2))
  rw[hf]
  simp only[bne_self_eq_false,Bool.false_eq_true,if_false]
  exact wpAny_pure (fin p p2 p1 p3)
end
end So
end RG
section YJ
namespace Ts
open PySem PySem.SetTable Tb
structure nK(prog:Program)(w:World)(K:Type)[DecidableEq K] extends HeapKind prog w K where
 Gs:∀{A:Around} {E:Value->Shared->Prop} {s:Shared} {k:K} {a:Addr} {Q:Bool->Shared->Prop},is s.heap k a->Q false s->wpAny (model prog w) A (ofAClassStatement 8 (.ref a)) Q E s
 N2:∀{A:Around} {E:Value->Shared->Prop} {s:Shared} {k:K} {a:Addr} {Q:Bool->Shared->Prop},is s.heap k a->Q true s->wpAny (model prog w) A (hashByValue 8 (.ref a)) Q E s
 mono:∀{h h':Heap} {k:K} {a:Addr},is h k a->(∀b o,h.get? b=some o->o.cls = .type "tuple" ->h'.get? b=some o)->is h' k a
section
variable {prog:Program}{w:World}{K:Type}[DecidableEq K]{κ:nK prog w K}
theorem stays(κ:nK prog w K){h h':Heap}{k:K}{a d:Addr}{o:Obj}(x:κ.is h k a)(ho:h.get? d=some o)(hc:o.cls = .type "set")(sb:Heap.SameBut d h h'):κ.is h' k a:=
 κ.mono x fun b ob e hb=>by
  rw[sb.2 b ?_]
  ·exact e
  ·rintro rfl
   obtain rfl:=Option.some.inj (e.symm.trans ho)
   rw[hc] at hb
   exact absurd hb (by decide)
def entry(κ:nK prog w K)(x:K×Addr):Int×Value:=(κ.hash x.1,.ref x.2)
structure gH(κ:nK prog w K)(h:Heap)(a:Addr)(led:Bool)(xs:List (K×Addr))(o:Obj)(ep:Nat)(t:SetTable):Prop where
 obj:h.get? a=some o
 lH:o.ExactSet
 data:o.data = .set (xs.map (entry κ)).toArray ep t
 good:Good t xs.length
 Dj:Paths t (fun i=>((xs.map (entry κ)).toArray[i]?.map (·.1)).getD 0) xs.length
 Et:t.led=led
 plain:t.plain=true
 iy:xs.length * 5 < t.mask * 3
 keys:(xs.map (·.1)).Nodup
 each:∀x∈xs,κ.is h x.1 x.2
theorem fits_of{t:SetTable}{n:Nat}(g:Good t n):t.fits n=true:=by
 unfold SetTable.fits SetTable.fill
 rw[g.Ry,g.size]
 have:=g.iy
 simp
 lia
variable {A:Around}{E:Value->Shared->Prop}{s:Shared}{a b:Addr}{led:Bool}{xs:List (K×Addr)}{o:Obj}{ep:Nat}{t:SetTable}{k:K}
theorem gI{Q:(Array (Int×Value)×Nat×SetTable)->Shared->Prop}(S:gH κ s.heap a led xs o ep t)(h:Q ((xs.map (entry κ)).toArray,ep,t) s):wpAny (model prog w) A (setState a) Q E s:=
 wpAny_setState_of S.obj S.data (by simpa using fits_of S.good) h
theorem K7{Q:Bool->Shared->Prop}{l:List (K×Addr)}(hx:κ.is s.heap k b)(hl:∀x∈l,κ.is s.heap x.1 x.2)(h:Q false s) :
  wpAny (model prog w) A (searchCouldBeSeen (.ref b) (l.map fun x=>Value.ref x.2)) Q E s:=by
 unfold searchCouldBeSeen
 refine wpAny_bind (wpAny_forIn_list _ (fun rest r s'=>r.1=none/\s'=s/\∃(l':List (K×Addr)),rest=l'.map (fun x:K×Addr=>Value.ref x.2)/\∀x∈l',κ.is s.heap x.1 x.2) _ ?_ ?_ _ _ ⟨rfl,rfl,l,rfl,hl⟩)
 ·rintro v rest r s' ⟨hr,rfl,l',Dk,hk⟩
  cases l' with
  | nil=>cases Dk
  | cons x l'=>
   rw[List.map_cons] at Dk
   injection Dk with e1 e2
   subst e1
   have nx:r.1=none/\s'=s'/\∃(l'':List (K×Addr)),rest=l''.map (fun x:K×Addr=>Value.ref x.2)/\∀x∈l'',κ.is s'.heap x.1 x.2:=⟨hr,rfl,l',e2,fun y hy=>hk y (List.mem_cons_of_mem _ hy)⟩
   have Dl:=hk x List.mem_cons_self
   dsimp only
   split
   ·exact wpAny_pure ⟨rfl,rfl,nx.2.2⟩
   ·refine wpAny_bind (κ.quiet hx ?_)
    walk_at"R"
    refine wpAny_bind (κ.quiet Dl ?_)
    walk_at"R"
    refine wpAny_bind (κ.Gs hx ?_)
    walk_at"K"
    refine wpAny_bind (κ.Gs Dl ?_)
    walk_at"K"
    exact wpAny_pure ⟨rfl,rfl,nx.2.2⟩
 ·rintro ⟨r1,r2⟩ s' ⟨hr,rfl,_⟩
  simp only at hr
  subst hr
  exact wpAny_pure h
theorem j0(xs:List (K×Addr))(i:Nat):(xs.map (entry κ)).toArray[i]?=xs[i]?.map (entry κ):=by simp
theorem Eu{Q:SetFound->Shared->Prop}(S:gH κ s.heap a led xs o ep t)(hr:κ.room A)(hx:κ.is s.heap k b)
  (hT:k∈xs.map (·.1)->Q (.there none) s)
  (hF:k∉xs.map (·.1)->∀j,j<=t.mask->t.slot j = .empty->sH t (κ.hash k) j->Q (.free j false) s)
  {D:Nat} (hD:D<=10 * (t.mask+13)) (hE:t.slot (W t.mask (t.probeStart (κ.hash k)) D).j = .empty) (hB:∀m,m < D->t.slot (W t.mask (t.probeStart (κ.hash k)) m).j≠ .empty) :
  ∀(r m0 fuel:Nat),m0+r=D->r < fuel->(∀m i,m < m0->t.slot (W t.mask (t.probeStart (κ.hash k)) m).j = .live i->∀x,xs[i]?=some x->x.1≠k)->
   ∀pY:Option Probe,pY.getD (t.probeStart (κ.hash k))=W t.mask (t.probeStart (κ.hash k)) m0->
   wpAny (model prog w) A (setSearchFrom a (.ref b) (κ.hash k) true fuel pY) Q E s:=by
 intro r
 induction r using Nat.strongRecOn with
 | _ r ih=>
  intro m0 fuel hm hf hv pY qV
  obtain ⟨fuel,rfl⟩:∃f,fuel=f+1:=⟨fuel - 1,by lia⟩
  unfold setSearchFrom
  refine wpAny_bind (gI S ?_)
  dsimp only
  have hgw:t.gaveWay=false:=by
   unfold SetTable.gaveWay
   rcases S.good.QU with e | e | e <;> rw[e] <;> rfl
  rw[hgw]
  walk_at"K"
  have sp:=Dh S.good (fun i=>((xs.map (entry κ)).toArray[i]?.map (·.1)).getD 0) (κ.hash k) r (W t.mask (t.probeStart (κ.hash k)) m0) (10 * turns t.mask) (Dd _ _ _ rfl) (by unfold turns;lia)
   (by rw[<- nI,hm];exact hE) (fun m yJ=>by rw[<- nI];exact hB _ (by lia))
  have hpr:t.probe (fun i=>((xs.map (entry κ)).toArray[i]?.map (·.1)).getD 0) (κ.hash k) (pY.getD (t.probeStart (κ.hash k)))=probe.go t (fun i=>((xs.map (entry κ)).toArray[i]?.map (·.1)).getD 0) (κ.hash k) (10 * turns t.mask) (W t.mask (t.probeStart (κ.hash k)) m0):=by
   rw[qV];rfl
  rcases sp with ⟨m,i,h1,h2,h3,h4,h5,h6⟩ | ⟨h1,h2⟩
  ·have NO:=hpr.trans h6
   generalize RH:t.probe _ (κ.hash k) (pY.getD (t.probeStart (κ.hash k)))=pr
   obtain rfl:=RH.symm.trans NO
   dsimp only
   obtain ⟨x,NP⟩:∃x,xs[i]?=some x:=⟨xs[i],List.getElem?_eq_getElem h2⟩
   have Wu:x∈xs:=List.mem_of_getElem? NP
   have rest:wpAny (model prog w) A (do
     let some (_,y):=(xs.map (entry κ)).toArray[i]? | unsupported "internal:set-entry"
     let equal <- holding [y] (eqBool y (.ref b))
     let (BS,_,t') <- setState a
     if true&&equal then return .there none
     let some same:=t'.sameMemory t.moves t.mask | unsupported "set.changed-during-lookup:is-the-new-block-at-the-old-address"
     let RI <- match (if same then t'.slot (W t.mask (W t.mask (t.probeStart (κ.hash k)) m0) m).j else .empty) with
      | .live i'=>match BS[i']? with
       | some (_,y')=>do pure (if <- isSame y' y then some i' else none)
       | none=>pure none
      | _=>pure none
     match RI with
     | none=>rule "set.search.anew";setSearchFrom a (.ref b) (κ.hash k) true fuel none
     | some i'=>if equal then return .there (some i') else setSearchFrom a (.ref b) (κ.hash k) true fuel (some (W t.mask (W t.mask (t.probeStart (κ.hash k)) m0) (m+1)))) Q E s:=by
    rw[j0,NP]
    dsimp only[Option.map,entry]
    refine wpAny_bind (wpAny_holding (κ.eqBool hr (S.each x Wu) hx ?_))
    refine wpAny_bind (gI S ?_)
    dsimp only
    by_cases hk:x.1=k
    ·rw[decide_eq_true hk]
     simp only[Bool.and_self,if_true]
     exact wpAny_pure (hT (List.mem_map.mpr ⟨x,Wu,hk⟩))
    ·rw[decide_eq_false hk]
     simp only[Bool.and_false,Bool.false_eq_true,if_false]
     have N3:t.sameMemory t.moves t.mask=some true:=by unfold SetTable.sameMemory;rw[if_pos (by simp)]
     rw[N3]
     dsimp only
     rw[if_pos rfl,h3]
     dsimp only
     rw[j0,NP]
     dsimp only[Option.map,entry]
     refine wpAny_bind (wpAny_isSame_ref_self (wpAny_bind (wpAny_pure ?_)))
     simp only[if_true]
     refine ih (r - (m+1)) (by lia) (m0+(m+1)) fuel (by lia) (by lia) (fun m' i' yJ hl y hy=>?_) _ (by rw[<- nI];rfl)
     by_cases c1:m' < m0
     ·exact hv m' i' c1 hl y hy
     ·obtain ⟨q,rfl⟩:∃q,m'=m0+q:=⟨m' - m0,by lia⟩
      rw[nI] at hl
      by_cases c2:q < m
      ·intro e
       refine h5 q c2 i' hl ?_
       show ((xs.map (entry κ)).toArray[i']?.map (·.1)).getD 0=κ.hash k
       rw[j0,hy]
       show κ.hash y.1=κ.hash k
       rw[e]
      ·have:q=m:=by lia
       subst this
       rw[h3] at hl
       cases hl
       rw[NP] at hy
       cases hy
       exact hk
   by_cases hl:led=true
   ·have Dk:t.led=true:=S.Et.trans hl
    rw[Dk]
    walk_at"R"
    exact rest
   ·have Dk:t.led=false:=S.Et.trans (Bool.eq_false_iff.mpr hl)
    rw[Dk]
    simp only[Bool.not_false,if_true]
    have el:((((xs.map (entry κ)).toArray.filter (·.1==κ.hash k))).toList.map (·.2))=(xs.filter fun y=>κ.hash y.1==κ.hash k).map fun y=>Value.ref y.2:=by
     rw[Array.toList_filter,List.filter_map,List.map_map]
     rfl
    rw[el]
    refine wpAny_bind (K7 hx (fun y hy=>S.each y (List.mem_filter.mp hy).1) ?_)
    walk_at"K"
    exact rest
  ·have NO:=hpr.trans h2
   generalize RH:t.probe _ (κ.hash k) (pY.getD (t.probeStart (κ.hash k)))=pr
   obtain rfl:=RH.symm.trans NO
   dsimp only
   have ej:(W t.mask (W t.mask (t.probeStart (κ.hash k)) m0) r).j=(W t.mask (t.probeStart (κ.hash k)) D).j:=by rw[<- nI,hm]
   rw[ej]
   refine wpAny_pure (hF (fun yO=>?_) _ (MY t.mask _ D) hE ⟨D,rfl,hB⟩)
   refine aN (List.mem_map.mp yO) fun x Wu ek=>?_
   obtain ⟨i,hi,ei⟩:=List.mem_iff_getElem.mp Wu
   have NP:xs[i]?=some x:=by rw[List.getElem?_eq_getElem hi,ei]
   refine aN (S.Dj i hi) fun ki p1 p2=>?_
   have hh:(fun i=>((xs.map (entry κ)).toArray[i]?.map (·.1)).getD 0) i=κ.hash k:=by
    show ((xs.map (entry κ)).toArray[i]?.map (·.1)).getD 0=κ.hash k
    rw[j0,NP]
    show κ.hash x.1=κ.hash k
    rw[ek]
   rw[hh] at p1 p2
   have sl:t.slot (W t.mask (t.probeStart (κ.hash k)) ki).j = .live i:=by rw[p1];exact xQ S.good hi
   have c1:ki < D:=by
    rcases Nat.lt_trichotomy ki D with c | c | c
    ·exact c
    ·subst c;rw[sl] at hE;cases hE
    ·exact absurd hE (p2 D c)
   by_cases c2:ki < m0
   ·exact hv ki i c2 sl x NP ek
   ·obtain ⟨q,rfl⟩:∃q,ki=m0+q:=⟨ki - m0,by lia⟩
    rw[nI] at sl
    exact h1 q (by lia) i sl hh
end
end Ts
end YJ
section RJ
namespace Ts
open PySem PySem.SetTable Tb
section
variable {prog:Program}{w:World}{K:Type}[DecidableEq K]{κ:nK prog w K}
variable {A:Around}{E:Value->Shared->Prop}{s:Shared}{a b:Addr}{led:Bool}{xs:List (K×Addr)}{o:Obj}{ep:Nat}{t:SetTable}{k:K}
theorem gH.store(S:gH κ s.heap a led xs o ep t){ys:List (K×Addr)}{t':SetTable}(hg:Good t' ys.length)(hp:Paths t' (fun i=>((ys.map (entry κ)).toArray[i]?.map (·.1)).getD 0) ys.length)(hl:t'.led=led)(v7:t'.plain=true)
  (hk:(ys.map (·.1)).Nodup) (he:∀x∈ys,κ.is s.heap x.1 x.2) :
  let h':=s.heap.update a (Obj.putSet (ys.map (entry κ)).toArray t')
  Heap.SameBut a s.heap h'/\h'.get? a=some { o with data:=.set (ys.map (entry κ)).toArray (ep+1) t' }/\(∀x∈ys,κ.is h' x.1 x.2)/\
   (ys.length * 5 < t'.mask * 3->gH κ h' a led ys { o with data:=.set (ys.map (entry κ)).toArray (ep+1) t' } (ep+1) t'):=by
 intro h'
 have sb:Heap.SameBut a s.heap h':=Heap.SameBut.update ..
 have Gu:h'.get? a=some { o with data:=.set (ys.map (entry κ)).toArray (ep+1) t' }:=by
  have:=Heap.get?_update_self (Obj.putSet (ys.map (entry κ)).toArray t') S.obj (by rw[putSet_of _ t' S.data];rfl)
  rw[putSet_of _ t' S.data] at this;exact this
 have hi:∀x∈ys,κ.is h' x.1 x.2:=fun x hx=>stays κ (he x hx) S.obj S.lH.1 sb
 exact⟨sb,Gu,hi,fun hf=>⟨Gu,S.lH,rfl,hg,hp,hl,v7,hf,hk,hi⟩⟩
theorem qW{n M:Nat}(h:(M=32/\16<=n/\n < 32)\/(M=128/\64<=n/\n < 128)):sizeAbove n=M:=by
 unfold sizeAbove
 rcases h with ⟨rfl,h1,h2⟩ | ⟨rfl,h1,h2⟩
 ·unfold sizeAbove.go;rw[if_pos (by lia)]
  unfold sizeAbove.go;rw[if_pos (by lia)]
  unfold sizeAbove.go;rw[if_neg (by lia)]
 ·unfold sizeAbove.go;rw[if_pos (by lia)]
  unfold sizeAbove.go;rw[if_pos (by lia)]
  unfold sizeAbove.go;rw[if_pos (by lia)]
  unfold sizeAbove.go;rw[if_pos (by lia)]
  unfold sizeAbove.go;rw[if_neg (by lia)]
theorem xu{α:Type}(l:List α)(p:Nat)(x y:α):y∈l.take p++x::l.drop p↔y=x\/y∈l:=by
 rw[List.mem_append,List.mem_cons]
 have:y∈l↔y∈l.take p\/y∈l.drop p:=by rw[<- List.mem_append,List.take_append_drop]
 rw[this]
 constructor
 ·rintro (h | h | h)
  ·exact .inr (.inl h)
  ·exact .inl h
  ·exact .inr (.inr h)
 ·rintro (h | h | h)
  ·exact .inr (.inl h)
  ·exact .inl h
  ·exact .inr (.inr h)
theorem Ew{α:Type}{l:List α}{x:α}(p:Nat)(h:l.Nodup)(hx:x∉l):(l.take p++x::l.drop p).Nodup:=by
 have e:(l.take p++x::l.drop p).Perm (x::l):=by
  refine List.perm_middle.trans ?_
  rw[List.take_append_drop]
 exact e.nodup_iff.mpr (List.nodup_cons.mpr ⟨hx,h⟩)
theorem reorder{α:Type}(l:List α)(order:Array Nat){n:Nat}(hl:l.length=n)(ho:order.size=n)(gG:∀m,m < n->order.getD m 0 < n) :
  (order.toList.filterMap (fun i=>l[i]?)).length=n/\∀m,m < n->(order.toList.filterMap (fun i=>l[i]?))[m]?=l[order.getD m 0]?:=by
 have key:∀(q:List Nat),(∀i∈q,i < l.length)->(q.filterMap (fun i=>l[i]?)).length=q.length/\∀m,m < q.length->(q.filterMap (fun i=>l[i]?))[m]?=l[q.getD m 0]?:=by
  intro q
  induction q with
  | nil=>intro _;exact⟨rfl,fun m h=>absurd h (Nat.not_lt_zero _)⟩
  | cons i q ih=>
   intro h
   have hi:=h i List.mem_cons_self
   obtain ⟨a1,a2⟩:=ih fun j hj=>h j (List.mem_cons_of_mem _ hj)
   rw[List.filterMap_cons_some (b:=l[i]) (List.getElem?_eq_getElem hi)]
   refine⟨by rw[List.length_cons,List.length_cons,a1],fun m hm=>?_⟩
   cases m with
   | zero=>simp[List.getElem?_eq_getElem hi]
   | succ m=>simpa using a2 m (by simpa using hm)
 have hm:∀i∈order.toList,i < l.length:=fun i hi=>by
  obtain ⟨m,h1,h2⟩:=List.mem_iff_getElem.mp hi
  have hz:m < order.size:=by rw[<- Array.length_toList];exact h1
  have:=gG m (by lia)
  have e:order.getD m 0=i:=by simp[Array.getD,hz];rw[<- h2];simp
  lia
 obtain ⟨b1,b2⟩:=key order.toList hm
 refine⟨by rw[b1,Array.length_toList,ho],fun m h=>?_⟩
 rw[b2 m (by rw[Array.length_toList];lia)]
 congr 1
 have hz:m < order.size:=by lia
 simp[Array.getD,List.getD,hz]
theorem Gv{Q:Unit->Shared->Prop}{wanted M:Nat}(ho:s.heap.get? a=some o)(hx:o.ExactSet)(hd:o.data = .set (xs.map (entry κ)).toArray ep t)(hg:Good t xs.length)(hl:t.led=led)(v7:t.plain=true)(hk:(xs.map (·.1)).Nodup)(he:∀x∈xs,κ.is s.heap x.1 x.2)
  (hM:G1 M) (hw:sizeAbove wanted=M+1) (hn:xs.length * 5 < M * 3)
  (h:∀h' o' yP t' ys,Heap.SameBut a s.heap h'->gH κ h' a led ys o' yP t'->(∀x,x∈ys↔x∈xs)->ys.length=xs.length->Q () { s with heap:=h' }):wpAny (model prog w) A (setRelay a wanted) Q E s:=by
 unfold setRelay
 refine wpAny_bind (wpAny_setState_of ho hd (by simpa using fits_of hg) ?_)
 dsimp only
 have hM':M < 200:=by rcases hM with e | e | e <;> lia
 rw[if_neg (by rw[hw,sizeLine_eq];lia)]
 obtain ⟨t',order,e1,g1,e2,e3,e4,e5,e6,e7,e8,e9⟩:=Es (n:=xs.length) hM (((xs.map (entry κ)).toArray).map (·.1)) (by simp) (by lia) t.finger (t.movedTo M) t.led t.plain
 have hrl:t.relaid (((xs.map (entry κ)).toArray).map (·.1)) wanted=some (t',order):=by
  unfold SetTable.relaid
  rw[hw,Nat.add_sub_cancel]
  exact e1
 rw[hrl]
 obtain ⟨r1,r2⟩:=reorder xs order rfl e5 e6
 have ent:order.filterMap (fun i=>((xs.map (entry κ)).toArray)[i]?)=((order.toList.filterMap (fun i=>xs[i]?)).map (entry κ)).toArray:=by
  apply Array.toList_inj.mp
  rw[Array.toList_filterMap,List.map_filterMap]
  congr 1
  funext i
  rw[j0]
 refine wpAny_bind (wpAny_of_eq (a:=(((order.toList.filterMap (fun i=>xs[i]?)).map (entry κ)).toArray,t')) ?_ ?_)
 ·show (do
   if (order.filterMap (fun i=>((xs.map (entry κ)).toArray)[i]?)).size !=((xs.map (entry κ)).toArray).size then unsupported "internal:set-table-lost-an-element"
   pure (order.filterMap (fun i=>((xs.map (entry κ)).toArray)[i]?),t'):Sem (Array (Int×Value)×SetTable))=_
  rw[ent,if_neg (by simp[r1])]
  first | done | rfl
 dsimp only
 have len:(order.toList.filterMap (fun i=>xs[i]?)).length=xs.length:=r1
 have mem:∀x,x∈order.toList.filterMap (fun i=>xs[i]?)↔x∈xs:=fun x=>by
  rw[List.mem_filterMap]
  constructor
  ·rintro ⟨i,_,e⟩;exact List.mem_of_getElem? e
  ·intro qS
   obtain ⟨i,hi,ei⟩:=List.mem_iff_getElem.mp qS
   refine aN (e8 i hi) fun m hm em=>?_
   have hz:m < order.size:=by lia
   refine⟨i,?_,by rw[List.getElem?_eq_getElem hi,ei]⟩
   have:order[m]=i:=by rw[<- em];simp[Array.getD,hz]
   rw[<- this]
   exact Array.mem_toList_iff.mpr (Array.getElem_mem hz)
 have nd:((order.toList.filterMap (fun i=>xs[i]?)).map (·.1)).Nodup:=by
  rw[List.nodup_iff_pairwise_ne,List.pairwise_iff_getElem]
  intro i j hi hj qP e
  rw[List.length_map,len] at hi hj
  have gi:=r2 i hi
  have gj:=r2 j hj
  rw[List.getElem?_eq_getElem (by lia),List.getElem?_eq_getElem (e6 i hi)] at gi
  rw[List.getElem?_eq_getElem (by lia),List.getElem?_eq_getElem (e6 j hj)] at gj
  rw[List.getElem_map,List.getElem_map,Option.some.inj gi,Option.some.inj gj] at e
  have pw:=List.pairwise_iff_getElem.mp (List.nodup_iff_pairwise_ne.mp hk)
  have a1:order.getD i 0 < (xs.map (·.1)).length:=by rw[List.length_map];exact e6 i hi
  have a2:order.getD j 0 < (xs.map (·.1)).length:=by rw[List.length_map];exact e6 j hj
  rcases Nat.lt_trichotomy (order.getD i 0) (order.getD j 0) with c | c | c
  ·exact pw _ _ a1 a2 c (by rw[List.getElem_map,List.getElem_map];exact e)
  ·have:=e7 i j hi hj c;lia
  ·exact pw _ _ a2 a1 c (by rw[List.getElem_map,List.getElem_map];exact e.symm)
 have YK:Paths t' (fun i=>(((order.toList.filterMap (fun i=>xs[i]?)).map (entry κ)).toArray[i]?.map (·.1)).getD 0) (order.toList.filterMap (fun i=>xs[i]?)).length:=by
  rw[len]
  intro i hi
  have q:=e9 i hi
  have ee:(((order.toList.filterMap (fun i=>xs[i]?)).map (entry κ)).toArray[i]?.map (·.1)).getD 0=(((xs.map (entry κ)).toArray).map (·.1)).getD (order.getD i 0) 0:=by
   rw[j0,r2 i hi]
   generalize order.getD i 0=z
   rw[Array.getD_eq_getD_getElem?,Array.getElem?_map,j0]
  show sH t' ((((order.toList.filterMap (fun i=>xs[i]?)).map (entry κ)).toArray[i]?.map (·.1)).getD 0) (t'.place.getD i 0)
  rw[ee]
  exact q
 have sb:Heap.SameBut a s.heap (s.heap.update a (Obj.putSet ((order.toList.filterMap (fun i=>xs[i]?)).map (entry κ)).toArray t')):=Heap.SameBut.update ..
 have Gu:=Heap.get?_update_self (Obj.putSet ((order.toList.filterMap (fun i=>xs[i]?)).map (entry κ)).toArray t') ho (by rw[putSet_of _ t' hd];rfl)
 rw[putSet_of _ t' hd] at Gu
 refine wpAny_storeSet_of ho hd (h _ _ (ep+1) t' (order.toList.filterMap (fun i=>xs[i]?)) sb ⟨Gu,hx,rfl,by rw[len];exact g1,YK,e3.trans hl,e4.trans v7,by rw[len,e2];exact hn,nd,fun x qS=>stays κ (he x ((mem x).mp qS)) ho hx.1 sb⟩ mem len) ?_
 rw[List.size_toArray,List.length_map,len,sizeLine_eq]
 lia
theorem NQ{Q:Bool->Shared->Prop}(S:gH κ s.heap a led xs o ep t)(hr:κ.room A)(hx:κ.is s.heap k b)(hn:xs.length < 60)
  (h:∀c h' o' yP t' ys,Heap.SameBut a s.heap h'->gH κ h' a led ys o' yP t'->(∀x∈ys,x∈xs\/x=(k,b))->(∀x∈xs,x∈ys)->k∈ys.map (·.1)->ys.length<=xs.length+1->Q c { s with heap:=h',toks:=s.toks+κ.draws k }) :
  wpAny (model prog w) A (setAdd a (.ref b)) Q E s:=by
 unfold setAdd
 refine wpAny_holding (wpAny_bind (κ.pyHash hr hx ?_))
 have S':gH κ ({ s with toks:=s.toks+κ.draws k }:Shared).heap a led xs o ep t:=S
 have qS:κ.is ({ s with toks:=s.toks+κ.draws k }:Shared).heap k b:=hx
 refine bQ (dist S.good (κ.hash k)) fun D d1 d2 d3=>?_
 have hm:t.mask<=127:=by rcases S.good.QU with e | e | e <;> lia
 unfold setAddHashed setAddHashedIn
 refine wpAny_holding (wpAny_bind (gI S' ?_))
 dsimp only
 have hsc:byScan (.ref b) (xs.map (entry κ)).toArray=false:=by simp[byScan,Value.scannable]
 rw[hsc]
 walk_at"K"
 unfold setSearch
 refine wpAny_bind (Eu S' hr qS (fun yO=>?_) (fun yO j hj he hp=>?_) d1 d2 d3 D 0 100000 (by lia) (by lia) (fun m i h0=>absurd h0 (Nat.not_lt_zero _)) none rfl)
 ·dsimp only
  refine wpAny_pure (h false s.heap o ep t xs (.refl ..) S (fun x hx=>.inl hx) (fun x hx=>hx) yO (by lia))
 dsimp only
 refine wpAny_bind (gI S' ?_)
 dsimp only
 have hf1:xs.length+1 < t.mask:=by
  have:=S.iy
  rcases S.good.QU with e | e | e <;> rw[e] at this ⊢ <;> lia
 refine uw (Ai S.good hj he hf1) fun g1 p1 p2 p3 p4 p5=>?_
 have v7:(t.put j).1.plain=true:=by rw[C6 S.good];exact S.plain
 have hld:(t.put j).1.led=led:=by rw[C6 S.good];exact S.Et
 rw[v7]
 simp only[if_true]
 refine wpAny_bind (κ.N2 qS ?_)
 simp only[if_true]
 have ent:SetTable.insertAt (xs.map (entry κ)).toArray (t.put j).2 (κ.hash k,Value.ref b)=((xs.take (below t.place j)++(k,b)::xs.drop (below t.place j)).map (entry κ)).toArray:=by
  apply Array.toList_inj.mp
  rw[toList_ins,p1,List.map_append,List.map_cons,List.map_take,List.map_drop]
  rfl
 rw[ent]
 have len:(xs.take (below t.place j)++(k,b)::xs.drop (below t.place j)).length=xs.length+1:=by
  rw[List.length_append,List.length_cons,List.length_take,List.length_drop];lia
 have nd:((xs.take (below t.place j)++(k,b)::xs.drop (below t.place j)).map (·.1)).Nodup:=by
  rw[List.map_append,List.map_cons,List.map_take,List.map_drop]
  exact Ew _ S.keys yO
 have mem:∀x,x∈(xs.take (below t.place j)++(k,b)::xs.drop (below t.place j))↔x=(k,b)\/x∈xs:=fun x=>xu _ _ _ _
 have is':∀x∈(xs.take (below t.place j)++(k,b)::xs.drop (below t.place j)),κ.is s.heap x.1 x.2:=fun x Dl=>by
  rcases (mem x).mp Dl with e | e
  ·rw[e];exact hx
  ·exact S.each x e
 have YK:Paths (t.put j).1 (fun i=>(((xs.take (below t.place j)++(k,b)::xs.drop (below t.place j)).map (entry κ)).toArray[i]?.map (·.1)).getD 0) (xs.length+1):=by
  refine Eo S.good hj he hf1 S.Dj (h:=κ.hash k) (fun i hi=>?_) hp
  rw[<- ent,p1,qU _ _ _ (by simp;exact p2)]
  by_cases c1:i < below t.place j
  ·rw[if_pos c1,if_pos c1]
  ·rw[if_neg c1,if_neg c1]
   by_cases c2:i=below t.place j
   ·rw[if_pos c2,if_pos c2];rfl
   ·rw[if_neg c2,if_neg c2]
 obtain ⟨sb,Gu,is2,S2⟩:=gH.store (s:={ s with toks:=s.toks+κ.draws k }) S' (t':=(t.put j).1) (by rw[len];exact g1) (by rw[len];exact YK) hld v7 nd is'
 refine wpAny_bind (wpAny_storeSet_of S.obj S.data ?_ (by rw[List.size_toArray,List.length_map,len,sizeLine_eq];lia))
 have RK:∀h' o' yP t' ys,Heap.SameBut a s.heap h'->gH κ h' a led ys o' yP t'->(∀x,x∈ys↔x∈(xs.take (below t.place j)++(k,b)::xs.drop (below t.place j)))->ys.length=xs.length+1->Q true { s with heap:=h',toks:=s.toks+κ.draws k }:=
  fun h' o' yP t' ys q1 q2 q3 q4=>h true h' o' yP t' ys q1 q2 (fun x Dl=>((mem x).mp ((q3 x).mp Dl)).symm) (fun x Dl=>(q3 x).mpr ((mem x).mpr (.inr Dl))) (List.mem_map.mpr ⟨(k,b),(q3 _).mpr ((mem _).mpr (.inl rfl)),rfl⟩) (by lia)
 have tf:(t.put j).1.tooFull=decide ((xs.length+1) * 5 ≥ t.mask * 3):=by
  unfold SetTable.tooFull SetTable.fill
  rw[g1.Ry,g1.size,p3]
  simp
 rw[tf]
 simp only[Bool.not_false,Bool.true_and]
 by_cases full:(xs.length+1) * 5 ≥ t.mask * 3
 ·rw[if_pos (decide_eq_true full)]
  have iy:=S.iy
  have hM:∃M,G1 M/\sizeAbove (SetTable.grown ((xs.map (entry κ)).toArray.size+1))=M+1/\(xs.length+1) * 5 < M * 3:=by
   have eg:SetTable.grown ((xs.map (entry κ)).toArray.size+1)=(xs.length+1) * 4:=by
    unfold SetTable.grown
    rw[List.size_toArray,List.length_map,if_neg (by lia)]
   rw[eg]
   rcases S.good.QU with e | e | e
   ·rw[e] at full iy
    exact⟨31,.inr (.inl rfl),qW (.inl ⟨rfl,by lia,by lia⟩),by lia⟩
   ·rw[e] at full iy
    exact⟨127,.inr (.inr rfl),qW (.inr ⟨rfl,by lia,by lia⟩),by lia⟩
   ·rw[e] at full;lia
  refine bQ hM fun M hM1 hM2 hM3=>?_
  clear hM
  refine wpAny_bind (Gv (κ:=κ) (M:=M) (led:=led) (s:={ s with heap:=_,toks:=_ }) Gu S.lH rfl (by rw[len];exact g1) hld v7 nd is2 hM1 hM2 (by rw[len];exact hM3) fun h' o' yP t' ys q1 q2 q3 q4=>?_)
  exact wpAny_pure (RK h' o' yP t' ys (sb.trans q1) q2 q3 (q4.trans len))
 ·rw[if_neg (by simp;lia)]
  refine wpAny_pure (RK _ _ _ _ _ sb (S2 (by rw[len,p3];lia)) (fun x=>Iff.rfl) len)
end
end Ts
end RJ
section RL
namespace Ts
open PySem PySem.SetTable Tb
section
variable {prog:Program}{w:World}{K:Type}[DecidableEq K]{κ:nK prog w K}
variable {A:Around}{E:Value->Shared->Prop}{R:Result->Shared->Prop}{s:Shared}{a b:Addr}{led:Bool}{xs:List (K×Addr)}{o:Obj}{ep:Nat}{t:SetTable}{k:K}
theorem gH.keep{h h':Heap}(S:gH κ h a led xs o ep t)(e:∀b o,h.get? b=some o->(b=a\/o.cls = .type "tuple")->h'.get? b=some o):gH κ h' a led xs o ep t:=
 ⟨e _ _ S.obj (.inl rfl),S.lH,S.data,S.good,S.Dj,S.Et,S.plain,S.iy,S.keys,fun x hx=>κ.mono (S.each x hx) fun b o q c=>e b o q (.inr c)⟩
theorem K8{S I l:Addr}{ys:List (K×Addr)}(hh:A.handled=none)(Gw:κ.room A.in1)(YL:S≠I)(hSl:S≠l)(hlI:l≠I)(hn:ys.length<=50) :
  ∀(r i:Nat) (s:Shared) (xs:List (K×Addr)) (o:Obj) (ep:Nat) (t:SetTable),i+r=ys.length->s.heap.IsListIter I l i->s.heap.IsList l (ys.map fun y=>Value.ref y.2).toArray->gH κ s.heap S led xs o ep t->
   (∀y∈ys,κ.is s.heap y.1 y.2)->(∀x∈xs,x∈ys)->(∀j y,j < i->ys[j]?=some y->y.1∈xs.map (·.1))->xs.length<=i->
   (∀h' tk o' yP t' zs,(∀b ob,b≠S->b≠I->s.heap.get? b=some ob->h'.get? b=some ob)->gH κ h' S led zs o' yP t'->(∀x∈zs,x∈ys)->(∀y∈ys,y.1∈zs.map (·.1))->R (.ok (.ret .none)) { s with heap:=h',toks:=tk })->
   codeAny (model prog w) A (.builtin "set.update.loop" ⟨[.ref S,.ref I],[]⟩) R s:=by
 intro r
 induction r with
 | zero=>
  intro i s xs o ep t hi hit hl hS hk hx hd hz hR
  refine codeAny_builtin PyProof.Rows.F.entry_set_update_loop ?_
  rw[Around.under_plainId PyProof.Rows.F.plain_set_update_loop _]
  refine wpAny_bind (m:=pyNext (.ref I)) (wpAny_pyNext_list_end hh hit hl (by simp;lia) fun h' he=>?_)
  refine wpAny_pure (hR h' s.toks o ep t xs (fun b ob _ h2 e=>he b ob h2 e) (hS.keep fun b ob e c=>he b ob ?_ e) hx fun y hy=>?_)
  ·rintro rfl
   rcases c with c | c
   ·exact YL c.symm
   ·refine bQ hit fun oi h1 h2 _=>?_
    clear hit
    obtain rfl:=Option.some.inj (e.symm.trans h1)
    rw[h2] at c;exact absurd c (by decide)
  ·obtain ⟨j,hj,ej⟩:=List.mem_iff_getElem.mp hy
   exact hd j y (by lia) (by rw[List.getElem?_eq_getElem hj,ej])
 | succ r ih=>
  intro i s xs o ep t hi hit hl hS hk hx hd hz hR
  have Ru:i < ys.length:=by lia
  refine codeAny_builtin PyProof.Rows.F.entry_set_update_loop ?_
  rw[Around.under_plainId PyProof.Rows.F.plain_set_update_loop _]
  refine wpAny_bind (m:=pyNext (.ref I)) (wpAny_pyNext_list_item hit hl (x:=.ref (ys[i]).2) (by simp[Ru]) fun h1 K9 K6=>?_)
  have tupI:∀b ob,s.heap.get? b=some ob->ob.cls = .type "tuple" ->b≠I:=fun b ob e c z=>by
   subst z
   refine bQ hit fun oi q1 q2 _=>?_
   clear hit
   obtain rfl:=Option.some.inj (e.symm.trans q1)
   rw[q2] at c;exact absurd c (by decide)
  have N4:∀b ob,s.heap.get? b=some ob->(b=S\/ob.cls = .type "tuple")->h1.get? b=some ob:=fun b ob e c=>by
   rw[K6.2 b ?_]
   ·exact e
   ·rcases c with c | c
    ·rw[c];exact YL
    ·exact tupI b ob e c
  have S1:gH κ ({ s with heap:=h1 }:Shared).heap S led xs o ep t:=hS.keep N4
  have hk1:∀y∈ys,κ.is h1 y.1 y.2:=fun y hy=>κ.mono (hk y hy) fun b ob e c=>N4 b ob e (.inr c)
  have hm:ys[i]∈ys:=List.getElem_mem Ru
  dsimp only
  refine wpAny_bind (wpAny_holding (NQ S1 Gw (hk1 _ hm) (by lia) fun c h2 o2 ep2 t2 zs JM S2 m1 m2 m3 m4=>?_))
  refine wpAny_pure ⟨plainId_quiet PyProof.Rows.F.plain_set_update_loop _,?_⟩
  have tupS:∀b ob,h1.get? b=some ob->ob.cls = .type "tuple" ->b≠S:=fun b ob e c z=>by
   subst z
   obtain rfl:=Option.some.inj (e.symm.trans S1.obj)
   rw[S1.lH.1] at c;exact absurd c (by decide)
  refine ih (i+1) _ zs o2 ep2 t2 (by lia) (K9.at fun ob e=>by rw[JM.2 _ (Ne.symm YL)];exact e) ?_ S2 (fun y hy=>κ.mono (hk1 y hy) fun b ob e c=>by rw[JM.2 b (tupS b ob e c)];exact e)
   (fun x qS=>?_) (fun j y hj hy=>?_) (by lia) fun h' tk o' yP t' ws q1 q2 q3 q4=>?_
  ·refine hl.at fun ob e=>?_
   show h2.get? l=_
   rw[JM.2 _ (Ne.symm hSl),K6.2 _ hlI];exact e
  ·rcases m1 x qS with e | e
   ·exact hx x e
   ·rw[e];exact hm
  ·by_cases c:j < i
   ·refine aN (List.mem_map.mp (hd j y c hy)) fun x hx1 Dl=>?_
    exact List.mem_map.mpr ⟨x,m2 x hx1,Dl⟩
   ·have:j=i:=by lia
    subst this
    rw[List.getElem?_eq_getElem Ru] at hy
    obtain rfl:=Option.some.inj hy
    exact m3
  ·refine hR h' tk o' yP t' ws (fun b ob RM Di e=>q1 b ob RM Di ?_) q2 q3 q4
   show h2.get? b=_
   rw[JM.2 b RM,K6.2 b Di];exact e
end
end Ts
end RL
section RN
namespace Ts
open PySem PySem.SetTable Tb
section
variable {prog:Program}{w:World}{K:Type}[DecidableEq K]{κ:nK prog w K}
variable {A:Around}{E:Value->Shared->Prop}{R:Result->Shared->Prop}{s:Shared}
def gC(w:World):Bool:=!(w.params.followText "set-order")
def gJ(w:World):Obj:={ cls:=.type "set",dict:=none,data:=.set #[] 0 (.fresh 0 0 (gC w)) }
theorem C9(w:World):Good (SetTable.fresh 0 0 (gC w)) 0:=⟨rfl,fun i j _ h=>absurd h (Nat.not_lt_zero _),fun i h=>absurd h (Nat.not_lt_zero _),rfl,.inl rfl,(by show 0 < 7;decide)⟩
theorem Ca{h:Heap}{a:Addr}(e:h.get? a=some (gJ w)):gH κ h a (gC w) [] (gJ w) 0 (.fresh 0 0 (gC w)):=
 ⟨e,⟨rfl,rfl,rfl⟩,rfl,C9 w,fun i h=>absurd h (Nat.not_lt_zero _),rfl,rfl,(by show 0 * 5 < 7 * 3;decide),List.nodup_nil,fun x h=>absurd h (by simp)⟩
theorem Gx(v:Value){Q₁:Value->Shared->Prop}(h:Q₁ (.ref s.heap.objs.size) { s with heap:=s.heap.push (gJ w) }) :
  codeAny (model prog w) A (.call (.builtin "set.__new__") ⟨[.type "set",v],[]⟩) (wants Q₁ E) s:=by
 refine codeAny_of_tree ?_
 show wpAny _ A.in1 (checkBuiltinCall "set.__new__" ⟨[.type "set",v],[]⟩>>=fun _=>again (.builtin "set.__new__" ⟨[.type "set",v],[]⟩)) _ _ s
 refine wpAny_bind (wpAny_of_eq (F.newCall_set_1 v) (wpAny_pure ⟨plainId_quiet F.plain_set_new _,codeAny_builtin F.entry_set_new ?_⟩))
 rw[Around.under_plainId F.plain_set_new _]
 unfold Builtin.«set.__new__» Builtin.Frozenset.newClass
 have own:=sub_set_self
 obtain ⟨hp,g,d,tk,os⟩:=s
 dsimp only
 wp_walk
 refine wpAny_askSetting (wpAny_pure ?_)
 dsimp only
 simp only[newObj]
 exact wpAny_bind (wpAny_alloc (wpAny_pure (wpAny_pure h)))
theorem Gy{l:Addr}{ys:List (K×Addr)}{Q:Value->Shared->Prop}(hh:A.handled=none)(Gw:κ.room A.in1.in1.in1)(hl:s.heap.IsList l (ys.map fun y=>Value.ref y.2).toArray)(hn:ys.length<=50)(hk:∀y∈ys,κ.is s.heap y.1 y.2)
  (h:∀h' tk o ep t zs,(∀b ob,s.heap.get? b=some ob->h'.get? b=some ob)->gH κ h' s.heap.objs.size (gC w) zs o ep t->(∀x∈zs,x∈ys)->(∀y∈ys,y.1∈zs.map (·.1))->Q (.ref s.heap.objs.size) { s with heap:=h',toks:=tk }) :
  wpAny (model prog w) A (call (.type "set") [.ref l]) Q E s:=by
 refine qq F.called_set.mro fun c tl aw9=>?_
 have made:=F.called_set.made
 have sub:=F.called_set.sub
 have n1:=F.called_set.notType
 have n2:=F.called_set.canCreate
 have ct:=F.typeCall_set_1 (.ref l)
 refine wpAny_call (codeAny_of_tree ?_)
 show wpAny _ _ (callAny (.type "set") _) _ _ _
 refine wpAny_pure ⟨Code.quiet_builtin _ (by decide +kernel),codeAny_builtin F.entry_type_call ?_⟩
 rw[Around.under_plain (weight_type_call_type "set" [.ref l] []) rfl]
 repeat any_goals first | assumption | wp_step
 refine codeAny_mono (Gx (.ref l) (E:=E) (Q₁:=fun obj cR=>obj = .ref s.heap.objs.size/\cR={ s with heap:=s.heap.push (gJ w) }) ⟨rfl,rfl⟩) fun r cR hr=>?_
 cases r with
 | error e=>exact hr
 | ok fl=>
  cases fl with
  | ret obj=>
   obtain ⟨rfl,rfl⟩:=hr
   have got:(s.heap.push (gJ w)).get? s.heap.objs.size=some (gJ w):=Heap.get?_push_size _ rfl
   have ty:Shared.TypeIs { s with heap:=s.heap.push (gJ w) } (.ref s.heap.objs.size) "set":=⟨_,got,rfl⟩
   have li:=F.called_set.init.lookup
   have bi:=F.called_set.init.bind (.ref s.heap.objs.size)
   repeat any_goals first | assumption | wp_step
   refine codeAny_mono (codeAny_call_builtin (R:=wants (fun r Ka=>r = .none/\∃h' tk o ep t zs,Ka={ s with heap:=h',toks:=tk }/\(∀b ob,s.heap.get? b=some ob->h'.get? b=some ob)/\gH κ h' s.heap.objs.size (gC w) zs o ep t/\(∀x∈zs,x∈ys)/\(∀y∈ys,y.1∈zs.map (·.1))) E)
    F.called_set.init.plain F.entry_set_init (check_set_init_1 ty ?_)) fun YM Ka Gz=>?_
   ·obtain ⟨ol,hol,Aa,nl,hdl⟩:=hl
    obtain ⟨ax0,RO,av1,NR⟩:=ol
    simp only at Aa hdl
    subst Aa;subst hdl
    have YN:(s.heap.push (gJ w)).get? l=some { cls:=.type "list",dict:=RO,data:=.seq (ys.map fun y=>Value.ref y.2).toArray nl,slots:=NR }:=Heap.get?_push_of_some _ hol
    have s1:=F.sub_list_set
    have s2:=F.sub_list_frozenset
    have s3:(Value.type "list" ==Value.type "dict")=false:=by decide
    have hl1:(s.heap.push (gJ w)).IsList l (ys.map fun y=>Value.ref y.2).toArray:=⟨_,YN,rfl,nl,rfl⟩
    have ax1:(s.heap.push (gJ w)).get? s.heap.objs.size=some { cls:=.type "set",dict:=none,data:=.set #[] 0 (.fresh 0 0 (gC w)) }:=got
    unfold Builtin.«set.__init__» noKeywords Builtin.Frozenset.updateFrom
    generalize hPI:pyIter=PI
    wp_walk
    subst hPI
    refine wpAny_pyIter_list hl1 ?_
    refine wpAny_bind (wpAny_runValue ?_)
    have lt:l < s.heap.objs.size:=Heap.lt_size hol
    have sz:(s.heap.push (gJ w)).objs.size=s.heap.objs.size+1:=by rw[Heap.size_push]
    have d1:s.heap.objs.size≠(s.heap.push (gJ w)).objs.size:=by rw[sz];exact Nat.ne_of_lt (Nat.lt_succ_self _)
    have d2:s.heap.objs.size≠l:=Nat.ne_of_gt lt
    have d3:l≠(s.heap.push (gJ w)).objs.size:=by rw[sz];exact Nat.ne_of_lt (Nat.lt_succ_of_lt lt)
    refine K8 (κ:=κ) (led:=gC w) (ys:=ys) (by simp[hh]) Gw d1 d2 d3 hn ys.length 0 _ [] (gJ w) 0 (.fresh 0 0 (gC w)) (by lia)
     ?h1 ?h2 ?h3 ?hk (fun x hx=>absurd hx (by simp)) (fun j y hj=>absurd hj (Nat.not_lt_zero _)) (Nat.le_refl _) fun h' tk o ep t zs q1 q2 q3 q4=>?_
    case h1=>exact⟨_,Heap.get?_push_size _ rfl,rfl,rfl⟩
    case h2=>exact hl1.push _
    case h3=>exact Ca (Heap.get?_push_of_some _ got)
    case hk=>exact fun y hy=>κ.mono (hk y hy) fun b ob e _=>Heap.get?_push_of_some _ (Heap.get?_push_of_some _ e)
    refine wpAny_pure (wpAny_pure ⟨rfl,h',tk,o,ep,t,zs,rfl,fun b ob e=>?_,q2,q3,q4⟩)
    have lb:=Heap.lt_size e
    exact q1 b ob (Nat.ne_of_lt lb) (by rw[sz];exact Nat.ne_of_lt (Nat.lt_succ_of_lt lb)) (Heap.get?_push_of_some _ (Heap.get?_push_of_some _ e))
   ·cases YM with
    | error e=>exact Gz
    | ok RP=>
     cases RP with
     | ret r=>
      obtain ⟨rfl,h',tk,o,ep,t,zs,rfl,q1,q2,q3,q4⟩:=Gz
      repeat any_goals first | assumption | wp_step
      exact h h' tk o ep t zs q1 q2 q3 q4
     | _=>exact Gz.elim
  | _=>exact hr.elim
end
end Ts
end RN
section RQ
namespace Ts
open PySem PySem.SetTable Tb
theorem fW:Slot "set_iterator" "__next__" "set_iterator.__next__" :=
 .of (owner:="set_iterator") (n:="__next__") (by rw[typeLookup_type,builtinLookup_eq_fast];kernel_rfl) (by decide +kernel)
  (by decide +kernel) (by decide +kernel) (by first | exact .inl (by decide +kernel) | exact .inr (by decide +kernel))
  (by rw[isSubtype_type];kernel_rfl)
theorem nM:entryFor table "set_iterator.__next__" =some Builtin.«set_iterator.__next__»:=entryFor_of_tree (by kernel_rfl)
theorem pZ(a:Value):argsOk "set_iterator.__next__" ⟨[a],[]⟩:=by unfold argsOk;kernel_rfl
theorem vc:entryFor table "set.__iter__" =some Builtin.«frozenset.__iter__» :=
 entryFor_alias (id':="frozenset.__iter__") (by kernel_rfl) rfl (by decide +kernel) (by kernel_rfl)
theorem Dp{α:Type}(next:Nat->Nat):∀(fuel k:Nat) (left:List α) (out:Array α),fuel=left.length->(pickOrder.go next fuel k left out).toList.Perm (out.toList++left)
 | 0,k,left,out,h=>by
  have:left=[]:=List.length_eq_zero_iff.mp h.symm
  subst this
  unfold pickOrder.go
  simp
 | fuel+1,k,left,out,h=>by
  unfold pickOrder.go
  have gG:next k % left.length < left.length:=Nat.mod_lt _ (by lia)
  rw[List.getElem?_eq_getElem gG]
  dsimp only
  refine(Dp next fuel (k+1) _ _ (by rw[List.length_eraseIdx_of_lt gG];lia)).trans ?_
  rw[Array.toList_push,List.append_assoc]
  refine List.Perm.append_left _ ?_
  have e1:left=left.take (next k % left.length)++left[next k % left.length]::left.drop (next k % left.length+1):=by
   rw[<- List.drop_eq_getElem_cons gG,List.take_append_drop]
  have e2:left.eraseIdx (next k % left.length)=left.take (next k % left.length)++left.drop (next k % left.length+1):=List.eraseIdx_eq_take_drop_succ _ _
  rw[e2]
  refine List.Perm.trans ?_ (List.Perm.of_eq e1.symm)
  rw[List.singleton_append]
  exact List.perm_middle.symm
theorem xT{α:Type}(next:Nat->Nat)(xs:Array α):(pickOrder next xs).toList.Perm xs.toList:=by
 have:=Dp next xs.size 0 xs.toList #[] (by simp)
 simpa[pickOrder] using this
section
variable {prog:Program}{w:World}{K:Type}[DecidableEq K]{κ:nK prog w K}
variable {A:Around}{E:Value->Shared->Prop}{R:Result->Shared->Prop}{s:Shared}{a I:Addr}{xs:List (K×Addr)}{o:Obj}{ep:Nat}{t:SetTable}
def ia(w:World)(a:Addr)(ep:Nat)(es:Array (Int×Value)):Array (Int×Value):=if w.params.followText "set-order" then pickOrder (w.params.setOrder a ep) es else es
theorem sJ(w:World)(a:Addr)(ep:Nat)(es:Array (Int×Value)):(ia w a ep es).toList.Perm es.toList:=by
 unfold ia;split
 ·exact xT _ _
 ·exact .refl _
def slotAt(w:World)(t:SetTable)(m:Nat):Nat:=if w.params.followText "set-order" then 0 else if m=0 then 0 else t.place.getD (m - 1) 0+1
def xU(h:Heap)(I a:Addr)(n ep slot m:Nat):Prop:=∃ob,h.get? I=some ob/\ob.cls = .type "set_iterator" /\ob.data = .fields #[rawInt slot,rawInt m,.ref a,rawInt n,rawInt ep]
theorem xU.typeIs{n ep slot m:Nat}(x:xU s.heap I a n ep slot m):s.TypeIs (.ref I) "set_iterator":=let ⟨ob,h1,h2,_⟩:=x;⟨ob,h1,h2⟩
theorem sM{Q:Bool->Shared->Prop}(h:Q (w.params.followText "set-order") s):wpAny (model prog w) A setsByText Q E s:=by
 unfold setsByText
 exact wpAny_bind (wpAny_askSetting (wpAny_pure h))
theorem Dq{Q:Option (Value×Nat)->Shared->Prop}{m:Nat}(S:gH κ s.heap a (gC w) xs o ep t)(hm:m<=xs.length)
  (h1:∀e,(ia w a ep (xs.map (entry κ)).toArray)[m]?=some e->Q (some (e.2,slotAt w t (m+1))) s) (h2:m=xs.length->Q none s) :
  wpAny (model prog w) A (setNext a (slotAt w t m) m ep) Q E s:=by
 unfold setNext
 refine wpAny_bind (gI S ?_)
 dsimp only
 refine wpAny_bind (sM ?_)
 by_cases hb:w.params.followText "set-order" =true
 ·rw[if_pos hb]
  simp only[bne_self_eq_false,Bool.false_eq_true,if_false]
  unfold setWalk
  refine wpAny_bind (wpAny_bind (gI S ?_))
  dsimp only
  refine wpAny_bind (sM ?_)
  rw[if_pos hb]
  refine wpAny_bind (wpAny_askSetting (wpAny_pure ?_))
  have ew:ia w a ep (xs.map (entry κ)).toArray=pickOrder (w.params.setOrder a ep) (xs.map (entry κ)).toArray:=by unfold ia;rw[if_pos hb]
  have es:∀q,slotAt w t q=0:=fun q=>by unfold slotAt;rw[if_pos hb]
  have sz:(pickOrder (w.params.setOrder a ep) (xs.map (entry κ)).toArray).size=xs.length:=by
   rw[<- Array.length_toList,(xT _ _).length_eq];simp
  refine wpAny_pure ?_
  show Q ((pickOrder (w.params.setOrder a ep) (xs.map (entry κ)).toArray)[m]?.map fun e=>(e.2,slotAt w t m)) s
  cases q:(pickOrder (w.params.setOrder a ep) (xs.map (entry κ)).toArray)[m]? with
  | none=>
   have:=Array.getElem?_eq_none_iff.mp q
   exact h2 (by lia)
  | some e=>
   have:=h1 e (by rw[ew];exact q)
   rw[es] at this ⊢
   exact this
 ·rw[if_neg hb]
  have ew:ia w a ep (xs.map (entry κ)).toArray=(xs.map (entry κ)).toArray:=by unfold ia;rw[if_neg hb]
  have ld:t.led=true:=by rw[S.Et];unfold gC;rw[Bool.eq_false_iff.mpr hb];rfl
  have bl:below t.place (slotAt w t m)=m:=by
   unfold slotAt
   rw[if_neg hb]
   by_cases c:m=0
   ·rw[if_pos c,c]
    refine qT (lG S.good.rise 0) fun b1 b2 b3=>?_
    rcases Nat.eq_zero_or_pos (below t.place 0) with z | z
    ·exact z
    ·exact absurd (b2 0 z) (Nat.not_lt_zero _)
   ·rw[if_neg c]
    refine qT (lG S.good.rise (t.place.getD (m - 1) 0+1)) fun b1 b2 b3=>?_
    rw[S.good.size] at b1 b3
    rcases Nat.lt_trichotomy (below t.place (t.place.getD (m - 1) 0+1)) m with z | z | z
    ·have:=b3 (m - 1) (by lia) (by lia)
     lia
    ·exact z
    ·have q1:=b2 m z
     have q2:=S.good.rise (m - 1) m (by lia) (by rw[S.good.size];lia)
     lia
  refine wpAny_ite ?_
  split
  ·rename_i hd
   exfalso
   have:(!t.plain&&decide ((xs.map (entry κ)).toArray.size > 1))=true:=hd
   rw[S.plain] at this
   cases this
  ·refine wpAny_bind (wpAny_of_eq (a:=()) ?_ ?_)
   ·show (if (!t.led && !((xs.map (entry κ)).toArray).isEmpty)=true then (unsupported "set:maker-not-led" : Sem Unit) else pure ())=pure ()
    rw[ld];rfl
   refine wpAny_pure ?_
   show Q (match ((xs.map (entry κ)).toArray)[below t.place (slotAt w t m)]?,t.place[below t.place (slotAt w t m)]? with
    | some (_,x),some j=>some (x,j+1)
    | _,_=>none) s
   rw[bl]
   by_cases c:m < xs.length
   ·have e1:((xs.map (entry κ)).toArray)[m]?=some (entry κ xs[m]):=by rw[j0,List.getElem?_eq_getElem c];rfl
    have hs:m < t.place.size:=by rw[S.good.size];exact c
    have e2:t.place[m]?=some (t.place.getD m 0):=by simp[Array.getD,hs]
    rw[e1,e2]
    have:=h1 (entry κ xs[m]) (by rw[ew];exact e1)
    unfold slotAt at this
    rw[if_neg hb,if_neg (by lia),Nat.add_sub_cancel] at this
    exact this
   ·have em:m=xs.length:=by lia
    have e1:((xs.map (entry κ)).toArray)[m]?=none:=by rw[j0,List.getElem?_eq_none (by lia)];rfl
    rw[e1]
    exact h2 em
end
end Ts
end RQ
section RT
namespace Ts
open PySem PySem.SetTable Tb
section
variable {prog:Program}{w:World}{K:Type}[DecidableEq K]{κ:nK prog w K}
variable {A:Around}{E:Value->Shared->Prop}{R:Result->Shared->Prop}{s:Shared}{a I:Addr}{xs:List (K×Addr)}{o:Obj}{ep:Nat}{t:SetTable}
theorem qt{Q:Array (Int×Value)->Shared->Prop}{led:Bool}(S:gH κ s.heap a led xs o ep t)(h:Q (xs.map (entry κ)).toArray s):wpAny (model prog w) A (setEntries a) Q E s:=by
 unfold setEntries
 exact wpAny_bind (gI S (wpAny_pure h))
theorem Kc{Q:Value->Shared->Prop}(S:gH κ s.heap a (gC w) xs o ep t)(hn:xs.length<=50)
  (h:Q (.ref s.heap.objs.size) { s with heap:=s.heap.push { cls:=.type "set_iterator",data:=.fields #[rawInt (slotAt w t 0),rawInt ((0:Nat):Int),.ref a,rawInt xs.length,rawInt ep] } }):wpAny (model prog w) A (pyIter (.ref a)) Q E s:=by
 have ty:s.TypeIs (.ref a) "set":=⟨o,S.obj,S.lH.1⟩
 refine wpAny_pyIter_slot ty F.slot_set_iter (wpAny_call_entry F.slot_set_iter ty vc ?_ (F.args_set_iter_1 _))
 unfold Builtin.«frozenset.__iter__» Builtin.Frozenset.slot0 slotArgs
 walk_at"^"
 unfold Builtin.Frozenset.addrOf Builtin.Frozenset.sizeOf
 walk_at">"
 try dsimp only
 walk_at">"
 refine wpAny_bind (wpAny_bind (qt S (wpAny_pure ?_)))
 refine wpAny_bind ?_
 unfold setDrawn
 refine wpAny_bind (gI S ?_)
 dsimp only
 refine wpAny_bind (sM (wpAny_pure ?_))
 rw[if_neg (by
  intro z
  have z:(!(w.params.followText "set-order")&&(!t.plain&&decide ((xs.map (entry κ)).toArray.size > 1)))=true:=z
  rw[S.plain] at z
  simp at z)]
 walk_at">"
 have z0:slotAt w t 0=0:=by unfold slotAt;split <;> rfl
 rw[z0] at h
 refine wpAny_bind ?_
 unfold setEpoch
 refine wpAny_bind (gI S (wpAny_pure ?_))
 dsimp only
 unfold newFields
 refine wpAny_bind (wpAny_newObj_type (wpAny_pure ⟨_,rfl,"set_iterator",_,⟨_,Heap.get?_push_size _ rfl,rfl⟩,fW.lookup,?_⟩))
 simpa using h
theorem GA{Q:Option Value->Shared->Prop}{m:Nat}{e:Int×Value}(S:gH κ s.heap a (gC w) xs o ep t)(hit:xU s.heap I a xs.length ep (slotAt w t m) m)(he:(ia w a ep (xs.map (entry κ)).toArray)[m]?=some e)
  (hm:m < xs.length) (hQ:∀h',xU h' I a xs.length ep (slotAt w t (m+1)) (m+1)->Heap.SameBut I s.heap h'->Q (some e.2) { s with heap:=h' }):wpAny (model prog w) A (pyNext (.ref I)) Q E s:=by
 refine bQ (id hit) fun ob ho hc hd=>?_
 unfold pyNext
 refine wpAny_bind (wpAny_attempt (wpAny_callSpecial?_slot (name:=Str.ofString "__next__") hit.typeIs fW (wpAny_call_entry fW hit.typeIs nM ?_ (pZ _))))
 unfold Builtin.«set_iterator.__next__» slotArgs
 walk_at"^>$"
 refine wpAny_bind (wpAny_fieldsOf ho hd ?_)
 dsimp only[rawInt]
 refine wpAny_bind (qt S ?_)
 rw[if_neg (by simp)]
 simp only[Int.toNat_natCast]
 refine wpAny_bind (Dq S (Nat.le_of_lt hm) (fun e' K2=>?_) (fun z=>absurd z (Nat.ne_of_lt hm)))
 obtain rfl:e=e':=Option.some.inj (he.symm.trans K2)
 dsimp only
 refine wpAny_bind (wpAny_setField ho hd (by simp) ?_)
 have d1:=Obj.data_mapFields hd (·.setIfInBounds 0 (rawInt (slotAt w t (m+1):Nat)))
 have g1:=Heap.get?_update_self (Obj.mapFields (·.setIfInBounds 0 (rawInt (slotAt w t (m+1):Nat)))) ho (Obj.isFreed_of_fields d1)
 refine wpAny_bind (wpAny_setField g1 d1 (by simp) ?_)
 have d2:=Obj.data_mapFields d1 (·.setIfInBounds 1 (rawInt ((m:Int)+1)))
 have g2:=Heap.get?_update_self (Obj.mapFields (·.setIfInBounds 1 (rawInt ((m:Int)+1)))) g1 (Obj.isFreed_of_fields d2)
 refine wpAny_pure ⟨_,rfl,wpAny_pure (hQ _ ⟨_,g2,?_,?_⟩ ((Heap.SameBut.update ..).trans (Heap.SameBut.update ..)))⟩
 ·rw[Obj.cls_mapFields,Obj.cls_mapFields];exact hc
 ·rw[d2];simp[rawInt]
theorem Ke{Q:Option Value->Shared->Prop}(hh:A.handled=none)(S:gH κ s.heap a (gC w) xs o ep t)(hit:xU s.heap I a xs.length ep (slotAt w t xs.length) xs.length)
  (hQ:∀h',Heap.ExtBut I s.heap h'->Q none { s with heap:=h' }):wpAny (model prog w) A (pyNext (.ref I)) Q E s:=by
 refine bQ (id hit) fun ob ho hc hd=>?_
 unfold pyNext
 refine wpAny_bind (wpAny_attempt (wpAny_callSpecial?_slot (name:=Str.ofString "__next__") hit.typeIs fW (wpAny_call_entry fW hit.typeIs nM ?_ (pZ _))))
 unfold Builtin.«set_iterator.__next__» slotArgs
 walk_at"^>$"
 refine wpAny_bind (wpAny_fieldsOf ho hd ?_)
 dsimp only[rawInt]
 refine wpAny_bind (qt S ?_)
 rw[if_neg (by simp)]
 simp only[Int.toNat_natCast]
 have sz:(ia w a ep (xs.map (entry κ)).toArray).size=xs.length:=by rw[<- Array.length_toList,(sJ _ _ _ _).length_eq];simp
 refine wpAny_bind (Dq S (Nat.le_refl _) (fun e' K2=>?_) (fun z=>?_))
 ·rw[Array.getElem?_eq_none (by lia)] at K2;cases K2
 dsimp only
 refine wpAny_bind (wpAny_setField ho hd (by simp) ?_)
 refine wpAny_bind ?_
 simp only[newExc,newTuple]
 refine wpAny_bind (wpAny_newObj_type ?_ (by size_fits))
 refine wpAny_bind (m:=firstArgMember _ _) (wpAny_of_eq (a:=Value.none) (by first | rfl | (simp only[firstArgMember];rfl)) ?_)
 refine wpAny_newObj_type ?_ (by size_fits)
 simp only[raiseNew]
 refine wpAny_bind (wpAny_handled ?_)
 have hh1:A.in1.handled=none:=hh
 rw[hh1]
 refine wpAny_bind (wpAny_pure (wpAny_throw ?_))
 refine wpAny_bind (wpAny_isInstance (T:="StopIteration") (b:=true) ⟨_,Heap.get?_push_size _ rfl,rfl⟩ isSubtype_stop ?_)
 exact wpAny_pure (hQ _ (((Heap.SameBut.update ..).extBut.push _).push _))
theorem Ey{L:Addr}{res:Value}(hh:A.handled=none)(YO:L≠I)(hLa:L≠a)(hIa:a≠I)(hn:xs.length<=50) :
  ∀(r m:Nat) (s:Shared),m+r=xs.length->gH κ s.heap a (gC w) xs o ep t->xU s.heap I a xs.length ep (slotAt w t m) m->
   (∃n,s.heap.get? L=some (PyProof.Rows.seqObj "list" (((ia w a ep (xs.map (entry κ)).toArray).toList.take m).map (·.2)).toArray n))->
   (∀h' n,(∀b ob,b≠L->b≠I->s.heap.get? b=some ob->h'.get? b=some ob)->h'.get? L=some (PyProof.Rows.seqObj "list" ((ia w a ep (xs.map (entry κ)).toArray).toList.map (·.2)).toArray n)->R (.ok (.ret res)) { s with heap:=h' })->
   codeAny (model prog w) A (.builtin "list.extend.loop" ⟨[.ref L,.ref I,res],[]⟩) R s:=by
 have sz:(ia w a ep (xs.map (entry κ)).toArray).size=xs.length:=by rw[<- Array.length_toList,(sJ _ _ _ _).length_eq];simp
 have vd:entryFor table "list.extend.loop" =some Builtin.«list.extend.loop»:=entryFor_of_tree (by kernel_rfl)
 have qu:plainId "list.extend.loop" =true:=by decide +kernel
 intro r
 induction r with
 | zero=>
  intro m s hm S hit ⟨n,hL⟩ hR
  have em:m=xs.length:=by lia
  subst em
  refine codeAny_builtin vd ?_
  rw[Around.under_plainId qu _]
  refine wpAny_bind (m:=pyNext (.ref I)) (Ke hh S hit fun h' he=>?_)
  refine wpAny_pure (hR h' n (fun b ob _ h2 e=>he b ob h2 e) ?_)
  have:=he L _ YO hL
  rw[List.take_of_length_le (by rw[Array.length_toList];lia)] at this
  exact this
 | succ r ih=>
  intro m s hm S hit ⟨n,hL⟩ hR
  have hml:m < xs.length:=by lia
  have RU:m < (ia w a ep (xs.map (entry κ)).toArray).size:=by lia
  refine codeAny_builtin vd ?_
  rw[Around.under_plainId qu _]
  refine wpAny_bind (m:=pyNext (.ref I)) (GA S hit (Array.getElem?_eq_getElem RU) hml fun h1 K9 K6=>?_)
  have hL1:h1.get? L=some (PyProof.Rows.seqObj "list" (((ia w a ep (xs.map (entry κ)).toArray).toList.take m).map (·.2)).toArray n):=by rw[K6.2 L YO];exact hL
  refine wpAny_bind (PyProof.Rows.listUpdate_at hL1 rfl ?_ (by simp;rw[sizeLine_eq];lia) (by simp;rw[sizeLine_eq];lia))
  refine wpAny_pure ⟨plainId_quiet qu _,?_⟩
  have JM:=Heap.SameBut.update h1 L (Obj.mapSeq fun x=>x.push ((ia w a ep (xs.map (entry κ)).toArray)[m]).2)
  have tup:∀b ob,s.heap.get? b=some ob->(b=a\/ob.cls = .type "tuple")->b≠I/\b≠L:=fun b ob e c=>by
   constructor
   ·rintro rfl
    rcases c with c | c
    ·exact hIa c.symm
    ·refine bQ hit fun q q1 q2 _=>?_
     clear hit
     obtain rfl:=Option.some.inj (e.symm.trans q1)
     rw[q2] at c;exact absurd c (by decide)
   ·rintro rfl
    rcases c with c | c
    ·exact hLa c
    ·obtain rfl:=Option.some.inj (e.symm.trans hL)
     exact absurd (show Value.type "list" =Value.type "tuple" from c) (by decide)
  refine ih (m+1) _ (by lia) (S.keep fun b ob e c=>?_) ?_ ?_ fun h' n' q1 q2=>?_
  ·obtain ⟨c1,c2⟩:=tup b ob e c
   show (h1.update L _).get? b=_
   rw[JM.2 b c2,K6.2 b c1];exact e
  ·refine aN K9 fun q q1 q2=>?_
   clear K9
   exact⟨q,(by show (h1.update L _).get? I=_;rw[JM.2 I (Ne.symm YO)];exact q1),q2⟩
  ·obtain ⟨n',yK⟩:∃n',(h1.update L (Obj.mapSeq fun x=>x.push ((ia w a ep (xs.map (entry κ)).toArray)[m]).2)).get? L=some (PyProof.Rows.seqObj "list" ((((ia w a ep (xs.map (entry κ)).toArray).toList.take m).map (·.2)).toArray.push ((ia w a ep (xs.map (entry κ)).toArray)[m]).2) n'):=⟨_,PyProof.Rows.get?_update_seq hL1 _⟩
   refine⟨n',yK.trans ?_⟩
   congr 2
   rw[List.take_succ,List.getElem?_eq_getElem (by rw[Array.length_toList];exact RU)]
   simp
  ·refine hR h' n' (fun b ob RM Di e=>q1 b ob RM Di ?_) q2
   show (h1.update L _).get? b=_
   rw[JM.2 b RM,K6.2 b Di];exact e
end
end Ts
end RT
section RV
namespace Ts
open PySem PySem.SetTable Tb
section
variable {prog:Program}{w:World}{K:Type}[DecidableEq K]{κ:nK prog w K}
variable {A:Around}{E:Value->Shared->Prop}{R:Result->Shared->Prop}{s:Shared}{a I:Addr}{xs:List (K×Addr)}{o:Obj}{ep:Nat}{t:SetTable}
theorem Kf{Q:Bool->Shared->Prop}(hT:s.TypeIs (.ref a) "set")(h:∀c tk,Q c { s with toks:=tk }):wpAny (model prog w) A (Builtin.List.listLengthHint (.ref a)) Q E s:=by
 unfold Builtin.List.listLengthHint
 refine wpAny_bind (wpAny_specialOf hT F.slot_set_len.lookup ?_)
 have sp:splitId "set.__len__" =some ("set","__len__"):=by kernel_rfl
 dsimp only
 rw[sp]
 dsimp only
 refine wpAny_bind (wpAny_isInstance hT sub_set_self ?_)
 rw[Bool.not_true,if_neg Bool.false_ne_true]
 rw[if_pos (by decide +kernel)]
 refine wpAny_bind (wpAny_typeOf hT ?_)
 exact wpAny_pure (h false s.toks)
theorem Am{Q:List Value->Shared->Prop}(hh:A.handled=none)(S:gH κ s.heap a (gC w) xs o ep t)(hn:xs.length<=50)
  (h:∀h' tk vs,(∀b ob,s.heap.get? b=some ob->h'.get? b=some ob)->vs.Perm (xs.map fun x=>Value.ref x.2)->Q vs { s with heap:=h',toks:=tk }):wpAny (model prog w) A (collect (.ref a)) Q E s:=by
 unfold collect
 refine wpAny_bind (wpAny_runValue (codeAny_builtin PyProof.Rows.entry_proto_collect' ?_))
 refine wpAny_bind (m:=newList []) (wpAny_newList (wpAny_pure ⟨Code.quiet_builtin _ (by decide +kernel),codeAny_builtin PyProof.Rows.entry_list_iadd' ?_⟩))
 show wpAny _ _ (Builtin.List.listExtendWith (.ref s.heap.objs.size) (.ref a) (.ref s.heap.objs.size)) _ _ { s with heap:=s.heap.push (PyProof.Rows.seqObj "list" #[] 0) }
 unfold Builtin.List.listExtendWith
 have al:a < s.heap.objs.size:=Heap.lt_size S.obj
 have S1:gH κ ({ s with heap:=s.heap.push (PyProof.Rows.seqObj "list" #[] 0) }:Shared).heap a (gC w) xs o ep t:=S.keep fun b ob e _=>Heap.get?_push_of_some _ e
 have ty1:Shared.TypeIs { s with heap:=s.heap.push (PyProof.Rows.seqObj "list" #[] 0) } (.ref a) "set":=⟨o,S1.obj,S1.lH.1⟩
 refine wpAny_bind (wpAny_typeOf ty1 ?_)
 have sr:Builtin.List.listSameRef (.ref s.heap.objs.size) (.ref a)=false:=by
  show (s.heap.objs.size==a)=false
  exact beq_eq_false_iff_ne.mpr (Nat.ne_of_gt al)
 rw[sr,if_neg (by decide)]
 refine wpAny_bind (Kc S1 hn ?_)
 have YQ:(s.heap.push (PyProof.Rows.seqObj "list" #[] 0)).objs.size=s.heap.objs.size+1:=by rw[Heap.size_push]
 generalize hO:({ cls:=.type "set_iterator",data:=.fields #[rawInt (slotAt w t 0),rawInt ((0:Nat):Int),.ref a,rawInt xs.length,rawInt ep] }:Obj)=ob
 have hI:((s.heap.push (PyProof.Rows.seqObj "list" #[] 0)).push ob).get? (s.heap.push (PyProof.Rows.seqObj "list" #[] 0)).objs.size=some ob:=Heap.get?_push_size _ (by rw[<- hO];rfl)
 have NS:((s.heap.push (PyProof.Rows.seqObj "list" #[] 0)).push ob).get? s.heap.objs.size=some (PyProof.Rows.seqObj "list" #[] 0):=Heap.get?_push_of_some _ (Heap.get?_push_size _ rfl)
 have S2:gH κ ((s.heap.push (PyProof.Rows.seqObj "list" #[] 0)).push ob) a (gC w) xs o ep t:=S1.keep fun b ob e _=>Heap.get?_push_of_some _ e
 refine wpAny_bind (wpAny_holding (Kf (s:={ s with heap:=(s.heap.push (PyProof.Rows.seqObj "list" #[] 0)).push ob }) ⟨o,S2.obj,S2.lH.1⟩ fun c tk=>?_))
 refine wpAny_ite ?_
 split
 ·refine wpAny_bind (wpAny_rule ?_)
  unfold Builtin.List.listTouch
  refine wpAny_bind (wpAny_bind (PyProof.Rows.listUpdate_at NS rfl ?_ (by simp) (by simp)))
  obtain ⟨n1,g1⟩:∃n1,(((s.heap.push (PyProof.Rows.seqObj "list" #[] 0)).push ob).update s.heap.objs.size (Obj.mapSeq (·.push .none))).get? s.heap.objs.size=some (PyProof.Rows.seqObj "list" (#[].push .none) n1):=⟨_,PyProof.Rows.get?_update_seq NS _⟩
  refine PyProof.Rows.listUpdate_at g1 rfl ?_ (by simp;rw[sizeLine_eq];decide) (by simp)
  obtain ⟨n2,g2⟩:∃n2,((((s.heap.push (PyProof.Rows.seqObj "list" #[] 0)).push ob).update s.heap.objs.size (Obj.mapSeq (·.push .none))).update s.heap.objs.size (Obj.mapSeq (·.pop))).get? s.heap.objs.size=some (PyProof.Rows.seqObj "list" (#[].push .none).pop n2):=⟨_,PyProof.Rows.get?_update_seq g1 _⟩
  have sb:=(Heap.SameBut.update ((s.heap.push (PyProof.Rows.seqObj "list" #[] 0)).push ob) s.heap.objs.size (Obj.mapSeq (·.push .none))).trans (Heap.SameBut.update _ s.heap.objs.size (Obj.mapSeq (·.pop)))
  generalize ((((s.heap.push (PyProof.Rows.seqObj "list" #[] 0)).push ob).update s.heap.objs.size (Obj.mapSeq (·.push .none))).update s.heap.objs.size (Obj.mapSeq (·.pop)))=g at g2 sb ⊢
  have ne1:s.heap.objs.size≠(s.heap.push (PyProof.Rows.seqObj "list" #[] 0)).objs.size:=by rw[YQ];exact Nat.ne_of_lt (Nat.lt_succ_self _)
  have ne2:s.heap.objs.size≠a:=Nat.ne_of_gt al
  have ne3:a≠(s.heap.push (PyProof.Rows.seqObj "list" #[] 0)).objs.size:=by rw[YQ];exact Nat.ne_of_lt (Nat.lt_succ_of_lt al)
  refine wpAny_pure ⟨Code.quiet_builtin _ (by decide +kernel),?_⟩
  refine Ey (κ:=κ) (a:=a) (xs:=xs) (o:=o) (ep:=ep) (t:=t) (by simp[hh]) ne1 ne2 ne3 hn xs.length 0 _ (by lia) ?h1 ?h2 ⟨n2,g2⟩ fun h' n' q1 q2=>?_
  case h1=>
   refine S2.keep fun b Kg e c=>?_
   show g.get? b=_
   rw[sb.2 b ?_]
   ·exact e
   ·rintro rfl
    rcases c with c | c
    ·exact ne2 c
    ·obtain rfl:=Option.some.inj (e.symm.trans NS)
     exact absurd (show Value.type "list" =Value.type "tuple" from c) (by decide)
  case h2=>exact⟨ob,(by show g.get? _=_;rw[sb.2 _ (Ne.symm ne1)];exact hI),by rw[<- hO],by rw[<- hO]⟩
  have pm:=(sJ w a ep (xs.map (entry κ)).toArray).map (·.2)
  have em:(xs.map (entry κ)).toArray.toList.map (·.2)=xs.map fun x=>Value.ref x.2:=by simp[entry]
  rw[em] at pm
  show wpAny _ _ (load s.heap.objs.size>>=fun ob=>match ob.data with | .seq xs _=>pure xs.toList | _=>unsupported "internal:collect") _ _ _
  refine wpAny_bind (wpAny_load q2 ?_)
  refine wpAny_pure (h h' tk _ (fun b Kg e=>q1 b Kg (Nat.ne_of_lt (Heap.lt_size e)) (by rw[YQ];exact Nat.ne_of_lt (Nat.lt_succ_of_lt (Heap.lt_size e))) ?_) (by simpa using pm))
  show g.get? b=_
  rw[sb.2 b (Nat.ne_of_lt (Heap.lt_size e))]
  exact Heap.get?_push_of_some _ (Heap.get?_push_of_some _ e)
 ·rename_i hs
  refine absurd ?_ hs
  rw[Bool.or_eq_true]
  exact .inr (by decide +kernel)
end
end Ts
end RV
section RW
namespace L2
open PySem PySem.Spec PyProof.Rows
abbrev Key:=Sum Int Str
def N5:Key->Value->Bool
 | .inl k,v=>Value.isInt k v
 | .inr x,v=>Value.isStrOf x v
def YR(w:World):Key->Int
 | .inl k=>hashInt k
 | .inr x=>hashStr w x
theorem dm:∀{k:Key} {v:Value},N5 k v=true->(∃i t,k=Sum.inl i/\v=Value.int i t)\/(∃x t,k=Sum.inr x/\v=Value.str x t)
 | .inl i,v,h=>by
  obtain ⟨t,e⟩:=Value.isInt_shape (k:=i) (v:=v) h
  exact .inl ⟨i,t,rfl,e⟩
 | .inr x,v,h=>by
  obtain ⟨t,e⟩:=Value.isStrOf_shape (x:=x) (v:=v) h
  exact .inr ⟨x,t,rfl,e⟩
theorem NT(a b:Int):decide ((Sum.inl a:Key)=Sum.inl b)=(a==b):=by
 by_cases e:a=b
 ·subst e;simp
 ·have h:¬ (Sum.inl a:Key)=Sum.inl b:=fun q=>e (Sum.inl.inj q)
  rw[decide_eq_false h]
  exact(beq_eq_false_iff_ne.mpr e).symm
theorem NU(a b:Str):decide ((Sum.inr a:Key)=Sum.inr b)=decide (a=b):=by
 by_cases e:a=b
 ·subst e;simp
 ·have h:¬ (Sum.inr a:Key)=Sum.inr b:=fun q=>e (Sum.inr.inj q)
  rw[decide_eq_false h,decide_eq_false e]
theorem NV(a:Int)(b:Str):decide ((Sum.inl a:Key)=Sum.inr b)=false:=decide_eq_false (fun q=>nomatch q)
theorem NW(a:Str)(b:Int):decide ((Sum.inr a:Key)=Sum.inl b)=false:=decide_eq_false (fun q=>nomatch q)
def Dr(prog:Program)(w:World):PySem.KeyKind prog w Key where
 is:=N5
 hash:=YR w
 inj:=fun v a b ha hb=>by
  rcases dm ha with ⟨i,t,rfl,rfl⟩ | ⟨x,t,rfl,rfl⟩
  ·rcases dm hb with ⟨j,u,rfl,e⟩ | ⟨y,u,rfl,e⟩
   ·injection e with e1 _;rw[e1]
   ·exact nomatch e
  ·rcases dm hb with ⟨j,u,rfl,e⟩ | ⟨y,u,rfl,e⟩
   ·exact nomatch e
   ·injection e with e1 _;rw[e1]
 byValue:=fun k v h=>by
  rcases dm h with ⟨i,t,rfl,rfl⟩ | ⟨x,t,rfl,rfl⟩ <;> rfl
 pyHash:=fun hv h=>by
  rcases dm hv with ⟨i,t,rfl,rfl⟩ | ⟨x,t,rfl,rfl⟩
  ·exact wpAny_pyHash_int h
  ·exact wpAny_pyHash_str h
 eqBool:=fun hu hv h=>by
  rcases dm hu with ⟨i,t,rfl,rfl⟩ | ⟨x,t,rfl,rfl⟩
  ·rcases dm hv with ⟨j,u,rfl,rfl⟩ | ⟨y,u,rfl,rfl⟩
   ·rw[NT] at h;exact wpAny_eqBool_int h
   ·rw[NV] at h;exact SeqAt.EqAt.int_str i t y u _ _ _ _ h
  ·rcases dm hv with ⟨j,u,rfl,rfl⟩ | ⟨y,u,rfl,rfl⟩
   ·rw[NW] at h;exact SeqAt.EqAt.str_int x t j u _ _ _ _ h
   ·rw[NU] at h;exact wpAny_eqBool_str h
 «strs»:=fun k x t v h=>by
  rcases dm h with ⟨i,u,rfl,e⟩ | ⟨y,u,rfl,e⟩
  ·exact nomatch e
  ·injection e with e1 _
   subst e1
   cases v <;> rfl
end L2
namespace L2
open PySem PySem.Spec PyProof.Rows
inductive V where
 | cz | bl (b:Bool) | int (i:Int) | str (x:Str) | Wv (b:Array UInt8) | Ww (b:UInt64) | ref (a:Addr) | ty (n:String)
 deriving DecidableEq
def RelV:V->Value->Prop
 | .cz,u=>u=Value.none
 | .bl b,u=>u=Value.bool b
 | .int i,u=>∃t,u=Value.int i t
 | .str x,u=>∃t,u=Value.str x t
 | .Wv b,u=>∃t,u=Value.bytes b t
 | .Ww b,u=>∃t,u=Value.float b t
 | .ref a,u=>u=Value.ref a
 | .ty n,u=>u=Value.type n
abbrev Vals:List V->List Value->Prop:=Paired RelV
theorem Vals.length{xs:List V}{us:List Value}(r:Vals xs us):xs.length=us.length:=Paired.length r
theorem Vals.get:∀{xs:List V} {us:List Value} {i:Nat} {x:V},Vals xs us->xs[i]?=some x->∃u,us[i]?=some u/\RelV x u
 | _,_,_,_,.nil,e=>by simp at e
 | _,_,0,_,.cons r _,e=>by simp at e;subst e;exact⟨_,rfl,r⟩
 | _,_,i+1,x,.cons _ t,e=>by
  refine aN (Vals.get (i:=i) (x:=x) t (by simpa using e)) fun u h1 h2=>?_
  exact⟨u,by simpa using h1,h2⟩
theorem Vals.append{xs ys:List V}{us ws:List Value}(h:Vals xs us)(s:Vals ys ws):Vals (xs++ys) (us++ws):=by
 induction h with
 | nil=>exact s
 | cons r t ih=>exact .cons r ih
theorem Vals.take:∀{xs:List V} {us:List Value} (n:Nat),Vals xs us->Vals (xs.take n) (us.take n)
 | _,_,0,_=>.nil
 | _,_,_+1,.nil=>.nil
 | _,_,n+1,.cons r t=>.cons r (Vals.take n t)
theorem Vals.drop:∀{xs:List V} {us:List Value} (n:Nat),Vals xs us->Vals (xs.drop n) (us.drop n)
 | _,_,0,r=>r
 | _,_,_+1,.nil=>.nil
 | _,_,n+1,.cons _ t=>Vals.drop n t
def Cc:Option V->Option Value->Prop
 | some v,some u=>RelV v u
 | none,none=>True
 | _,_=>False
def KV{κ:Type}:List (κ×V)->List (κ×Value)->Prop:=Paired fun (p:κ×V) (q:κ×Value)=>p.1=q.1/\RelV p.2 q.2
def kV:Key->V
 | .inl i=>.int i
 | .inr x=>.str x
inductive HO where
 | lst (xs:List V)
 | tup (xs:List V)
 | dK (An:List (Key×V)) | dT (An:List (List Key×V))
 | set (S:Int->Bool) (n:Nat)
 | ins (C dx:Addr) (fs:List (Str×V))
 | own (x:Addr)
 | xd (fs:List (Str×V))
 | met (f x:Addr)
 | NX (lo hi:Int)
 | GB (o:Obj) (u:HO)
 | NY (ps:Array Value)
 | ext (φ:Heap->Prop)
abbrev Hp:=Addr->Option HO
def upd(H:Hp)(a:Addr)(o:HO):Hp:=fun b=>if b=a then some o else H b
theorem bM{H:Hp}{a:Addr}{o:HO}:upd H a o a=some o:=by unfold upd;rw[if_pos rfl]
theorem aY{H:Hp}{a b:Addr}{o:HO}(h:b≠a):upd H a o b=H b:=by unfold upd;rw[if_neg h]
theorem bI{H:Hp}{a b:Addr}{o:HO}(h:H a=some o)(h':H b=none):a≠b:=by
 intro e;subst e;rw[h] at h';cases h'
section
variable (P:Program)(w:World)
def fT(H:Hp)(h:Heap)(a:Addr):HO->Prop
 | .lst xs=>xs.length<=sizeLine/\∃(bh:List Value) (n:Nat),Vals xs bh/\h.get? a=some { cls:=.type "list",data:=.seq bh.toArray n }
 | .tup xs=>xs.length<=sizeLine/\∃bh:List Value,Vals xs bh/\IsTup h a bh.toArray
 | .dK An=>An.length<=sizeLine/\(a==sysModules)=false/\∃vs,KV An vs/\h.DictOf (Dr P w) a vs
 | .dT An=>An.length<=sizeLine/\(a==sysModules)=false/\∃xs:List (List Key×Addr×Value),
   Paired (fun (p:List Key×V) (q:List Key×Addr×Value)=>p.1=q.1/\H q.2.1=some (.tup (p.1.map kV))/\RelV p.2 q.2.2) An xs/\
   ∃o es ep,h.get? a=some o/\o.ExactDict/\o.data = .dict es ep/\es.toList=xs.map (entryOfKey (tupleKind (Dr P w)))/\(xs.map (·.1)).Nodup
 | .set S n=>h.SetOf (intKind P w) a S n
 | .ins C dx fs=>H dx=some (.own a)/\fs.length<=1000/\dx≠a/\h.get? a=some (PySem.W.instObj C dx)/\
   ∃mA,h.Ns1 dx mA/\(∀f,Cc (fs.lookup f) (mA f))/\PySem.Within mA (fs.map (·.1))
 | .own _=>∃o,h.get? a=some o
 | .xd fs=>∃mA,h.Ns1 a mA/\∀f,Cc (fs.lookup f) (mA f)
 | .NX lo hi=>∃t u v,h.get? a=some { cls:=.type "range",data:=.fields #[.int lo t,.int hi u,.int 1 v] }
 | .GB o u=>h.get? a=some o/\fT H h a u
 | .NY ps=>h.get? a=some { cls:=.none,data:=.fields ps }
 | .met f x=>h.get? a=some (PySem.W.methodObj (.ref f) (.ref x))
 | .ext φ=>φ h/\(∃o,h.get? a=some o)/\∀h1 h2:Heap,φ h1->(∀o,h1.get? a=some o->h2.get? a=some o)->φ h2
def sN(H:Hp)(h:Heap):Prop:=∀a o,H a=some o->fT P w H h a o
end
section
variable {P:Program}{w:World}{H H':Hp}{h h':Heap}{a:Addr}{o:HO}
theorem fT.lt(x:fT P w H h a o):a < h.objs.size:=by
 cases o with
 | lst xs=>obtain ⟨_,_,_,_,e⟩:=x;exact Heap.lt_size e
 | tup xs=>obtain ⟨_,_,_,p⟩:=x;exact p.lt
 | dK An=>obtain ⟨_,_,_,_,o,_,_,e,_⟩:=x;exact Heap.lt_size e
 | dT An=>obtain ⟨_,_,_,_,o,_,_,e,_⟩:=x;exact Heap.lt_size e
 | set S n=>obtain ⟨o,_,_,_,e,_⟩:=x;exact Heap.lt_size e
 | ins C dx fs=>obtain ⟨_,_,_,e,_⟩:=x;exact Heap.lt_size e
 | own y=>obtain ⟨_,e⟩:=x;exact Heap.lt_size e
 | xd fs=>obtain ⟨_,⟨_,_,_,e,_⟩,_⟩:=x;exact Heap.lt_size e
 | NX lo hi=>obtain ⟨_,_,_,e⟩:=x;exact Heap.lt_size e
 | GB ob u=>obtain ⟨e,_⟩:=x;exact Heap.lt_size e
 | NY ps=>exact Heap.lt_size (show h.get? a=some _ from x)
 | met f y=>exact Heap.lt_size (show h.get? a=some _ from x)
 | ext φ=>obtain ⟨_,⟨_,e⟩,_⟩:=x;exact Heap.lt_size e
theorem Paired.YS{α β:Type}{F G:α->β->Prop}{RX:List α}{RY:List β}(h:Paired F RX RY)(f:∀a b,F a b->G a b):Paired G RX RY:=by
 induction h with
 | nil=>exact .nil
 | cons r t ih=>exact .cons (f _ _ r) ih
theorem fT.yQ(x:fT P w H h a o)(k:∀b u,(b=a\/H b=some (.own a))->h.get? b=some u->h'.get? b=some u)
  (ho:∀b,H b=some (.own a)->H' b=some (.own a)) (ht:∀b xs,H b=some (.tup xs)->H' b=some (.tup xs)):fT P w H' h' a o:=by
 induction o with
 | lst xs=>obtain ⟨z,bh,n,r,e⟩:=x;exact⟨z,bh,n,r,k _ _ (.inl rfl) e⟩
 | tup xs=>obtain ⟨z,bh,r,ob,e,c⟩:=x;exact⟨z,bh,r,ob,k _ _ (.inl rfl) e,c⟩
 | dK An=>obtain ⟨z,y,vs,r,ob,es,ep,e,c⟩:=x;exact⟨z,y,vs,r,ob,es,ep,k _ _ (.inl rfl) e,c⟩
 | dT An=>
  obtain ⟨z,y,xs,r,ob,es,ep,e,c⟩:=x
  exact⟨z,y,xs,Paired.YS r fun p q z=>⟨z.1,ht _ _ z.2.1,z.2.2⟩,ob,es,ep,k _ _ (.inl rfl) e,c⟩
 | set S n=>obtain ⟨ob,es,ep,t,e,c⟩:=x;exact⟨ob,es,ep,t,k _ _ (.inl rfl) e,c⟩
 | ins C dx fs=>
  obtain ⟨d,z,ne,e,mA,⟨od,es,ep,e2,c⟩,r⟩:=x
  exact⟨ho _ d,z,ne,k _ _ (.inl rfl) e,mA,⟨od,es,ep,k _ _ (.inr d) e2,c⟩,r⟩
 | own y=>obtain ⟨ob,e⟩:=x;exact⟨ob,k _ _ (.inl rfl) e⟩
 | xd fs=>obtain ⟨mA,⟨od,es,ep,e,c⟩,r⟩:=x;exact⟨mA,⟨od,es,ep,k _ _ (.inl rfl) e,c⟩,r⟩
 | NX lo hi=>obtain ⟨t,u,v,e⟩:=x;exact⟨t,u,v,k _ _ (.inl rfl) e⟩
 | GB ob u ih=>obtain ⟨e,q⟩:=x;exact⟨k _ _ (.inl rfl) e,ih q⟩
 | NY ps=>
  have e:h.get? a=some { cls:=.none,data:=.fields ps }:=x
  show h'.get? a=some { cls:=.none,data:=.fields ps }
  exact k a _ (.inl rfl) e
 | met f y=>
  have e:h.get? a=some (PySem.W.methodObj (.ref f) (.ref y)):=x
  show h'.get? a=some (PySem.W.methodObj (.ref f) (.ref y))
  exact k a _ (.inl rfl) e
 | ext φ=>obtain ⟨p,⟨o,e⟩,st⟩:=x;exact⟨st _ _ p fun o q=>k _ _ (.inl rfl) q,⟨o,k _ _ (.inl rfl) e⟩,st⟩
theorem sN.lt(x:sN P w H h)(e:H a=some o):a < h.objs.size:=(x a o e).lt
theorem sN.fresh(x:sN P w H h)(e:h.objs.size<=a):H a=none:=by
 cases q:H a with
 | none=>rfl
 | some u=>exact absurd (Nat.lt_of_lt_of_le (x.lt q) e) (Nat.lt_irrefl _)
theorem sN.kept(x:sN P w H h)(k:∀b u,h.get? b=some u->h'.get? b=some u):sN P w H h':=fun a o e=>
 (x a o e).yQ (fun b u _ q=>k b u q) (fun _ q=>q) fun _ _ q=>q
theorem sN.laid(x:sN P w H h)(k:∀b u,h.get? b=some u->h'.get? b=some u)(hp:h.objs.size<=a)(new:fT P w (upd H a o) h' a o):sN P w (upd H a o) h':=fun b u e=>by
 have hn:=x.fresh hp
 by_cases hb:b=a
 ·subst hb;rw[bM] at e;cases e;exact new
 ·rw[aY hb] at e
  exact(x b u e).yQ (fun c v _ q=>k c v q) (fun c q=>by rw[aY (bI q hn)];exact q) fun c xs q=>by rw[aY (bI q hn)];exact q
end
def Rd(H:Hp)(a:Addr)(u:HO):Prop:=H a=some u\/∃o,H a=some (.GB o u)
theorem Rd.ok{P:Program}{w:World}{H:Hp}{h:Heap}{a:Addr}{u:HO}(r:Rd H a u)(x:sN P w H h):fT P w H h a u:=by
 rcases r with r | ⟨o,r⟩
 ·exact x a u r
 ·obtain ⟨_,q⟩:=x a _ r
  exact q
def Wx:Option HO->Prop
 | some (.lst _)=>True
 | some (.dK _)=>True
 | some (.dT _)=>True
 | some (.set _ _)=>True
 | some (.ins _ _ _)=>True
 | some (.ext _)=>True
 | _=>False
section
variable {P:Program}{w:World}{H:Hp}{h h':Heap}{x e:Addr}{o':HO}
theorem sN.write(ok:sN P w H h)(mu:Wx (H x))(he:e=x\/H e=some (.own x))(k:∀b u,b≠e->h.get? b=some u->h'.get? b=some u)(JV:∃u,h'.get? e=some u)
  (new:fT P w (upd H x o') h' x o'):sN P w (upd H x o') h':=fun b u q=>by
 have RZ:∀c y,H c=some (.own y)->c≠x:=fun c y r z=>by subst z;rw[r] at mu;exact mu
 have YT:∀c xs,H c=some (.tup xs)->c≠x:=fun c xs r z=>by subst z;rw[r] at mu;exact mu
 by_cases hb:b=x
 ·subst hb;rw[bM] at q;cases q;exact new
 ·rw[aY hb] at q
  by_cases NZ:b=e
  ·have q':H b=some (.own x):=by
    rcases he with z | z
    ·exact absurd (NZ.trans z) hb
    ·rw[NZ];exact z
   rw[q] at q';cases q'
   obtain ⟨v,hv⟩:=JV
   exact⟨v,by rw[NZ];exact hv⟩
  ·refine(ok b u q).yQ (fun c v hc r=>k c v ?_ r) (fun c r=>by rw[aY (RZ c b r)];exact r) fun c xs r=>by rw[aY (YT c xs r)];exact r
   rcases hc with rfl | hc
   ·exact NZ
   ·rintro rfl
    rcases he with z | z
    ·exact RZ c b hc z
    ·rw[hc] at z;cases z;exact hb rfl
end
structure Un(fs ex:List Addr)(H H':Hp)(h h':Heap):Prop where
 keep:∀b o,h.get? b=some o->H b=none->b∉fs->b∉ex->h'.get? b=some o
 slot:∀b o,h.get? b=some o->H b=none->b∈fs->b∉ex->∃sl,h'.get? b=some { o with slots:=sl }
 free:∀b o,h.get? b=some o->H b=none->b∉ex->H' b=none
 there:∀b o,h.get? b=some o->b∉ex->∃o',h'.get? b=some o'
 qv:∀b xs,H b=some (.tup xs)->H' b=some (.tup xs)
 xw:∀b o u,H b=some (.GB o u)->H' b=some (.GB o u)
 yR:∀b ps,H b=some (.NY ps)->∃more,H' b=some (.NY (ps++more))
section
variable {fs fs' ex ex':List Addr}{H H1 H2:Hp}{h h1 h2 h':Heap}{a x e:Addr}{o:HO}
theorem Un.any(u:Un fs ex H H1 h h1){b:Addr}{ob:Obj}(q:h.get? b=some ob)(n:H b=none)(hx:b∉ex):∃sl,h1.get? b=some { ob with slots:=sl }:=by
 by_cases hb:b∈fs
 ·exact u.slot b ob q n hb hx
 ·exact⟨ob.slots,u.keep b ob q n hb hx⟩
theorem Un.kept(k:∀b u,h.get? b=some u->h'.get? b=some u):Un fs ex H H h h':=
 ⟨fun b ob q _ _ _=>k b ob q,fun b ob q _ _ _=>⟨ob.slots,k b ob q⟩,fun _ _ _ n _=>n,fun b ob q _=>⟨ob,k b ob q⟩,fun _ _ q=>q,fun _ _ _ q=>q,fun _ ps q=>⟨#[],by rw[q];simp⟩⟩
theorem Un.refl:Un fs ex H H h h:=Un.kept fun _ _ q=>q
theorem Un.laid(k:∀b u,h.get? b=some u->h'.get? b=some u)(hp:h.objs.size<=a)(hn:H a=none):Un fs ex H (upd H a o) h h' where
 keep:=fun b u q _ _ _=>k b u q
 slot:=fun b u q _ _ _=>⟨u.slots,k b u q⟩
 free:=fun b u q n _=>by rw[aY (Nat.ne_of_lt (Nat.lt_of_lt_of_le (Heap.lt_size q) hp))];exact n
 there:=fun b u q _=>⟨u,k b u q⟩
 qv:=fun b xs q=>by rw[aY (bI q hn)];exact q
 xw:=fun b u xs q=>by rw[aY (bI q hn)];exact q
 yR:=fun b ps q=>⟨#[],by rw[aY (bI q hn),q];simp⟩
theorem Un.write(mu:Wx (H x))(he:e=x\/H e=some (.own x))(k:∀b u,b≠e->h.get? b=some u->h'.get? b=some u)(JV:∃u,h'.get? e=some u):Un fs ex H (upd H x o) h h':=by
 have hx:∀b,H b=none->b≠x:=fun b n z=>by subst z;rw[n] at mu;exact mu
 have hb:∀b,H b=none->b≠e:=fun b n z=>by
  subst z
  rcases he with r | r
  ·exact hx b n r
  ·rw[n] at r;cases r
 have hm:∀b u,H b=some u->¬ Wx (some u)->b≠x:=fun b u q nm z=>by subst z;rw[q] at mu;exact nm mu
 refine⟨fun b u q n _ _=>k b u (hb b n) q,fun b u q n _ _=>⟨u.slots,k b u (hb b n) q⟩,fun b u q n _=>by rw[aY (hx b n)];exact n,fun b u q _=>?_,
  fun b xs q=>by rw[aY (hm b _ q fun z=>z)];exact q,fun b u xs q=>by rw[aY (hm b _ q fun z=>z)];exact q,fun b ps q=>⟨#[],by rw[aY (hm b _ q fun z=>z),q];simp⟩⟩
 by_cases NZ:b=e
 ·subst NZ;exact JV
 ·exact⟨u,k b u NZ q⟩
end
def Wy(h:Heap)(H:Hp):List Addr:=(List.range h.objs.size).filter fun a=>(H a).isSome
def yS(h:Heap)(H:Hp):Heap:=PySem.W.hideAll h (Wy h H)
theorem Ez(h:Heap)(H:Hp):(yS h H).objs.size=h.objs.size:=PySem.W.hideAll_size _ _
theorem GC{h:Heap}{H:Hp}{b:Addr}{o:Obj}(e:h.get? b=some o)(n:H b=none):(yS h H).get? b=some o:=
 PySem.W.hideAll_get _ e fun hm=>by
  have q:(H b).isSome=true:=(List.mem_filter.mp hm).2
  rw[n] at q;simp at q
theorem Kh{h:Heap}{H:Hp}{b:Addr}{o:Obj}(e:(yS h H).get? b=some o):h.get? b=some o/\H b=none:=by
 have e':h.get? b=some o:=PySem.W.of_hideAll (Wy h H) e
 refine⟨e',?_⟩
 cases q:H b with
 | none=>rfl
 | some x=>
  have hm:b∈Wy h H:=List.mem_filter.mpr ⟨List.mem_range.mpr (Heap.lt_size e'),by simp[q]⟩
  have z:(yS h H).get? b=none:=PySem.W.hideAll_none (Wy h H) hm
  rw[z] at e;cases e
end L2
namespace L2
open PySem PySem.Spec PyProof.Rows
structure Mod(K:PySem.W.Frag)(mg:Str->Option Value)(base:Heap):Prop where
 S4:K.In base
 glob:base.Ns mainGlobals mg
 blt:∃mb,base.Ns builtinsNs mb/\∀x:Str,x≠ "__name__" ->mb x=bootBuiltins x
 nolimit:base.NoLimit
structure Cx where
 prog:Program
 w:World
 K:PySem.W.Frag
 mg:Str->Option Value
 base:Heap
 A:Around
 N:List Str
 gK:Shared
 GD:Hp
 env:Env
 outer:List Env
 stack:List Env
 ex:List Addr
 fn:Str->Bool
 calm:Bool
 pn:List (Addr×Obj)
 xe:Value->Shared->Prop
def ve(l:List Env):List Addr:=l.filterMap (·.frame)
abbrev Cx.fs(X:Cx):List Addr:=ve X.outer
def YU(sc:Scope)(x:Str):Prop:=sc.names.lookup x=some .local\/sc.names.lookup x=some .cell\/sc.names.lookup x=some .free
def Loc(sc:Scope)(x:Str):Prop:=sc.names.lookup x=some .local\/sc.names.lookup x=some .cell
def Look(env:Env)(h:Heap)(m:Str->Option Value)(x:Str)(u:Value):Prop:=
 (env.kindOf x=some .local/\m x=some u)\/((env.kindOf x=some .cell\/env.kindOf x=some .free)/\∃c,env.cells.lookup x=some c/\h.IsCell c (some u))
structure Cx.Ok(X:Cx):Prop where
 mod:Mod X.K X.mg X.base
 kind:X.env.scope.kind = .function
 glob:X.env.globals=mainGlobals
 blt:X.env.builtins=builtinsNs
 above:X.gK.heap.objs.size<=X.env.locals
 inj:∀x y c,X.env.cells.lookup x=some c->X.env.cells.lookup y=some c->x=y
 has:∀x,(X.env.kindOf x=some .cell\/X.env.kindOf x=some .free)->∃c,X.env.cells.lookup x=some c
 QV:∀x c,X.fn x=true->X.env.cells.lookup x=some c->X.gK.heap.objs.size<=c
 hd:X.calm=true->X.A.handled=none
 frames:X.A.frames=some X.stack
 GF:X.stack=X.outer\/(X.stack=X.env::X.outer/\X.env.frame=some X.env.locals)
 S5:∀b∈X.ex,b≠X.env.locals/\∀x c,X.env.cells.lookup x=some c->c≠b
 bs:∀b o,X.base.get? b=some o->X.gK.heap.get? b=some o/\X.GD b=none
 JN:X.base.objs.size<=X.gK.heap.objs.size
 EA:∀b o,X.base.get? b=some o->b∉X.ex
 EB:∀b∈X.ex,b∉X.fs
 sO:X.gK.heap.FunFrames X.base X.outer
 N6:∀b∈X.fs,X.GD b=none
structure Inv(X:Cx)(pins:List (Addr×Obj))(σ:List (Option V))(H:Hp)(s:Shared):Prop where
 ok:X.Ok
 os:s.os=X.gK.os
 bare:AllBare s.gens
 base:Un X.fs X.ex X.GD H X.gK.heap s.heap
 loc:∃m,s.heap.Ns X.env.locals m/\∀(i:Nat) (x:Str) (v:V),X.N[i]?=some x->σ[i]?=some (some v)->YU X.env.scope x->∃u,RelV v u/\Look X.env s.heap m x u
 cell:∀x c,X.env.cells.lookup x=some c->∃v,s.heap.IsCell c v
 free:H X.env.locals=none
 q8:∀x c,X.env.cells.lookup x=some c->H c=none
 pin:∀p∈X.pn++pins,s.heap.get? p.1=some p.2/\H p.1=none/\p.1≠X.env.locals/\p.1∉X.fs/\∀v,p.2.data≠ .cell v
 dS:sN X.prog X.w H s.heap
 len:σ.length=X.N.length
section
variable {X:Cx}{pins:List (Addr×Obj)}{σ:List (Option V)}{H H':Hp}{s:Shared}{h':Heap}
theorem Cx.Ok.YV(ok:X.Ok){b:Addr}{o:Obj}(e:X.base.get? b=some o):b∉X.fs:=fun hb=>by
 have:=(ok.sO.mem hb).1
 rw[e] at this;cases this
theorem Inv.bs(I:Inv X pins σ H s):∀b o,X.base.get? b=some o->s.heap.get? b=some o/\H b=none:=fun b o e=>
 ⟨I.base.keep b o (I.ok.bs b o e).1 (I.ok.bs b o e).2 (I.ok.YV e) (I.ok.EA b o e),I.base.free b o (I.ok.bs b o e).1 (I.ok.bs b o e).2 (I.ok.EA b o e)⟩
theorem Inv.bk(I:Inv X pins σ H s):∀b o,X.base.get? b=some o->s.heap.get? b=some o:=fun b o e=>(I.bs b o e).1
theorem Inv.mod(I:Inv X pins σ H s):Mod X.K X.mg X.base:=I.ok.mod
theorem Inv.Ao(I:Inv X pins σ H s):X.K.In s.heap:=I.ok.mod.S4.keeps I.bk
theorem Inv.lt(I:Inv X pins σ H s):X.env.locals < s.heap.objs.size:=let ⟨_,hn,_⟩:=I.loc;hn.lt
theorem Inv.sz(I:Inv X pins σ H s):X.gK.heap.objs.size<=s.heap.objs.size:=Nat.le_trans I.ok.above (Nat.le_of_lt I.lt)
theorem Inv.YW(I:Inv X pins σ H s){a:Addr}(h:s.heap.objs.size<=a):a∉X.fs:=fun hb=>by
 obtain ⟨_,o,ho,_⟩:=I.ok.sO.mem hb
 exact absurd (Nat.lt_of_lt_of_le (Heap.lt_size ho) (Nat.le_trans I.sz h)) (Nat.lt_irrefl _)
theorem Inv.O0(I:Inv X pins σ H s):∀x c,X.env.cells.lookup x=some c->c≠X.env.locals:=fun x c e z=>by
 refine cN (I.cell x c e) fun v o ho hd=>?_
 refine aN I.loc fun m gM _=>?_
 obtain ⟨o',es,ep,Aq,JK,_⟩:=gM
 rw[z,Aq] at ho;cases ho;rw[JK] at hd;cases hd
theorem Inv.sO(I:Inv X pins σ H s):s.heap.FunFrames X.base X.outer:=by
 have all:∀(l:List Env),(∀b∈ve l,b∈X.fs)->X.gK.heap.FunFrames X.base l->s.heap.FunFrames X.base l:=by
  intro l
  induction l with
  | nil=>intro _ _;trivial
  | cons env r ih=>
   intro hs hl
   refine qT hl fun hk gM hr=>?_
   clear hl
   obtain ⟨L,o,hf,hn,ho,hd⟩:=gM
   have hL:L∈X.fs:=hs L (by unfold ve;rw[List.filterMap_cons,hf];exact List.mem_cons_self)
   obtain ⟨sl,e⟩:=I.base.slot L o ho (I.ok.N6 L hL) hL fun z=>I.ok.EB L z hL
   exact⟨hk,⟨L,_,hf,hn,e,hd⟩,ih (fun b hb=>hs b (by unfold ve;rw[List.filterMap_cons,hf];exact List.mem_cons_of_mem _ hb)) hr⟩
 exact all X.outer (fun _ hb=>hb) I.ok.sO
theorem Inv.stack(I:Inv X pins σ H s):s.heap.FunFrames X.base X.stack:=by
 rcases I.ok.GF with e | ⟨e,hf⟩
 ·rw[e];exact I.sO
 ·rw[e]
  refine aN I.loc fun m hn _=>?_
  refine .cons (by rw[I.ok.kind];decide) hf hn ?_ I.sO
  exact Heap.get?_none_of_le (Nat.le_trans I.ok.JN I.ok.above)
theorem Inv.Ce(I:Inv X pins σ H s):∀b∈ve X.stack,b∈X.env.locals::X.fs:=fun b hb=>by
 rcases I.ok.GF with e | ⟨e,hf⟩
 ·rw[e] at hb;exact List.mem_cons_of_mem _ hb
 ·rw[e] at hb
  unfold ve at hb
  rw[List.filterMap_cons,hf] at hb
  exact hb
theorem Inv.Ds(I:Inv X pins σ H s):∀b∈ve X.stack,H b=none:=fun b hb=>by
 rcases List.mem_cons.mp (I.Ce b hb) with e | hb
 ·rw[e];exact I.free
 ·obtain ⟨_,o,ho,_⟩:=I.ok.sO.mem hb
  exact I.base.free b o ho (I.ok.N6 b hb) fun z=>I.ok.EB b z hb
theorem Inv.step{g':Array GenState}{t':Nat}{d':Drawn}{ch:List Addr}(I:Inv X pins σ H s)
  (JO:∀b∈ch,(b∈X.ex\/X.gK.heap.objs.size<=b)/\b≠X.env.locals/\(∀x c,X.env.cells.lookup x=some c->c≠b)/\∀p∈X.pn++pins,p.1≠b)
  (keep:∀b o,b≠X.env.locals->b∉X.fs->b∉ch->s.heap.get? b=some o->H b=none->h'.get? b=some o)
  (slot:∀b o,b≠X.env.locals->b∈X.fs->b∉ch->s.heap.get? b=some o->H b=none->∃sl,h'.get? b=some { o with slots:=sl }) (free:∀b o,b∉ch->s.heap.get? b=some o->H b=none->H' b=none)
  (there:∀b o,b∉ch->s.heap.get? b=some o->∃o',h'.get? b=some o')
  (qv:∀b xs,H b=some (.tup xs)->H' b=some (.tup xs)) (xw:∀b o u,H b=some (.GB o u)->H' b=some (.GB o u)) (yR:∀b ps,H b=some (.NY ps)->∃more,H' b=some (.NY (ps++more)))
  (ns:∀m,s.heap.Ns X.env.locals m->h'.Ns X.env.locals m) (dS:sN X.prog X.w H' h') (hg:AllBare g') :
  Inv X pins σ H' { s with heap:=h',gens:=g',drawn:=d',toks:=t' }:=by
 have neL:∀b o,X.gK.heap.get? b=some o->b≠X.env.locals:=fun b o e=>Nat.ne_of_lt (Nat.lt_of_lt_of_le (Heap.lt_size e) I.ok.above)
 have Wz:∀b o,X.gK.heap.get? b=some o->b∉X.ex->b∉ch:=fun b o e hx hb=>by
  rcases (JO b hb).1 with z | z
  ·exact hx z
  ·exact absurd (Nat.lt_of_lt_of_le (Heap.lt_size e) z) (Nat.lt_irrefl _)
 have cellK:∀x c,X.env.cells.lookup x=some c->∀v,s.heap.IsCell c v->h'.IsCell c v:=fun x c e v iz=>by
  refine aN iz fun o ho hd=>?_
  clear iz
  have S6:c∉ch:=fun z=>(JO c z).2.2.1 x c e rfl
  by_cases hc:c∈X.fs
  ·obtain ⟨sl,q⟩:=slot c o (I.O0 x c e) hc S6 ho (I.q8 x c e)
   exact⟨_,q,hd⟩
  ·exact⟨o,keep c o (I.O0 x c e) hc S6 ho (I.q8 x c e),hd⟩
 refine⟨I.ok,I.os,hg,⟨fun b o e n hb hx=>?_,fun b o e n hb hx=>?_,fun b o e n hx=>?_,fun b o e hx=>?_,fun b xs e=>qv b xs (I.base.qv b xs e),fun b o xs e=>xw b o xs (I.base.xw b o xs e),fun b ps e=>?_⟩,?_,fun x c e=>?_,?_,fun x c e=>?_,fun p hp=>?_,dS,I.len⟩
 ·exact keep b o (neL b o e) hb (Wz b o e hx) (I.base.keep b o e n hb hx) (I.base.free b o e n hx)
 ·obtain ⟨sl,e1⟩:=I.base.slot b o e n hb hx
  obtain ⟨sl',e2⟩:=slot b _ (neL b o e) hb (Wz b o e hx) e1 (I.base.free b o e n hx)
  exact⟨sl',e2⟩
 ·obtain ⟨o',e1⟩:=I.base.there b o e hx
  exact free b o' (Wz b o e hx) e1 (I.base.free b o e n hx)
 ·obtain ⟨o',e1⟩:=I.base.there b o e hx
  exact there b o' (Wz b o e hx) e1
 ·obtain ⟨m1,e1⟩:=I.base.yR b ps e
  obtain ⟨m2,e2⟩:=yR b _ e1
  exact⟨m1++m2,by rw[e2,Array.append_assoc]⟩
 ·refine aN I.loc fun m hn hl=>?_
  refine⟨m,ns m hn,fun i x v e1 e2 e3=>?_⟩
  refine aN (hl i x v e1 e2 e3) fun u r l=>?_
  refine⟨u,r,?_⟩
  rcases l with l | ⟨k,c,e,z⟩
  ·exact .inl l
  ·exact .inr ⟨k,c,e,cellK x c e _ z⟩
 ·obtain ⟨v,z⟩:=I.cell x c e
  exact⟨v,cellK x c e v z⟩
 ·refine aN I.loc fun m gM _=>?_
  obtain ⟨o,_,_,ho,_⟩:=gM
  exact free _ o (fun z=>(JO _ z).2.1 rfl) ho I.free
 ·refine cN (I.cell x c e) fun v o ho hd=>?_
  exact free c o (fun z=>(JO c z).2.2.1 x c e rfl) ho (I.q8 x c e)
 ·refine El (I.pin p hp) fun e n ne nf d=>?_
  have S6:p.1∉ch:=fun z=>(JO p.1 z).2.2.2 p hp rfl
  exact⟨keep p.1 p.2 ne nf S6 e n,free p.1 p.2 S6 e n,ne,nf,d⟩
theorem Inv.un{t':Nat}(I:Inv X pins σ H s)(u:Un X.fs [] H H' s.heap h')(dS:sN X.prog X.w H' h'):Inv X pins σ H' { s with heap:=h',toks:=t' }:=by
 refine aN (id I.loc) fun m gM _=>?_
 obtain ⟨o,es,ep,ho,r⟩:=gM
 obtain ⟨sl,hL⟩:=u.any ho I.free (by simp)
 exact I.step (g':=s.gens) (d':=s.drawn) (ch:=[]) (fun _ z=>nomatch z) (fun b o _ hb _ e n=>u.keep b o e n hb (by simp)) (fun b o _ hb _ e n=>u.slot b o e n hb (by simp)) (fun b o _ e n=>u.free b o e n (by simp)) (fun b o _ e=>u.there b o e (by simp)) u.qv u.xw u.yR (fun m' hm=>by
  refine JW hm fun o' BS yP Aq r'=>?_
  clear hm
  rw[ho] at Aq;cases Aq
  exact⟨_,BS,yP,hL,r'⟩) dS I.bare
theorem Inv.call{g':Array GenState}{t':Nat}{d':Drawn}{ch:List Addr}(I:Inv X pins σ H s)(u:Un (ve X.stack) ch H H' s.heap h')(dS:sN X.prog X.w H' h')(hg:AllBare g')
  (JO:∀b∈ch,(b∈X.ex\/X.gK.heap.objs.size<=b)/\b≠X.env.locals/\(∀x c,X.env.cells.lookup x=some c->c≠b)/\∀p∈X.pn++pins,p.1≠b) :
  Inv X pins σ H' { s with heap:=h',gens:=g',drawn:=d',toks:=t' }:=by
 refine aN (id I.loc) fun m gM _=>?_
 obtain ⟨o,es,ep,ho,r⟩:=gM
 obtain ⟨sl,hL⟩:=u.any ho I.free fun z=>(JO _ z).2.1 rfl
 exact I.step (ch:=ch) JO (fun b o hL hb hc e n=>u.keep b o e n (fun z=>(List.mem_cons.mp (I.Ce b z)).elim hL hb) hc) (fun b o _ _ hc e n=>u.any e n hc) (fun b o hc e n=>u.free b o e n hc) (fun b o hc e=>u.there b o e hc) u.qv u.xw u.yR (fun m' hm=>by
  refine JW hm fun o' BS yP Aq r'=>?_
  clear hm
  rw[ho] at Aq;cases Aq
  exact⟨_,BS,yP,hL,r'⟩) dS hg
theorem Inv.turned{t':Nat}{it:Addr}(I:Inv X pins σ H s)(k:∀b o,b≠it->s.heap.get? b=some o->h'.get? b=some o)(hn:H it=none)(hL:it≠X.env.locals)
  (h1:it∈X.ex\/X.gK.heap.objs.size<=it) (h2:∀x c,X.env.cells.lookup x=some c->c≠it) (h3:∀p∈X.pn++pins,p.1≠it):Inv X pins σ H { s with heap:=h',toks:=t' }:=by
 have nit:∀b u,H b=some u->b≠it:=fun b u e z=>by rw[z,hn] at e;cases e
 refine I.step (g':=s.gens) (d':=s.drawn) (ch:=[it]) (fun b hb=>?_) (fun b o _ _ hc e _=>k b o (fun z=>hc (by simp[z])) e) (fun b o _ _ hc e _=>⟨o.slots,k b o (fun z=>hc (by simp[z])) e⟩) (fun _ _ _ _ n=>n)
  (fun b o hc e=>⟨o,k b o (fun z=>hc (by simp[z])) e⟩) (fun _ _ e=>e) (fun _ _ _ e=>e) (fun b ps e=>⟨#[],by rw[e];simp⟩) (fun m hm=>?_) (fun b u e=>?_) I.bare
 ·have e:b=it:=by simpa using hb
  subst e
  exact⟨h1,hL,h2,h3⟩
 ·refine JW hm fun o es ep ho r=>?_
  clear hm
  exact⟨o,es,ep,k _ o (Ne.symm hL) ho,r⟩
 ·refine(I.dS b u e).yQ (fun c v hc q=>k c v ?_ q) (fun _ q=>q) fun _ _ q=>q
  rcases hc with z | z
  ·rw[z];exact nit b u e
  ·exact nit c _ z
theorem Inv.tok(I:Inv X pins σ H s)(t:Nat):Inv X pins σ H { s with toks:=t }:=I.un (h':=s.heap) (t':=t) Un.refl I.dS
theorem Inv.kept{t':Nat}(I:Inv X pins σ H s)(k:∀b u,s.heap.get? b=some u->h'.get? b=some u):Inv X pins σ H { s with heap:=h',toks:=t' }:=I.un (Un.kept k) (I.dS.kept k)
theorem Inv.laid{a:Addr}{o:HO}{t':Nat}(I:Inv X pins σ H s)(k:∀b u,s.heap.get? b=some u->h'.get? b=some u)(hp:s.heap.objs.size<=a)(new:fT X.prog X.w (upd H a o) h' a o) :
  Inv X pins σ (upd H a o) { s with heap:=h',toks:=t' }:=I.un (Un.laid k hp (I.dS.fresh hp)) (I.dS.laid k hp new)
theorem Inv.write{x e:Addr}{o:HO}{t':Nat}(I:Inv X pins σ H s)(mu:Wx (H x))(he:e=x\/H e=some (.own x))(k:∀b u,b≠e->s.heap.get? b=some u->h'.get? b=some u)(JV:∃u,h'.get? e=some u)
  (new:fT X.prog X.w (upd H x o) h' x o):Inv X pins σ (upd H x o) { s with heap:=h',toks:=t' }:=I.un (Un.write mu he k JV) (I.dS.write mu he k JV new)
theorem Inv.qX{N7:List (Addr×Obj)}(I:Inv X pins σ H s)(h:∀p∈N7,s.heap.get? p.1=some p.2/\H p.1=none/\p.1≠X.env.locals/\p.1∉X.fs/\∀v,p.2.data≠ .cell v):Inv X N7 σ H s:=
 ⟨I.ok,I.os,I.bare,I.base,I.loc,I.cell,I.free,I.q8,fun p hp=>(List.mem_append.mp hp).elim (fun z=>I.pin p (List.mem_append_left _ z)) (h p),I.dS,I.len⟩
theorem Ar{N:List Str}(hN:N.Nodup){i j:Nat}{x:Str}(a:N[i]?=some x)(b:N[j]?=some x):i=j:=by
 obtain ⟨h1,e1⟩:=List.getElem?_eq_some_iff.mp a
 obtain ⟨h2,e2⟩:=List.getElem?_eq_some_iff.mp b
 exact(List.getElem_inj hN).mp (e1.trans e2.symm)
theorem xV{M:Model}{A:Around}{E:Value->Shared->Prop}{i:Nat}{x:Str}{v:V}{u:Value}{Q:Unit->Shared->Prop}(I:Inv X pins σ H s)(hN:X.N.Nodup)(hi:X.N[i]?=some x)(hx:Loc X.env.scope x)(r:RelV v u)
  (h:∀s',Inv X pins (σ.set i (some v)) H s'->(∃a,Heap.SameBut a s.heap s'.heap/\(a=X.env.locals\/X.env.cells.lookup x=some a))->Q () s') (hf:X.fn x=true\/X.env.scope.names.lookup x=some .local:=by first | exact .inl rfl | exact .inr rfl | assumption):wpAny M A (storeName X.env x u) Q E s:=by
 refine aN (id I.loc) fun m hn hl=>?_
 have YX:(X.env.scope.kind == .class || (X.env.scope.kind == .module&&X.env.locals !=X.env.globals))=false:=by rw[I.ok.kind];rfl
 have S7:i < σ.length:=by rw[I.len];exact(List.getElem?_eq_some_iff.mp hi).1
 have O0:=I.O0
 have tracked:∀{a:Addr} {h':Heap},(∃o,s.heap.get? a=some o/\H a=none)->Heap.SameBut a s.heap h'->sN X.prog X.w H h':=fun {a h'} ha hs b ob e=>by
  refine aN ha fun _ _ Dt=>?_
  clear ha
  refine(I.dS b ob e).yQ (fun c w' hc q=>(hs.2 c ?_).trans q) (fun _ q=>q) fun _ _ q=>q
  rintro rfl
  rcases hc with rfl | hc
  ·rw[Dt] at e;cases e
  ·rw[Dt] at hc;cases hc
 rcases hx with hk | hk
 ·refine wpAny_storeName_local hk hn (fun h' yK hs=>?_) YX
  refine JW (id hn) fun oL _ _ hoL _=>?_
  refine h _ ⟨I.ok,I.os,I.bare,⟨fun b o e n hb hx=>?_,fun b o e n hb hx=>?_,I.base.free,fun b o e hx=>?_,I.base.qv,I.base.xw,I.base.yR⟩,⟨_,yK,fun j y v' e1 e2 e3=>?_⟩,fun y c e=>?_,I.free,I.q8,fun p hp=>?_,tracked ⟨oL,hoL,I.free⟩ hs,by simpa using I.len⟩ ⟨_,hs,.inl rfl⟩
  ·exact(hs.2 b (Nat.ne_of_lt (Nat.lt_of_lt_of_le (Heap.lt_size e) I.ok.above))).trans (I.base.keep b o e n hb hx)
  ·obtain ⟨sl,e1⟩:=I.base.slot b o e n hb hx
   exact⟨sl,(hs.2 b (Nat.ne_of_lt (Nat.lt_of_lt_of_le (Heap.lt_size e) I.ok.above))).trans e1⟩
  ·obtain ⟨o',e1⟩:=I.base.there b o e hx
   exact⟨o',(hs.2 b (Nat.ne_of_lt (Nat.lt_of_lt_of_le (Heap.lt_size e) I.ok.above))).trans e1⟩
  ·by_cases hj:j=i
   ·subst hj
    rw[hi] at e1;cases e1
    rw[List.getElem?_set_self S7] at e2
    cases e2
    exact⟨u,r,.inl ⟨hk,by simp⟩⟩
   ·rw[List.getElem?_set_ne (Ne.symm hj)] at e2
    refine aN (hl j y v' e1 e2 e3) fun u' r' q=>?_
    refine⟨u',r',?_⟩
    rcases q with ⟨k,e⟩ | ⟨k,c,e,z⟩
    ·refine .inl ⟨k,?_⟩
     have:y≠x:=fun e=>hj (Ar hN e1 (e▸hi))
     simp[this,e]
    ·exact .inr ⟨k,c,e,z.sameBut hs (O0 y c e)⟩
  ·obtain ⟨w',z⟩:=I.cell y c e
   exact⟨w',z.sameBut hs (O0 y c e)⟩
  ·refine El (I.pin p hp) fun e n ne nf d=>?_
   exact⟨(hs.2 p.1 ne).trans e,n,ne,nf,d⟩
 ·have QW:X.fn x=true:=by
   rcases hf with z | z
   ·exact z
   ·rw[z] at hk;cases hk
  obtain ⟨c,hc⟩:=I.ok.has x (.inl hk)
  obtain ⟨w',z⟩:=I.cell x c hc
  refine wpAny_storeName_cell I.ok.kind hk hc z (fun h' uy hs=>?_)
  refine aN (id z) fun oc hoc YY=>?_
  refine h { s with heap:=h' } ⟨I.ok,I.os,I.bare,⟨fun b o e n hb hx=>?_,fun b o e n hb hx=>?_,I.base.free,fun b o e hx=>?_,I.base.qv,I.base.xw,I.base.yR⟩,⟨m,hn.sameBut hs (Ne.symm (O0 x c hc)),fun j y v' e1 e2 e3=>?_⟩,fun y c' e=>?_,I.free,I.q8,fun p hp=>?_,tracked ⟨oc,hoc,I.q8 x c hc⟩ hs,by simpa using I.len⟩ ⟨c,hs,.inr hc⟩
  ·exact(hs.2 b (Nat.ne_of_lt (Nat.lt_of_lt_of_le (Heap.lt_size e) (I.ok.QV x c QW hc)))).trans (I.base.keep b o e n hb hx)
  ·obtain ⟨sl,e1⟩:=I.base.slot b o e n hb hx
   exact⟨sl,(hs.2 b (Nat.ne_of_lt (Nat.lt_of_lt_of_le (Heap.lt_size e) (I.ok.QV x c QW hc)))).trans e1⟩
  ·obtain ⟨o',e1⟩:=I.base.there b o e hx
   exact⟨o',(hs.2 b (Nat.ne_of_lt (Nat.lt_of_lt_of_le (Heap.lt_size e) (I.ok.QV x c QW hc)))).trans e1⟩
  ·by_cases hj:j=i
   ·subst hj
    rw[hi] at e1;cases e1
    rw[List.getElem?_set_self S7] at e2
    cases e2
    exact⟨u,r,.inr ⟨.inl hk,c,hc,uy⟩⟩
   ·rw[List.getElem?_set_ne (Ne.symm hj)] at e2
    refine aN (hl j y v' e1 e2 e3) fun u' r' q=>?_
    refine⟨u',r',?_⟩
    rcases q with q | ⟨k,c',e,z'⟩
    ·exact .inl q
    ·refine .inr ⟨k,c',e,z'.sameBut hs ?_⟩
     rintro rfl
     exact hj (Ar hN e1 (I.ok.inj _ _ _ e hc▸hi))
  ·by_cases hcc:c'=c
   ·subst hcc;exact⟨_,uy⟩
   ·obtain ⟨w2,z2⟩:=I.cell y c' e
    exact⟨w2,z2.sameBut hs hcc⟩
  ·refine El (I.pin p hp) fun e n ne nf d=>?_
   refine⟨(hs.2 p.1 ?_).trans e,n,ne,nf,d⟩
   intro q
   rw[q,hoc] at e
   have q':oc=p.2:=Option.some.inj e
   exact d w' (by rw[<- q'];exact YY)
theorem qY{M:Model}{A:Around}{E:Value->Shared->Prop}{i:Nat}{x:Str}{v:V}{u:Value}{Q:Unit->Shared->Prop}(I:Inv X pins σ H s)(hN:X.N.Nodup)(hi:X.N[i]?=some x)(hx:Loc X.env.scope x)(r:RelV v u)
  (h:∀s',Inv X pins (σ.set i (some v)) H s'->Q () s') (hf:X.fn x=true\/X.env.scope.names.lookup x=some .local:=by first | exact .inl rfl | exact .inr rfl | assumption):wpAny M A (storeName X.env x u) Q E s:=
 xV I hN hi hx r (fun s' I' _=>h s' I') hf
theorem Inv.As{s':Shared}{ch:List Addr}(I:Inv X pins σ H s)(ho:s'.os=s.os)(u:Un (ve X.stack) ch H H' s.heap s'.heap)(dS:sN X.prog X.w H' s'.heap)(hg:AllBare s'.gens)
  (JO:∀b∈ch,(b∈X.ex\/X.gK.heap.objs.size<=b)/\b≠X.env.locals/\(∀x c,X.env.cells.lookup x=some c->c≠b)/\∀p∈X.pn++pins,p.1≠b):Inv X pins σ H' s':=by
 obtain ⟨h',g',d',t',o'⟩:=s'
 have e:o'=s.os:=ho
 subst e
 exact I.call (g':=g') (t':=t') (d':=d') u dS hg JO
end
abbrev XK:=Value->Option Addr->Hp->Prop
abbrev St:=List (Option V)
abbrev VK:=V->Hp->Prop
abbrev TE:=St->Hp->VK->Prop
abbrev TT:=St->Hp->(Bool->Hp->Prop)->Prop
abbrev TA:=St->Hp->(List V->Hp->Prop)->Prop
structure Ends where
 nx:St->Hp->Prop
 rt:VK
 bk:St->Hp->Prop:=fun _ _=>False
 ct:St->Hp->Prop:=fun _ _=>False
abbrev TS:=Ends->St->Hp->Prop
def EP(X:Cx)(pins:List (Addr×Obj))(σ:St)(Q:VK)(u:Value)(s':Shared):Prop:=∃v H',Inv X pins σ H' s'/\RelV v u/\Q v H'
def TP(X:Cx)(pins:List (Addr×Obj))(σ:St)(Q:Bool->Hp->Prop)(b:Bool)(s':Shared):Prop:=∃H',Inv X pins σ H' s'/\Q b H'
def AP(X:Cx)(pins:List (Addr×Obj))(σ:St)(Q:List V->Hp->Prop)(us:List Value)(s':Shared):Prop:=∃vs H',Inv X pins σ H' s'/\Vals vs us/\Q vs H'
def SP(X:Cx)(pins:List (Addr×Obj))(D:Ends)(f:Flow)(s':Shared):Prop:=
 match f with
 | .next=>∃cH H',Inv X pins cH H' s'/\D.nx cH H'
 | .brk=>∃cH H',Inv X pins cH H' s'/\D.bk cH H'
 | .cont=>∃cH H',Inv X pins cH H' s'/\D.ct cH H'
 | .ret u=>∃v cH H',Inv X pins cH H' s'/\RelV v u/\D.rt v H'
def PE(X:Cx)(e:Expr)(t:TE):Prop:=
 ∀(pins:List (Addr×Obj)) (s:Shared) (σ:St) (H:Hp) (Q:VK),Inv X pins σ H s->t σ H Q->wpAny (model X.prog X.w) X.A (eval e X.env) (EP X pins σ Q) X.xe s
def PT(X:Cx)(e:Expr)(t:TT):Prop:=
 ∀(pins:List (Addr×Obj)) (s:Shared) (σ:St) (H:Hp) (Q:Bool->Hp->Prop),Inv X pins σ H s->t σ H Q->wpAny (model X.prog X.w) X.A (isTrue e X.env (eval e X.env)) (TP X pins σ Q) X.xe s
def PW(X:Cx)(e:Expr)(t:TT):Prop:=
 ∀(whole:Sem Value) (pins:List (Addr×Obj)) (s:Shared) (σ:St) (H:Hp) (Q:Bool->Hp->Prop),Inv X pins σ H s->t σ H Q->wpAny (model X.prog X.w) X.A (isTrue e X.env whole) (TP X pins σ Q) X.xe s
theorem PW.pt{X:Cx}{e:Expr}{t:TT}(h:PW X e t):PT X e t:=h _
def PA(X:Cx)(es:List Expr)(t:TA):Prop:=
 ∀(pos:Pos) (pins:List (Addr×Obj)) (s:Shared) (σ:St) (H:Hp) (Q:List V->Hp->Prop),Inv X pins σ H s->t σ H Q->wpAny (model X.prog X.w) X.A (spliced (backTo pos (starEach es X.env))) (AP X pins σ Q) X.xe s
def PS(X:Cx)(st:Stmt)(t:TS):Prop:=
 ∀(pins:List (Addr×Obj)) (s:Shared) (σ:St) (H:Hp) (D:Ends),Inv X pins σ H s->t D σ H->wpAny (model X.prog X.w) X.A (exec st X.env) (SP X pins D) X.xe s
def sP(X:Cx)(st:List Stmt)(t:TS):Prop:=
 ∀(pins:List (Addr×Obj)) (s:Shared) (σ:St) (H:Hp) (D:Ends),Inv X pins σ H s->t D σ H->wpAny (model X.prog X.w) X.A (execs st X.env) (SP X pins D) X.xe s
theorem fH{α:Type}{t:Sem α}{Q Q':α->Shared->Prop}{M:Model}{A:Around}{E:Value->Shared->Prop}{s:Shared}(h:wpAny M A t Q E s)(hQ:∀a s,Q a s->Q' a s):wpAny M A t Q' E s:=wpAny_mono h hQ fun _ _ x=>x
end L2
namespace L2
open PySem PySem.Spec PyProof.Rows
section
variable {X:Cx}
def lI(i:Nat):TE:=fun σ H Q=>∃v,σ[i]?=some (some v)/\Q v H
def tC(v:V):TE:=fun _ H Q=>Q v H
theorem O1{i:Nat}{x:Str}{pos:Pos}(hN:X.N[i]?=some x)(hv:YU X.env.scope x)(hd:(x==("__debug__" : Str))=false:=by decide)(C0:(x==("__classdict__" : Str))=false:=by decide):PE X (.Name x pos) (lI i):=by
 walk_at"<"
 obtain ⟨v,e,h⟩:=h
 obtain ⟨m,hn,hl⟩:=I.loc
 obtain ⟨u,r,l⟩:=hl i x v hN e hv
 have fin:EP X pins σ Q u s:=⟨v,H,I,r,h⟩
 rcases l with ⟨hk,hm⟩ | ⟨hk,c,hc,vf⟩
 ·exact wpAny_Name (wpAny_loadName_local I.ok.kind hk hn hm fin) hd
 ·rcases hk with hk | hk
  ·exact wpAny_Name (wpAny_loadName_cell I.ok.kind hk hc vf fin) hd
  ·exact wpAny_Name (wpAny_loadName_free I.ok.kind hk hc vf fin C0) hd
theorem GG{i j pos}:PE X (.Constant (.int i) j pos) (tC (.int i)):=fun _ _ _ H _ I h=>wpAny_Constant_int ⟨.int i,H,I.tok _,⟨_,rfl⟩,h⟩
theorem S8{b j pos}:PE X (.Constant (.bool b) j pos) (tC (.bl b)):=fun _ _ _ H _ I h=>Constant_bool ⟨.bl b,H,I,rfl,h⟩
theorem O2{x j pos}:PE X (.Constant (.str x) j pos) (tC (.str x)):=fun _ _ _ H _ I h=>Calls.Constant_str ⟨.str x,H,I.tok _,⟨_,rfl⟩,h⟩
def Gl(X:Cx)(x:Str):Prop:=X.env.kindOf x=some .globalImplicit
theorem qZ{E:Value->Shared->Prop}{pins:List (Addr×Obj)}{s:Shared}{σ:St}{H:Hp}{x:Str}{u:Value}{pos:Pos}{Q:Value->Shared->Prop}(I:Inv X pins σ H s)(hg:Gl X x)(hm:X.mg x=some u)(h:Q u s)
  (hd:(x==("__debug__" : Str))=false:=by decide):wpAny (model X.prog X.w) X.A (eval (.Name x pos) X.env) Q E s:=
 Calls.Name_function_global I.ok.kind hg (Calls.loadGlobal_global (by rw[I.ok.glob];exact I.mod.glob.keeps I.bk) hm h) hd
theorem vg{E:Value->Shared->Prop}{pins:List (Addr×Obj)}{s:Shared}{σ:St}{H:Hp}{x:Str}{u:Value}{pos:Pos}{Q:Value->Shared->Prop}(I:Inv X pins σ H s)(hg:Gl X x)(hm:X.mg x=none)(hv:bootBuiltins x=some u)(h:Q u s)
  (hn:x≠ "__name__":=by decide) (hd:(x==("__debug__" : Str))=false:=by decide):wpAny (model X.prog X.w) X.A (eval (.Name x pos) X.env) Q E s:=by
 refine aN I.mod.blt fun mb h1 h2=>?_
 exact Calls.Name_function_global I.ok.kind hg (Calls.loadGlobal_builtin (by rw[I.ok.glob];exact I.mod.glob.keeps I.bk) hm (by rw[I.ok.blt];exact h1.keeps I.bk) ((h2 x hn).trans hv) h) hd
theorem Kl{x:Str}{v:V}{u:Value}{pos:Pos}(hg:Gl X x)(hm:X.mg x=some u)(r:RelV v u)(hd:(x==("__debug__" : Str))=false:=by decide):PE X (.Name x pos) (tC v):=
 fun _ _ _ H _ I h=>qZ I hg hm ⟨v,H,I,r,h⟩ hd
theorem Km{x:Str}{v:V}{u:Value}{pos:Pos}(hg:Gl X x)(hm:X.mg x=none)(hv:bootBuiltins x=some u)(r:RelV v u)(hn:x≠ "__name__":=by decide)(hd:(x==("__debug__" : Str))=false:=by decide):PE X (.Name x pos) (tC v):=
 fun _ _ _ H _ I h=>vg I hg hm hv ⟨v,H,I,r,h⟩ hn hd
variable {a b:Expr}{ta tb:TE}{pos:Pos}
def tB(t:TE):TT:=fun σ H Q=>t σ H fun x H1=>∃c,x = .bl c/\Q c H1
theorem O3{e:Expr}{t:TE}(h:PE X e t)(he:∀whole,isTrue e X.env whole=(do let v <- whole;standAt e.pos;holding [v] (truthy v)):=by intro _;rfl):PT X e (tB t):=by
 intro pins s σ H Q I hw
 refine isTrue_plain (fH (h pins s σ H _ I hw) fun v s1 Au=>?_) (he _)
 refine b8 Au fun x H1 I1 r1 q1=>?_
 clear Au
 refine aN q1 fun d gM q=>?_
 clear q1
 walk_at"8"
 cases r1
 exact wpAny_truthy_bool ⟨H1,I1,q⟩
variable {tA WA:TT}{rest:List Expr}
def YZ(t u:TT):TT:=fun σ H Q=>t σ H fun c H1=>if c=true then u σ H1 Q else Q false H1
def tOr(t u:TT):TT:=fun σ H Q=>t σ H fun c H1=>if c=true then Q true H1 else u σ H1 Q
def Z0(t:TT):TT:=fun σ H Q=>t σ H fun c H1=>Q (!c) H1
theorem pw_and1(ha:PT X a tA):PW X (.BoolOp .And [a] pos) tA:=by
 intro wh pins s σ H Q I h
 refine isTrue_and (fH (ha pins s σ H Q I h) fun c s1 e=>?_)
 cases c with
 | true=>exact isTrue_and_nil e
 | false=>exact e
theorem pw_or1(ha:PT X a tA):PW X (.BoolOp .Or [a] pos) tA:=by
 intro wh pins s σ H Q I h
 refine isTrue_or (fH (ha pins s σ H Q I h) fun c s1 e=>?_)
 cases c with
 | false=>exact isTrue_or_nil e
 | true=>exact e
theorem pw_and(ha:PT X a tA)(hb:PW X (.BoolOp .And (b::rest) pos) WA):PW X (.BoolOp .And (a::b::rest) pos) (YZ tA WA):=by
 intro wh pins s σ H Q I h
 refine isTrue_and (fH (ha pins s σ H _ I h) fun c s1 BU=>?_)
 refine aN BU fun H1 I1 q1=>?_
 clear BU
 cases c with
 | true=>exact hb wh pins s1 σ H1 Q I1 q1
 | false=>exact⟨H1,I1,q1⟩
theorem pw_or(ha:PT X a tA)(hb:PW X (.BoolOp .Or (b::rest) pos) WA):PW X (.BoolOp .Or (a::b::rest) pos) (tOr tA WA):=by
 intro wh pins s σ H Q I h
 refine isTrue_or (fH (ha pins s σ H _ I h) fun c s1 BV=>?_)
 refine aN BV fun H1 I1 q1=>?_
 clear BV
 cases c with
 | true=>exact⟨H1,I1,q1⟩
 | false=>exact hb wh pins s1 σ H1 Q I1 q1
theorem O4(ha:PT X a tA):PT X (.UnaryOp .Not a pos) (Z0 tA):=by
 walk_at"<"
 exact isTrue_not (ha pins s σ H (fun c H1=>Q (!c) H1) I h)
def S9(ta tb:TE):TE:=fun σ H Q=>ta σ H fun x H1=>∃c,x = .bl c/\if c=true then tb σ H1 Q else Q (.bl false) H1
theorem O5{op}{t:TE}(h:PE X a t):PE X (.BoolOp op [a] pos) t:=fun pins s σ H Q I hw=>BoolOp_one (h pins s σ H Q I hw)
theorem O6(ha:PE X a ta)(hb:PE X (.BoolOp .And (b::rest) pos) tb):PE X (.BoolOp .And (a::b::rest) pos) (S9 ta tb):=by
 walk_at"<"
 refine BoolOp_and (fH (ha pins s σ H _ I h) fun v s1 yT=>?_)
 obtain ⟨x,H1,I1,r1,q1⟩:=yT
 obtain ⟨c,rfl,q1⟩:=q1
 cases r1
 refine wpAny_truthy_bool ?_
 cases c with
 | true=>exact hb pins s1 σ H1 Q I1 q1
 | false=>exact⟨.bl false,H1,I1,rfl,q1⟩
end
end L2
namespace L2
open PySem PySem.Spec PyProof.Rows
def jJ(K:PySem.W.Frag)(H:Hp)(a:Addr)(xs:List V):Prop:=
 Rd H a (.lst xs)\/
  ∃(o:Obj) (bh:Array Value) (n:Nat),K.lookup a=some o/\o.cls = .type "list" /\o.dict=none/\o.data = .seq bh n/\bh.size<=sizeLine/\Vals xs bh.toList
def kT(K:PySem.W.Frag)(H:Hp)(a:Addr)(xs:List V):Prop:=
 Rd H a (.tup xs)\/
  ∃(o:Obj) (bh:Array Value) (n:Nat),K.lookup a=some o/\o.cls = .type "tuple" /\o.data = .seq bh n/\bh.size<=sizeLine/\Vals xs bh.toList
def Z1:Value->Option V
 | .none=>some .cz
 | .bool b=>some (.bl b)
 | .int i _=>some (.int i)
 | .str x _=>some (.str x)
 | .bytes b _=>some (.Wv b)
 | .float b _=>some (.Ww b)
 | .ref a=>some (.ref a)
 | .type n=>some (.ty n)
 | _=>none
theorem RelV.abs{x:V}{u:Value}(r:RelV x u):Z1 u=some x:=by
 cases x with
 | cz=>cases r;rfl
 | bl _=>cases r;rfl
 | int _=>obtain ⟨t,rfl⟩:=r;rfl
 | str _=>obtain ⟨t,rfl⟩:=r;rfl
 | Wv _=>obtain ⟨t,rfl⟩:=r;rfl
 | Ww _=>obtain ⟨t,rfl⟩:=r;rfl
 | ref _=>cases r;rfl
 | ty _=>cases r;rfl
theorem RelV.inj{x y:V}{u:Value}(r:RelV x u)(q:RelV y u):x=y:=Option.some.inj (r.abs.symm.trans q.abs)
theorem Vals.inj{xs ys:List V}{us:List Value}(h:Vals xs us)(h':Vals ys us):xs=ys:=by
 induction h generalizing ys with
 | nil=>cases h';rfl
 | cons r t ih=>
  cases h' with
  | cons r' t'=>rw[r.inj r',ih t']
section
variable {X:Cx}{pins:List (Addr×Obj)}{σ:St}{H:Hp}{s:Shared}{a:Addr}{xs ys:List V}
theorem jJ.of{K:PySem.W.Frag}(h:H a=some (.lst xs)):jJ K H a xs:=.inl (.inl h)
theorem kT.of{K:PySem.W.Frag}(h:H a=some (.tup xs)):kT K H a xs:=.inl (.inl h)
theorem Inv.list(I:Inv X pins σ H s)(h:jJ X.K H a xs):∃bh:List Value,Vals xs bh/\PlainL s.heap a bh.toArray/\xs.length<=sizeLine:=by
 rcases h with h | ⟨o,bh,n,hk,hc,hd,hs,hz,r⟩
 ·obtain ⟨z,bh,n,r,e⟩:=h.ok I.dS
  exact⟨bh,r,⟨_,n,e,rfl,rfl,rfl⟩,z⟩
 ·refine⟨bh.toList,r,⟨o,n,I.Ao a o hk,hc,hd,by simpa using hs⟩,?_⟩
  have e:=r.length
  simp only[Array.length_toList] at e
  lia
theorem Inv.tuple(I:Inv X pins σ H s)(h:kT X.K H a xs):∃bh:List Value,Vals xs bh/\IsTup s.heap a bh.toArray/\xs.length<=sizeLine:=by
 rcases h with h | ⟨o,bh,n,hk,hc,hs,hz,r⟩
 ·obtain ⟨z,bh,r,p⟩:=h.ok I.dS
  exact⟨bh,r,p,z⟩
 ·refine⟨bh.toList,r,⟨o,I.Ao a o hk,hc,n,by simpa using hs⟩,?_⟩
  have e:=r.length
  simp only[Array.length_toList] at e
  lia
theorem Inv.vh(I:Inv X pins σ H s)(h:jJ X.K H a xs)(h':jJ X.K H a ys):xs=ys:=by
 refine bQ (I.list h) fun bh r aV _=>?_
 obtain ⟨o,n,e,_,_,d⟩:=aV
 refine bQ (I.list h') fun its' r' aV _=>?_
 obtain ⟨o',n',e',_,_,d'⟩:=aV
 rw[e] at e';cases e'
 rw[d] at d'
 injection d' with d1 _
 have:bh=its':=by simpa using congrArg Array.toList d1
 subst this
 exact r.inj r'
theorem Inv.EC(I:Inv X pins σ H s)(h:kT X.K H a xs)(h':kT X.K H a ys):xs=ys:=by
 refine bQ (I.tuple h) fun bh r aV _=>?_
 obtain ⟨o,e,_,n,d⟩:=aV
 refine bQ (I.tuple h') fun its' r' aV _=>?_
 obtain ⟨o',e',_,n',d'⟩:=aV
 rw[e] at e';cases e'
 rw[d] at d'
 injection d' with d1 _
 have:bh=its':=by simpa using congrArg Array.toList d1
 subst this
 exact r.inj r'
end
abbrev Cx.dw(X:Cx)(E:Value->Shared->Prop):Cx:={ X with xe:=E }
theorem Cx.Ok.dw{X:Cx}(ok:X.Ok)(E:Value->Shared->Prop):(X.dw E).Ok:=
 ⟨ok.mod,ok.kind,ok.glob,ok.blt,ok.above,ok.inj,ok.has,ok.QV,ok.hd,ok.frames,ok.GF,ok.S5,ok.bs,ok.JN,ok.EA,ok.EB,ok.sO,ok.N6⟩
theorem Cx.Ok.gO{X:Cx}{E:Value->Shared->Prop}(ok:(X.dw E).Ok):X.Ok:=
 ⟨ok.mod,ok.kind,ok.glob,ok.blt,ok.above,ok.inj,ok.has,ok.QV,ok.hd,ok.frames,ok.GF,ok.S5,ok.bs,ok.JN,ok.EA,ok.EB,ok.sO,ok.N6⟩
section
variable {X:Cx}{pins:List (Addr×Obj)}{σ:St}{H:Hp}{s:Shared}{E:Value->Shared->Prop}
theorem Inv.dw(I:Inv X pins σ H s)(E:Value->Shared->Prop):Inv (X.dw E) pins σ H s:=⟨I.ok.dw E,I.os,I.bare,I.base,I.loc,I.cell,I.free,I.q8,I.pin,I.dS,I.len⟩
theorem Inv.gO(I:Inv (X.dw E) pins σ H s):Inv X pins σ H s:=⟨I.ok.gO,I.os,I.bare,I.base,I.loc,I.cell,I.free,I.q8,I.pin,I.dS,I.len⟩
theorem SP.gO{D:Ends}{f:Flow}{s':Shared}(h:SP (X.dw E) pins D f s'):SP X pins D f s':=by
 cases f with
 | next=>obtain ⟨cH,H',I,q⟩:=h;exact⟨cH,H',I.gO,q⟩
 | brk=>obtain ⟨cH,H',I,q⟩:=h;exact⟨cH,H',I.gO,q⟩
 | cont=>obtain ⟨cH,H',I,q⟩:=h;exact⟨cH,H',I.gO,q⟩
 | ret u=>obtain ⟨v,cH,H',I,r,q⟩:=h;exact⟨v,cH,H',I.gO,r,q⟩
end
section
variable {X:Cx}{st:Stmt}{rest:List Stmt}{t u:TS}{e:Expr}{te:TE}{pos:Pos}
def Sa:TS:=fun D σ H=>D.nx σ H
def Sd(t u:TS):TS:=fun D σ H=>t { D with nx:=u D } σ H
theorem Kn:sP X [] Sa:=fun _ _ σ H _ I h=>wpAny_execs_nil ⟨σ,H,I,h⟩
theorem Av(h1:PS X st t)(h2:sP X rest u):sP X (st::rest) (Sd t u):=by
 walk_at"?"
 refine wpAny_execs_cons (fH (h1 pins s σ H { D with nx:=u D } I h) fun f s1 q=>?_)
 cases f with
 | next=>
  obtain ⟨cH,H',I',q⟩:=q
  exact h2 pins s1 cH H' D I' q
 | ret v=>exact q
 | brk=>exact q
 | cont=>exact q
theorem Du(h1:PS X st t):sP X [st] t:=by
 walk_at"?"
 refine wpAny_execs_cons (fH (h1 pins s σ H D I h) fun f s1 q=>?_)
 cases f with
 | next=>exact wpAny_execs_nil q
 | ret v=>exact q
 | brk=>exact q
 | cont=>exact q
def O7:TS:=fun D σ H=>D.bk σ H
theorem GH:PS X (.Break pos) O7:=fun _ _ σ H _ I h=>wpAny_Break ⟨σ,H,I,h⟩
theorem Inv.quiet{pins:List (Addr×Obj)}{σ:St}{H:Hp}{s:Shared}(I:Inv X pins σ H s):interactive X.env=false:=by simp[interactive,I.ok.kind]
def N8(te:TE):TS:=fun D σ H=>te σ H fun _ H1=>D.nx σ H1
theorem r8(he:PE X e te)(hs:swapsWith e none pos.line X.env=pure false:=by rfl):PS X (.Expr e pos) (N8 te):=by
 walk_at"?"
 exact wpAny_Expr_any (fH (he pins s σ H _ I h) fun v s1 O8=>O8.elim fun x Z2=>Z2.elim fun H1 Z3=>Z3.elim fun I1 Z4=>Z4.elim fun r1 q1=>⟨σ,H1,I1,q1⟩) I.quiet hs
def Z5(te:TE):TS:=fun D σ H=>te σ H D.rt
theorem O9(he:PE X e te):PS X (.Return (some e) pos) (Z5 te):=by
 walk_at"?"
 exact wpAny_Return_some (fH (he pins s σ H _ I h) fun v s1 Z6=>Z6.elim fun x Z7=>Z7.elim fun H1 Z8=>Z8.elim fun I1 Z9=>Z9.elim fun r1 q1=>⟨x,σ,H1,I1,r1,q1⟩)
def Za(c:TT)(t u:TS):TS:=fun D σ H=>c σ H fun b H1=>if b=true then t D σ H1 else u D σ H1
theorem Se{c:Expr}{a b:List Stmt}{tc:TT}(hc:PT X c tc)(ha:sP X a t)(hb:sP X b u):PS X (.If c a b pos) (Za tc t u):=by
 walk_at"?"
 refine wpAny_If (fH (hc pins s σ H _ I h) fun d s1 Sf=>?_)
 refine aN Sf fun H1 I1 q1=>?_
 clear Sf
 cases d with
 | true=>exact ha pins s1 σ H1 D I1 q1
 | false=>exact hb pins s1 σ H1 D I1 q1
end
abbrev TG:=V->St->Hp->(St->Hp->Prop)->Prop
abbrev Oa:=List V->St->Hp->(St->Hp->Prop)->Prop
def PG(X:Cx)(target:Expr)(t:TG):Prop:=
 ∀(pins:List (Addr×Obj)) (s:Shared) (σ:St) (H:Hp) (v:V) (u:Value) (Q:St->Hp->Prop),Inv X pins σ H s->RelV v u->t v σ H Q->
  wpAny (model X.prog X.w) X.A (assign target X.env u) (fun _ s'=>∃cH H',Inv X pins cH H' s'/\Q cH H') X.xe s
def WB(X:Cx)(ts:List Expr)(t:Oa):Prop:=
 ∀(pins:List (Addr×Obj)) (s:Shared) (σ:St) (H:Hp) (vs:List V) (us:List Value) (Q:St->Hp->Prop),Inv X pins σ H s->Vals vs us->t vs σ H Q->
  wpAny (model X.prog X.w) X.A (assignInOrder ((assignEach ts X.env).map (·.2)) us) (fun _ s'=>∃cH H',Inv X pins cH H' s'/\Q cH H') X.xe s
abbrev Ob:=V->V->V->Hp->(Hp->Prop)->Prop
def Sh(X:Cx)(t:Ob):Prop:=
 ∀(pins:List (Addr×Obj)) (s:Shared) (σ:St) (H:Hp) (o i v:V) (ov iv u:Value) (Q:Hp->Prop),Inv X pins σ H s->RelV o ov->RelV i iv->RelV v u->t o i v H Q->
  wpAny (model X.prog X.w) X.A (setItem ov iv u) (fun _ s'=>∃H',Inv X pins σ H' s'/\Q H') X.xe s
section
variable {X:Cx}{pos:Pos}
def Aw(i:Nat):TG:=fun v σ H Q=>Q (σ.set i (some v)) H
theorem bS{i:Nat}{x:Str}(hN:X.N.Nodup)(hi:X.N[i]?=some x)(hx:Loc X.env.scope x)(hf:X.fn x=true\/X.env.scope.names.lookup x=some .local:=by first | exact .inl rfl | exact .inr rfl | assumption):PG X (.Name x pos) (Aw i):=by
 intro pins s σ H v u Q I r h
 exact wpAny_assign_Name (qY I hN hi hx r (fun s' I'=>⟨_,H,I',h⟩) hf)
def Si:Oa:=fun vs σ H Q=>vs=[]/\Q σ H
def GI(t:TG)(u:Oa):Oa:=fun vs σ H Q=>∃v r,vs=v::r/\t v σ H fun cH H'=>u r cH H' Q
theorem r9:WB X [] Si:=by
 intro pins s σ H vs us Q I r h
 obtain ⟨e,h⟩:=h
 subst e
 cases r
 exact assignInOrder_nil ⟨σ,H,I,h⟩
theorem fY{e:Expr}{es:List Expr}{t:TG}{u:Oa}(h1:PG X e t)(h2:WB X es u)
  (hs:(assignEach (e::es) X.env).map (·.2)=assign e X.env::(assignEach es X.env).map (·.2):=by rfl):WB X (e::es) (GI t u):=by
 intro pins s σ H vs us Q I r h
 obtain ⟨v,vr,e1,h⟩:=h
 subst e1
 cases r with
 | cons r rr=>
  rw[hs]
  refine assignInOrder_cons (fH (h1 pins s σ H _ _ _ I r h) fun _ s1 Sj=>?_)
  refine cN Sj fun GJ H1 I1 q1=>?_
  clear Sj
  exact h2 pins s1 GJ H1 _ _ Q I1 rr q1
def Sl(K:PySem.W.Frag)(n:Nat)(t:Oa):TG:=fun v σ H Q=>∃a xs,v = .ref a/\kT K H a xs/\xs.length=n/\t xs σ H Q
theorem vj{es:List Expr}{k:Nat}{t:Oa}{n:Nat}(hc:X.calm=true)(h:WB X es t)
  (hn:(assignEach es X.env).length=n:=by rfl) (qV:(assignEach es X.env).findIdx? (·.1)=none:=by rfl):PG X (.Tuple es k pos) (Sl X.K n t):=by
 intro pins s σ H v u Q I r hw
 obtain ⟨a,xs,e1,hq,hl,hw⟩:=hw
 subst e1
 cases r
 obtain ⟨bh,rv,ht,hz⟩:=I.tuple hq
 refine assign_Tuple_tuple (I.ok.hd hc) ht (by simp[hn,<- hl,rv.length]) qV fun h' hx=>?_
 have I1:Inv X pins σ H { s with heap:=h' }:=I.kept (t':=s.toks) fun b o e=>hx b o (Nat.ne_of_lt (Heap.lt_size e)) e
 exact h pins _ σ H xs _ Q I1 (by simpa using rv) hw
def jS(to ti:TE)(t:Ob):TG:=fun v σ H Q=>to σ H fun o H1=>ti σ H1 fun i H2=>t o i v H2 fun H3=>Q σ H3
theorem Oc{o i:Expr}{to ti:TE}{t:Ob}(ho:PE X o to)(hi:PE X i ti)(hs:Sh X t)
  (ha:∀v,assign (.Subscript o i pos) X.env v=(do
   let ov <- holding [v] (eval o X.env)
   let iv <- holding [v,ov] (eval i X.env)
   standAt pos
   holding [v,ov,iv] (setItem ov iv v)
   release [v,ov,iv] []):=by intro _;rfl):PG X (.Subscript o i pos) (jS to ti t):=by
 intro pins s σ H v u Q I r h
 rw[ha]
 refine wpAny_bind (wpAny_holding (fH (ho pins s σ H _ I h) fun ov s1 Sm=>?_))
 refine b8 Sm fun x H1 I1 r1 q1=>?_
 clear Sm
 refine wpAny_bind (wpAny_holding (fH (hi pins s1 σ H1 _ I1 q1) fun iv s2 Sn=>?_))
 refine b8 Sn fun y H2 I2 r2 q2=>?_
 clear Sn
 refine wpAny_bind (wpAny_standAt (wpAny_bind (wpAny_holding (fH (hs pins s2 σ H2 x y v ov iv u _ I2 r1 r2 r q2) fun _ s3 Sq=>?_))))
 refine aN Sq fun H3 I3 q3=>?_
 clear Sq
 exact wpAny_release ⟨σ,H3,I3,q3⟩
def Su(te:TE)(g:TG):TS:=fun D σ H=>te σ H fun x H1=>g x σ H1 D.nx
theorem GK{tg e:Expr}{te:TE}{g:TG}(he:PE X e te)(hg:PG X tg g)(hs:swapsWithSole [tg] e pos.line X.env=pure false:=by rfl)(hw:swappedStores [tg] e X.env=pure none:=by rfl)
  (h1:(assignEach [tg] X.env).map (·.2)=[assign tg X.env]:=by rfl):PS X (.Assign [tg] e pos) (Su te g):=by
 walk_at"?"
 refine wpAny_Assign_stores (fH (he pins s σ H _ I h) fun v s1 Sv=>?_) hs hw
 refine b8 Sv fun x H1 I1 r1 q1=>?_
 clear Sv
 rw[h1]
 exact fH (hg pins s1 σ H1 x v _ I1 r1 q1) fun _ s2 q=>q
theorem Od{i:Nat}{x:Str}{e:Expr}{te:TE}{pos':Pos}(hN:X.N.Nodup)(hi:X.N[i]?=some x)(hx:Loc X.env.scope x)(he:PE X e te)(hs:swapsWith e (some (.Name x pos')) pos.line X.env=pure false:=by rfl)(hf:X.fn x=true\/X.env.scope.names.lookup x=some .local:=by first | exact .inl rfl | exact .inr rfl | assumption) :
  PS X (.Assign [.Name x pos'] e pos) (Su te (Aw i)):=by
 walk_at"?"
 refine wpAny_Assign_Name (fH (he pins s σ H _ I h) fun v s1 Sw=>?_) hs
 refine b8 Sw fun y H1 I1 r1 q1=>?_
 clear Sw
 exact qY I1 hN hi hx r1 (fun s2 I2=>⟨_,H1,I2,q1⟩) hf
def Zb(i j:Nat)(ta:TA):TS:=fun D σ H=>ta σ H fun vs H1=>∃v w,vs=[v,w]/\D.nx ((σ.set i (some v)).set j (some w)) H1
theorem Oe{i j:Nat}{x y:Str}{a b:Expr}{ta:TA}{px py pt:Pos}{kt k2 Of}(hc:X.calm=true)(hN:X.N.Nodup)(hi:X.N[i]?=some x)(hj:X.N[j]?=some y)(qP:i≠j)
  (hx:X.env.scope.names.lookup x=some .local) (hy:X.env.scope.names.lookup y=some .local) (ha:PA X [a,b] ta)
  (hw:swappedStores [.Tuple [.Name x px,.Name y py] kt pt] (.Tuple [a,b] k2 Of) X.env=pure (some [x,y]))
  (hs:swapsWithSole [.Tuple [.Name x px,.Name y py] kt pt] (.Tuple [a,b] k2 Of) pos.line X.env=pure false:=by rfl) :
  PS X (.Assign [.Tuple [.Name x px,.Name y py] kt pt] (.Tuple [a,b] k2 Of) pos) (Zb i j ta):=by
 walk_at"?"
 rw[exec_Assign_arm]
 refine wpAny_bind (wpAny_standAt ?_)
 rw[hs]
 walk_at">"
 rw[if_neg (by decide)]
 refine wpAny_bind (Tuple_ (fH (ha _ pins s σ H _ I h) fun us s1 Sx=>?_))
 refine b8 Sx fun vs H1 I1 r1 q1=>?_
 clear Sx
 obtain ⟨v,w,e1,q1⟩:=q1
 subst e1
 obtain ⟨u1,u2,rfl,rv,GL⟩:∃u1 u2,us=[u1,u2]/\RelV v u1/\RelV w u2:=by
  cases r1 with
  | cons p q=>
   cases q with
   | cons p' q'=>
    cases q'
    exact⟨_,_,rfl,p,p'⟩
 refine wpAny_newObj_type ?_ (by show 2<=sizeLine;decide)
 have I2:Inv X pins σ H1 { s1 with heap:=s1.heap.push { cls:=.type "tuple",data:=.seq [u1,u2].toArray } }:=I1.kept (t':=s1.toks) fun b o e=>Heap.get?_push_of_some _ e
 rw[hw]
 walk_at">"
 show wpAny (model X.prog X.w) X.A (do rule "assign.swapped-stores";let items <- unpackItems (.ref s1.heap.objs.size) 2 none;assignInOrder [fun v=>bindName X.env y v,fun v=>bindName X.env x v] items.reverse;pure Flow.next) _ _ _
 refine wpAny_bind (wpAny_rule (wpAny_bind (unpackItems_tuple (items:=#[u1,u2]) (I.ok.hd hc) (IsTup.new s1.heap _) fun h' qS=>?_)))
 have I3:=I2.kept (h':=h') (t':=s1.toks) fun b o e=>qS b o (Nat.ne_of_lt (Heap.lt_size e)) e
 show wpAny _ _ (assignInOrder [fun v=>bindName X.env y v,fun v=>bindName X.env x v] [u2,u1]>>=fun _=>pure Flow.next) _ _ _
 refine wpAny_bind (assignInOrder_cons (wpAny_bindName (qY I3 hN hj (.inl hy) GL (fun s2 I4=>?_) (.inr hy))))
 refine assignInOrder_cons (wpAny_bindName (qY I4 hN hi (.inl hx) rv (fun s3 I5=>assignInOrder_nil (wpAny_pure ?_)) (.inr hx)))
 rw[List.set_comm _ _ (Ne.symm qP)] at I5
 exact⟨_,H1,I5,q1⟩
end
section
variable {X:Cx}{pos:Pos}
def Og(c:TT)(tb:TS):TS:=fun D σ H=>∃W:Nat->St->Hp->Prop,(∃m,W m σ H)/\∀m σ H,W m σ H->
 c σ H fun b H1=>if b=true then ∃N:St->Hp->Prop,(∀cH H',N cH H'->∃m',m' < m/\W m' cH H')/\tb { D with nx:=N,ct:=N,bk:=D.nx } σ H1 else D.nx σ H1
theorem GN{c:Expr}{body:List Stmt}{tc:TT}{tb:TS}(hp:PassesOwn (model X.prog X.w) X.A X.env X.xe)(hc:PT X c tc)(hb:sP X body tb):PS X (.While c body [] pos) (Og tc tb):=by
 walk_at"?"
 refine aN h fun W gM turn=>?_
 clear h
 obtain ⟨m0,w0⟩:=gM
 refine wpAny_While (codeAny_whileLoop (fun n s'=>∃cH H',Inv X pins cH H' s'/\W n cH H') ?_ m0 ⟨σ,H,I,w0⟩)
 rintro n s1 ⟨GJ,H1,I1,w1⟩
 refine wpAny_passesOwn hp (fH (hc pins s1 GJ H1 _ I1 (turn n GJ H1 w1)) fun b s2 Sy=>?_)
 refine aN Sy fun H2 I2 q2=>?_
 clear Sy
 cases b with
 | true=>
  obtain ⟨N,hN,q2⟩:=q2
  rw[if_pos rfl]
  refine wpAny_passesOwn hp (fH (hb pins s2 GJ H2 _ I2 q2) fun f s3 q3=>?_)
  cases f with
  | next=>
   refine cN q3 fun Ax H3 I3 n3=>?_
   clear q3
   refine aN (hN Ax H3 n3) fun m' hm w3=>?_
   exact⟨m',hm,Ax,H3,I3,w3⟩
  | cont=>
   refine cN q3 fun Ax H3 I3 n3=>?_
   clear q3
   refine aN (hN Ax H3 n3) fun m' hm w3=>?_
   exact⟨m',hm,Ax,H3,I3,w3⟩
  | brk=>exact q3
  | ret v=>exact q3
 | false=>
  rw[if_neg Bool.false_ne_true]
  exact wpAny_execs_nil ⟨GJ,H2,I2,q2⟩
end
structure It where
 go:Nat->Hp->Prop
 WC:Nat->Hp->V->Hp->Prop
 stop:Nat->Hp->Prop
def yU(X:Cx)(pins:List (Addr×Obj))(H:Hp)(b:Addr):Prop:=
 H b=none/\b≠X.env.locals/\b∉X.fs/\(b∈X.ex\/X.gK.heap.objs.size<=b)/\(∀x c,X.env.cells.lookup x=some c->c≠b)/\∀p∈X.pn++pins,p.1≠b
theorem Inv.GO{X:Cx}{pins:List (Addr×Obj)}{σ:St}{H H':Hp}{s:Shared}{b:Addr}(I:Inv X pins σ H s)(hb:s.heap.objs.size<=b)(hn:H' b=none):yU X pins H' b:=by
 refine⟨hn,Nat.ne_of_gt (Nat.lt_of_lt_of_le I.lt hb),I.YW hb,.inr (Nat.le_trans I.sz hb),fun x c e z=>?_,fun p hp z=>?_⟩
 ·obtain ⟨v,q⟩:=I.cell x c e
  exact absurd (Nat.lt_of_lt_of_le q.lt (by rw[z];exact hb)) (Nat.lt_irrefl _)
 ·exact absurd (Nat.lt_of_lt_of_le (Heap.lt_size (I.pin p hp).1) (by rw[z];exact hb)) (Nat.lt_irrefl _)
structure Turn(P:Program)(w:World)(K:PySem.W.Frag)(tg:Expr)(J:It)(fp:List Addr)(it:Addr)(tn:Nat->Heap->Prop):Prop where
 mem:it∈fp
 obj:∀i h,tn i h->∀b∈fp,∃o,h.get? b=some o/\∀v,o.data≠ .cell v
 keep:∀i h h',tn i h->(∀b∈fp,∀o,h.get? b=some o->h'.get? b=some o)->tn i h'
 item:∀(X:Cx),X.prog=P->X.w=w->X.K=K->X.calm=true->∀(i:Nat) (pins:List (Addr×Obj)) (s:Shared) (σ:St) (H:Hp) (E:Value->Shared->Prop),Inv X pins σ H s->(∀b∈fp,yU X pins H b)->tn i s.heap->J.go i H->
  wpAny (model P w) X.A (pyNext (.ref it)) (fun r s1=>∃u,r=some u/\
   wpAny (model P w) X.A (letOwnedTupleGo tg (.ref it) u) (fun _ s2=>∃x H',Inv X pins σ H' s2/\RelV x u/\J.WC i H x H'/\tn (i+1) s2.heap/\∀b∈fp,H' b=none) E s1) E s
 done:∀(X:Cx),X.prog=P->X.w=w->X.K=K->X.calm=true->∀(i:Nat) (pins:List (Addr×Obj)) (s:Shared) (σ:St) (H:Hp) (E:Value->Shared->Prop),Inv X pins σ H s->(∀b∈fp,yU X pins H b)->tn i s.heap->J.stop i H->
  wpAny (model P w) X.A (pyNext (.ref it)) (fun r s1=>r=none/\Inv X pins σ H s1) E s
 self:∀(A:Around) (i:Nat) (s:Shared) (Q:Value->Shared->Prop) (E:Value->Shared->Prop),tn i s.heap->Q (.ref it) s->wpAny (model P w) A (pyIter (.ref it)) Q E s
abbrev TI:=St->Hp->(It->Hp->Prop)->Prop
def PIE(X:Cx)(pins:List (Addr×Obj))(σ:St)(tg:Expr)(R:It->Hp->Prop)(WD:Value)(s2:Shared):Prop:=
 ∃(it:Addr) (fp:List Addr) (tn:Nat->Heap->Prop) (J:It) (H':Hp),WD = .ref it/\Inv X pins σ H' s2/\Turn X.prog X.w X.K tg J fp it tn/\tn 0 s2.heap/\(∀b∈fp,yU X pins H' b)/\R J H'
def PI(X:Cx)(tg iter:Expr)(wi:TI):Prop:=
 ∀(pins:List (Addr×Obj)) (s:Shared) (σ:St) (H:Hp) (R:It->Hp->Prop),Inv X pins σ H s->wi σ H R->
  wpAny (model X.prog X.w) X.A (eval iter X.env) (fun v s1=>wpAny (model X.prog X.w) X.A (pyIter v) (PIE X pins σ tg R) X.xe s1) X.xe s
theorem GP{M:Model}{A:Around}{E:Value->Shared->Prop}{s:Shared}{tg:Expr}{it:Addr}{u:Value}{o:Obj}{n:String}{vs:Array Value}{Q:Unit->Shared->Prop}(ho:s.heap.get? it=some o)(hc:o.cls = .type n)(hd:o.data = .fields vs)
    (hn:["enumerate","zip","dict_itemiterator","dict_reverseitemiterator","odict_iterator","itertools.zip_longest","itertools.pairwise"].contains n=false) (hQ:Q () s):wpAny M A (letOwnedTupleGo tg (.ref it) u) Q E s:=by
  unfold letOwnedTupleGo
  cases tg <;> first
    | exact wpAny_pure hQ
    | (cases u <;> first
        | exact wpAny_pure hQ
        | (refine wpAny_bind (wpAny_load ho ?_)
           rw[hc,hd]
           show wpAny M A (if (["enumerate","zip","dict_itemiterator","dict_reverseitemiterator","odict_iterator","itertools.zip_longest","itertools.pairwise"].contains n&&vs[0]?==some (rawInt _))=true then _ else _) Q E s
           rw[if_neg (by intro h;rw[hn,Bool.false_and] at h;cases h)]
           exact wpAny_pure hQ))
def Itl(K:PySem.W.Frag)(a:Addr):It:=
 ⟨fun i H=>∃xs x,jJ K H a xs/\xs[i]?=some x,fun i H x H'=>H'=H/\∀xs,jJ K H a xs->xs[i]?=some x,fun i H=>∃xs,jJ K H a xs/\xs.length<=i⟩
def Itt(K:PySem.W.Frag)(a:Addr):It:=
 ⟨fun i H=>∃xs x,kT K H a xs/\xs[i]?=some x,fun i H x H'=>H'=H/\∀xs,kT K H a xs->xs[i]?=some x,fun i H=>∃xs,kT K H a xs/\xs.length<=i⟩
def Zc(lo:Int)(n:Nat):It:=⟨fun i _=>i < n,fun i H x H'=>H'=H/\x = .int (lo+i),fun i _=>n<=i⟩
theorem ED{P:Program}{w:World}{K:PySem.W.Frag}{tg:Expr}(a it:Addr):Turn P w K tg (Itl K a) [it] it (fun i h=>h.IsListIter it a i) where
 mem:=by simp
 obj:=fun i h st b hb=>by
  have e:b=it:=by simpa using hb
  subst e
  refine bQ st fun o e c d=>?_
  clear st
  exact⟨o,e,fun v z=>by rw[d] at z;cases z⟩
 keep:=fun i h h' st k=>st.at fun o e=>k it (by simp) o e
 item:=by
  walk_at"B"
  subst hP hw hK
  refine cN hg fun xs x hq hx=>?_
  clear hg
  refine bQ (I.list hq) fun bh rv p hz=>?_
  refine aN (rv.get hx) fun u hu ru=>?_
  walk_at"G"
  refine wpAny_pyNext_list_item st p.isList (x:=u) (by simpa using hu) fun h' st' sb=>?_
  walk_at"g"
  refine bQ (id st') fun o e c d=>?_
  exact⟨u,rfl,GP (s:={ s with heap:=h' }) e c d (by decide) ⟨x,H,I1,ru,⟨rfl,fun ys hy=>by rw[I.vh hy hq];exact hx⟩,st',fun b hb=>(hf b hb).1⟩⟩
 done:=by
  walk_at"B"
  subst hP hw hK
  refine aN hg fun xs hq hx=>?_
  clear hg
  refine bQ (I.list hq) fun bh rv p hz=>?_
  walk_at"G"
  have hl:=rv.length
  exact wpAny_pyNext_list_end (I.ok.hd hc) st p.isList (by simp;lia) fun h' eb=>⟨rfl,I.turned (t':=s.toks) (fun b o hb e=>eb b o hb e) f0 f1 f3 f4 f5⟩
 self:=fun _ _ _ _ _ st h=>wpAny_pyIter_listiter st h
theorem Cf{P:Program}{w:World}{K:PySem.W.Frag}{tg:Expr}(a it:Addr):Turn P w K tg (Itt K a) [it] it (fun i h=>h.IsTupleIter it a i) where
 mem:=by simp
 obj:=fun i h st b hb=>by
  have e:b=it:=by simpa using hb
  subst e
  refine bQ st fun o e c d=>?_
  clear st
  exact⟨o,e,fun v z=>by rw[d] at z;cases z⟩
 keep:=fun i h h' st k=>st.at fun o e=>k it (by simp) o e
 item:=by
  walk_at"B"
  subst hP hw hK
  refine cN hg fun xs x hq hx=>?_
  clear hg
  refine bQ (I.tuple hq) fun bh rv p hz=>?_
  refine aN (rv.get hx) fun u hu ru=>?_
  walk_at"G"
  refine wpAny_pyNext_tuple_item st (show s.heap.IsTuple a bh.toArray from p) (x:=u) (by simpa using hu) fun h' st' sb=>?_
  walk_at"g"
  refine bQ (id st') fun o e c d=>?_
  exact⟨u,rfl,GP (s:={ s with heap:=h' }) e c d (by decide) ⟨x,H,I1,ru,⟨rfl,fun ys hy=>by rw[I.EC hy hq];exact hx⟩,st',fun b hb=>(hf b hb).1⟩⟩
 done:=by
  walk_at"B"
  subst hP hw hK
  refine aN hg fun xs hq hx=>?_
  clear hg
  refine bQ (I.tuple hq) fun bh rv p hz=>?_
  walk_at"G"
  have hl:=rv.length
  exact wpAny_pyNext_tuple_end (I.ok.hd hc) st (show s.heap.IsTuple a bh.toArray from p) (by simp;lia) fun h' eb=>⟨rfl,I.turned (t':=s.toks) (fun b o hb e=>eb b o hb e) f0 f1 f3 f4 f5⟩
 self:=fun _ _ _ _ _ st h=>wpAny_pyIter_tupleiter st h
theorem Cg{P:Program}{w:World}{K:PySem.W.Frag}{tg:Expr}(it:Addr)(lo:Int)(n:Nat):Turn P w K tg (Zc lo n) [it] it (fun i h=>IsRangeIter h it (lo+(i:Nat) * 1) ((n:Int) - (i:Nat)) 1) where
 mem:=by simp
 obj:=fun i h st b hb=>by
  have e:b=it:=by simpa using hb
  subst e
  exact⟨_,st,fun v z=>by
   have z':Data.fields _=Data.cell v:=z
   cases z'⟩
 keep:=fun i h h' st k=>k it (by simp) _ st
 item:=by
  walk_at"B"
  subst hP hw hK
  walk_at"G"
  have W:=Walks.range (prog:=X.prog) (w:=X.w) (I.ok.hd hc) it lo 1 n
  refine W.item i s _ _ hg st fun v h' tk hv st' kk=>?_
  obtain ⟨t,rfl⟩:=hv
  have I1:Inv X pins σ H { s with heap:=h',toks:=tk }:=I.turned (fun b o hb e=>kk b o (by simpa using hb) e) f0 f1 f3 f4 f5
  refine⟨_,rfl,GP (s:={ s with heap:=h',toks:=tk }) (n:="range_iterator") st' rfl rfl (by decide) ⟨.int (lo+i),H,I1,⟨t,?_⟩,⟨rfl,rfl⟩,st',fun b hb=>(hf b hb).1⟩⟩
  rw[Int.mul_one]
 done:=by
  walk_at"B"
  subst hP hw hK
  walk_at"G"
  exact wpAny_pyNext_range_end (I.ok.hd hc) st (by have:n<=i:=hg;lia) fun h' eb=>⟨rfl,I.turned (t':=s.toks) (fun b o hb e=>eb b o hb e) f0 f1 f3 f4 f5⟩
 self:=fun _ _ _ _ _ st h=>wpAny_pyIter_rangeiter st h
end L2
namespace L2
open PySem PySem.Spec PyProof.Rows
section
variable {X:Cx}{tg:Expr}
def Sz(K:PySem.W.Frag)(tl:TE):TI:=fun σ H R=>tl σ H fun x H1=>∃a,x = .ref a/\(∃xs,jJ K H1 a xs)/\R (Itl K a) H1
def Zd(K:PySem.W.Frag)(tl:TE):TI:=fun σ H R=>tl σ H fun x H1=>∃a,x = .ref a/\(∃xs,kT K H1 a xs)/\R (Itt K a) H1
theorem Dv{l:Expr}{tl:TE}(hl:PE X l tl):PI X tg l (Sz X.K tl):=by
 intro pins s σ H R I h
 refine fH (hl pins s σ H _ I h) fun v s1 SA=>?_
 refine b8 SA fun x H1 I1 r1 q1=>?_
 clear SA
 refine bQ q1 fun a e aV q=>?_
 clear q1
 obtain ⟨xs,hq⟩:=aV
 subst e
 cases r1
 refine bQ (I1.list hq) fun bh rv p hz=>?_
 refine wpAny_pyIter_list p.isList ?_
 refine⟨s1.heap.objs.size,[s1.heap.objs.size],_,_,H1,rfl,I1.kept (t':=s1.toks) fun b o e=>Heap.get?_push_of_some _ e,ED a _,⟨_,Heap.get?_push_size _ rfl,rfl,rfl⟩,fun b hb=>?_,q⟩
 have e:b=s1.heap.objs.size:=by simpa using hb
 subst e
 exact I1.GO (Nat.le_refl _) (I1.dS.fresh (Nat.le_refl _))
theorem Oh{l:Expr}{tl:TE}(hl:PE X l tl):PI X tg l (Zd X.K tl):=by
 intro pins s σ H R I h
 refine fH (hl pins s σ H _ I h) fun v s1 SD=>?_
 refine b8 SD fun x H1 I1 r1 q1=>?_
 clear SD
 refine bQ q1 fun a e aV q=>?_
 clear q1
 obtain ⟨xs,hq⟩:=aV
 subst e
 cases r1
 refine bQ (I1.tuple hq) fun bh rv p hz=>?_
 refine wpAny_pyIter_tuple (show s1.heap.IsTuple a bh.toArray from p) ?_
 refine⟨s1.heap.objs.size,[s1.heap.objs.size],_,_,H1,rfl,I1.kept (t':=s1.toks) fun b o e=>Heap.get?_push_of_some _ e,Cf a _,⟨_,Heap.get?_push_size _ rfl,rfl,rfl⟩,fun b hb=>?_,q⟩
 have e:b=s1.heap.objs.size:=by simpa using hb
 subst e
 exact I1.GO (Nat.le_refl _) (I1.dS.fresh (Nat.le_refl _))
theorem GQ{pins:List (Addr×Obj)}{σ:St}{H:Hp}{s:Shared}{R:It->Hp->Prop}{E:Value->Shared->Prop}{lo hi:Int}{t u v:Tok}{tk:Nat}(I:Inv X pins σ H s)(h1 : -(2 ^ 62)<=lo)(h2:lo < 2 ^ 62)(h3 : -(2 ^ 62)<=hi)(h4:hi < 2 ^ 62)
  (q:R (Zc lo (hi - lo).toNat) H):wpAny (model X.prog X.w) X.A (pyIter (.ref s.heap.objs.size)) (PIE X pins σ tg R) E { s with heap:=s.heap.push { cls:=.type "range",data:=.fields #[.int lo t,.int hi u,.int 1 v] },toks:=tk }:=by
 refine wpAny_pyIter_range (IsRange.new ..) (small_one h1 h2 h3 h4) ?_
 have I1:Inv X pins σ H { s with heap:=s.heap.push { cls:=.type "range",data:=.fields #[.int lo t,.int hi u,.int 1 v] },toks:=tk }:=I.kept fun b o e=>Heap.get?_push_of_some _ e
 refine⟨(s.heap.push { cls:=.type "range",data:=.fields #[.int lo t,.int hi u,.int 1 v] }).objs.size,[(s.heap.push { cls:=.type "range",data:=.fields #[.int lo t,.int hi u,.int 1 v] }).objs.size],_,_,H,rfl,
  I1.kept (t':=tk) fun b o e=>Heap.get?_push_of_some _ e,Cg _ lo (hi - lo).toNat,?_,fun b hb=>?_,q⟩
 ·have e1:lo+((0:Nat):Int) * 1=lo:=by simp
  have e2:(((hi - lo).toNat:Nat):Int) - ((0:Nat):Int)=Builtin.Range.rangeSize lo hi 1:=by rw[rangeSize_one];split <;> lia
  show IsRangeIter _ _ (lo+((0:Nat):Int) * 1) ((((hi - lo).toNat:Nat):Int) - ((0:Nat):Int)) 1
  rw[e1,e2]
  exact Heap.get?_push_size _ rfl
 ·have e:b=(s.heap.push { cls:=.type "range",data:=.fields #[.int lo t,.int hi u,.int 1 v] }).objs.size:=by simpa using hb
  subst e
  exact I1.GO (Nat.le_refl _) (I1.dS.fresh (Nat.le_refl _))
def SE(ta:TA):TI:=fun σ H R=>ta σ H fun vs H1=>∃j:Int,vs=[.int j]/\ -(2 ^ 62)<=j/\j < 2 ^ 62/\R (Zc 0 j.toNat) H1
theorem EE{a:Expr}{ta:TA}{p pos:Pos}(hg:Gl X "range")(hm:X.mg "range" =none)(ha:PA X [a] ta)(hs:starEach [a] X.env=[(false,eval a X.env)]:=by rfl):PI X tg (.Call (.Name "range" p) [a] [] pos) (SE ta):=by
 intro pins s σ H R I h
 refine Call_ (vg I hg hm boot_range (PyProof.Rows.callWith_type1 (fH (ha pos pins s σ H _ I h) fun us s1 SG=>?_) hs rfl))
 refine b8 SG fun vs H1 I1 r1 q1=>?_
 clear SG
 obtain ⟨j,e,q1,q2,q⟩:=q1
 subst e
 cases r1 with
 | cons r rr=>
  cases rr
  obtain ⟨t,rfl⟩:=r
  exact call_range_1 (GQ I1 (by lia) (by lia) q1 q2 (by simpa using q))
def Ze(wi:TI)(g:TG)(tb:TS):TS:=fun D σ H=>wi σ H fun J H1=>∃W:Nat->Nat->St->Hp->Prop,(∃m,W 0 m σ H1)/\∀i m σ H,W i m σ H->
 (J.stop i H/\D.nx σ H)\/(J.go i H/\∃N:St->Hp->Prop,(∀cH H',N cH H'->∃m',m' < m/\W (i+1) m' cH H')/\∀x H',J.WC i H x H'->g x σ H' fun yV H2=>tb { D with nx:=N,ct:=N,bk:=D.nx } yV H2)
def vm(fp:List Addr)(h:Heap):List (Addr×Obj):=fp.filterMap fun b=>(h.get? b).map fun o=>(b,o)
theorem lJ{fp:List Addr}{h:Heap}{b:Addr}{o:Obj}(hb:b∈fp)(e:h.get? b=some o):(b,o)∈vm fp h:=List.mem_filterMap.mpr ⟨b,hb,by rw[e];rfl⟩
theorem EF{fp:List Addr}{h:Heap}{p:Addr×Obj}(hp:p∈vm fp h):p.1∈fp/\h.get? p.1=some p.2:=by
 refine aN (List.mem_filterMap.mp hp) fun b hb e=>?_
 cases q:h.get? b with
 | none=>rw[q] at e;cases e
 | some o=>
  rw[q] at e
  have e':(b,o)=p:=Option.some.inj e
  subst e'
  exact⟨hb,q⟩
theorem Inv.pinned{pins:List (Addr×Obj)}{σ:St}{H:Hp}{s:Shared}{fp:List Addr}(I:Inv X pins σ H s)(hf:∀b∈fp,yU X pins H b)(ho:∀b∈fp,∃o,s.heap.get? b=some o/\∀v,o.data≠ .cell v):Inv X (pins++vm fp s.heap) σ H s:=
 I.qX fun p hp=>(List.mem_append.mp hp).elim (fun z=>I.pin p (List.mem_append_right _ z)) fun z=>by
  obtain ⟨hb,e⟩:=EF z
  refine Ad (hf p.1 hb) fun f0 f1 f2 _=>?_
  refine aN (ho p.1 hb) fun o e' d=>?_
  rw[e] at e';cases e'
  exact⟨e,f0,f1,f2,d⟩
theorem Inv.vn{pins pl:List (Addr×Obj)}{σ:St}{H:Hp}{s:Shared}(I:Inv X (pins++pl) σ H s):Inv X pins σ H s:=I.qX fun p hp=>I.pin p (List.mem_append_right _ (List.mem_append_left _ hp))
theorem Ci{iter:Expr}{body:List Stmt}{wi:TI}{g:TG}{tb:TS}{pos:Pos}(hp:PassesOwn (model X.prog X.w) X.A X.env X.xe)(hc:X.calm=true)(hi:PI X tg iter wi)(hg:PG X tg g)(hb:sP X body tb)
  (hs:∀x,foldedSetIterable iter X.env x=pure x:=by intro _;rfl):PS X (.For tg iter body [] pos) (Ze wi g tb):=by
 walk_at"?"
 refine wpAny_For (fH (hi pins s σ H _ I h) fun v s1 h1=>fH h1 fun WD s2 h2=>?_) hs
 obtain ⟨it,fp,tn,J,H2,e,I2,T,sE,f2,W,⟨m0,w0⟩,turn⟩:=h2
 subst e
 have Oi:∀{H':Hp},(∀b∈fp,H' b=none)->∀b∈fp,yU X pins H' b:=fun hn b hb=>⟨hn b hb,(f2 b hb).2⟩
 refine codeAny_forLoop_any (fun n s'=>∃i cH H',Inv X pins cH H' s'/\tn i s'.heap/\(∀b∈fp,H' b=none)/\W i n cH H') ?_ m0 ⟨0,σ,H2,I2,sE,fun b hb=>(f2 b hb).1,w0⟩
 rintro n s3 ⟨i,Ax,H3,I3,GR,fr3,w3⟩
 rcases turn i n Ax H3 w3 with ⟨stop,qn⟩ | ⟨go,N,hN,step⟩
 ·refine wpAny_passesOwn hp (fH (T.done X rfl rfl rfl hc i pins s3 Ax H3 X.xe I3 (Oi fr3) GR stop) fun r s4 Zf=>?_)
  obtain ⟨hr,I4⟩:=Zf
  subst hr
  exact wpAny_execs_nil ⟨Ax,H3,I4,qn⟩
 ·refine wpAny_passesOwn hp (fH (T.item X rfl rfl rfl hc i pins s3 Ax H3 X.xe I3 (Oi fr3) GR go) fun r s4 SH=>?_)
  refine aN SH fun u hr h4=>?_
  clear SH
  subst hr
  refine wpAny_passesOwn hp (fH h4 fun _ s5 SI=>?_)
  refine En SI fun x H5 I5 r5 y5 Ko fr5=>?_
  clear SI
  have I5':=I5.pinned (Oi fr5) (T.obj _ _ Ko)
  refine wpAny_passesOwn hp (fH (hg _ s5 Ax H5 x u _ I5' r5 (step x H5 y5)) fun _ s6 SJ=>?_)
  refine cN SJ fun Oj H6 I6 q6=>?_
  clear SJ
  refine wpAny_passesOwn hp (fH (hb _ s6 Oj H6 _ I6 q6) fun f s7 q7=>?_)
  have again:∀{GS:St} {H7:Hp},Inv X (pins++vm fp s5.heap) GS H7 s7->N GS H7->∃m,m < n/\∃i cH H',Inv X pins cH H' s7/\tn i s7.heap/\(∀b∈fp,H' b=none)/\W i m cH H':=fun {GS H7} I7 n7=>by
   refine aN (hN GS H7 n7) fun m' hm w7=>?_
   refine⟨m',hm,i+1,GS,H7,I7.vn,T.keep _ _ _ Ko fun b hb o e=>(I7.pin (b,o) (List.mem_append_right _ (List.mem_append_right _ (lJ hb e)))).1,fun b hb=>?_,w7⟩
   refine aN (T.obj _ _ Ko b hb) fun o e d=>?_
   exact(I7.pin (b,o) (List.mem_append_right _ (List.mem_append_right _ (lJ hb e)))).2.1
  cases f with
  | next=>obtain ⟨GS,H7,I7,n7⟩:=q7;exact again I7 n7
  | cont=>obtain ⟨GS,H7,I7,n7⟩:=q7;exact again I7 n7
  | brk=>obtain ⟨GS,H7,I7,q7⟩:=q7;exact⟨GS,H7,I7.vn,q7⟩
  | ret v=>obtain ⟨x7,GS,H7,I7,r7,q7⟩:=q7;exact⟨x7,GS,H7,I7.vn,r7,q7⟩
end
end L2
namespace L2
open PySem PySem.Spec PyProof.Rows
abbrev R2:=V->V->Hp->VK->Prop
def q9(X:Cx)(f:Value->Value->Sem Value)(r:R2):Prop:=
 ∀(pins:List (Addr×Obj)) (s:Shared) (σ:St) (H:Hp) (x y:V) (v u:Value) (Q:VK),Inv X pins σ H s->RelV x v->RelV y u->r x y H Q->
  wpAny (model X.prog X.w) X.A (f v u) (EP X pins σ Q) X.xe s
def nN(X:Cx)(f:Value)(r:List V->Hp->VK->Prop):Prop:=
 ∀(pins:List (Addr×Obj)) (s:Shared) (σ:St) (H:Hp) (xs:List V) (us:List Value) (Q:VK),Inv X pins σ H s->Vals xs us->r xs H Q->
  wpAny (model X.prog X.w) X.A (call f us) (EP X pins σ Q) X.xe s
def QX(r:R2)(ta tb:TE):TE:=fun σ H Q=>ta σ H fun x H1=>tb σ H1 fun y H2=>r x y H2 Q
def rI(C:Int->Int->Prop)(g:Int->Int->V):R2:=fun x y H Q=>∃i j,x = .int i/\y = .int j/\C i j/\Q (g i j) H
def G3(g:Int->Int->V):R2:=fun x y H Q=>∃i j,x = .int i/\y = .int j/\Q (g i j) H
section
variable {X:Cx}{a b c:Expr}{ta tb tc:TE}{pos:Pos}
theorem Ol(ha:PE X a ta)(hb:PE X b tb){pins:List (Addr×Obj)}{s:Shared}{σ:St}{H:Hp}{R:V->V->Hp->Prop}(I:Inv X pins σ H s)
  (h:ta σ H fun x H1=>tb σ H1 fun y H2=>R x y H2) {Q:Value->Shared->Prop} {f:Value->Value->Sem Value}
  (hf:∀v u s2 x y H2,Inv X pins σ H2 s2->RelV x v->RelV y u->R x y H2->wpAny (model X.prog X.w) X.A (f v u) Q X.xe s2) :
  wpAny (model X.prog X.w) X.A (eval a X.env) (fun v cR=>wpAny (model X.prog X.w) X.A (eval b X.env) (fun u Ka=>wpAny (model X.prog X.w) X.A (f v u) Q X.xe Ka) X.xe cR) X.xe s:=by
 refine fH (ha pins s σ H _ I h) fun v s1 SM=>?_
 refine b8 SM fun x H1 I1 r1 q1=>?_
 clear SM
 refine fH (hb pins s1 σ H1 _ I1 q1) fun u s2 SN=>?_
 refine b8 SN fun y H2 I2 r2 q2=>?_
 clear SN
 exact hf v u s2 x y H2 I2 r1 r2 q2
theorem SO{op:Operator}{r:R2}(ho:q9 X (binaryOp op) r)(ha:PE X a ta)(hb:PE X b tb):PE X (.BinOp a op b pos) (QX r ta tb):=by
 walk_at"<"
 exact wpAny_BinOp (Ol ha hb I h fun v u s2 x y H2 I2 rx ry q=>ho pins s2 σ H2 x y v u Q I2 rx ry q)
theorem Zg{f:Value->Value->Sem Value}{C:Int->Int->Prop}{g:Int->Int->Int}
  (rule:∀(i j:Int) (t u:Tok) (s:Shared) (Q:Value->Shared->Prop) (E:Value->Shared->Prop),C i j->Q (.int (g i j) s.toks) { s with toks:=s.toks+1 }->wpAny (model X.prog X.w) X.A (f (.int i t) (.int j u)) Q E s) :
  q9 X f (rI C fun i j=>.int (g i j)):=by
 walk_at"Q"
 refine ux h fun i j aV uz hc q=>?_
 clear h
 walk_at"#"
 obtain rfl:=uz
 obtain ⟨t,rfl⟩:=rx
 obtain ⟨t',rfl⟩:=ry
 exact rule i j t t' s _ _ hc ⟨.int (g i j),H,I.tok _,⟨_,rfl⟩,q⟩
theorem SQ{f:Value->Value->Sem Value}{g:Int->Int->Int}
  (rule:∀(i j:Int) (t u:Tok) (s:Shared) (Q:Value->Shared->Prop) (E:Value->Shared->Prop),Q (.int (g i j) s.toks) { s with toks:=s.toks+1 }->wpAny (model X.prog X.w) X.A (f (.int i t) (.int j u)) Q E s) :
  q9 X f (G3 fun i j=>.int (g i j)):=by
 walk_at"Q"
 refine b8 h fun i j aV uz q=>?_
 clear h
 walk_at"#"
 obtain rfl:=uz
 obtain ⟨t,rfl⟩:=rx
 obtain ⟨t',rfl⟩:=ry
 exact rule i j t t' s _ _ ⟨.int (g i j),H,I.tok _,⟨_,rfl⟩,q⟩
theorem Om{f:Value->Value->Sem Value}{g:Int->Int->Bool}
  (rule:∀(i j:Int) (t u:Tok) (s:Shared) (Q:Value->Shared->Prop) (E:Value->Shared->Prop),Q (.bool (g i j)) s->wpAny (model X.prog X.w) X.A (f (.int i t) (.int j u)) Q E s) :
  q9 X f (G3 fun i j=>.bl (g i j)):=by
 walk_at"Q"
 refine b8 h fun i j aV uz q=>?_
 clear h
 walk_at"#"
 obtain rfl:=uz
 obtain ⟨t,rfl⟩:=rx
 obtain ⟨t',rfl⟩:=ry
 exact rule i j t t' s _ _ ⟨.bl (g i j),H,I,rfl,q⟩
def SR(i j:Int):Prop:=0 < j/\j < 1073741824
def Kp(i j:Int):Prop:=(-(2 ^ 64) < i/\i < 2 ^ 64)\/(-(2 ^ 64) < j/\j < 2 ^ 64)
theorem Kp.ok{i j:Int}(h:Kp i j):IntMulOk i j:=by
 rcases h with ⟨h1,h2⟩ | ⟨h1,h2⟩
 ·exact .of_left (intBits_le_64 h1 h2)
 ·exact .of_right (intBits_le_64 h1 h2)
theorem dM:q9 X (binaryOp .Add) (G3 fun i j=>.int (i+j)):=SQ fun _ _ _ _ _ _ _ q=>add_int q
theorem qw:q9 X (binaryOp .Sub) (G3 fun i j=>.int (i - j)):=SQ fun _ _ _ _ _ _ _ q=>sub_int q
theorem vo:q9 X (binaryOp .Mult) (rI Kp fun i j=>.int (i * j)):=Zg fun _ _ _ _ _ _ _ hc q=>mul_int q hc.ok
theorem jK:q9 X (binaryOp .FloorDiv) (rI SR fun i j=>.int (i / j)):=Zg fun i j _ _ _ _ _ hc q=>by
 have h1:(0:Int) < j:=hc.1
 have h2:j < 1073741824:=hc.2
 exact floordiv_int (by lia) (by rw[Int.fdiv_eq_ediv_of_nonneg i (by lia)];exact q) (.inl (PyProof.noPylong_small (by lia)))
theorem iP:q9 X (binaryOp .Mod) (rI (fun _ j=>0 < j) fun i j=>.int (i % j)):=Zg fun i j _ _ _ _ _ hc q=>by
 have h1:(0:Int) < j:=hc
 exact mod_int' (by lia) (by rw[Int.fmod_eq_emod_of_nonneg i (by lia)];exact q)
end
section
variable {X:Cx}{a b c:Expr}{ta tb tc:TE}{pos:Pos}
theorem N9:q9 X (compareOp .Lt) (G3 fun i j=>.bl (decide (i < j))):=Om fun _ _ _ _ _ _ _ q=>lt_int q
theorem xW:q9 X (compareOp .LtE) (G3 fun i j=>.bl (decide (i<=j))):=Om fun _ _ _ _ _ _ _ q=>le_int q
theorem Dw:q9 X (compareOp .Gt) (G3 fun i j=>.bl (decide (j < i))):=Om fun _ _ _ _ _ _ _ q=>gt_int q
theorem dX(b:Expr){op:CmpOp}(h:op≠ .In:=by decide)(h2:op≠ .NotIn:=by decide):behindInMarks op b=false:=by
 have e1:(op==CmpOp.In)=false:=by cases op <;> first | rfl | exact absurd rfl h
 have e2:(op==CmpOp.NotIn)=false:=by cases op <;> first | rfl | exact absurd rfl h2
 cases b <;> simp[behindInMarks,e1,e2]
theorem Kq{op:CmpOp}{r:R2}(ho:q9 X (compareOp op) r)(ha:PE X a ta)(hb:PE X b tb)(hm:behindInMarks op b=false):PE X (.Compare a [op] [b] pos) (QX r ta tb):=by
 walk_at"<"
 exact wpAny_Compare1 (Ol ha hb I h fun v u s2 x y H2 I2 rx ry q=>ho pins s2 σ H2 x y v u Q I2 rx ry q) hm
def Na(t:TE):TT:=fun σ H Q=>t σ H fun x H'=>∃k,x = .bl k/\Q k H'
theorem Kr{op:CmpOp}{r:R2}(ho:q9 X (compareOp op) r)(ha:PE X a ta)(hb:PE X b tb)(hm:behindInMarks op b=false):PT X (.Compare a [op] [b] pos) (Na (QX r ta tb)):=by
 walk_at"<"
 refine wpAny_isTrue_Compare1 (fH (ha pins s σ H _ I h) fun v s1 Zh=>Zh.elim fun x Zi=>Zi.elim fun H1 Zj=>Zj.elim fun I1 Zk=>Zk.elim fun r1 q1=>fH (hb pins s1 σ H1 _ I1 q1) fun u s2 Zl=>Zl.elim fun y Zm=>Zm.elim fun H2 Zn=>Zn.elim fun I2 Zo=>Zo.elim fun r2 q2=>
  fH (ho pins s2 σ H2 x y v u _ I2 r1 r2 q2) fun c s3 Zp=>Zp.elim fun z Zq=>Zq.elim fun H3 Zr=>Zr.elim fun I3 Zs=>Zs.elim fun r3 Zt=>Zt.elim fun k Zu=>Zu.elim fun e q3=>?_) hm
 subst e
 cases r3
 exact wpAny_truthy_bool ⟨H3,I3,q3⟩
def Cj(r r':R2)(ta tb tc:TE):TE:=fun σ H Q=>ta σ H fun x H1=>tb σ H1 fun y H2=>r x y H2 fun z H3=>∃k,z = .bl k/\
 (if k=true then tc σ H3 fun w' H4=>r' y w' H4 Q else Q (.bl false) H3)
theorem GU{op Ck:CmpOp}{r r':R2}(ho:q9 X (compareOp op) r)(Aq:q9 X (compareOp Ck) r')(ha:PE X a ta)(hb:PE X b tb)(hc:PE X c tc)
  (hm:lastMarks [op,Ck] [b,c]=false:=by with_unfolding_all rfl):PE X (.Compare a [op,Ck] [b,c] pos) (Cj r r' ta tb tc):=by
 walk_at"<"
 refine Compare_chain (fH (ha pins s σ H _ I h) fun v s1 Zv=>Zv.elim fun x Zw=>Zw.elim fun H1 Zx=>Zx.elim fun I1 Zy=>Zy.elim fun r1 q1=>chain_link (fH (hb pins s1 σ H1 _ I1 q1) fun u s2 Zz=>Zz.elim fun y ZA=>ZA.elim fun H2 ZC=>ZC.elim fun I2 ZD=>ZD.elim fun r2 q2=>
  fH (ho pins s2 σ H2 x y v u _ I2 r1 r2 q2) fun d s3 ZE=>ZE.elim fun z ZF=>ZF.elim fun H3 ZG=>ZG.elim fun I3 ZH=>ZH.elim fun r3 ZI=>ZI.elim fun k ZJ=>ZJ.elim fun e q3=>?_)) hm
 subst e
 cases r3
 refine wpAny_truthy_bool ?_
 cases k with
 | false=>exact ite_ff ⟨.bl false,H3,I3,rfl,q3⟩
 | true=>exact ite_tt (chain_last (fH (hc pins s3 σ H3 _ I3 q3) fun w' s4 ZK=>ZK.elim fun z' ZL=>ZL.elim fun H4 ZM=>ZM.elim fun I4 ZN=>ZN.elim fun r4 q4=>Aq pins s4 σ H4 y z' u w' Q I4 r2 r4 q4))
theorem GV{op Ck:CmpOp}{r r':R2}(ho:q9 X (compareOp op) r)(Aq:q9 X (compareOp Ck) r')(ha:PE X a ta)(hb:PE X b tb)(hc:PE X c tc)
  (hm:lastMarks [op,Ck] [b,c]=false:=by with_unfolding_all rfl):PT X (.Compare a [op,Ck] [b,c] pos) (Na (Cj r r' ta tb tc)):=by
 walk_at"<"
 refine isTrue_chain (fH (ha pins s σ H _ I h) fun v s1 ZO=>ZO.elim fun x ZP=>ZP.elim fun H1 ZQ=>ZQ.elim fun I1 ZR=>ZR.elim fun r1 q1=>test_link (fH (hb pins s1 σ H1 _ I1 q1) fun u s2 ZS=>ZS.elim fun y ZT=>ZT.elim fun H2 ZU=>ZU.elim fun I2 SS=>SS.elim fun r2 q2=>
  fH (ho pins s2 σ H2 x y v u _ I2 r1 r2 q2) fun d s3 SV=>SV.elim fun z SX=>SX.elim fun H3 SY=>SY.elim fun I3 T4=>T4.elim fun r3 T5=>T5.elim fun k T6=>T6.elim fun e q3=>?_)) hm
 subst e
 cases r3
 refine wpAny_truthy_bool ?_
 cases k with
 | false=>
  refine aN q3 fun k' e' q'=>?_
  clear q3
  cases e'
  exact ite_ff ⟨H3,I3,q'⟩
 | true=>
  refine ite_tt (test_last (fH (hc pins s3 σ H3 _ I3 q3) fun w' s4 T7=>T7.elim fun z' T8=>T8.elim fun H4 T9=>T9.elim fun I4 Tc=>Tc.elim fun r4 q4=>fH (Aq pins s4 σ H4 y z' u w' _ I4 r2 r4 q4) fun d' s5 Td=>?_))
  obtain ⟨z2,H5,I5,r5,k2,e2,q5⟩:=Td
  subst e2
  cases r5
  exact wpAny_truthy_bool ⟨H5,I5,q5⟩
theorem Cm:(sizeLine:Nat) < 2 ^ 63:=by rw[sizeLine_eq];decide
theorem vals1{x:V}{us:List Value}(r:Vals [x] us):∃u,us=[u]/\RelV x u:=by
 cases r with
 | cons r1 r2=>cases r2;exact⟨_,rfl,r1⟩
theorem vals2{x y:V}{us:List Value}(r:Vals [x,y] us):∃u w',us=[u,w']/\RelV x u/\RelV y w':=by
 cases r with
 | cons r1 r2=>
  cases r2 with
  | cons r3 r4=>cases r4;exact⟨_,_,rfl,r1,r3⟩
theorem Ay:nN X (.builtin "abs") (fun xs H Q=>∃i,xs=[.int i]/\Q (.int (if i < 0 then -i else i)) H):=by
 intro pins s σ H xs us Q I r h
 refine aN h fun i gM q=>?_
 clear h
 walk_at"8"
 obtain ⟨u,rfl,t,rfl⟩:=vals1 r
 exact call_abs_int fun u tk=>⟨.int (if i < 0 then -i else i),H,I.tok _,⟨_,rfl⟩,q⟩
end
end L2
namespace L2
open PySem PySem.Spec PyProof.Rows
structure EG(h:Heap)(x dx C:Addr)(mA:Str->Option Value):Prop where
 obj:h.get? x=some (PySem.W.instObj C dx)
 ns:h.Ns1 dx mA
 ne:dx≠x
theorem EH{h:Heap}{dx:Addr}{mA:Str->Option Value}(n:h.Ns1 dx mA):∃od,h.get? dx=some od/\∀name,PySem.W.lookIn name od=some (mA name):=by
 refine Ae n fun o es ep ho hd hk _ hm=>?_
 clear n
 refine⟨o,ho,fun name=>?_⟩
 have e:=hm name
 unfold nsFind findBy at e
 rw[<- Array.find?_toList] at e
 unfold PySem.W.lookIn
 rw[hd]
 dsimp only
 split
 ·rename_i y q
  rw[q] at e
  exact congrArg some e
 ·rename_i q
  rw[q] at e
  have a:es.toList.any (·.refKey)=false:=by
   rw[List.any_eq_false]
   intro y hy
   refine qq (hk y (Array.mem_toList_iff.mp hy)) fun z t JU=>?_
   simp[DictEntry.refKey,JU]
  have a':¬ es.toList.any (·.refKey)=true:=by rw[a];exact Bool.false_ne_true
  rw[if_neg a']
  exact congrArg some e
theorem EG.look{h:Heap}{x dx C:Addr}{mA:Str->Option Value}(I:EG h x dx C mA):∃od,PySem.W.InstAt h x (PySem.W.instObj C dx) C (some od)/\∀name,PySem.W.lookIn name od=some (mA name):=
 let ⟨od,ho,hl⟩:=EH I.ns
 ⟨od,⟨I.obj,rfl,rfl,ho⟩,hl⟩
section
variable {prog:Program}{w:World}{A:Around}{E:Value->Shared->Prop}{s:Shared}{K:PySem.W.Frag}{x dx C f:Addr}{mA:Str->Option Value}{name:Str}{v:Value}
theorem get_map{expr:Bool}{Q:Value->Shared->Prop}(X:K.In s.heap)(I:EG s.heap x dx C mA)(hg:PySem.W.plainGet K C name=true)(hh:PySem.W.hasDictIn K C=true)
  (ha:PySem.W.findIn K (.ref C) name=some none) (hv:mA name=some v) (hv':PySem.W.handedIn v=true) (h:Q v { s with toks:=s.toks+1 }) :
  wpAny (model prog w) A (getAttr (.ref x) name expr) Q E s:=by
 refine aN I.look fun od J hl=>?_
 exact PySem.W.get_value X J (PySem.W.plainGet_of hg).1 (PySem.W.findObj_own hh ha rfl (by rw[hl,hv])) hv' h
theorem Ks{ns:List Str}{Q:Unit->Shared->Prop}(X:K.In s.heap)(I:EG s.heap x dx C mA)
  (hs:PySem.W.findIn K (.ref C) "__setattr__" =some (some (.builtin "object.__setattr__"))) (hp:PySem.W.plainOver K C=true) (ht:PySem.W.takerIn K C name=some none) (hh:PySem.W.hasDictIn K C=true)
  (hw:PySem.Within mA ns) (hsz:ns.length<=sizeLine)
  (h:∀h',EG h' x dx C (fun y=>if y=name then some v else mA y)->Heap.SameBut dx s.heap h'->Q () { s with heap:=h',toks:=s.toks+2 }) :
  wpAny (model prog w) A (setAttr (.ref x) name v) Q E s:=by
 refine aN I.look fun od J hl=>?_
 refine PySem.W.set_plain X J hs (PySem.W.osa_open (s:={ s with toks:=s.toks+1 }) (r:=none) X J hp ht fun b=>?_)
 refine aN (PySem.W.any_some hh) fun cd hc JK=>?_
 have hx:s.heap.get? x=some ⟨.ref C,some dx,.plain,#[]⟩:=I.obj
 refine wpAny_bind (wpAny_pure (wpAny_bind (wpAny_bind (wpAny_loadPart hx (wpAny_bind (PySem.W.Looks.here (s:={ s with toks:=s.toks+1 }) (PySem.W.looks_clsIn X hc) ?_))))))
 rw[JK]
 refine wpAny_pure (a:=some dx) (wpAny_bind (wpAny_pure (wpAny_bind ?_)))
 refine wpAny_nsSet1 (s:={ s with toks:=s.toks+1 }) I.ns fun h' WE Oo=>?_
 refine NF (WE.count (PySem.Within.cons name v hw)) fun oD esD epD hoD hdD hcD=>?_
 refine wpAny_bind (wpAny_lookBehind hoD (by rw[hdD];exact pastItsLine_dict (Nat.le_trans hcD (by rw[List.length_cons];lia))) ?_)
 exact wpAny_pure (h _ ⟨(Oo.2 _ (Ne.symm I.ne)).trans I.obj,WE,I.ne⟩ Oo)
theorem GW{R:Result->Shared->Prop}{vs:List Value}{kw:List (Str×Value)}(X:K.In s.heap)(hm:PySem.W.makesIn K C=true)
  (hi:PySem.W.findIn K (.ref C) "__init__" =some (some (.ref f))) (hf:PySem.W.typeIn K (.ref f)=some (.type "function"))
  (h:codeAny (model prog w) (A.under (.builtin "type.__call__" ⟨.ref C::vs,kw⟩)) (.call (.ref f) ⟨.ref (s.heap.objs.size+1)::vs,kw⟩) (PySem.W.InitBack (s.heap.objs.size+1) R)
   { s with heap:=(s.heap.push PySem.W.emptyDict).push (PySem.W.instObj C s.heap.objs.size) }) :
  codeAny (model prog w) A (.call (.ref C) ⟨vs,kw⟩) R s:=by
 obtain ⟨hh,g,d,t,os⟩:=s
 exact PySem.W.make_core (PySem.W.makes_of X hm) (PySem.W.looks_findIn X hi) (fun self=>PySem.W.bind_fn X self hf) (.inl rfl) h
end
def nO(f:Str)(v:V):List (Str×V)->List (Str×V)
 | []=>[(f,v)]
 | (g,x)::r=>if g=f then (g,v)::r else (g,x)::nO f v r
theorem tX(f g:Str)(v:V):∀fs:List (Str×V),(nO f v fs).lookup g=if g=f then some v else fs.lookup g
 | []=>by
  show List.lookup g [(f,v)]=_
  by_cases h:g=f
  ·have hb:(g==f)=true:=beq_iff_eq.mpr h
   simp only[List.lookup,hb,if_pos h]
  ·have hb:(g==f)=false:=beq_eq_false_iff_ne.mpr h
   simp only[List.lookup,hb,if_neg h]
 | (k,x)::r=>by
  have ih:=tX f g v r
  walk_at"c"
  by_cases hk:k=f
  ·rw[if_pos hk]
   by_cases h:g=k
   ·have hb:(g==k)=true:=beq_iff_eq.mpr h
    simp only[List.lookup,hb,if_pos (h.trans hk)]
   ·have hb:(g==k)=false:=beq_eq_false_iff_ne.mpr h
    simp only[List.lookup,hb,if_neg (fun e:g=f=>h (e.trans hk.symm))]
  ·rw[if_neg hk]
   by_cases h:g=k
   ·have hb:(g==k)=true:=beq_iff_eq.mpr h
    simp only[List.lookup,hb,if_neg (fun e:g=f=>hk (h.symm.trans e))]
   ·have hb:(g==k)=false:=beq_eq_false_iff_ne.mpr h
    simp only[List.lookup,hb]
    exact ih
theorem sQ(f:Str)(v:V):∀fs:List (Str×V),f∈(nO f v fs).map (·.1)/\∀g,g∈fs.map (·.1)->g∈(nO f v fs).map (·.1)
 | []=>⟨by simp[nO],fun g h=>by simp at h⟩
 | (k,x)::r=>by
  obtain ⟨i1,i2⟩:=sQ f v r
  walk_at"c"
  by_cases hk:k=f
  ·rw[if_pos hk]
   subst hk
   exact⟨by simp,fun g h=>by simpa using h⟩
  ·rw[if_neg hk]
   refine⟨?_,fun g h=>?_⟩
   ·rw[List.map_cons]
    exact List.mem_cons_of_mem _ i1
   ·rw[List.map_cons] at h ⊢
    rcases List.mem_cons.mp h with e | e
    ·exact List.mem_cons.mpr (.inl e)
    ·exact List.mem_cons_of_mem _ (i2 g e)
theorem tY(f:Str)(v:V):∀fs:List (Str×V),(nO f v fs).length<=fs.length+1
 | []=>by simp[nO]
 | (k,x)::r=>by
  have ih:=tY f v r
  walk_at"c"
  by_cases hk:k=f
  ·rw[if_pos hk,List.length_cons,List.length_cons];lia
  ·rw[if_neg hk,List.length_cons,List.length_cons];lia
theorem Cc.some_of{v:V}{o:Option Value}(r:Cc (some v) o):∃u,o=some u/\RelV v u:=by
 cases o with
 | none=>exact(show False from r).elim
 | some u=>exact⟨u,rfl,r⟩
theorem EI{v:V}{u:Value}(r:RelV v u):PySem.W.handedIn u=true:=by
 cases v with
 | cz=>cases (show u=Value.none from r);rfl
 | bl b=>cases (show u=Value.bool b from r);rfl
 | int i=>obtain ⟨t,e⟩:=(show ∃t,u=Value.int i t from r);cases e;rfl
 | str x=>obtain ⟨t,e⟩:=(show ∃t,u=Value.str x t from r);cases e;rfl
 | Wv b=>obtain ⟨t,e⟩:=(show ∃t,u=Value.bytes b t from r);cases e;rfl
 | Ww b=>obtain ⟨t,e⟩:=(show ∃t,u=Value.float b t from r);cases e;rfl
 | ref a=>cases (show u=Value.ref a from r);rfl
 | ty n=>cases (show u=Value.type n from r);rfl
section
variable {P:Program}{w:World}{H H':Hp}{h h':Heap}{a C dx:Addr}{fs fs':List (Str×V)}
theorem qU(dS:sN P w H h)(e:H a=some (.ins C dx fs)):∃mA,EG h a dx C mA/\(∀f,Cc (fs.lookup f) (mA f))/\PySem.Within mA (fs.map (·.1))/\fs.length<=1000/\H dx=some (.own a):=by
 obtain ⟨d,z,ne,ob,mA,n,r,q⟩:=(show fT P w H h a (.ins C dx fs) from dS a _ e)
 exact⟨mA,⟨ob,n,ne⟩,r,q,z,d⟩
end
structure GX(K:PySem.W.Frag)(C:Addr):Prop where
 pg:PySem.W.plainGet K C Str.empty=true
 hd:PySem.W.hasDictIn K C=true
 po:PySem.W.plainOver K C=true
 sa:PySem.W.findIn K (.ref C) "__setattr__" =some (some (.builtin "object.__setattr__"))
theorem GX.get{K:PySem.W.Frag}{C:Addr}(c:GX K C)(f:Str):PySem.W.plainGet K C f=true:=c.pg
def jg(K:PySem.W.Frag)(C:Addr)(f:Str):Prop:=PySem.W.findIn K (.ref C) f=some none
theorem jg.Te{K:PySem.W.Frag}{C:Addr}{f:Str}(n:jg K C f):PySem.W.takerIn K C f=some none:=by
 unfold PySem.W.takerIn
 rw[show PySem.W.findIn K (.ref C) f=some none from n]
 rfl
section
variable {X:Cx}{pins:List (Addr×Obj)}{σ:St}{H:Hp}{s:Shared}{a C dx:Addr}{fs:List (Str×V)}{f:Str}{v:V}{A:Around}{E:Value->Shared->Prop}
theorem Cn{b:Bool}{Q:Value->Shared->Prop}(I:Inv X pins σ H s)(e:H a=some (.ins C dx fs))(c:GX X.K C)(n:jg X.K C f)(l:fs.lookup f=some v)
  (h:∀u s',Inv X pins σ H s'->RelV v u->Q u s'):wpAny (model X.prog X.w) A (getAttr (.ref a) f b) Q E s:=by
 refine JX (qU I.dS e) fun mA O r _ _ _=>?_
 obtain ⟨u,hu,ru⟩:=Cc.some_of (v:=v) (o:=mA f) (by rw[<- l];exact r f)
 exact get_map I.Ao O (c.get f) c.hd n hu (EI ru) (h u _ (I.tok _) ru)
theorem Co{y:V}{u:Value}{Q:Unit->Shared->Prop}(I:Inv X pins σ H s)(e:H a=some (.ins C dx fs))(c:GX X.K C)(n:jg X.K C f)(hl:fs.length < 1000)(ry:RelV y u)
  (h:∀s',Inv X pins σ (upd H a (.ins C dx (nO f y fs))) s'->Q () s'):wpAny (model X.prog X.w) A (setAttr (.ref a) f u) Q E s:=by
 refine JX (qU I.dS e) fun mA O r wi _ ho=>?_
 have hz:(fs.map (·.1)).length<=sizeLine:=by rw[List.length_map,sizeLine_eq];lia
 refine Ks I.Ao O c.sa c.po n.Te c.hd wi hz fun h' O' sb=>h _ ?_
 have hd:∃o,h'.get? dx=some o:=let ⟨o,_,_,e',_⟩:=O'.ns;⟨o,e'⟩
 refine I.write (x:=a) (e:=dx) (by rw[e];exact True.intro) (.inr ho) (fun b q hb z=>(sb.2 b hb).trans z) hd ?_
 refine⟨by rw[aY O.ne];exact ho,?_,O.ne,O'.obj,_,O'.ns,fun g=>?_,fun g hg=>?_⟩
 ·have:=tY f y fs;lia
 ·show Cc ((nO f y fs).lookup g) (if g=f then some u else mA g)
  rw[tX]
  by_cases q:g=f
  ·rw[if_pos q,if_pos q];exact ry
  ·rw[if_neg q,if_neg q];exact r g
 ·by_cases q:g=f
  ·rw[q];exact(sQ f y fs).1
  ·refine(sQ f y fs).2 g (wi g fun z=>hg ?_)
   show (if g=f then some u else mA g)=none
   rw[if_neg q];exact z
theorem Inv.made(I:Inv X pins σ H s):Inv X pins σ (upd (upd H s.heap.objs.size (.own (s.heap.objs.size+1))) (s.heap.objs.size+1) (.ins C s.heap.objs.size []))
  { s with heap:=(s.heap.push PySem.W.emptyDict).push (PySem.W.instObj C s.heap.objs.size) }:=by
 have e1:(s.heap.push PySem.W.emptyDict).get? s.heap.objs.size=some PySem.W.emptyDict:=Heap.get?_push_size s.heap rfl
 have e2:((s.heap.push PySem.W.emptyDict).push (PySem.W.instObj C s.heap.objs.size)).get? (s.heap.objs.size+1)=some (PySem.W.instObj C s.heap.objs.size):=by
  have:=Heap.get?_push_size (s.heap.push PySem.W.emptyDict) (o:=PySem.W.instObj C s.heap.objs.size) rfl
  rwa [Heap.size_push] at this
 have e3:(s.heap.push PySem.W.emptyDict).Ns s.heap.objs.size (fun _=>none):=⟨PySem.W.emptyDict,#[],_,e1,rfl,(fun e he=>absurd he (by simp)),fun _=>rfl⟩
 have I1:=I.laid (a:=s.heap.objs.size) (o:=.own (s.heap.objs.size+1)) (h':=s.heap.push PySem.W.emptyDict) (t':=s.toks) (fun b u q=>Heap.get?_push_of_some _ q) (Nat.le_refl _) ⟨_,e1⟩
 refine I1.laid (a:=s.heap.objs.size+1) (o:=.ins C s.heap.objs.size []) (t':=s.toks) (fun b u q=>Heap.get?_push_of_some _ q) (Nat.le_of_eq (Heap.size_push _ _)) ?_
 have ne:s.heap.objs.size≠s.heap.objs.size+1:=Nat.ne_of_lt (Nat.lt_succ_self _)
 refine⟨by rw[aY ne,bM],Nat.zero_le _,ne,e2,fun _=>none,(Heap.Ns1.of_empty e3).at fun o q=>Heap.get?_push_of_some _ q,fun _=>True.intro,fun y hy=>absurd rfl hy⟩
theorem Ku{prog:Program}{w:World}{env:Env}{e:Expr}{f:Str}{pos:Pos}{s:Shared}{Q:Value->Shared->Prop}(hb:attributeBase e f env (eval e env)=eval e env)
  (h:wpAny (model prog w) A (eval e env) (fun o cR=>wpAny (model prog w) A (getAttr o f true) Q E cR) E s):wpAny (model prog w) A (eval (.Attribute e f pos) env) Q E s:=
 Attribute_any_ h (by rw[arm_eval_Attribute,hb])
end
def ZV(K:PySem.W.Frag)(ta:TE)(f:Str):TE:=fun σ H Q=>ta σ H fun x H1=>∃a C dx fs v,x = .ref a/\H1 a=some (.ins C dx fs)/\GX K C/\jg K C f/\fs.lookup f=some v/\Q v H1
def Tf(K:PySem.W.Frag)(ta tv:TE)(f:Str):TS:=fun D σ H=>tv σ H fun y H1=>ta σ H1 fun x H2=>∃a C dx fs,x = .ref a/\H2 a=some (.ins C dx fs)/\GX K C/\jg K C f/\fs.length < 1000/\
 D.nx σ (upd H2 a (.ins C dx (nO f y fs)))
section
variable {X:Cx}{o e value:Expr}{f:Str}{pos pos' ax2:Pos}{ta tv:TE}
theorem Oq(he:PE X e ta)(hb:attributeBase e f X.env (eval e X.env)=eval e X.env):PE X (.Attribute e f pos) (ZV X.K ta f):=by
 walk_at"<"
 refine Ku hb (fH (he pins s σ H _ I h) fun u s1 Tg=>?_)
 obtain ⟨x,H1,I1,rx,a,C,dx,fs,v,ex,ea,c,n,l,q⟩:=Tg
 subst ex
 obtain rfl:u=Value.ref a:=rx
 exact Cn I1 ea c n l fun u' s2 I2 ru=>⟨v,H1,I2,ru,q⟩
theorem Ot(ha:PE X o ta)(hv:PE X value tv)(hs:swapsWith value (some (.Attribute o f pos')) pos.line X.env=pure false):PS X (.Assign [.Attribute o f pos'] value pos) (Tf X.K ta tv f):=by
 walk_at"?"
 refine plainObj_wpAny_Assign_Attribute (fH (hv pins s σ H _ I h) fun u s1 Th=>Th.elim fun y Ti=>Ti.elim fun H1 Tj=>Tj.elim fun I1 Tn=>Tn.elim fun ry q=>fH (ha pins s1 σ H1 _ I1 q) fun ov s2 To=>?_) hs
 obtain ⟨x,H2,I2,rx,a,C,dx,fs,ex,ea,c,n,l,q2⟩:=To
 subst ex
 obtain rfl:ov=Value.ref a:=rx
 exact Co I2 ea c n l ry fun s3 I3=>⟨σ,_,I3,q2⟩
end
section
variable {X:Cx}{pins:List (Addr×Obj)}{σ:St}{H:Hp}{s:Shared}{A:Around}{E:Value->Shared->Prop}{Q:Value->Shared->Prop}{c:Value}{b:Bool}
end
end L2
namespace L2
open PySem PySem.Spec PyProof.Rows
structure i6(k:Nat)(A:Around):Prop where
 hd:A.handled=none
 dp:A.depth+3 * k+5 < recursionLimit
 un:A.units+16 * k+200 < cLine
theorem i6.mono{j k:Nat}{A:Around}(r:i6 k A)(h:j<=k):i6 j A:=⟨r.hd,by have:=r.dp;lia,by have:=r.un;lia⟩
theorem i6.deeper{k:Nat}{A:Around}(r:i6 (k+1) A)(env:Env):i6 k (A.deeper env):=
 ⟨r.hd,by have:=r.dp;show A.depth+1+3 * k+5 < _;lia,by have:=r.un;show A.units+3+16 * k+200 < _;lia⟩
theorem Cp{A:Around}{C:Addr}{us:List Value}{kw:List (Str×Value)}:(A.under (.builtin "type.__call__" ⟨.ref C::us,kw⟩)).depth=A.depth+1:=by
 first | rfl | simp[Around.under,Code.weight,Code.isCreation,Code.isGuard,Code.isCaller,Code.frames,Code.isFrame,guardIds]
theorem Cq{A:Around}{C:Addr}{us:List Value}{kw:List (Str×Value)}:(A.under (.builtin "type.__call__" ⟨.ref C::us,kw⟩)).units=A.units+1:=by
 first | rfl | simp[Around.under,Code.cUnits,Code.frames,Code.isFrame]
theorem i6.make{k:Nat}{A:Around}(r:i6 (k+1) A)(C:Addr)(us:List Value)(kw:List (Str×Value)):i6 k (A.under (.builtin "type.__call__" ⟨.ref C::us,kw⟩)):=
 ⟨r.hd,by have:=r.dp;rw[Cp];lia,by have:=r.un;rw[Cq];lia⟩
theorem i6.depth{k:Nat}{A:Around}(r:i6 k A):A.depth < recursionLimit:=by have:=r.dp;lia
theorem i6.units{k:Nat}{A:Around}(r:i6 k A):A.units+64 < cLine:=by have:=r.un;lia
def Cr:TA:=fun _ H Q=>Q [] H
def vp(ta:TE)(tr:TA):TA:=fun σ H Q=>ta σ H fun x H1=>tr σ H1 fun xs H2=>Q (x::xs) H2
section
variable {X:Cx}{e:Expr}{es:List Expr}{te:TE}{t:TA}{pos:Pos}
theorem fV:PA X [] Cr:=fun _ _ _ _ H Q I h=>Calls.spliced_nil ⟨[],H,I,.nil,h⟩
theorem cZ(ha:PE X e te)(hr:PA X es t)(hs:starEach (e::es) X.env=(false,eval e X.env)::starEach es X.env:=by rfl):PA X (e::es) (vp te t):=by
 intro pos pins s σ H Q I h
 rw[hs]
 show wpAny _ _ (spliced ((false,eval e X.env)::backTo pos (starEach es X.env))) _ _ s
 refine Calls.spliced_cons (fH (ha pins s σ H _ I h) fun u s1 Nb=>?_)
 refine b8 Nb fun x H1 I1 r1 q1=>?_
 clear Nb
 exact fH (hr pos pins s1 σ H1 _ I1 q1) fun us s2 Tp=>Tp.elim fun xs Tq=>Tq.elim fun H2 Tr=>Tr.elim fun I2 Tt=>Tt.elim fun r2 q2=>⟨x::xs,H2,I2,.cons r1 r2,q2⟩
def ZW(t:TA):TE:=fun σ H Q=>t σ H fun xs H1=>xs.length<=sizeLine/\∀p,H1 p=none->Q (.ref p) (upd H1 p (.tup xs))
def ZX(t:TA):TE:=fun σ H Q=>t σ H fun xs H1=>xs.length<=sizeLine/\∀p,H1 p=none->Q (.ref p) (upd H1 p (.lst xs))
theorem GY{x1}(h:PA X es t):PE X (.Tuple es x1 pos) (ZW t):=by
 intro pins s σ H Q I hq
 refine wpAny_Tuple_spliced (fH (h pos pins s σ H _ I hq) fun us s1 Tu=>Tu.elim fun xs Tv=>Tv.elim fun H1 Tw=>Tw.elim fun I1 Tz=>Tz.elim fun r TF=>TF.elim fun z q=>⟨by rw[<- r.length];exact z,?_⟩)
 have hf:H1 s1.heap.objs.size=none:=I1.dS.fresh (Nat.le_refl _)
 refine⟨.ref s1.heap.objs.size,upd H1 s1.heap.objs.size (.tup xs),I1.laid (t':=s1.toks) (fun b u e=>Heap.get?_push_of_some _ e) (Nat.le_refl _) ?_,rfl,q _ hf⟩
 exact⟨z,us,r,⟨_,Heap.get?_push_size _ rfl,rfl,_,rfl⟩⟩
theorem Ou(h:PA X es t):PE X (.List es pos) (ZX t):=by
 intro pins s σ H Q I hq
 refine wpAny_List_spliced (fH (h pos pins s σ H _ I hq) fun us s1 TH=>TH.elim fun xs TJ=>TJ.elim fun H1 TL=>TL.elim fun I1 TM=>TM.elim fun r TN=>TN.elim fun z q=>⟨by rw[<- r.length];exact z,?_⟩)
 have hf:H1 s1.heap.objs.size=none:=I1.dS.fresh (Nat.le_refl _)
 refine⟨.ref s1.heap.objs.size,upd H1 s1.heap.objs.size (.lst xs),I1.laid (t':=s1.toks) (fun b u e=>Heap.get?_push_of_some _ e) (Nat.le_refl _) ?_,rfl,q _ hf⟩
 exact⟨z,us,0,r,Heap.get?_push_size _ rfl⟩
end
abbrev Sp:=List V->Hp->VK->XK->Prop
abbrev EJ:=List Env->Hp->Shared->XK->Value->Shared->Prop
structure Cs(P:Program)(w:World)(K:PySem.W.Frag)(mg:Str->Option Value)(base:Heap)(A:Around)(outer:List Env)(s:Shared)(H:Hp):Prop where
 frames:A.frames=some outer
 mod:Mod K mg base
 bs:∀b o,base.get? b=some o->s.heap.get? b=some o/\H b=none
 JN:base.objs.size<=s.heap.objs.size
 sO:s.heap.FunFrames base outer
 N6:∀b∈ve outer,H b=none
 dS:sN P w H s.heap
 bare:AllBare s.gens
def CE(outer:List Env)(P:Program)(w:World)(H:Hp)(s:Shared)(Q:VK)(u:Value)(s':Shared):Prop:=
 ∃v H',s'.os=s.os/\AllBare s'.gens/\Un (ve outer) [] H H' s.heap s'.heap/\sN P w H' s'.heap/\RelV v u/\Q v H'
def CR(CX:EJ)(outer:List Env)(P:Program)(w:World)(H:Hp)(s:Shared)(Q:VK)(E:XK)(r:Result)(s':Shared):Prop:=
 match r with
 | .ok (.ret u)=>CE outer P w H s Q u s'
 | .ok _=>False
 | .error e=>CX outer H s E e s'
structure iQ(P:Program)(w:World)(K:PySem.W.Frag)(mg:Str->Option Value)(base:Heap)(CX:EJ)(k:Nat)(f:Addr)(fd:FuncData)(ps:List Str)(sp:Sp):Prop where
 len:∀vs H Q E,sp vs H Q E->vs.length=ps.length
 run:∀(A:Around) (outer:List Env) (s:Shared) (H:Hp) (args:Args) (us:List Value) (vs:List V) (Q:VK) (E:XK),i6 k A->Cs P w K mg base A outer s H->BindsTo s fd args (ps.zip us)->Vals vs us->sp vs H Q E->
  codeAny (model P w) A (.call (.ref f) args) (CR CX outer P w H s Q E) s
theorem iQ.mono{P:Program}{w:World}{K:PySem.W.Frag}{mg:Str->Option Value}{base:Heap}{CX:EJ}{j k:Nat}{f:Addr}{fd:FuncData}{ps:List Str}{sp:Sp}(F:iQ P w K mg base CX j f fd ps sp)(h:j<=k) :
  iQ P w K mg base CX k f fd ps sp:=⟨F.len,fun A outer s H args us vs Q E hr=>F.run A outer s H args us vs Q E (hr.mono h)⟩
theorem iQ.imp{P:Program}{w:World}{K:PySem.W.Frag}{mg:Str->Option Value}{base:Heap}{CX:EJ}{k:Nat}{f:Addr}{fd:FuncData}{ps:List Str}{sp sp':Sp}(F:iQ P w K mg base CX k f fd ps sp)
  (h:∀vs H Q E,sp' vs H Q E->sp vs H Q E):iQ P w K mg base CX k f fd ps sp':=
 ⟨fun vs H Q E q=>F.len vs H Q E (h _ _ _ _ q),fun A outer s H args us vs Q E hr he hb hv hs=>F.run A outer s H args us vs Q E hr he hb hv (h _ _ _ _ hs)⟩
theorem Cs.make{P:Program}{w:World}{K:PySem.W.Frag}{mg:Str->Option Value}{base:Heap}{A:Around}{outer:List Env}{s:Shared}{H:Hp}(e:Cs P w K mg base A outer s H)(C:Addr)(us:List Value)(kw:List (Str×Value)) :
  Cs P w K mg base (A.under (.builtin "type.__call__" ⟨.ref C::us,kw⟩)) outer s H:=⟨by first | exact e.frames | (simpa[Around.under,Code.envs,Code.isFrame,pushEnvs] using e.frames),e.mod,e.bs,e.JN,e.sO,e.N6,e.dS,e.bare⟩
section
variable {X:Cx}{pins:List (Addr×Obj)}{σ:St}{H:Hp}{s s':Shared}
theorem Inv.TQ(I:Inv X pins σ H s):Cs X.prog X.w X.K X.mg X.base X.A X.stack s H:=
 ⟨I.ok.frames,I.ok.mod,I.bs,Nat.le_trans I.ok.JN I.sz,I.stack,I.Ds,I.dS,I.bare⟩
theorem Inv.after{Q:VK}{u:Value}(I:Inv X pins σ H s)(h:CE X.stack X.prog X.w H s Q u s'):EP X pins σ Q u s':=by
 refine NG h fun v H' os bare un dS r q=>?_
 clear h
 obtain ⟨hh,g,d,t,os'⟩:=s'
 obtain rfl:os'=s.os:=os
 exact⟨v,H',I.call (h':=hh) (g':=g) (d':=d) (t':=t) (ch:=[]) un dS bare (fun b z=>absurd z (by simp)),r,q⟩
end
def Binds(K:PySem.W.Frag)(fd:FuncData)(ps:List Str)(ds:List Value):Prop:=
 ∀(s:Shared) (us:List Value),K.In s.heap->(us++ds).length=ps.length->BindsTo s fd ⟨us,[]⟩ (ps.zip (us++ds))
theorem Binds.all{K:PySem.W.Frag}{fd:FuncData}{ps:List Str}(h:∀us:List Value,us.length=ps.length->bindArgs fd ⟨us,[]⟩=pure (ps.zip us)):Binds K fd ps []:=fun s us _ hl=>by
 rw[List.append_nil] at hl ⊢
 exact .of_eq (h us hl)
section
variable {X:Cx}{CX:EJ}{k:Nat}{f C:Addr}{fd:FuncData}{ps:List Str}{sp:Sp}{dvs:List V}{ds:List Value}{E:XK}{x m:Str}{p pos apos:Pos}{e o:Expr}{es:List Expr}{ta:TE}{t:TA}
structure Mk(K:PySem.W.Frag)(C f:Addr):Prop where
 makes:PySem.W.makesIn K C=true
 init:PySem.W.findIn K (.ref C) "__init__" =some (some (.ref f))
 fn:PySem.W.isFn K (.ref f)=true
 kp:PySem.W.keepIn K (.ref C)=true
end
section
variable {X:Cx}{CX:EJ}{k:Nat}{f C:Addr}{fd:FuncData}{ps ks:List Str}{sp:Sp}{E:XK}{x m:Str}{p pos apos ax3:Pos}{e o:Expr}{es:List Expr}{kws:List Keyword}{te ta:TE}{t tk:TA}{nm:Option Str}
variable {g:List Value->List Value->List Value}{gV:List V->List V->List V}
end
structure br(N P:List Str)(sc:Scope):Prop where
 kind:sc.kind = .function
 co:sc.isCoroutine=false
 gen:sc.isGenerator=false
 nd:N.Nodup
 pre:N.take P.length=P
 par:∀x∈P,sc.names.lookup x=some .local\/sc.names.lookup x=some .cell
 Ov:∀y∈sc.names,y.2≠ .free
theorem xX{kindOf:Str->Option NameKind}{x:Str}:∀{binds:List (Str×Value)} {m:Str->Option Value},(∀v,(x,v)∉binds)->bindL kindOf binds m x=m x
 | [],_,_=>rfl
 | (n,v)::r,m,h=>by
  unfold bindL
  rw[xX fun w hw=>h w (List.mem_cons_of_mem _ hw)]
  split
  ·have:x≠n:=by rintro rfl;exact h v List.mem_cons_self
   simp[this]
  ·rfl
theorem xY{kindOf:Str->Option NameKind}{x:Str}:∀{binds:List (Str×Value)} {m:Str->Option Value},(∀v,(x,v)∉binds)->bindC kindOf binds m x=m x
 | [],_,_=>rfl
 | (n,v)::r,m,h=>by
  unfold bindC
  rw[xY fun w hw=>h w (List.mem_cons_of_mem _ hw)]
  split
  ·rfl
  ·have:x≠n:=by rintro rfl;exact h v List.mem_cons_self
   simp[this]
theorem xZ{kindOf:Str->Option NameKind}{x:Str}{v:Value}:∀{P:List Str} {vs:List Value} {i:Nat} {m:Str->Option Value},P.Nodup->P[i]?=some x->vs[i]?=some v->kindOf x=some .local->
  bindL kindOf (P.zip vs) m x=some v
 | [],_,_,_,_,h,_,_=>by simp at h
 | _::_,[],_,_,_,_,h,_=>by simp at h
 | p::P,w::vs,0,m,nd,h1,h2,hk=>by
  simp at h1 h2;subst h1;subst h2
  show bindL kindOf ((p,w)::P.zip vs) m p=_
  unfold bindL
  rw[xX fun v hv=>(List.nodup_cons.mp nd).1 (List.of_mem_zip hv).1,if_pos hk]
  simp
 | p::P,w::vs,i+1,m,nd,h1,h2,hk=>by
  show bindL kindOf ((p,w)::P.zip vs) m x=_
  unfold bindL
  exact xZ (i:=i) (List.nodup_cons.mp nd).2 (by simpa using h1) (by simpa using h2) hk
theorem y9{kindOf:Str->Option NameKind}{x:Str}{v:Value}:∀{P:List Str} {vs:List Value} {i:Nat} {m:Str->Option Value},P.Nodup->P[i]?=some x->vs[i]?=some v->kindOf x≠some .local->
  bindC kindOf (P.zip vs) m x=some v
 | [],_,_,_,_,h,_,_=>by simp at h
 | _::_,[],_,_,_,_,h,_=>by simp at h
 | p::P,w::vs,0,m,nd,h1,h2,hk=>by
  simp at h1 h2;subst h1;subst h2
  show bindC kindOf ((p,w)::P.zip vs) m p=_
  unfold bindC
  rw[xY fun v hv=>(List.nodup_cons.mp nd).1 (List.of_mem_zip hv).1,if_neg hk]
  simp
 | p::P,w::vs,i+1,m,nd,h1,h2,hk=>by
  show bindC kindOf ((p,w)::P.zip vs) m x=_
  unfold bindC
  exact y9 (i:=i) (List.nodup_cons.mp nd).2 (by simpa using h1) (by simpa using h2) hk
def start(N:List Str)(vs:List V):St:=vs.map some++List.replicate (N.length - vs.length) none
def pT(CX:EJ)(P:Program)(w:World)(K:PySem.W.Frag)(mg:Str->Option Value)(base:Heap)(N:List Str)(qual:Str)(scope:Scope)(f:Addr)(cd:Value)(A:Around)(outer:List Env)(s:Shared)(H:Hp)(E:XK):Cx where
 prog:=P
 w:=w
 K:=K
 mg:=mg
 base:=base
 A:=A.deeper (envOfC qual scope s.heap.objs.size f cd)
 N:=N
 gK:=s
 GD:=H
 env:=envOfC qual scope s.heap.objs.size f cd
 outer:=outer
 stack:=envOfC qual scope s.heap.objs.size f cd::outer
 ex:=[]
 calm:=true
 fn:=fun _=>true
 pn:=[]
 xe:=fun e s'=>wpAny (model P w) (A.deeper (envOfC qual scope s.heap.objs.size f cd)) (leaving (envOfC qual scope s.heap.objs.size f cd) e) (fun _ Kv=>CX outer H s E e Kv) (fun e' Kv=>CX outer H s E e' Kv) s'
theorem Az{sc:Scope}{n:Nat}{x:Str}(h:sc.names.lookup x=some .cell):∃c,(cellsFrom n sc.names []).lookup x=some c:=by
 have q:=PySem.W.cellsFrom_some sc.names n [] (.inl h)
 exact Option.isSome_iff_exists.mp q
theorem EK{CX:EJ}{P:Program}{w:World}{K:PySem.W.Frag}{mg:Str->Option Value}{base:Heap}{N ps:List Str}{qual:Str}{scope:Scope}{f:Addr}{cd:Value}{A:Around}{outer:List Env}{s s1:Shared}{H:Hp}{E:XK}{us:List Value}{vs:List V}
  (S:br N ps scope) (hd:A.handled=none) (e0:Cs P w K mg base A outer s H) (hl:vs.length=ps.length) (r:Vals vs us)
  (x:InCallC s s.heap.objs.size (bindL (envOfC qual scope s.heap.objs.size f cd).kindOf (ps.zip us) fun _=>none) (cellsFrom (s.heap.objs.size+1) scope.names []) (bindC (envOfC qual scope s.heap.objs.size f cd).kindOf (ps.zip us) fun _=>none) s1) :
  Inv (pT CX P w K mg base N qual scope f cd A outer s H E) [] (start N vs) H s1:=by
 have v7:ps.length<=N.length:=by have:=congrArg List.length S.pre;rw[List.length_take] at this;lia
 refine cN x.done fun h1 tk aV hk=>?_
 walk_at"#"
 have TR:∀b:Addr,b∉(pT CX P w K mg base N qual scope f cd A outer s H E).ex:=fun b z=>absurd (show b∈([]:List Addr) from z) (by simp)
 refine⟨⟨e0.mod,S.kind,rfl,rfl,Nat.le_refl _,fun y z c h1 h2=>?_,fun y hy=>?_,fun y c _ h=>?_,fun _=>hd,Around.frames_deeper e0.frames,.inr ⟨rfl,rfl⟩,fun b z=>absurd z (TR b),e0.bs,e0.JN,fun b _ _=>TR b,fun b z=>absurd z (TR b),e0.sO,e0.N6⟩,
  rfl,e0.bare,Un.kept hk,⟨_,x.toInCall.ns,fun i y v h1 h2 h3=>?_⟩,fun y c h=>⟨_,x.cell y c h⟩,e0.dS.fresh (Nat.le_refl _),fun y c h=>?_,fun p hp=>absurd (show p∈([]:List (Addr×Obj)) from hp) (by simp),e0.dS.kept hk,?_⟩
 ·exact name_of_addr x.apart (PySem.mem_of_lookup h1) (PySem.mem_of_lookup h2)
 ·have hy:scope.names.lookup y=some .cell\/scope.names.lookup y=some .free:=hy
  rcases hy with hy | hy
  ·exact Az hy
  ·exact absurd rfl (S.Ov _ (PySem.mem_of_lookup hy))
 ·exact Nat.le_of_lt (x.above y c (PySem.mem_of_lookup h))
 ·have hi:i < vs.length:=by
   unfold start at h2
   by_cases hi:i < vs.length
   ·exact hi
   ·rw[List.getElem?_append_right (by simpa using hi)] at h2
    rw[List.getElem?_replicate] at h2
    split at h2 <;> cases h2
  have ha:vs[i]?=some v:=by
   unfold start at h2
   rw[List.getElem?_append_left (by simpa using hi),List.getElem?_map] at h2
   cases e:vs[i]? with
   | none=>rw[e] at h2;cases h2
   | some a=>rw[e] at h2;cases h2;rfl
  refine aN (r.get ha) fun u hu rv=>?_
  have hp:ps[i]?=some y:=by
   rw[<- S.pre,List.getElem?_take_of_lt (by lia)];exact h1
  have ndP:ps.Nodup:=by rw[<- S.pre];exact S.nd.sublist (List.take_sublist _ _)
  refine⟨u,rv,?_⟩
  rcases S.par y (List.mem_of_getElem? hp) with k | k
  ·exact .inl ⟨k,xZ ndP hp hu k⟩
  ·obtain ⟨c,e⟩:=Az (n:=s.heap.objs.size+1) k
   refine .inr ⟨.inl k,c,e,?_⟩
   have q:=x.cell y c e
   rw[y9 ndP hp hu (by show scope.names.lookup y≠_;rw[k];decide)] at q
   exact q
 ·exact e0.dS.fresh (Nat.le_of_lt (x.above y c (PySem.mem_of_lookup h)))
 ·unfold start
  show _=N.length
  rw[List.length_append,List.length_map,List.length_replicate]
  lia
theorem TU{CX:EJ}{P:Program}{w:World}{K:PySem.W.Frag}{mg:Str->Option Value}{base:Heap}{k:Nat}{f:Addr}{name qual:Str}{params:Arguments}{body:List Stmt}{scope:Scope}{dV kV doc pm dU ct oc:Value}{an od:Option Addr}
  {G4:Array (Option Value)} {N ps:List Str} {sp:Sp} (lk:K.lookup f=some ⟨oc,od,.func (PySem.W.fnOf name qual params body scope dV kV doc pm an dU ct),G4⟩) (C0:PySem.W.codeIn K dU qual=true) (S:br N ps scope)
  (len:∀vs H Q E,sp vs H Q E->vs.length=ps.length)
  (AA:∀(A:Around) (outer:List Env) (s:Shared) (H:Hp) (vs:List V) (Q:VK) (E:XK),i6 k (A.deeper (envOfC qual scope s.heap.objs.size f dU))->sp vs H Q E->
   ∃t,sP (pT CX P w K mg base N qual scope f dU A outer s H E) body t/\t { nx:=fun _ H'=>Q .cz H',rt:=Q } (start N vs) H) :
  iQ P w K mg base CX (k+1) f (PySem.W.fnOf name qual params body scope dV kV doc pm an dU ct) ps sp:=by
 refine⟨len,fun A outer s H args us vs Q E hr e0 hb r QY=>?_⟩
 have hl:=len _ _ _ _ QY
 have KX:K.In s.heap:=e0.mod.S4.keeps fun b o e=>(e0.bs b o e).1
 have lim:s.heap.NoLimit:=e0.mod.nolimit.keeps fun b o e=>(e0.bs b o e).1
 have Gr:∀y∈ps.zip us,scope.names.lookup y.1=some .local\/(scope.names.lookup y.1=some .cell/\((cellsFrom (s.heap.objs.size+1) scope.names []).lookup y.1).isSome=true):=fun TV hy=>by
  obtain ⟨n,v⟩:=TV
  rcases S.par n (List.of_mem_zip hy).1 with q | q
  ·exact .inl q
  ·exact .inr ⟨q,PySem.W.cellsFrom_some _ _ _ (.inl q)⟩
 refine codeAny_call_function hr.depth (KX _ _ lk) rfl S.co S.gen rfl (PySem.W.codeRec_of KX C0) (hb _ _ _ _ ?_)
 refine wpAny_newFunctionEnv_cells S.kind Gr fun env he s1 x=>?_
 subst he
 refine⟨lim.keeps x.toInCall.keep,codeAny_func ?_⟩
 refine aN (AA A outer s H vs Q E (hr.deeper _) QY) fun t ht hq=>?_
 have I:Inv (pT CX P w K mg base N qual scope f dU A outer s H E) [] (start N vs) H s1:=EK S hr.hd e0 hl r x
 refine wpAny_mono (ht [] s1 (start N vs) H _ I hq) (fun fl s' hs=>?_) fun e s' hs=>hs
 have fin:∀{cH:St} {H':Hp} {v:V} {u:Value},Inv (pT CX P w K mg base N qual scope f dU A outer s H E) [] cH H' s'->RelV v u->Q v H'->CE outer P w H s Q u s':=
  fun {cH H' v u} J rv q=>⟨v,H',J.os,J.bare,J.base,J.dS,rv,q⟩
 cases fl with
 | ret u=>
  refine NF hs fun v cH H' J rv q=>?_
  clear hs
  exact fin J rv q
 | next=>
  refine cN hs fun cH H' J q=>?_
  clear hs
  exact fin (v:=V.cz) (u:=Value.none) J rfl q
 | brk=>
  refine cN hs fun _ _ _ q=>?_
  clear hs
  exact False.elim q
 | cont=>
  refine cN hs fun _ _ _ q=>?_
  clear hs
  exact False.elim q
end L2
namespace L2
open PySem PySem.Spec PyProof.Rows
section
variable {X:Cx}{x:Str}{p pos:Pos}{e:Expr}{es:List Expr}{t:TA}{id T:String}{r:List V->Hp->VK->Prop}
def QZ(r:List V->Hp->VK->Prop)(t:TA):TE:=fun σ H Q=>t σ H fun vs H1=>r vs H1 Q
theorem cu(hc:nN X (.builtin id) r)(hg:Gl X x)(hm:X.mg x=none)(hv:bootBuiltins x=some (.builtin id))(ha:PA X (e::es) t)(hn:x≠ "__name__":=by decide)(EL:(x==("__debug__" : Str))=false:=by decide)
  (he:starEach (e::es) X.env=(false,eval e X.env)::starEach es X.env:=by rfl) (v7:(backTo pos (starEach es X.env)).any (·.1)=false:=by rfl):PE X (.Call (.Name x p) (e::es) [] pos) (QZ r t):=by
 walk_at"<"
 refine wpAny_Call_Name_kw (vg I hg hm hv ?_ hn EL)
 exact PyProof.Rows.callWith_builtin1 (fH (ha pos pins s σ H _ I h) fun us s1 TX=>TX.elim fun vs TY=>TY.elim fun H1 TZ=>TZ.elim fun I1 U0=>U0.elim fun r1 q1=>hc pins s1 σ H1 vs us Q I1 r1 q1) he v7
theorem dg(hc:nN X (.type T) r)(hg:Gl X x)(hm:X.mg x=none)(hv:bootBuiltins x=some (.type T))(ha:PA X (e::es) t)(hn:x≠ "__name__":=by decide)(EL:(x==("__debug__" : Str))=false:=by decide)
  (he:starEach (e::es) X.env=(false,eval e X.env)::starEach es X.env:=by rfl) (v7:(backTo pos (starEach es X.env)).any (·.1)=false:=by rfl):PE X (.Call (.Name x p) (e::es) [] pos) (QZ r t):=by
 walk_at"<"
 refine wpAny_Call_Name_kw (vg I hg hm hv ?_ hn EL)
 exact PyProof.Rows.callWith_type1 (fH (ha pos pins s σ H _ I h) fun us s1 U1=>U1.elim fun vs U3=>U3.elim fun H1 U4=>U4.elim fun I1 U5=>U5.elim fun r1 q1=>hc pins s1 σ H1 vs us Q I1 r1 q1) he v7
end
end L2
namespace HT
open PySem PyProof.Rows
def lexLt:List Int->List Int->Bool
 | [],[]=>false
 | [],_::_=>true
 | _::_,[]=>false
 | x::xs,y::ys=>if x=y then lexLt xs ys else decide (x < y)
theorem cX(x y:Int)(xs ys:List Int):lexLt (x::xs) (y::ys)=if x=y then lexLt xs ys else decide (x < y):=rfl
theorem iA:lexLt [] []=false:=rfl
theorem nP(y:Int)(ys:List Int):lexLt [] (y::ys)=true:=rfl
theorem jh(x:Int)(xs:List Int):lexLt (x::xs) []=false:=rfl
theorem GZ(A:Around)(s:Shared)(a:Int)(t:Tok)(c:Int)(u:Tok)(prog:Program)(w:World)(E:Value->Shared->Prop)(Q:Value->Shared->Prop)(h:Q (.bool (decide (a < c))) s) :
  wpAny (model prog w) A (richCompare .Lt (.int a t) (.int c u)) Q E s:=
 (PyProof.Rows.lt_int h:wpAny (model prog w) A (compareOp .Lt (.int a t) (.int c u)) Q E s)
section
open PySem.SeqAt
open PySem.AutoSeq1 (wpAny_loadPart')
open PySem.MeetsSeq PySem.MeetsSeq2 PySem.MeetsSeq3
end
section
variable {prog:Program}{w:World}{A:Around}{E:Value->Shared->Prop}{s:Shared}
def ya(n d:Nat):Option Int->Nat
 | none=>d
 | some v=>if v < 0 then (v+(n:Int)).toNat else min v.toNat n
end
end HT
namespace L2
open PySem PySem.Spec PyProof.Rows
abbrev TO:=St->Hp->(Option Int->Hp->Prop)->Prop
def PO(X:Cx)(e:Option Expr)(t:TO):Prop:=
 ∀(pins:List (Addr×Obj)) (s:Shared) (σ:St) (H:Hp) (Q:Option Int->Hp->Prop),Inv X pins σ H s->t σ H Q->
  wpAny (model X.prog X.w) X.A (evalPart e X.env) (fun u s'=>∃o H',Inv X pins σ H' s'/\IsPart u o/\Q o H') X.xe s
def Kw:TO:=fun _ H Q=>Q none H
def U6(t:TE):TO:=fun σ H Q=>t σ H fun x H1=>∃i,x = .int i/\Q (some i) H1
section
variable {X:Cx}{e:Expr}{te:TE}{lo hi:Option Expr}{tl th:TO}{pos p2:Pos}
theorem Kx:PO X none Kw:=by
 walk_at"<"
 rw[evalPart_none]
 exact wpAny_pure ⟨none,H,I,.none,h⟩
theorem Ky(h:PE X e te):PO X (some e) (U6 te):=by
 intro pins s σ H Q I hw
 rw[evalPart_some]
 refine fH (h pins s σ H _ I hw) fun u s1 Nc=>?_
 refine b8 Nc fun x H1 I1 r1 q1=>?_
 clear Nc
 refine aN q1 fun i gM q=>?_
 clear q1
 walk_at"8"
 obtain ⟨t,rfl⟩:=r1
 exact⟨some i,H1,I1,.int i t,q⟩
def SlR(X:Cx)(r:V->Option Int->Option Int->Hp->VK->Prop):Prop:=
 ∀(pins:List (Addr×Obj)) (s:Shared) (σ:St) (H:Hp) (x:V) (v vl vu:Value) (lo hi:Option Int) (sl:Addr) (Q:VK),Inv X pins σ H s->RelV x v->s.heap.IsSliceOf sl vl vu .none->IsPart vl lo->IsPart vu hi->r x lo hi H Q->
  ∃T id,typeLookup (.type T) "__getitem__" =pure (some (.builtin id))/\s.TypeIs v T/\wpAny (model X.prog X.w) X.A (getItem v (.ref sl)) (EP X pins σ Q) X.xe s
def tSl(r:V->Option Int->Option Int->Hp->VK->Prop)(te:TE)(tl th:TO):TE:=fun σ H Q=>te σ H fun x H1=>tl σ H1 fun l H2=>th σ H2 fun u H3=>r x l u H3 Q
theorem H8{r:V->Option Int->Option Int->Hp->VK->Prop}(hr:SlR X r)(he:PE X e te)(hl:PO X lo tl)(hu:PO X hi th):PE X (.Subscript e (.Slice lo hi none p2) pos) (tSl r te tl th):=by
 walk_at"<"
 refine Subscript_ (fH (he pins s σ H _ I h) fun v s1 Nd=>?_)
 refine b8 Nd fun x H1 I1 r1 q1=>?_
 clear Nd
 refine wpAny_Slice (fH (hl pins s1 σ H1 _ I1 q1) fun vl s2 U7=>U7.elim fun l U8=>U8.elim fun H2 U9=>U9.elim fun I2 Ua=>Ua.elim fun pl q2=>fH (hu pins s2 σ H2 _ I2 q2) fun vu s3 Nf=>?_)
 refine b8 Nf fun u H3 I3 pu q3=>?_
 clear Nf
 rw[evalPart_none]
 refine wpAny_pure ?_
 have I4:Inv X pins σ H3 { s3 with heap:=s3.heap.push { cls:=.type "slice",data:=.fields #[vl,vu,.none] } }:=I3.kept (t':=s3.toks) fun b ob q=>Heap.get?_push_of_some _ q
 refine b8 (hr pins { s3 with heap:=s3.heap.push { cls:=.type "slice",data:=.fields #[vl,vu,.none] } } σ H3 x v vl vu l u s3.heap.objs.size Q I4 r1 (Heap.IsSliceOf.new ..) pl pu q3) fun T id hT ht hg=>?_
 show wpAny (model X.prog X.w) X.A (subscriptTail e (.Slice lo hi none p2) v (.ref s3.heap.objs.size)) (EP X pins σ Q) X.xe { s3 with heap:=s3.heap.push { cls:=.type "slice",data:=.fields #[vl,vu,.none] } }
 exact tail_any (ops:=[.ref s3.heap.objs.size,v]) ht hT hg (by with_unfolding_all rfl)
def EM(xs:List V)(lo hi:Option Int):List V:=(xs.drop (HT.ya xs.length 0 lo)).take (HT.ya xs.length xs.length hi - HT.ya xs.length 0 lo)
theorem AB(xs:List V)(lo hi:Option Int):(EM xs lo hi).length<=xs.length:=by
 unfold EM
 rw[List.length_take,List.length_drop]
 lia
end
end L2
namespace L2
open PySem PySem.Spec PyProof.Rows
def G5(n:Nat)(i:Int):Option Nat:=if 0<=i then (if i < n then some i.toNat else none) else if -(n:Int)<=i then some (i+n).toNat else none
def yW{α:Type}(xs:List α)(i:Int):Option α:=(G5 xs.length i).bind fun j=>xs[j]?
theorem Kz{n:Nat}{i:Int}{j:Nat}(h:G5 n i=some j):seqIndex? i n=some j/\j < n/\ -(n:Int)<=i/\i < n:=by
 unfold G5 at h
 by_cases h0:0<=i
 ·rw[if_pos h0] at h
  by_cases h1:i < n
  ·rw[if_pos h1] at h
   have e:i.toNat=j:=Option.some.inj h
   exact⟨by rw[seqIndex_of h0 h1,e],by lia,by lia,h1⟩
  ·rw[if_neg h1] at h;cases h
 ·rw[if_neg h0] at h
  by_cases h1 : -(n:Int)<=i
  ·rw[if_pos h1] at h
   have e:(i+n).toNat=j:=Option.some.inj h
   exact⟨by rw[seqIndex_neg (by lia) h1,e],by lia,h1,by lia⟩
  ·rw[if_neg h1] at h;cases h
theorem Dy{α:Type}{xs:List α}{i:Int}{v:α}(h:yW xs i=some v):∃j,seqIndex? i xs.length=some j/\xs[j]?=some v/\j < xs.length/\ -(xs.length:Int)<=i/\i < xs.length:=by
 unfold yW at h
 cases e:G5 xs.length i with
 | none=>rw[e] at h;cases h
 | some j=>
  rw[e] at h
  refine Ad (Kz e) fun h1 h2 h3 h4=>?_
  exact⟨j,h1,h,h2,h3,h4⟩
theorem KA{α:Type}{xs:List α}{j:Nat}{v:α}(h:xs[j]?=some v):yW xs (j:Int)=some v:=by
 have hj:j < xs.length:=(List.getElem?_eq_some_iff.mp h).1
 have e:G5 xs.length (j:Int)=some j:=by
  unfold G5
  rw[if_pos (by lia),if_pos (by lia)];simp
 unfold yW;rw[e];exact h
def rf(b:Expr):Prop:=∀o i,subscripted b false o i=operate [o,i] (getItem o i)
def KC(X:Cx)(r:R2):Prop:=
 ∀(value slice:Expr) (pins:List (Addr×Obj)) (s:Shared) (σ:St) (H:Hp) (x y:V) (v u:Value) (Q:VK),Inv X pins σ H s->RelV x v->RelV y u->r x y H Q->
  subscripted slice false v u=operate [v,u] (getItem v u)->wpAny (model X.prog X.w) X.A (subscriptTail value slice v u) (EP X pins σ Q) X.xe s
def ZY(X:Cx)(id:String)(r:V->List V->Hp->VK->Prop):Prop:=
 ∀(pins:List (Addr×Obj)) (s:Shared) (σ:St) (H:Hp) (x:V) (xs:List V) (v:Value) (us:List Value) (Q:VK),Inv X pins σ H s->RelV x v->Vals xs us->r x xs H Q->
  wpAny (model X.prog X.w) X.A (call (.builtin id) (v::us)) (EP X pins σ Q) X.xe s
section
variable {X:Cx}{a b:Expr}{ta tb:TE}{pos:Pos}
theorem KC.or{r r':R2}(h:KC X r)(h':KC X r'):KC X (fun x y H Q=>r x y H Q\/r' x y H Q):=by
 intro value slice pins s σ H x y v u Q I rx ry q hs
 rcases q with q | q
 ·exact h value slice pins s σ H x y v u Q I rx ry q hs
 ·exact h' value slice pins s σ H x y v u Q I rx ry q hs
theorem Hf{r:R2}(hr:KC X r)(ha:PE X a ta)(hb:PE X b tb)(hs:rf b):PE X (.Subscript a b pos) (QX r ta tb):=by
 walk_at"<"
 exact Subscript_ (Ol ha hb I h fun v u s2 x y H2 I2 rx ry q=>hr a b pins s2 σ H2 x y v u Q I2 rx ry q (hs _ _))
def Ub(K:PySem.W.Frag):R2:=fun x y H Q=>∃p xs i v,x = .ref p/\y = .int i/\jJ K H p xs/\yW xs i=some v/\Q v H
def Ow(K:PySem.W.Frag):R2:=fun x y H Q=>∃p xs i v,x = .ref p/\y = .int i/\kT K H p xs/\yW xs i=some v/\Q v H
theorem KG:KC X (Ub X.K):=by
 intro value slice pins s σ H x y v u Q I rx ry h hs
 refine NH h fun p xs i z Hg KH hq he q=>?_
 clear h
 obtain rfl:=Hg
 obtain rfl:=KH
 cases rx
 obtain ⟨t,rfl⟩:=ry
 refine bQ (I.list hq) fun bh r pl hz=>?_
 refine JX (Dy he) fun j h1 h2 h3 h4 h5=>?_
 refine aN (r.get h2) fun w ew GL=>?_
 have hl:=r.length
 have hn:=Cm
 have fin:EP X pins σ Q w s:=⟨z,H,I,GL,q⟩
 by_cases h0:0<=i
 ·have hj:i.toNat=j:=by
   rw[seqIndex_of h0 h5] at h1
   exact Option.some.inj h1
  exact item_listR pl.isList h0 (by lia) (by rw[hj];simpa using ew) fin hs
 ·have hj:(i+(bh.toArray.size:Int)).toNat=j:=by
   rw[seqIndex_neg (by lia) h4] at h1
   rw[List.size_toArray,<- hl]
   exact Option.some.inj h1
  exact subscriptTail_builtinR (x:=w) pl.isList.typeIs slot_list_getitem.lookup
   (wpAny_getItem_list_neg (Q:=fun r s'=>r=w/\EP X pins σ Q r s') pl.isList (by lia) (by rw[List.size_toArray] <;> lia) (by lia) (by rw[hj];simpa using ew) ⟨rfl,fin⟩) hs
theorem Hh:KC X (Ow X.K):=by
 intro value slice pins s σ H x y v u Q I rx ry h hs
 refine NH h fun p xs i z Hg KH hq he q=>?_
 clear h
 obtain rfl:=Hg
 obtain rfl:=KH
 cases rx
 obtain ⟨t,rfl⟩:=ry
 refine bQ (I.tuple hq) fun bh r pl hz=>?_
 refine JX (Dy he) fun j h1 h2 h3 h4 h5=>?_
 refine aN (r.get h2) fun w ew GL=>?_
 have hl:=r.length
 have hn:=Cm
 have fin:EP X pins σ Q w s:=⟨z,H,I,GL,q⟩
 exact subscriptTail_builtinR (x:=w) pl.typeIs slot_tuple_getitem.lookup
  (getItem_tuple (j:=j) (Q:=fun r s'=>r=w/\EP X pins σ Q r s') pl (by lia) (by lia) (by rw[List.size_toArray,<- hl];exact h1) (by simpa using ew) ⟨rfl,fin⟩) hs
theorem yX(lo hi:Option Int)(n:Nat):(sliceBounds lo hi none n).1=((HT.ya n 0 lo:Nat):Int)/\(sliceBounds lo hi none n).2.1=((HT.ya n n hi:Nat):Int)/\(sliceBounds lo hi none n).2.2=1:=by
 refine⟨?_,?_,rfl⟩
 ·cases lo with
  | none=>simp[sliceBounds,HT.ya]
  | some i=>
   simp only[sliceBounds,HT.ya,Option.getD_none,show (1:Int) > 0 by decide,if_true]
   by_cases h:i < 0
   ·simp only[h,if_true] <;> lia
   ·simp only[h,if_false] <;> lia
 ·cases hi with
  | none=>simp[sliceBounds,HT.ya]
  | some i=>
   simp only[sliceBounds,HT.ya,Option.getD_none,show (1:Int) > 0 by decide,if_true]
   by_cases h:i < 0
   ·simp only[h,if_true] <;> lia
   ·simp only[h,if_false] <;> lia
theorem xx(bh:List Value)(lo hi:Option Int):slicePick bh.toArray lo hi none=((bh.drop (HT.ya bh.length 0 lo)).take (HT.ya bh.length bh.length hi - HT.ya bh.length 0 lo)).toArray:=by
 refine qT (yX lo hi bh.toArray.size) fun h1 h2 h3=>?_
 unfold slicePick
 rw[h1,h2,h3]
 simp only[sliceRange_one,pick_run,List.size_toArray] <;> rfl
def ZZ(K:PySem.W.Frag):V->Option Int->Option Int->Hp->VK->Prop:=fun x lo hi H Q=>∃a xs,x = .ref a/\jJ K H a xs/\∀p,H p=none->Q (.ref p) (upd H p (.lst (EM xs lo hi)))
theorem KI:SlR X (ZZ X.K):=by
 intro pins s σ H x v vl vu lo hi sl Q I rx hs pl pu h
 refine b8 h fun a xs aV hx q=>?_
 clear h
 walk_at"#"
 cases rx
 refine bQ (I.list hx) fun bh r ht hz=>?_
 have hlen:=r.length
 refine⟨"list",_,slot_list_getitem.lookup,ht.isList.typeIs,?_⟩
 refine wpAny_getItem_list_slice ht.isList hs pl pu .none (by simp) ?_ (by rw[List.size_toArray] <;> lia)
 rw[xx,<- hlen]
 refine⟨.ref s.heap.objs.size,_,I.laid (t':=s.toks) (o:=.lst (EM xs lo hi)) (fun b ob q=>Heap.get?_push_of_some _ q) (Nat.le_refl _) ?_,rfl,q _ (I.dS.fresh (Nat.le_refl _))⟩
 exact⟨Nat.le_trans (AB xs lo hi) hz,_,0,(r.drop (HT.ya xs.length 0 lo)).take (HT.ya xs.length xs.length hi - HT.ya xs.length 0 lo),Heap.get?_push_size _ rfl⟩
theorem cS:nN X (.builtin "len") (fun xs H Q=>∃p ys,xs=[.ref p]/\(jJ X.K H p ys\/kT X.K H p ys)/\Q (.int ys.length) H):=by
 intro pins s σ H xs us Q I r h
 refine b8 h fun p ys aV hq q=>?_
 clear h
 walk_at"#"
 refine aN (vals1 r) fun u gM rx=>?_
 walk_at"8"
 cases rx
 have hn:=Cm
 rcases hq with hq | hq
 ·refine bQ (I.list hq) fun bh r' pl hz=>?_
  have hlen:=r'.length
  exact Calls.call_len_list pl.isList (by simp only[List.size_toArray] <;> lia) ⟨.int ys.length,H,I.tok _,⟨s.toks+1,by rw[List.size_toArray,hlen]⟩,q⟩
 ·refine bQ (I.tuple hq) fun bh r' pl hz=>?_
  have hlen:=r'.length
  exact len_tuple pl (by simp only[List.size_toArray] <;> lia) ⟨.int ys.length,H,I.tok _,⟨s.toks+1,by rw[List.size_toArray,hlen]⟩,q⟩
theorem dY:nN X (.type "list") (fun xs H Q=>∃p ys,xs=[.ref p]/\(jJ X.K H p ys\/kT X.K H p ys)/\∀l,H l=none->Q (.ref l) (upd H l (.lst ys))):=by
 intro pins s σ H xs us Q I r h
 refine b8 h fun p ys aV hq q=>?_
 clear h
 walk_at"#"
 refine aN (vals1 r) fun u gM rx=>?_
 walk_at"8"
 cases rx
 have fin:∀(bh:List Value),Vals ys bh->ys.length<=sizeLine->∀(h':Heap) (c':Nat),(∀b o',s.heap.get? b=some o'->h'.get? b=some o')->
   h'.get? s.heap.objs.size=some { cls:=.type "list",dict:=none,data:=.seq bh.toArray c',slots:=#[] }->EP X pins σ Q (.ref s.heap.objs.size) { s with heap:=h' }:=fun bh r' hz h' c' kp e=>
  ⟨.ref s.heap.objs.size,_,I.laid (t':=s.toks) kp (Nat.le_refl _) (show fT X.prog X.w _ h' _ (.lst ys) from ⟨hz,bh,c',r',e⟩),rfl,q _ (I.dS.fresh (Nat.le_refl _))⟩
 rcases hq with hq | hq
 ·refine bQ (I.list hq) fun bh r' pl hz=>?_
  have hlen:=r'.length
  obtain ⟨o,ho,hc,n,hd⟩:=pl.isList
  exact call_list_seq p (.inl rfl) ho hc hd (fun h' c' kp e=>fin bh r' hz h' c' kp e) (by simp only[List.size_toArray] <;> lia)
 ·refine bQ (I.tuple hq) fun bh r' pl hz=>?_
  have hlen:=r'.length
  obtain ⟨o,ho,hc,n,hd⟩:=pl
  exact call_list_seq p (.inr rfl) ho hc hd (fun h' c' kp e=>fin bh r' hz h' c' kp e) (by simp only[List.size_toArray] <;> lia)
theorem iC:nN X (.type "tuple") (fun xs H Q=>∃p ys,xs=[.ref p]/\((jJ X.K H p ys/\∀l,H l=none->Q (.ref l) (upd H l (.tup ys)))\/(kT X.K H p ys/\Q (.ref p) H))):=by
 intro pins s σ H xs us Q I r h
 obtain ⟨p,ys,rfl,h⟩:=h
 obtain ⟨u,rfl,rx⟩:=vals1 r
 cases rx
 rcases h with ⟨hq,q⟩ | ⟨hq,q⟩
 ·obtain ⟨bh,r',pl,hz⟩:=I.list hq
  have hlen:=r'.length
  refine call_tuple_list pl.isList (fun h' kp=>?_) (by simp only[List.size_toArray] <;> lia)
  have I1:Inv X pins σ H { s with heap:=h' }:=I.kept (t':=s.toks) kp
  have I2:Inv X pins σ (upd H h'.objs.size (.tup ys)) { s with heap:=h'.push { cls:=.type "tuple",data:=.seq bh.toArray } }:=
   I1.laid (t':=s.toks) (fun b o e=>Heap.get?_push_of_some _ e) (Nat.le_refl _) (show fT X.prog X.w _ _ _ (.tup ys) from ⟨hz,bh,r',IsTup.new _ _⟩)
  exact⟨.ref h'.objs.size,_,I2,rfl,q _ (I1.dS.fresh (Nat.le_refl _))⟩
 ·obtain ⟨bh,r',pl,hz⟩:=I.tuple hq
  exact call_tuple_same pl ⟨.ref p,H,I,rfl,q⟩
def tyV(K:PySem.W.Frag)(T:String)(x:V)(H:Hp):Prop:=match x with
 | .str _=>T = "str"
 | .int _=>T = "int"
 | .ref p=>(T = "list" /\∃xs,jJ K H p xs)\/(T = "tuple" /\∃o,K.lookup p=some o/\o.cls = .type "tuple" /\o.dict=none)\/
   (T = "dict" /\((∃An,H p=some (.dK An))\/∃An,H p=some (.dT An)))\/(T = "set" /\∃S n,H p=some (.set S n))
 | _=>False
theorem Ox{pins:List (Addr×Obj)}{σ:St}{H:Hp}{s:Shared}{T:String}{x:V}{v:Value}(I:Inv X pins σ H s)(r:RelV x v)(ty:tyV X.K T x H) :
  s.TypeIs v T/\∀a,v = .ref a->∃ob,s.heap.get? a=some ob/\ob.dict=none:=by
 cases x with
 | str z=>
  obtain ⟨t,rfl⟩:=r
  cases (show T = "str" from ty)
  exact⟨typeIs_str s z t,fun _ e=>nomatch e⟩
 | int i=>
  obtain ⟨t,rfl⟩:=r
  cases (show T = "int" from ty)
  exact⟨typeIs_int s i t,fun _ e=>nomatch e⟩
 | ref p=>
  cases r
  rcases ty with ⟨rfl,xs,hq⟩ | ⟨rfl,o,hk,hc,hd⟩ | ⟨rfl,hk⟩ | ⟨rfl,S,n,hk⟩
  ·refine bQ (I.list hq) fun bh _ pl _=>?_
   refine⟨pl.isList.typeIs,fun a e=>?_⟩
   cases e
   refine ux pl fun o n e c hd _=>?_
   clear pl
   exact⟨o,e,hd⟩
  ·refine⟨⟨o,I.Ao p o hk,hc⟩,fun a e=>?_⟩
   cases e
   exact⟨o,I.Ao _ o hk,hd⟩
  ·have z:∃o,s.heap.get? p=some o/\o.ExactDict:=by
    rcases hk with ⟨An,hk⟩ | ⟨An,hk⟩
    ·obtain ⟨_,_,_,_,o,_,_,e,ex,_⟩:=I.dS p _ hk
     exact⟨o,e,ex⟩
    ·obtain ⟨_,_,_,_,o,_,_,e,ex,_⟩:=I.dS p _ hk
     exact⟨o,e,ex⟩
   refine aN z fun o e ex=>?_
   clear z
   refine⟨⟨o,e,ex.1⟩,fun a e2=>?_⟩
   cases e2
   exact⟨o,e,ex.2.1⟩
  ·refine YD (I.dS p _ hk) fun o _ _ _ e ex _=>?_
   refine⟨⟨o,e,ex.1⟩,fun a e2=>?_⟩
   cases e2
   exact⟨o,e,ex.2.1⟩
 | _=>exact False.elim ty
def tBM(K:PySem.W.Frag)(T:String)(r:V->List V->Hp->VK->Prop)(to:TE)(t:TA):TE:=fun σ H Q=>to σ H fun x H1=>tyV K T x H1/\t σ H1 fun xs H2=>r x xs H2 Q
variable {o e:Expr}{es:List Expr}{to:TE}{t:TA}{name:Str}{apos i7:Pos}{T id:String}{r:V->List V->Hp->VK->Prop}
theorem tZ(pa:PlainAttrs T)(slot:Slot T name id)(hty:typeOf (.builtin id)=pure (.type "method_descriptor"))(hm:ZY X id r)(ho:PE X o to)(ha:PA X (e::es) t)
  (vq:attributeBase o name X.env (eval o X.env)=eval o X.env:=by rfl)
  (Oz:((backTo i7 (starEach (e::es) X.env)).all (fun x=>!x.1)&&(backToKw i7 (keywordEach [] X.env)).all (fun x=>x.1.isSome)
   && decide ((e::es).length+([]:List Keyword).length+(if ([]:List Keyword).isEmpty then 0 else 1) < 30))=true:=by rfl)
  (vt:(apos.endLine==i7.line)=true:=by rfl) (hs:starEach (e::es) X.env=(false,eval e X.env)::starEach es X.env:=by rfl) (vv:(backTo i7 (starEach es X.env)).any (·.1)=false:=by rfl) :
  PE X (.Call (.Attribute o name apos) (e::es) [] i7) (tBM X.K T r to t):=by
 walk_at"<"
 refine wpAny_Call_method_late vq Oz vt rfl (fH (ho pins s σ H _ I h) fun v s1 Ng=>?_)
 refine ux Ng fun x H1 I1 r1 ty q1=>?_
 clear Ng
 obtain ⟨h1,h2⟩:=Ox I1 r1 ty
 refine⟨T,id,pa,slot,hty,h1,h2,?_⟩
 have hA:=ha i7 pins s1 σ H1 _ I1 q1
 rw[hs] at hA ⊢
 refine Calls.callWith_builtin (by show (false || (backTo i7 (starEach es X.env)).any (·.1))=false;rw[vv] <;> rfl) (Calls.evalArgs_plain ?_)
 exact fH hA fun us s2 Uc=>Uc.elim fun vs Ud=>Ud.elim fun H2 Ue=>Ue.elim fun I2 Ug=>Ug.elim fun r2 q2=>hm pins s2 σ H2 x vs v us Q I2 r1 r2 q2
end
end L2
namespace L2
open PySem PySem.Spec PyProof.Rows
def MtM(X:Cx)(id:String)(r:V->List V->Hp->VK->Prop):Prop:=
 ∀(pins:List (Addr×Obj)) (s:Shared) (σ:St) (H:Hp) (x:V) (xs:List V) (v:Value) (us:List Value) (Q:VK),Inv X pins σ H s->RelV x v->Vals xs us->r x xs H Q->
  wpAny (model X.prog X.w) X.A (call (.builtin id) (v::us)) (EP X pins σ Q) X.xe s
theorem Vals.inv{x:V}{xs:List V}{us:List Value}(h:Vals (x::xs) us):∃u vs,us=u::vs/\RelV x u/\Vals xs vs:=by
 cases h with
 | cons r t=>exact⟨_,_,rfl,r,t⟩
theorem Vals.zero{us:List Value}(h:Vals [] us):us=[]:=by
 cases h
 rfl
theorem Vals.one{x:V}{us:List Value}(h:Vals [x] us):∃u,us=[u]/\RelV x u:=by
 refine b8 h.inv fun u vs aV r t=>?_
 walk_at"#"
 obtain rfl:=t.zero
 exact⟨u,rfl,r⟩
section
variable {X:Cx}{pins:List (Addr×Obj)}{σ:St}{H:Hp}{s:Shared}{l b:Addr}{xs ys zs:List V}
theorem Inv.aa0{bh its':List Value}{n:Nat}{f:Array Value->Array Value}{t':Nat}(I:Inv X pins σ H s)(hH:H l=some (.lst xs))
  (e:s.heap.get? l=some { cls:=.type "list",data:=.seq bh.toArray n }) (hf:f bh.toArray=its'.toArray) (hv:Vals ys its') (hz:ys.length<=sizeLine) :
  Inv X pins σ (upd H l (.lst ys)) { s with heap:=s.heap.update l (Obj.mapSeq f),toks:=t' }:=by
 have q:=PySem.IsL.update e f
 walk_at"1"
 refine I.write (x:=l) (e:=l) (by rw[hH];exact trivial) (.inl rfl) (fun b' u hb hu=>(Heap.get?_update_other s.heap (Obj.mapSeq f) (Ne.symm hb)).trans hu) ⟨_,q⟩ ?_
 exact⟨hz,its',_,hv,q⟩
theorem Inv.aa1{bh:List Value}{t':Nat}(I:Inv X pins σ H s)(hv:Vals ys bh)(hz:ys.length<=sizeLine) :
  Inv X pins σ (upd H s.heap.objs.size (.lst ys)) { s with heap:=s.heap.push { cls:=.type "list",data:=.seq bh.toArray },toks:=t' }:=
 I.laid (fun _ _ q=>Heap.get?_push_of_some _ q) (Nat.le_refl _) ⟨hz,bh,0,hv,Heap.get?_push_size _ rfl⟩
theorem Inv.fresh(I:Inv X pins σ H s):H s.heap.objs.size=none:=I.dS.fresh (Nat.le_refl _)
theorem Inv.aa2(I:Inv X pins σ H s)(hH:H l=some (.lst xs)):xs.length<=sizeLine/\∃(bh:List Value) (n:Nat),Vals xs bh/\xs.length=bh.length/\s.heap.get? l=some { cls:=.type "list",data:=.seq bh.toArray n }:=by
 obtain ⟨z,bh,n,r,e⟩:=I.dS l _ hH
 exact⟨z,bh,n,r,r.length,e⟩
end
section
variable {X:Cx}
def yY:V->List V->Hp->VK->Prop:=fun x vs H Q=>∃l xs y,x = .ref l/\vs=[y]/\H l=some (.lst xs)/\xs.length < sizeLine/\Q .cz (upd H l (.lst (xs++[y])))
theorem fJ:MtM X "list.append" yY:=by
 intro pins s σ H x vs v us Q I rx rv h
 refine Ae h fun l xs y uz Hg hH hz q=>?_
 clear h
 obtain rfl:=uz
 obtain rfl:=Hg
 cases rx
 refine aN rv.one fun u gM ru=>?_
 walk_at"8"
 obtain ⟨z,bh,n,r,hl,e⟩:=I.aa2 hH
 refine call_meets F.slot_list_append ⟨_,e,rfl⟩ F.entry_list_append (F.args_list_append_2 _ _) (PySem.list_append l bh.toArray n u (by rw[List.size_toArray];lia)) ⟨e,?_⟩
 refine⟨.cz,_,I.aa0 (its':=bh++[u]) hH e (by simp) (r.append (.cons ru .nil)) ?_,rfl,q⟩
 rw[List.length_append,List.length_singleton]
 lia
end
section
variable {prog:Program}{w:World}{A:Around}{E:Value->Shared->Prop}{s:Shared}
end
section
variable {X:Cx}
end
end L2
namespace Att
open PySem PySem.W PySem.Calls PyProof.Rows
theorem uA{P:Params}{h:Heap}:∀(ns:List Int) (vs:List Value),WellAll P h vs (ns.map WData.int)->IntsAre vs ns:=by
 intro ns
 induction ns with
 | nil=>
  intro vs w
  rw[List.map_nil] at w
  cases w
  exact .nil
 | cons n ns ih=>
  intro vs w
  rw[List.map_cons] at w
  cases w with
  | cons a b=>
   cases a
   exact .cons _ _ (ih _ b)
theorem EN{l:OpenLaw}{n:Nat}(hn:l.most=some n){P:Params}{h:Heap}{args:List WData}{vals:List Value}
  (AD:l.row.toRowW.claim.pre args=true) (hwl:WellAll P h vals args) :
  ∃a vs ns,vals=[Value.ref a]/\args=[WData.list (ns.map WData.int)]/\h.get? a=some { cls:=.type "list",data:=.seq vs.toArray }/\IntsAre vs ns/\ns.length<=n:=by
 have hsh:WShape.hasAll [] args [.list .int]=true:=(pre_splitW AD).1
 have hc:l.pre.holds [] { args:=args }=true:=(pre_splitW AD).2
 refine b8 (hasAllW_cons hsh) fun d r aV h1 h2=>?_
 walk_at"#"
 obtain rfl:=hasAllW_nil h2
 refine aN (hasW_list h1) fun xs gM h3=>?_
 walk_at"8"
 obtain ⟨ns,rfl⟩:=items_int h3
 have hlen:ns.length<=n:=by
  unfold OpenLaw.pre at hc
  have h4:(WTm.not (.lt (.lit (.int (n:Int))) (.len (.arg 0)))).holds [] { args:=[.list (ns.map .int)] }=true:=by
   have h4:=(holds_andW hc).1
   rw[hn] at h4
   exact h4
  have h5:=condW_of h4 (w_not (w_lt w_lit (w_len_list (w_arg rfl))))
  rw[List.length_map] at h5
  refine Nat.le_of_not_lt fun q=>?_
  have q':(n:Int) < ((ns.length:Nat):Int):=by lia
  first
   | (rw[decide_eq_true q'] at h5;exact absurd h5 (by decide))
   | (simp at h5;lia)
 cases hwl with
 | cons w1 w2=>
  cases w2
  cases w1 with
  | list ho kR=>exact⟨_,_,ns,rfl,rfl,ho,uA ns _ kR,hlen⟩
theorem EO(l:OpenLaw)(args:List WData):l.row.toRowW.claim.post args (.bool true) args=true:=
 postW_of (r:=l.row.toRowW) (X:=(true==true))
  (show WShape.has [] (.bool true) .bool=true by first | rfl | decide | simp[WShape.has,WShape.arms,WShape.armsAll])
  (show (WTm.eq .res (.lit (.bool true))).value [] { args:=args,res:=some (.bool true),after:=args }=some (.bool (true==true)) from w_eq_bool (w_res rfl) w_lit) rfl
theorem AE{l:OpenLaw}{n:Nat}{q:Program}{loose:List Str}{XP:(Str->Option Value)->Heap->Prop}{YP:World->Heap->Prop}{d:DefRec}
  (hn:l.most=some n) (OA:d.params.defaults=[])
  (call:∀(w:World) (gK cR:Shared) (mg mb:Str->Option Value) (fa:Addr) (o:Obj) (pm cd doc:Value) (a:Addr) (vs:List Value) (ns:List Int),
   Ground q loose [] XP w gK mg mb cR.heap->YP w cR.heap->
   cR.heap.get? fa=some o->o.data = .func (docDef d.name d.params d.body d.scope pm cd doc)->cR.heap.CodeRec cd d.name->mg d.name=some (.ref fa)->
   cR.heap.get? a=some { cls:=.type "list",data:=.seq vs.toArray }->IntsAre vs ns->ns.length<=n->cR.gens=#[]->
   codeAny (model l.prog w) callerA (.call (.ref fa) ⟨[.ref a],[]⟩) (fun r s'=>r = .ok (.ret (.bool true))/\OldK cR.heap s'.heap/\s'.os=cR.os/\AllBare s'.gens) cR) :
  WalkO q loose XP YP l.row.toRowW d [] (fun f vs=>PySem.call f vs):=by
 intro w gK cR mg mb G Y fa o pm cd doc dV kV ho hd C0 hD Uh hg args vals as AD ax4 hrd hwl hlo
 obtain rfl:dV = .none:=Dflts.none hD OA
 obtain rfl:kV = .none:=Dflts.noKw hD
 refine Ae (EN hn AD hwl) fun a vs ns uz Hg OB hints hlen=>?_
 obtain rfl:=uz
 obtain rfl:=Hg
 refine enter_call (codeAny_mono (call w gK cR mg mb fa o pm cd doc a vs ns G Y ho (fd_plain hd) C0 Uh OB hints hlen hg) fun r s' hq=>?_)
 refine Ad hq fun KJ h2 h3 h4=>?_
 clear hq
 obtain rfl:=KJ
 exact⟨.inl ⟨.bool true,.bool true,[],rfl,fun _=>rfl,.bool true,EO l _,fun _=>⟨List.Pairwise.nil,fun _ hm=>(nomatch hm)⟩⟩,h2,h3,h4⟩
section
variable {prog:Program}{w:World}{A:Around}{E:Value->Shared->Prop}{s:Shared}{K:Frag}
end
end Att
namespace L2
open PySem PySem.Spec PyProof.Rows
theorem yb:∀{vs:List Value} {ns:List Int},IntsAre vs ns->Vals (ns.map V.int) vs
 | _,_,.nil=>.nil
 | _,_,.cons n t h=>.cons ⟨t,rfl⟩ (yb h)
def OC(H:Hp):Prop:=∀b,H b=none\/∃o xs,H b=some (.GB o (.lst xs))
theorem Hi{P:Program}{w:World}{K:PySem.W.Frag}{mg mb:Str->Option Value}{CX:EJ}{k:Nat}{fa a:Addr}{fd:FuncData}{x:Str}{sp:Sp}{cR:Shared}{vs:List Value}{ns:List Int}
  (KX:K.In cR.heap) (WG:cR.heap.Ns mainGlobals mg) (hb:cR.heap.Ns builtinsNs mb) (hbb:∀x:Str,x≠ "__name__" ->mb x=bootBuiltins x) (aa3:cR.heap.NoLimit) (hg:cR.gens=#[])
  (ha:cR.heap.get? a=some { cls:=.type "list",data:=.seq vs.toArray }) (hi:IntsAre vs ns) (hl:ns.length<=sizeLine) (hr:i6 k callerA)
  (F:∀base:Heap,K.In base->base.Ns mainGlobals mg->iQ P w K mg base CX k fa fd [x] sp) (Ui:∀(s:Shared) (u:Value),BindsTo s fd ⟨[u],[]⟩ [(x,u)])
  (QY:∀H:Hp,OC H->jJ K H a (ns.map V.int)->sp [.ref a] H (fun v _=>v = .bl true) fun _ _ _=>False)
  (hCX:∀H e s',CX [] H cR (fun _ _ _=>False) e s'->False) :
  codeAny (model P w) callerA (.call (.ref fa) ⟨[.ref a],[]⟩) (fun r s'=>r = .ok (.ret (.bool true))/\OldK cR.heap s'.heap/\s'.os=cR.os/\AllBare s'.gens) cR:=by
 have rv:=yb hi
 have aa4:=hi.length
 have core:∀H:Hp,OC H->jJ K H a (ns.map V.int)->sN P w H cR.heap->(∀b,H b≠none->b=a)->(H a≠none->K.lookup a=none)->
   codeAny (model P w) callerA (.call (.ref fa) ⟨[.ref a],[]⟩) (fun r s'=>r = .ok (.ret (.bool true))/\OldK cR.heap s'.heap/\s'.os=cR.os/\AllBare s'.gens) cR:=by
  intro H hO hS dS hA hK
  have uK:∀{b:Addr} {o:Obj},cR.heap.get? b=some o->H b=none->(yS cR.heap H).get? b=some o:=fun e n=>GC e n
  have TR:∀{b:Addr} {o:Obj} {es:Array DictEntry} {ep:Nat},cR.heap.get? b=some o->o.data = .dict es ep->H b=none:=fun {b o es ep} e d=>by
   cases q:H b with
   | none=>rfl
   | some u=>
    have e':b=a:=hA b (by rw[q];simp)
    subst e'
    rw[ha] at e;cases e
    have d':Data.seq vs.toArray _=Data.dict es ep:=d
    cases d'
  have WH:∀{b:Addr} {m:Str->Option Value},cR.heap.Ns b m->(yS cR.heap H).Ns b m:=fun {b m} Uj=>Uj.elim fun o Uk=>Uk.elim fun es Ul=>Ul.elim fun ep Um=>Um.elim fun e Uo=>Uo.elim fun d r=>⟨o,es,ep,uK e (TR e d),d,r⟩
  have hKb:K.In (yS cR.heap H):=fun b o e=>uK (KX b o e) (by
   cases q:H b with
   | none=>rfl
   | some u=>
    have e':b=a:=hA b (by rw[q];simp)
    subst e'
    rw[hK (by rw[q];simp)] at e;cases e)
  have hM:Mod K mg (yS cR.heap H):=⟨hKb,WH WG,⟨mb,WH hb,hbb⟩,let ⟨mc,h1,h2⟩:=aa3;⟨mc,WH h1,h2⟩⟩
  have e0:Cs P w K mg (yS cR.heap H) callerA [] cR H:=⟨rfl,hM,fun b o e=>Kh e,Nat.le_of_eq (Ez _ _),trivial,fun b hb=>absurd (show b∈([]:List Addr) from hb) (by simp),dS,.of_eq hg⟩
  refine codeAny_mono ((F _ hKb (WH WG)).run callerA [] cR H ⟨[.ref a],[]⟩ [.ref a] [.ref a] _ _ hr e0 (Ui cR (.ref a)) (.cons rfl .nil) (QY H hO hS)) fun r s' h=>?_
  cases r with
  | error e=>exact(hCX H e s' h).elim
  | ok fl=>
   cases fl with
   | next=>exact False.elim h
   | brk=>exact False.elim h
   | cont=>exact False.elim h
   | ret u=>
    refine NG h fun v H' os bare un aa5 r' q=>?_
    clear h
    have q':v = .bl true:=q
    subst q'
    obtain rfl:u=Value.bool true:=r'
    refine⟨rfl,OldK.of_keep fun b o e=>?_,os,bare⟩
    cases q:H b with
    | none=>exact un.keep b o e q (by intro z;exact absurd (show b∈([]:List Addr) from z) (by simp)) (by simp)
    | some u=>
     rcases hO b with z | ⟨ob,xs,z⟩
     ·rw[q] at z;cases z
     ·have z2:=un.xw b ob _ z
      obtain ⟨e1,_⟩:=dS b _ z
      obtain ⟨e2,_⟩:=aa5 b _ z2
      rw[e] at e1;cases e1
      exact e2
 cases hk:K.lookup a with
 | some o=>
  have e:=KX a o hk
  rw[ha] at e
  cases e
  refine core (fun _=>none) (fun _=>.inl rfl) (.inr ⟨_,vs.toArray,_,hk,rfl,rfl,rfl,by rw[List.size_toArray,aa4];exact hl,by simpa using rv⟩) (fun b u z=>by have z':(none:Option HO)=some u:=z;cases z') (fun b z=>absurd rfl z) fun z=>absurd rfl z
 | none=>
  refine core (fun b=>if b=a then some (.GB { cls:=.type "list",data:=.seq vs.toArray } (.lst (ns.map V.int))) else none) (fun b=>?_) (.inl (.inr ⟨{ cls:=.type "list",data:=.seq vs.toArray },if_pos rfl⟩)) (fun b u z=>?_) (fun b z=>?_) fun _=>hk
  ·by_cases hb:b=a
   ·exact .inr ⟨_,_,if_pos hb⟩
   ·exact .inl (if_neg hb)
  ·by_cases hb:b=a
   ·have z':=(if_pos hb).symm.trans z
    cases z'
    subst hb
    exact⟨ha,by rw[List.length_map];exact hl,vs,_,rv,ha⟩
   ·have z':=(if_neg hb).symm.trans z
    cases z'
  ·by_cases hb:b=a
   ·exact hb
   ·exact absurd (if_neg hb) z
end L2
namespace L2
open PySem PySem.Spec PyProof.Rows
theorem KN{l:PySem.W.OpenLaw}{n k:Nat}{q:Program}{loose:List Str}{XP:(Str->Option Value)->Heap->Prop}{YP:World->Heap->Prop}{d:DefRec}{K:Params->PySem.W.Frag}{CX:World->EJ}{sp:World->Sp}{x:Str}
  (hn:l.most=some n) (WE:n<=sizeLine) (OA:d.params.defaults=[]) (hr:i6 k callerA)
  (hY:∀(w:World) (h:Heap),YP w h->(K w.params).In h)
  (F:∀(w:World) (mg:Str->Option Value) (fa:Addr) (h:Heap),(K w.params).In h->h.Ns mainGlobals mg->mg d.name=some (.ref fa)->
   ∃fd:FuncData,(∀(s:Shared) (u:Value),BindsTo s fd ⟨[u],[]⟩ [(x,u)])/\
    ∀base:Heap,(K w.params).In base->base.Ns mainGlobals mg->iQ l.prog w (K w.params) mg base (CX w) k fa fd [x] (sp w))
  (QY:∀(w:World) (H:Hp) (a:Addr) (ns:List Int),ns.length<=n->OC H->jJ (K w.params) H a (ns.map V.int)->sp w [.ref a] H (fun v _=>v = .bl true) fun _ _ _=>False)
  (hCX:∀(w:World) (H:Hp) (s:Shared) (e:Value) (s':Shared),CX w [] H s (fun _ _ _=>False) e s'->False) :
  PySem.W.WalkO q loose XP YP l.row.toRowW d [] (fun f vs=>PySem.call f vs):=by
 refine Att.AE hn OA fun w gK cR mg mb fa o pm cd doc a vs ns G Y ho hd C0 Uh OB hints hlen hg=>?_
 have KX:=hY w _ Y
 refine aN (F w mg fa _ KX G.T.g Uh) fun fd hb hF=>?_
 exact Hi KX G.T.g G.T.b G.T.builtins G.T.nolimit hg OB hints (Nat.le_trans hlen WE) hr hF hb (fun H hO hS=>QY w H a ns hlen hO hS) fun H e s'=>hCX w H cR e s'
end L2
namespace L2
open PySem PySem.Spec PyProof.Rows
def inClass(s:Stmt)(j:Nat):Stmt:=match s with
 | .ClassDef _ _ _ body _ _ _ _ _ _ _=>body.getD j (.Pass ⟨0,0,0,0⟩)
 | _=>.Pass ⟨0,0,0,0⟩
def bq(s:Stmt):Arguments:=match s with
 | .FunctionDef _ a _ _ _ _ _ _ _ _=>a
 | _=>{ posonlyargs:=[],args:=[],vararg:=none,kwonlyargs:=[],kw_defaults:=[],kwarg:=none,defaults:=[] }
def bf(s:Stmt):List Stmt:=match s with
 | .FunctionDef _ _ b _ _ _ _ _ _ _=>b
 | _=>[]
def az(s:Stmt):Scope:=match s with
 | .FunctionDef _ _ _ _ _ _ sc _ _ _=>sc
 | _=>{ kind:=.function,names:=[],isGenerator:=false,isCoroutine:=false }
structure Hj(K:PySem.W.Frag)(x qual:Str)(st:Stmt)(f:Addr)(fd:FuncData):Prop where
 ex:∃(oc:Value) (od:Option Addr) (kV doc pm:Value) (an:Option Addr) (dU ct:Value) (G4:Array (Option Value)),
  fd=PySem.W.fnOf x qual (bq st) (bf st) (az st) .none kV doc pm an dU ct/\K.lookup f=some ⟨oc,od,.func fd,G4⟩/\PySem.W.codeIn K dU qual=true
 kp:PySem.W.keepIn K (.ref f)=true
section
variable {P:Program}{w:World}{K:PySem.W.Frag}{mg:Str->Option Value}{base:Heap}
theorem Hj.binds{x qual:Str}{st:Stmt}{f:Addr}{fd:FuncData}{ps:List Str}(F:Hj K x qual st f fd)
  (h:∀(kV doc pm:Value) (an:Option Addr) (dU ct:Value) (us:List Value),us.length=ps.length->bindArgs (PySem.W.fnOf x qual (bq st) (bf st) (az st) .none kV doc pm an dU ct) ⟨us,[]⟩=pure (ps.zip us)):Binds K fd ps []:=by
 refine NI F.ex fun oc od kV doc pm an dU ct G4 zo9 lk C0=>?_
 obtain rfl:=zo9
 exact .all (h kV doc pm an dU ct)
theorem yZ{x qual:Str}{st:Stmt}{f:Addr}{oc:Value}{od an:Option Addr}{G4:Array (Option Value)}{kV doc pm dU ct:Value}(l:K.lookup f=some ⟨oc,od,.func (PySem.W.fnOf x qual (bq st) (bf st) (az st) .none kV doc pm an dU ct),G4⟩)
  (c:PySem.W.codeIn K dU qual=true) (k:PySem.W.keepIn K (.ref f)=true):Hj K x qual st f (PySem.W.fnOf x qual (bq st) (bf st) (az st) .none kV doc pm an dU ct):=⟨⟨oc,od,kV,doc,pm,an,dU,ct,G4,rfl,l,c⟩,k⟩
end
section
variable {X:Cx}
theorem pv(i:Nat){x:Str}{pos:Pos}(hN:X.N[i]?=some x:=by rfl)(hv:YU X.env.scope x:=by first | exact Or.inl rfl | exact Or.inr (Or.inl rfl) | exact Or.inr (Or.inr rfl))(hd:(x==("__debug__" : Str))=false:=by decide)
  (C0:(x==("__classdict__" : Str))=false:=by decide):PE X (.Name x pos) (lI i):=O1 hN hv hd C0
end
def aG(H H':Hp):Prop:=∀b o,H b=some o->H' b=some o
theorem aG.refl(H:Hp):aG H H:=fun _ _ h=>h
theorem aG.trans{H H1 H2:Hp}(a:aG H H1)(b:aG H1 H2):aG H H2:=fun c o h=>b c o (a c o h)
theorem aG.free{H H':Hp}(e:aG H H'){l:Addr}(h:H' l=Option.none):H l=Option.none:=by
 cases q:H l with
 | none=>rfl
 | some o=>
  rw[e l o q] at h
  cases h
theorem aG.seq{K:PySem.W.Frag}{H H':Hp}{a:Addr}{xs:List V}(e:aG H H')(h:jJ K H a xs):jJ K H' a xs:=by
 rcases h with (h | ⟨o,h⟩) | h
 ·exact .inl (.inl (e _ _ h))
 ·exact .inl (.inr ⟨o,e _ _ h⟩)
 ·exact .inr h
end L2
end RW
section aa6
namespace Dm
open PySem PySem.Spec PyProof.Rows L2
def XD(dx:Option Addr)(a:Addr)(h:Heap):Prop:=∀d,dx=some d->∃o,h.get? a=some o/\o.dict=some d
theorem XD.no{a:Addr}{h:Heap}:XD none a h:=fun _ z=>nomatch z
theorem XD.keeps{dx:Option Addr}{a:Addr}{h h':Heap}(x:XD dx a h)(k:∀o,h.get? a=some o->∃o',h'.get? a=some o'/\o'.dict=o.dict):XD dx a h':=fun d z=>by
 obtain ⟨o,e,ed⟩:=x d z
 obtain ⟨o',e',ed'⟩:=k o e
 exact⟨o',e',ed'.trans ed⟩
def Ct(f:Obj->Obj):Prop:=∀o,(f o).dict=o.dict/\(o.isFreed=false->(f o).isFreed=false)
inductive KD{α:Type}:Sem α->Prop
 | ret (a:α):KD (.pure a)
 | exc (e:Value):KD (.raise e)
 | no (w:String):KD (.unsupported w)
 | load {a:Addr} {pt:Option Value} {k:Obj->Sem α} (h:∀o,KD (k o)):KD (.load a pt k)
 | upd {a:Addr} {pt:Option Value} {f:Obj->Obj} {k:Unit->Sem α} (hf:Ct f) (h:KD (k ())):KD (.update a pt f k)
 | alloc {o:Obj} {k:Addr->Sem α} (h:∀a,KD (k a)):KD (.alloc o k)
 | stack {k:List (Code×Pos)->Sem α} (h:∀l,KD (k l)):KD (.stack k)
theorem KD.bind{α β:Type}{m:Sem α}{f:α->Sem β}(hm:KD m)(hf:∀a,KD (f a)):KD (m>>=f):=by
 show KD (Sem.bind m f)
 induction hm with
 | ret a=>exact hf a
 | exc e=>exact .exc e
 | no w=>exact .no w
 | load _ ih=>exact .load ih
 | upd z _ ih=>exact .upd z ih
 | alloc _ ih=>exact .alloc ih
 | stack _ ih=>exact .stack ih
theorem XD.upd{dx:Option Addr}{a b:Addr}{h:Heap}{f:Obj->Obj}(x:XD dx a h)(hf:Ct f):XD dx a (h.update b f):=x.keeps fun o e=>by
 by_cases z:b=a
 ·subst z
  exact⟨f o,Heap.get?_update_self f e ((hf o).2 (Heap.get?_some_iff.mp e).2),(hf o).1⟩
 ·exact⟨o,(Heap.get?_update_other h f z).trans e,rfl⟩
theorem Uq{α:Type}{M:Model}{Γ:PySem.Ctx}{t:Sem α}(k:KD t){Q:α->Pos->Shared->Prop}{E:Value->Pos->Shared->Prop}{dx:Option Addr}{a:Addr} :
  ∀{p:Pos} {s:Shared},Sem.wp M Γ t Q E p s->XD dx a s.heap->Sem.wp M Γ t (fun x p s=>Q x p s/\XD dx a s.heap) (fun x p s=>E x p s/\XD dx a s.heap) p s:=by
 induction k with
 | ret x=>exact fun h z=>⟨h,z⟩
 | exc e=>exact fun h z=>⟨h,z⟩
 | no w=>exact fun h z=>h
 | load _ ih=>
  intro p s h z
  rw[Sem.wp_load] at h ⊢
  obtain ⟨o,e,h⟩:=h
  exact⟨o,e,ih o h z⟩
 | upd hf _ ih=>
  intro p s h z
  rw[Sem.wp_update] at h ⊢
  exact⟨h.1,ih h.2 (z.upd hf)⟩
 | alloc _ ih=>
  intro p s h z
  rw[Sem.wp_alloc] at h ⊢
  exact ih _ h (z.keeps fun o e=>⟨o,Heap.get?_push_of_some _ e,rfl⟩)
 | stack _ ih=>
  intro p s h z
  exact ih _ h z
theorem AF{α:Type}{M:Model}{A:Around}{t:Sem α}{Q:α->Shared->Prop}{E:Value->Shared->Prop}{s:Shared}{dx:Option Addr}{a:Addr}(k:KD t)(h:wpAny M A t Q E s)(z:XD dx a s.heap) :
  wpAny M A t (fun x s'=>Q x s'/\XD dx a s'.heap) (fun x s'=>E x s'/\XD dx a s'.heap) s:=fun Γ p AG=>Uq k (h Γ p AG) z
theorem z8(a:Addr):KD (load a):=.load fun o=>.ret o
theorem vz:KD stack:=.stack fun l=>.ret l
theorem rg(f:Array Value->Array Value):Ct (Obj.mapFields f):=fun o=>by
 obtain ⟨c,d,dt,sl⟩:=o
 cases dt <;> exact⟨rfl,fun h=>h⟩
theorem AH(v:Value):KD (fieldsOf v):=by
 unfold fieldsOf
 cases v with
 | ref a=>
  refine .bind (z8 a) fun o=>?_
  split
  ·exact .ret _
  ·exact .no _
 | _=>exact .no _
theorem rj(v:Value)(i:Nat):KD (field v i):=by
 unfold field
 refine .bind (AH v) fun vs=>?_
 split
 ·exact .ret _
 ·exact .no _
theorem vA(a:Addr)(i:Nat)(x:Value):KD (updateField a i x):=by
 unfold updateField
 refine .bind (z8 a) fun o=>?_
 split
 ·split
  ·exact .upd (rg _) (.ret _)
  ·exact .no _
 ·exact .no _
theorem nQ(v:Value)(i:Nat)(x:Value):KD (setField v i x):=by
 unfold setField
 cases v with
 | ref a=>exact vA a i x
 | _=>exact .no _
theorem z9(e:Value)(f:Option Addr):KD (setFlight e f):=by
 unfold setFlight
 refine .bind (rj e 1) fun tb=>?_
 split
 ·exact nQ _ _ _
 ·exact .ret _
theorem ER(env:Env)(outer:List Env):KD (behindIsImport env outer):=by
 unfold behindIsImport
 split
 ·exact .ret _
 ·split
  ·exact .ret _
  ·exact .bind (rj _ _) fun _=>.ret _
theorem KO(env:Env)(i:Bool)(outer:List Env):KD (keptBack env i outer):=by
 unfold keptBack
 split
 ·split
  ·exact .ret _
  ·unfold underTheClaimsCaller
   exact .bind (.bind vz fun _=>.ret _) fun _=>.ret _
 ·exact .ret _
theorem Hl:∀l:List Env,KD (readyFrames l):=fun l=>by
 induction l with
 | nil=>exact .ret _
 | cons env outer ih=>
  unfold readyFrames
  split
  ·refine .bind (z8 _) fun o=>?_
   split
   ·exact .ret _
   ·refine .bind (ER env outer) fun i=>.bind (KO env i outer) fun b=>.bind (.upd (fun o=>⟨rfl,fun h=>by obtain ⟨_,_,d,_⟩:=o;cases d <;> exact h⟩) (.ret _)) fun _=>ih
  ·exact .no _
theorem Cu(env:Env):KD (PySem.frameOf env):=by
 unfold PySem.frameOf frameEnvs
 refine .bind (.bind vz fun _=>.ret _) fun l=>.bind ?_ fun o=>?_
 ·unfold frameObject
  split
  ·exact .ret _
  ·exact .bind (Hl _) fun _=>.ret _
 ·split
  ·exact .ret _
  ·exact .no _
theorem Ho(f:Addr)(b:Bool):KD (entryPlaceOf f b):=by
 unfold entryPlaceOf
 refine .bind vz fun l=>?_
 split
 ·exact .ret _
 ·exact .ret _
theorem Hq(head:Value)(fr:Value)(l f x:Value)(pl:List Value):KD (EntryCells.newEntry head fr l f x pl):=by
 have fin:∀d,KD (newObjAsIs (.type "traceback") d):=fun d=>by
  unfold newObjAsIs
  exact .bind (.alloc fun a=>.ret a) fun _=>.ret _
 unfold EntryCells.newEntry newFields
 generalize ([head,fr,l,f,x]++if pl.isEmpty=true then List.replicate 6 Value.none else pl).toArray=vs
 unfold newObj
 dsimp only
 split
 ·exact .bind (.no _) fun _=>fin _
 ·exact fin _
theorem KP(e:Value)(env:Env):KD (noteFrame e env):=by
 unfold noteFrame
 split
 ·refine .bind (rj e 1) fun head=>?_
  have fin:=fun (f:Addr)=>KD.bind (Cu env) fun a=>KD.bind (Ho f (head != .none)) fun pl=>KD.bind (Hq head a .none (rawInt f) .none pl) fun b=>nQ e 1 b
  dsimp only
  split
  ·refine .bind (rj head 3) fun x=>?_
   split
   ·exact .ret _
   ·exact .bind (nQ _ _ _) fun _=>fin _
  ·exact fin _
 ·exact .no _
end Dm
end aa6
section aa7
namespace Dm
open PySem PyProof.Rows L2
inductive D where
 | cz | bl (b:Bool) | int (i:Int) | str (x:Str) | tup (ds:List D) | lst (ds:List D) | bU (t:Nat) (ds:List D)
mutual
def dep:D->Nat
 | .tup ds=>jT ds+1
 | .lst ds=>jT ds+1
 | .bU tb ds=>jT ds+2
 | _=>0
def jT:List D->Nat
 | []=>0
 | d::ds=>max (dep d) (jT ds)
end
theorem gx:∀{ds:List D} {d:D},d∈ds->dep d<=jT ds
 | _::_,_,.head _=>Nat.le_max_left _ _
 | _::ds,_,.tail _ h=>Nat.le_trans (gx h) (Nat.le_max_right _ _)
theorem lK{n:Nat}:∀{ds:List D},(∀d∈ds,dep d<=n)->jT ds<=n
 | [],_=>Nat.zero_le _
 | d::ds,h=>Nat.max_le.mpr ⟨h d (.head _),lK fun x hx=>h x (.tail _ hx)⟩
mutual
def fU:D->D->Bool
 | .cz,.cz=>true
 | .bl a,.bl b=>a==b
 | .bl a,.int j=>(if a then 1 else 0)==j
 | .int i,.bl b=>i==(if b then 1 else 0)
 | .int i,.int j=>i==j
 | .str x,.str y=>x==y
 | .tup xs,.tup ys=>cP xs ys
 | .lst xs,.lst ys=>cP xs ys
 | _,_=>false
def cP:List D->List D->Bool
 | [],[]=>true
 | x::xs,y::ys=>fU x y&&cP xs ys
 | _,_=>false
end
theorem AI:∀{xs ys:List D},cP xs ys=true->xs.length=ys.length
 | [],[],_=>rfl
 | [],_::_,h=>by simp[cP] at h
 | _::_,[],h=>by simp[cP] at h
 | x::xs,y::ys,h=>by
  rw[cP,Bool.and_eq_true] at h
  rw[List.length_cons,List.length_cons,AI h.2]
theorem AJ:∀{xs ys:List D},xs.length=ys.length->cP xs ys=(List.range xs.length).all fun j=>fU (xs.getD j .cz) (ys.getD j .cz)
 | [],[],_=>rfl
 | x::xs,y::ys,h=>by
  rw[cP,AJ (xs:=xs) (ys:=ys) (by simpa using h),List.length_cons,List.range_succ_eq_map,List.all_cons,List.all_map]
  rfl
mutual
def flat:D->Bool
 | .tup ds=>bW ds
 | .lst ds=>bW ds
 | .bU _ _=>false
 | _=>true
def bW:List D->Bool
 | []=>true
 | d::ds=>flat d&&bW ds
end
theorem cJ:∀{ds:List D} {d:D},bW ds=true->d∈ds->flat d=true
 | _::_,_,h,.head _=>by rw[bW,Bool.and_eq_true] at h;exact h.1
 | _::ds,_,h,.tail _ m=>by rw[bW,Bool.and_eq_true] at h;exact cJ h.2 m
theorem f9:∀{ds:List D},(∀d∈ds,flat d=true)->bW ds=true
 | [],_=>rfl
 | d::ds,h=>by rw[bW,Bool.and_eq_true];exact⟨h d (.head _),f9 fun x hx=>h x (.tail _ hx)⟩
mutual
def eO(h:Heap):D->Value->Prop
 | .cz,v=>v = .none
 | .bl b,v=>v = .bool b
 | .int i,v=>∃t,v = .int i t
 | .str x,v=>∃t,v = .str x t
 | .tup ds,v=>∃a items,v = .ref a/\IsTup h a items/\bu h ds items.toList
 | .lst ds,v=>∃a items,v = .ref a/\PlainL h a items/\bu h ds items.toList
 | .bU _ _,_=>False
def bu(h:Heap):List D->List Value->Prop
 | [],vs=>vs=[]
 | d::ds,vs=>∃v r,vs=v::r/\eO h d v/\bu h ds r
end
theorem bu.len{h:Heap}:∀{ds:List D} {vs:List Value},bu h ds vs->vs.length=ds.length
 | [],_,e=>by rw[bu] at e;subst e;rfl
 | d::ds,_,e=>by
  rw[bu] at e
  obtain ⟨v,r,rfl,_,q⟩:=e
  rw[List.length_cons,List.length_cons,q.len]
theorem bu.get{h:Heap}:∀{ds:List D} {vs:List Value} (j:Nat) (hj:j < vs.length),bu h ds vs->eO h (ds.getD j .cz) vs[j]/\ds.getD j .cz∈ds
 | [],_,j,hj,e=>by rw[bu] at e;subst e;exact absurd hj (Nat.not_lt_zero _)
 | d::ds,_,j,hj,e=>by
  rw[bu] at e
  obtain ⟨v,r,rfl,q1,q⟩:=e
  cases j with
  | zero=>exact⟨q1,.head _⟩
  | succ j=>
   obtain ⟨a,b⟩:=q.get j (by simpa using hj)
   exact⟨by simpa using a,by simpa using .inr b⟩
mutual
theorem Hr:∀d:D,flat d=true->fU d d=true
 | .cz,_=>by rw[fU]
 | .bl b,_=>by rw[fU];exact beq_self_eq_true b
 | .int i,_=>by rw[fU];exact beq_self_eq_true i
 | .str x,_=>by rw[fU];exact beq_self_eq_true x
 | .tup xs,h=>by rw[fU];rw[flat] at h;exact kU xs h
 | .lst xs,h=>by rw[fU];rw[flat] at h;exact kU xs h
 | .bU tb xs,h=>by rw[flat] at h;cases h
theorem kU:∀ds:List D,bW ds=true->cP ds ds=true
 | [],_=>by rw[cP]
 | d::ds,h=>by
  rw[bW,Bool.and_eq_true] at h
  rw[cP,Hr d h.1,kU ds h.2];rfl
end
inductive Vw(h:Heap):D->Value->Prop
 | cz:Vw h .cz .none
 | bl (b:Bool):Vw h (.bl b) (.bool b)
 | int (i:Int) (t:Tok):Vw h (.int i) (.int i t)
 | str (x:Str) (t:Tok):Vw h (.str x) (.str x t)
 | tup {ds:List D} {a:Addr} {bh:Array Value} (q:IsTup h a bh) (p:bu h ds bh.toList):Vw h (.tup ds) (.ref a)
 | lst {ds:List D} {a:Addr} {bh:Array Value} (q:PlainL h a bh) (p:bu h ds bh.toList):Vw h (.lst ds) (.ref a)
theorem vw{h:Heap}{d:D}{u:Value}(x:eO h d u):Vw h d u:=by
 cases d with
 | cz=>rw[eO] at x;subst x;exact .cz
 | bl b=>rw[eO] at x;subst x;exact .bl b
 | int i=>rw[eO] at x;obtain ⟨t,rfl⟩:=x;exact .int i t
 | str y=>rw[eO] at x;obtain ⟨t,rfl⟩:=x;exact .str y t
 | tup ds=>rw[eO] at x;obtain ⟨a,bh,rfl,q,p⟩:=x;exact .tup q p
 | lst ds=>rw[eO] at x;obtain ⟨a,bh,rfl,q,p⟩:=x;exact .lst q p
 | bU _ _=>rw[eO] at x;exact x.elim
theorem bu.inj{h:Heap}{ds es:List D}{vs:List Value}(H:∀d∈ds,∀(e:D) (v:Value),eO h d v->eO h e v->d=e)(x:bu h ds vs)(y:bu h es vs):ds=es:=by
 induction ds generalizing es vs with
 | nil=>
  rw[bu] at x
  subst x
  cases es with
  | nil=>rfl
  | cons e es=>rw[bu] at y;obtain ⟨_,_,z,_⟩:=y;cases z
 | cons d ds ih=>
  rw[bu] at x
  obtain ⟨v,r,rfl,p1,p2⟩:=x
  cases es with
  | nil=>rw[bu] at y;cases y
  | cons e es=>
   rw[bu] at y
   obtain ⟨v',r',z,q1,q2⟩:=y
   cases z
   rw[H d (.head _) e v p1 q1,ih (fun d hd=>H d (.tail _ hd)) p2 q2]
theorem eO.inj{h:Heap}(d e:D){v:Value}(hu:eO h d v)(hv:eO h e v):d=e:=by
 generalize hn:dep d=n
 induction n using Nat.strongRecOn generalizing d e v with
 | ind n ih=>
 have x:=vw hu
 have y:=vw hv
 clear hu hv
 cases x with
 | cz=>cases y;rfl
 | bl b=>cases y;rfl
 | int i t=>cases y;rfl
 | str s t=>cases y;rfl
 | tup q p=>
  rw[dep] at hn
  cases y with
  | tup q' p'=>
   obtain ⟨o1,q1,_,n1,d1⟩:=q
   obtain ⟨o2,q2,_,n2,d2⟩:=q'
   obtain rfl:=Option.some.inj (q1.symm.trans q2)
   rw[d1] at d2
   cases d2
   rw[bu.inj (fun d hd e v a b=>ih _ (by have:=gx hd;lia) d e a b rfl) p p']
  | lst q' p'=>
   obtain ⟨o1,q1,c1,_⟩:=q
   obtain ⟨o2,n2,q2,c2,_⟩:=q'
   obtain rfl:=Option.some.inj (q1.symm.trans q2)
   rw[c1] at c2
   exact absurd c2 (by decide)
 | lst q p=>
  rw[dep] at hn
  cases y with
  | tup q' p'=>
   obtain ⟨o2,n2,q2,c2,_⟩:=q
   obtain ⟨o1,q1,c1,_⟩:=q'
   obtain rfl:=Option.some.inj (q1.symm.trans q2)
   rw[c1] at c2
   exact absurd c2 (by decide)
  | lst q' p'=>
   obtain ⟨o1,n1,q1,_,_,d1⟩:=q
   obtain ⟨o2,n2,q2,_,_,d2⟩:=q'
   obtain rfl:=Option.some.inj (q1.symm.trans q2)
   rw[d1] at d2
   cases d2
   rw[bu.inj (fun d hd e v a b=>ih _ (by have:=gx hd;lia) d e a b rfl) p p']
open PySem.SeqAt
section
variable {s:Shared}
theorem aL{h:Heap}{a:Addr}{items:Array Value}(x:IsTup h a items):h.IsTuple a items:=by
 obtain ⟨o,h1,h2,n,h3⟩:=x
 exact⟨o,h1,h2,n,h3⟩
theorem kW{A:Around}{xs ys:List D}{bh jL:Array Value}(pu:bu s.heap xs bh.toList)(pv:bu s.heap ys jL.toList)(h:∀(x y:D) (u v:Value),x∈xs->y∈ys->eO s.heap x u->eO s.heap y v->EqAt A s u v (fU x y)):∀j (h1:j < bh.size) (h2:j < jL.size),EqAt A s bh[j] jL[j] (fU (xs.getD j .cz) (ys.getD j .cz)):=fun j h1 h2=>by
 obtain ⟨g1,m1⟩:=pu.get j (by rw[Array.length_toList];exact h1)
 obtain ⟨g2,m2⟩:=pv.get j (by rw[Array.length_toList];exact h2)
 rw[Array.getElem_toList] at g1 g2
 exact h _ _ _ _ m1 m2 g1 g2
theorem vB{xs ys:List D}{bh jL:Array Value}(pu:bu s.heap xs bh.toList)(pv:bu s.heap ys jL.toList):((List.range (min bh.size jL.size)).all (fun j=>fU (xs.getD j .cz) (ys.getD j .cz))&&(bh.size==jL.size))=cP xs ys:=by
 have lu:bh.size=xs.length:=by rw[<- Array.length_toList];exact pu.len
 have lv:jL.size=ys.length:=by rw[<- Array.length_toList];exact pv.len
 by_cases hl:bh.size=jL.size
 ·rw[<- hl,Nat.min_self,beq_self_eq_true,Bool.and_true,lu,<- AJ (lu.symm.trans (hl.trans lv))]
 ·rw[beq_eq_false_iff_ne.mpr hl,Bool.and_false]
  exact(Bool.eq_false_iff.mpr fun z=>hl (by rw[lu,lv];exact AI z)).symm
theorem Cv{xs ys:List D}{bh jL:Array Value}(pu:bu s.heap xs bh.toList)(pv:bu s.heap ys jL.toList)(hl:bh.size=jL.size):(List.range bh.size).all (fun j=>fU (xs.getD j .cz) (ys.getD j .cz))=cP xs ys:=by
 rw[<- vB pu pv,<- hl,Nat.min_self,beq_self_eq_true,Bool.and_true]
theorem Cw{xs ys:List D}{bh jL:Array Value}(pu:bu s.heap xs bh.toList)(pv:bu s.heap ys jL.toList)(hl:¬ bh.size=jL.size):false=cP xs ys:=by
 rw[<- vB pu pv,beq_eq_false_iff_ne.mpr hl,Bool.and_false]
theorem KQ{A:Around}{d e:D}{u v:Value}{n:Nat}(x:Vw s.heap d u)(y:Vw s.heap e v)(fj:A.units < cLine)(hn:dep d=n)(fx:flat d=true)(fy:flat e=true)
  (ht:∀{xs ys:List D} {a b:Addr} {bh jL:Array Value},dep (.tup xs)=n->bW xs=true->bW ys=true->IsTup s.heap a bh->bu s.heap xs bh.toList->IsTup s.heap b jL->bu s.heap ys jL.toList->EqAt A s (.ref a) (.ref b) (cP xs ys))
  (hl:∀{xs ys:List D} {a b:Addr} {bh jL:Array Value},dep (.lst xs)=n->bW xs=true->bW ys=true->PlainL s.heap a bh->bu s.heap xs bh.toList->PlainL s.heap b jL->bu s.heap ys jL.toList->EqAt A s (.ref a) (.ref b) (cP xs ys)):EqAt A s u v (fU d e):=by
 cases x with
 | cz=>
  cases y with
  | cz=>exact EqAt.same _
  | bl c=>exact EqAt.none_bool c
  | int j r=>exact EqAt.none_int j r
  | str y r=>exact EqAt.none_str y r
  | tup q' p'=>exact EqAt.none_tuple (aL q') fj
  | lst q' p'=>exact EqAt.none_list q'.isList fj
 | bl b=>
  cases y with
  | cz=>exact EqAt.bool_none b
  | bl c=>exact EqAt.bool_bool b c
  | int j r=>exact EqAt.bool_int b j r
  | str y r=>exact EqAt.bool_str b y r
  | tup q' p'=>exact EqAt.bool_tuple b (aL q') fj
  | lst q' p'=>exact EqAt.bool_list b q'.isList fj
 | int i t=>
  cases y with
  | cz=>exact EqAt.int_none i t
  | bl c=>exact EqAt.int_bool i t c
  | int j r=>exact EqAt.int_int i t j r
  | str y r=>exact EqAt.int_str i t y r
  | tup q' p'=>exact EqAt.int_tuple i t (aL q') fj
  | lst q' p'=>exact EqAt.int_list i t q'.isList fj
 | str x t=>
  cases y with
  | cz=>exact EqAt.str_none x t
  | bl c=>exact EqAt.str_bool x t c
  | int j r=>exact EqAt.str_int x t j r
  | str y r=>exact EqAt.str_str x t y r
  | tup q' p'=>exact EqAt.str_tuple x t (aL q') fj
  | lst q' p'=>exact EqAt.str_list x t q'.isList fj
 | tup q p=>
  cases y with
  | cz=>exact EqAt.tuple_none (aL q) fj
  | bl c=>exact EqAt.tuple_bool c (aL q) fj
  | int j r=>exact EqAt.tuple_int j r (aL q) fj
  | str y r=>exact EqAt.tuple_str y r (aL q) fj
  | tup q' p'=>exact ht hn (by rw[flat] at fx;exact fx) (by rw[flat] at fy;exact fy) q p q' p'
  | lst q' p'=>exact EqAt.tuple_list (aL q) q'.isList fj
 | lst q p=>
  cases y with
  | cz=>exact EqAt.list_none q.isList fj
  | bl c=>exact EqAt.list_bool c q.isList fj
  | int j r=>exact EqAt.list_int j r q.isList fj
  | str y r=>exact EqAt.list_str y r q.isList fj
  | tup q' p'=>exact EqAt.list_tuple q.isList (aL q') fj
  | lst q' p'=>exact hl hn (by rw[flat] at fx;exact fx) (by rw[flat] at fy;exact fy) q p q' p'
theorem sR(d e:D){A:Around}{u v:Value}(fx:flat d=true)(fy:flat e=true)(hu:eO s.heap d u)(hv:eO s.heap e v)(hr:A.units+dep d < cLine):EqAt A s u v (fU d e):=by
 generalize hn:dep d=n at hr
 induction n using Nat.strongRecOn generalizing d e A u v with
 | ind n ih=>
 walk_at"e"
 refine KQ (vw hu) (vw hv) fj hn fx fy (fun {xs ys a b bh jL} hn fx fy q p q' p'=>?_) (fun {xs ys a b bh jL} hn fx fy q p q' p'=>?_)
 ·by_cases sS:a=b
  ·subst sS
   have e:D.tup xs=D.tup ys:=eO.inj (h:=s.heap) _ _ (v:=.ref a) (by rw[eO];exact⟨a,bh,rfl,q,p⟩) (by rw[eO];exact⟨a,jL,rfl,q',p'⟩)
   obtain rfl:xs=ys:=by injection e
   rw[kU xs fx]
   exact EqAt.same _
  ·rw[<- vB p p']
   exact EqAt.of_refs sS (RcAt.tuples (aL q) (aL q') fj (kW p p' fun x y u v m1 m2 g1 g2=>ih _ (by rw[<- hn,dep];have:=gx m1;lia) _ _ (cJ fx m1) (cJ fy m2) g1 g2 rfl (by show A.units+1+_ < _;rw[<- hn,dep] at hr;have:=gx m1;lia)))
 ·by_cases sS:a=b
  ·subst sS
   have e:D.lst xs=D.lst ys:=eO.inj (h:=s.heap) _ _ (v:=.ref a) (by rw[eO];exact⟨a,bh,rfl,q,p⟩) (by rw[eO];exact⟨a,jL,rfl,q',p'⟩)
   obtain rfl:xs=ys:=by injection e
   rw[kU xs fx]
   exact EqAt.same _
  ·refine EqAt.of_refs sS ?_
   by_cases hl:bh.size=jL.size
   ·rw[<- Cv p p' hl]
    exact RcAt.lists q.isList q'.isList hl fj (kW p p' fun x y u v m1 m2 g1 g2=>ih _ (by rw[<- hn,dep];have:=gx m1;lia) _ _ (cJ fx m1) (cJ fy m2) g1 g2 rfl (by show A.units+1+_ < _;rw[<- hn,dep] at hr;have:=gx m1;lia))
   ·rw[<- Cw p p' hl]
    exact RcAt.lists_lengths q.isList q'.isList (by simpa using hl) fj
end
end Dm
end aa7
section aa8
namespace Dm
open PySem PyProof.Rows L2 HT
mutual
def fl:D->List Int
 | .int i=>[i]
 | .tup ds=>nR ds
 | .lst ds=>nR ds
 | _=>[]
def nR:List D->List Int
 | []=>[]
 | d::ds=>fl d++nR ds
end
mutual
def f7:D->D->Bool
 | .int _,.int _=>true
 | .tup xs,.tup ys=>fm xs ys
 | .lst xs,.lst ys=>fm xs ys
 | _,_=>false
def fm:List D->List D->Bool
 | [],[]=>true
 | x::xs,y::ys=>f7 x y&&fm xs ys
 | _,_=>false
end
mutual
theorem uL:∀(x y:D),f7 x y=true->(fl x).length=(fl y).length
 | .int _,.int _,_=>rfl
 | .tup xs,.tup ys,h=>by rw[fl,fl];exact vC xs ys (by rw[f7] at h;exact h)
 | .lst xs,.lst ys,h=>by rw[fl,fl];exact vC xs ys (by rw[f7] at h;exact h)
 | .cz,y,h=>by cases y <;> simp[f7] at h
 | .bl _,y,h=>by cases y <;> simp[f7] at h
 | .str _,y,h=>by cases y <;> simp[f7] at h
 | .bU _ _,y,h=>by cases y <;> simp[f7] at h
 | .int _,.cz,h=>by simp[f7] at h
 | .int _,.bl _,h=>by simp[f7] at h
 | .int _,.str _,h=>by simp[f7] at h
 | .int _,.tup _,h=>by simp[f7] at h
 | .int _,.lst _,h=>by simp[f7] at h
 | .int _,.bU _ _,h=>by simp[f7] at h
 | .tup _,.cz,h=>by simp[f7] at h
 | .tup _,.bl _,h=>by simp[f7] at h
 | .tup _,.str _,h=>by simp[f7] at h
 | .tup _,.int _,h=>by simp[f7] at h
 | .tup _,.lst _,h=>by simp[f7] at h
 | .tup _,.bU _ _,h=>by simp[f7] at h
 | .lst _,.cz,h=>by simp[f7] at h
 | .lst _,.bl _,h=>by simp[f7] at h
 | .lst _,.str _,h=>by simp[f7] at h
 | .lst _,.int _,h=>by simp[f7] at h
 | .lst _,.tup _,h=>by simp[f7] at h
 | .lst _,.bU _ _,h=>by simp[f7] at h
theorem vC:∀(xs ys:List D),fm xs ys=true->(nR xs).length=(nR ys).length
 | [],[],_=>rfl
 | [],_::_,h=>by simp[fm] at h
 | _::_,[],h=>by simp[fm] at h
 | x::xs,y::ys,h=>by
  rw[fm,Bool.and_eq_true] at h
  rw[nR,nR,List.length_append,List.length_append,uL x y h.1,vC xs ys h.2]
end
theorem dN{x y:D}(h:f7 x y=true):(∃i j,x = .int i/\y = .int j)\/(∃xs ys,x = .tup xs/\y = .tup ys/\fm xs ys=true)\/(∃xs ys,x = .lst xs/\y = .lst ys/\fm xs ys=true):=by
 cases x <;> cases y <;> simp[f7] at h
 ·exact .inl ⟨_,_,rfl,rfl⟩
 ·exact .inr (.inl ⟨_,_,rfl,rfl,h⟩)
 ·exact .inr (.inr ⟨_,_,rfl,rfl,h⟩)
mutual
theorem Dz:∀(x y:D),f7 x y=true->fl x=fl y->x=y
 | .int i,y,h,e=>by
  rcases dN h with ⟨i',j,e1,rfl⟩ | ⟨_,_,e1,_⟩ | ⟨_,_,e1,_⟩
  ·rw[fl,fl] at e;injection e with e;rw[e]
  ·cases e1
  ·cases e1
 | .tup xs,y,h,e=>by
  walk_at"W"
  ·cases e1
  ·walk_at"M"
   rw[fl,fl] at e
   rw[vD xs ys q e]
  ·cases e1
 | .lst xs,y,h,e=>by
  walk_at"d"
  ·cases e1
  ·cases e1
  ·walk_at"M"
   rw[fl,fl] at e
   rw[vD xs ys q e]
 | .cz,y,h,_=>by cases y <;> simp[f7] at h
 | .bl _,y,h,_=>by cases y <;> simp[f7] at h
 | .str _,y,h,_=>by cases y <;> simp[f7] at h
 | .bU _ _,y,h,_=>by cases y <;> simp[f7] at h
theorem vD:∀(xs ys:List D),fm xs ys=true->nR xs=nR ys->xs=ys
 | [],[],_,_=>rfl
 | [],_::_,h,_=>by simp[fm] at h
 | _::_,[],h,_=>by simp[fm] at h
 | x::xs,y::ys,h,e=>by
  rw[fm,Bool.and_eq_true] at h
  rw[nR,nR] at e
  obtain ⟨e1,e2⟩:=List.append_inj e (uL x y h.1)
  rw[Dz x y h.1 e1,vD xs ys h.2 e2]
end
mutual
theorem vE:∀(x y:D),f7 x y=true->flat x=true/\flat y=true
 | .int i,y,h=>by
  rcases dN h with ⟨_,j,_,rfl⟩ | ⟨_,_,e1,_⟩ | ⟨_,_,e1,_⟩
  ·exact⟨by rw[flat] <;> simp,by rw[flat] <;> simp⟩
  ·cases e1
  ·cases e1
 | .tup xs,y,h=>by
  walk_at"W"
  ·cases e1
  ·walk_at"M"
   rw[flat,flat];exact sV xs ys q
  ·cases e1
 | .lst xs,y,h=>by
  walk_at"d"
  ·cases e1
  ·cases e1
  ·walk_at"M"
   rw[flat,flat];exact sV xs ys q
 | .cz,y,h=>by cases y <;> simp[f7] at h
 | .bl _,y,h=>by cases y <;> simp[f7] at h
 | .str _,y,h=>by cases y <;> simp[f7] at h
 | .bU _ _,y,h=>by cases y <;> simp[f7] at h
theorem sV:∀(xs ys:List D),fm xs ys=true->bW xs=true/\bW ys=true
 | [],[],_=>⟨by rw[bW],by rw[bW]⟩
 | [],_::_,h=>by simp[fm] at h
 | _::_,[],h=>by simp[fm] at h
 | x::xs,y::ys,h=>by
  rw[fm,Bool.and_eq_true] at h
  obtain ⟨a,b⟩:=vE x y h.1
  obtain ⟨c,d⟩:=sV xs ys h.2
  rw[bW,bW,a,b,c,d];exact⟨rfl,rfl⟩
end
mutual
theorem Hs:∀(x y:D),f7 x y=true->fU x y=decide (fl x=fl y)
 | .int i,y,h=>by
  rcases dN h with ⟨_,j,_,rfl⟩ | ⟨_,_,e1,_⟩ | ⟨_,_,e1,_⟩
  ·rw[fU,fl,fl]
   by_cases c:i=j
   ·subst c;simp
   ·simp[c]
  ·cases e1
  ·cases e1
 | .tup xs,y,h=>by
  walk_at"W"
  ·cases e1
  ·walk_at"M"
   rw[fU,fl,fl];exact zb xs ys q
  ·cases e1
 | .lst xs,y,h=>by
  walk_at"d"
  ·cases e1
  ·cases e1
  ·walk_at"M"
   rw[fU,fl,fl];exact zb xs ys q
 | .cz,y,h=>by cases y <;> simp[f7] at h
 | .bl _,y,h=>by cases y <;> simp[f7] at h
 | .str _,y,h=>by cases y <;> simp[f7] at h
 | .bU _ _,y,h=>by cases y <;> simp[f7] at h
theorem zb:∀(xs ys:List D),fm xs ys=true->cP xs ys=decide (nR xs=nR ys)
 | [],[],_=>by rw[cP];simp[nR]
 | [],_::_,h=>by simp[fm] at h
 | _::_,[],h=>by simp[fm] at h
 | x::xs,y::ys,h=>by
  rw[fm,Bool.and_eq_true] at h
  rw[cP,Hs x y h.1,zb xs ys h.2,nR,nR]
  have l:=uL x y h.1
  by_cases c1:fl x=fl y
  ·rw[c1]
   by_cases c2:nR xs=nR ys
   ·rw[c2];simp
   ·simp[c2]
  ·have:¬ (fl x++nR xs=fl y++nR ys):=fun z=>c1 (List.append_inj z l).1
   simp[c1,this]
end
theorem zd:∀{a c b d:List Int},a.length=c.length->lexLt (a++b) (c++d)=if a=c then lexLt b d else lexLt a c
 | [],[],b,d,_=>by simp
 | x::a,y::c,b,d,h=>by
  rw[List.cons_append,List.cons_append,cX,cX,zd (a:=a) (c:=c) (by simpa using h)]
  by_cases e:x=y
  ·subst e
   by_cases e2:a=c
   ·subst e2;simp
   ·simp[e2]
  ·simp[e]
theorem uM:∀a:List Int,lexLt a a=false
 | []=>rfl
 | x::a=>by rw[cX,if_pos rfl];exact uM a
theorem ze:∀a b:List Int,lexLt a b=false->lexLt b a=false->a=b
 | [],[],_,_=>rfl
 | [],_::_,h,_=>by rw[nP] at h;cases h
 | _::_,[],_,h=>by rw[nP] at h;cases h
 | x::a,y::b,h1,h2=>by
  rw[cX] at h1 h2
  by_cases e:x=y
  ·subst e
   rw[if_pos rfl] at h1 h2
   rw[ze a b h1 h2]
  ·rw[if_neg e] at h1
   rw[if_neg (fun z=>e z.symm)] at h2
   have:=of_decide_eq_false h1
   have:=of_decide_eq_false h2
   lia
theorem lex_trans:∀a b c:List Int,lexLt a b=true->lexLt b c=true->lexLt a c=true
 | [],[],_,h,_=>by rw[iA] at h;cases h
 | [],_::_,[],_,h=>by rw[jh] at h;cases h
 | [],_::_,_::_,_,_=>rfl
 | _::_,[],_,h,_=>by rw[jh] at h;cases h
 | _::_,_::_,[],_,h=>by rw[jh] at h;cases h
 | x::a,y::b,z::c,h1,h2=>by
  rw[cX] at h1 h2 ⊢
  by_cases e1:x=y
  ·subst e1
   rw[if_pos rfl] at h1
   by_cases e2:x=z
   ·subst e2
    rw[if_pos rfl] at h2 ⊢
    exact lex_trans a b c h1 h2
   ·rw[if_neg e2] at h2 ⊢;exact h2
  ·rw[if_neg e1] at h1
   have k1:=of_decide_eq_true h1
   by_cases e2:y=z
   ·subst e2
    rw[if_neg e1];exact h1
   ·rw[if_neg e2] at h2
    have k2:=of_decide_eq_true h2
    rw[if_neg (by lia)]
    exact decide_eq_true (by lia)
theorem Ht(a b:List Int)(h:lexLt a b=true):lexLt b a=false:=by
 cases q:lexLt b a with
 | false=>rfl
 | true=>have:=lex_trans a b a h q;rw[uM] at this;cases this
def sF(a b:List Int):Bool:=!lexLt b a
theorem ES(a b:List Int):(sF a b || sF b a)=true:=by
 unfold sF
 cases q:lexLt b a with
 | false=>rfl
 | true=>rw[Ht b a q];rfl
theorem yc(a b c:List Int)(h1:sF a b=true)(h2:sF b c=true):sF a c=true:=by
 unfold sF at h1 h2 ⊢
 have h1:lexLt b a=false:=by simpa using h1
 have h2:lexLt c b=false:=by simpa using h2
 cases q:lexLt c a with
 | false=>rfl
 | true=>
  by_cases e:a=b
  ·subst e;rw[h2] at q;cases q
  ·have:lexLt a b=true:=by
    cases z:lexLt a b with
    | true=>rfl
    | false=>exact absurd (ze a b z h1) e
   have:=lex_trans c a b q this
   rw[h2] at this;cases this
theorem Hu(a b:List Int)(h1:sF a b=true)(h2:sF b a=true):a=b:=ze a b (by simpa[sF] using h2) (by simpa[sF] using h1)
def eY(ds:List D):List D:=ds.mergeSort fun a b=>sF (fl a) (fl b)
theorem dD(ds:List D):(eY ds).Perm ds:=List.mergeSort_perm _ _
theorem rm(ds:List D):(eY ds).Pairwise fun a b=>sF (fl a) (fl b)=true:=
 List.pairwise_mergeSort (le:=fun a b=>sF (fl a) (fl b)) (fun a b c=>yc (fl a) (fl b) (fl c)) (fun a b=>ES (fl a) (fl b)) ds
theorem fK{ds es:List D}(hs:∀a∈ds,∀b∈ds,f7 a b=true)(hp:es.Perm ds)(hw:es.Pairwise fun a b=>sF (fl a) (fl b)=true):es=eY ds:=by
 refine List.Perm.eq_of_pairwise (le:=fun a b=>sF (fl a) (fl b)=true) (fun a b ha hb h1 h2=>?_) hw (rm ds) (hp.trans (dD ds).symm)
 exact Dz a b (hs a (hp.mem_iff.mp ha) b ((dD ds).mem_iff.mp hb)) (Hu _ _ h1 h2)
end Dm
end aa8
section Ur
namespace Dm
open PySem PyProof.Rows L2 HT PySem.SeqAt
def Us(A:Around)(s:Shared)(u v:Value)(b:Bool):Prop:=
 ∀(prog:Program) (w:World) (E:Value->Shared->Prop) (Q:Value->Shared->Prop),Q (.bool b) s->wpAny (model prog w) A (richCompare .Lt u v) Q E s
inductive PL(A:Around)(s:Shared):List Value->List Value->List D->List D->Prop
 | nil:PL A s [] [] [] []
 | cons {v w:Value} {x y:D} {vs ws:List Value} {xs ys:List D}:EqAt A s v w (decide (fl x=fl y))->Us A s v w (lexLt (fl x) (fl y))->(fl x).length=(fl y).length->PL A s vs ws xs ys->PL A s (v::vs) (w::ws) (x::xs) (y::ys)
theorem PL.len{A:Around}{s:Shared}{vs ws:List Value}{xs ys:List D}(h:PL A s vs ws xs ys):vs.length=ws.length:=by
 induction h with
 | nil=>rfl
 | cons _ _ _ _ ih=>rw[List.length_cons,List.length_cons,ih]
section
open PySem.AutoSeq1 (wpAny_loadPart')
open PySem.MeetsSeq PySem.MeetsSeq2 PySem.MeetsSeq3
theorem Cy(l b:Addr)(items zf:Array Value)(n n2:Nat)(dd Ut:Option Addr)(sl OD:Array (Option Value))(xs ys:List D) :
  Meets (Builtin.«tuple.__lt__» ⟨[.ref l,.ref b],[]⟩) (fun A R s=>
   s.heap.get? l=some { cls:=.type "tuple",dict:=dd,data:=.seq items n,slots:=sl }/\
   s.heap.get? b=some { cls:=.type "tuple",dict:=Ut,data:=.seq zf n2,slots:=OD }/\
   PL A.in1 s items.toList zf.toList xs ys/\R (.ok (.ret (.bool (lexLt (nR xs) (nR ys))))) s):=
 .of_wp fun prog w A R s h=>by
  obtain ⟨hp,g,d,tk,os⟩:=s
  obtain ⟨hl,hb,hP,h⟩:=h
  have f2:=AutoSeq1.sub_tuple_tuple
  have KR:items.size=zf.size:=by simpa using hP.len
  wp_walk using wpAny_loadPart' hl,wpAny_loadPart' hb,wpAny_forIn_list _ (fun rest b s'=>b.1=none/\s'=⟨hp,g,d,tk,os⟩/\∃(vs ws:List Value) (sU G6:List D),rest=vs.zip ws/\
   PL A.in1 ⟨hp,g,d,tk,os⟩ vs ws sU G6/\R (.ok (.ret (.bool (lexLt (nR sU) (nR G6))))) ⟨hp,g,d,tk,os⟩) _
  case turn=>
   rintro ⟨y,x⟩ rest b s' ⟨xS,rfl,vs,ws,sU,G6,hz,Uu,hR⟩
   cases Uu with
   | nil=>cases hz
   | @cons v0 w0 x0 y0 _ _ _ _ he gG hfl aa9=>
    rw[List.zip_cons_cons] at hz
    injection hz with hyx Gh
    injection hyx with hy hx
    subst hy hx
    rw[nR,nR,zd hfl] at hR
    refine wpAny_bind (he prog w _ _ ?_)
    by_cases c:fl x0=fl y0
    ·rw[if_pos c] at hR
     rw[decide_eq_true c]
     wp_walk
     exact⟨rfl,rfl,_,_,_,_,Gh,aa9,hR⟩
    ·rw[if_neg c] at hR
     rw[decide_eq_false c]
     have hri:=gG prog w
     wp_walk using hri
     exact⟨_,rfl,by simpa using hR⟩
  case fin=>
   rintro ⟨b1,b2⟩ s' ⟨xS,rfl,vs,ws,sU,G6,hz,Uu,hR⟩
   simp only at xS
   subst xS
   cases Uu with
   | cons _ _ _ _=>cases hz
   | nil=>
    wp_walk
    refine⟨_,rfl,?_⟩
    simpa[Builtin.Tuple.tupleCompareSizes,KR,nR,iA] using hR
  case h=>exact⟨rfl,rfl,items.toList,zf.toList,xs,ys,rfl,hP,h⟩
end
mutual
def nl:D->Bool
 | .lst _=>false
 | .tup ds=>KS ds
 | _=>true
def KS:List D->Bool
 | []=>true
 | d::ds=>nl d&&KS ds
end
section
variable {s:Shared}
mutual
theorem OE:∀(x y:D) {A:Around} {u v:Value},f7 x y=true->nl x=true->eO s.heap x u->eO s.heap y v->A.units+dep x < cLine->Us A s u v (lexLt (fl x) (fl y))
 | .int i,y,A,u,v,h,_,hu,hv,_=>by
  rcases dN h with ⟨_,j,_,rfl⟩ | ⟨_,_,e1,_⟩ | ⟨_,_,e1,_⟩
  ·rw[eO] at hu
   rw[eO] at hv
   obtain ⟨t,rfl⟩:=hu
   obtain ⟨t',rfl⟩:=hv
   intro prog w E Q hq
   refine GZ A s i t j t' prog w E Q ?_
   rw[fl,fl,cX,iA] at hq
   by_cases c:i=j
   ·rw[if_pos c] at hq
    rw[decide_eq_false (by lia)];exact hq
   ·rw[if_neg c] at hq;exact hq
  ·cases e1
  ·cases e1
 | .tup xs,y,A,u,v,h,hn,hu,hv,hr=>by
  walk_at"W"
  ·cases e1
  ·walk_at"M"
   rw[eO] at hu
   rw[eO] at hv
   refine b8 hu fun a it aV t1 p1=>?_
   clear hu
   walk_at"#"
   refine b8 hv fun b it2 aV t2 p2=>?_
   clear hv
   walk_at"#"
   rw[dep] at hr
   rw[nl] at hn
   obtain ⟨⟨cls,dd,data,sl⟩,ho,hc,n,hd⟩:=id t1
   obtain ⟨⟨ab0,Ut,data2,OD⟩,Uv,OF,n2,hd2⟩:=id t2
   simp only at hc hd OF hd2
   subst hc hd OF hd2
   intro prog w E Q hq
   rw[fl,fl] at hq
   exact richCompare_meets_room (op:=.Lt) ⟨_,ho,rfl⟩ ⟨_,Uv,rfl⟩ PySem.F.slot_tuple_lt PySem.F.entry_tuple_lt (PySem.F.args_tuple_lt_2 _ _) (Cy a b it it2 n n2 dd Ut sl OD xs ys)
    ⟨ho,Uv,OG xs ys q hn p1 p2 (A:=A.in1) (by show A.units+1+_ < _;lia),show Value.bool (lexLt (nR xs) (nR ys))≠Value.notImplemented/\Q _ s from ⟨(fun x=>nomatch x),hq⟩⟩ (by lia)
  ·cases e1
 | .lst xs,y,A,u,v,h,hn,_,_,_=>by rw[nl] at hn;cases hn
 | .cz,y,_,_,_,h,_,_,_,_=>by cases y <;> simp[f7] at h
 | .bl _,y,_,_,_,h,_,_,_,_=>by cases y <;> simp[f7] at h
 | .str _,y,_,_,_,h,_,_,_,_=>by cases y <;> simp[f7] at h
 | .bU _ _,y,_,_,_,h,_,_,_,_=>by cases y <;> simp[f7] at h
theorem OG:∀(xs ys:List D) {A:Around} {vs ws:List Value},fm xs ys=true->KS xs=true->bu s.heap xs vs->bu s.heap ys ws->A.units+jT xs < cLine->PL A s vs ws xs ys
 | [],[],A,vs,ws,_,_,h1,h2,_=>by rw[bu] at h1 h2;subst h1;subst h2;exact .nil
 | [],_::_,_,_,_,h,_,_,_,_=>by simp[fm] at h
 | _::_,[],_,_,_,h,_,_,_,_=>by simp[fm] at h
 | x::xs,y::ys,A,vs,ws,h,hn,h1,h2,hr=>by
  rw[bu] at h1
  rw[bu] at h2
  refine b8 h1 fun v r aV a1 a2=>?_
  clear h1
  walk_at"#"
  refine b8 h2 fun v' r' aV b1 b2=>?_
  clear h2
  walk_at"#"
  rw[fm,Bool.and_eq_true] at h
  rw[KS,Bool.and_eq_true] at hn
  rw[jT] at hr
  obtain ⟨f1,f2⟩:=vE x y h.1
  refine .cons ?_ (OE x y h.1 hn.1 a1 b1 (by lia)) (uL x y h.1) (OG xs ys h.2 hn.2 a2 b2 (by lia))
  rw[<- Hs x y h.1]
  exact sR x y f1 f2 a1 b1 (by lia)
end
end
end Dm
end Ur
section Uw
namespace Dm
open PySem PySem.W PyProof.Rows L2 HT PySem.SeqAt So
mutual
theorem eO.keep{h h':Heap}(k:∀b o,h.get? b=some o->h'.get? b=some o):∀(d:D) {v:Value},eO h d v->eO h' d v
 | .cz,v,q=>by rw[eO] at q ⊢;exact q
 | .bl b,v,q=>by rw[eO] at q ⊢;exact q
 | .int i,v,q=>by rw[eO] at q ⊢;exact q
 | .str x,v,q=>by rw[eO] at q ⊢;exact q
 | .tup ds,v,q=>by
  rw[eO] at q ⊢
  refine b8 q fun a it e t p=>?_
  clear q
  exact⟨a,it,e,t.keeps k,bu.keep k ds p⟩
 | .lst ds,v,q=>by
  rw[eO] at q ⊢
  refine b8 q fun a it e t p=>?_
  clear q
  exact⟨a,it,e,t.keeps k,bu.keep k ds p⟩
 | .bU tb ds,v,q=>by rw[eO] at q;exact q.elim
theorem bu.keep{h h':Heap}(k:∀b o,h.get? b=some o->h'.get? b=some o):∀(ds:List D) {vs:List Value},bu h ds vs->bu h' ds vs
 | [],_,q=>by rw[bu] at q ⊢;exact q
 | d::ds,_,q=>by
  rw[bu] at q ⊢
  refine b8 q fun v r e a b=>?_
  clear q
  exact⟨v,r,e,eO.keep k d a,bu.keep k ds b⟩
end
theorem bu.of_map{h:Heap}{α:Type}(f:α->D)(g:α->Value):∀(l:List α),(∀x∈l,eO h (f x) (g x))->bu h (l.map f) (l.map g)
 | [],_=>by rw[List.map_nil,bu];rfl
 | x::l,hx=>by
  rw[List.map_cons,List.map_cons,bu]
  exact⟨_,_,rfl,hx x (.head _),bu.of_map f g l fun y hy=>hx y (.tail _ hy)⟩
theorem Cz{α:Type}{p q:α->Bool}:∀(l:List α),(∀x∈l,p x=true->q x=true)->l.countP p<=l.countP q
 | [],_=>Nat.le_refl _
 | x::l,h=>by
  rw[List.countP_cons,List.countP_cons]
  have ih:=Cz l fun y hy=>h y (.tail _ hy)
  by_cases c:p x=true
  ·rw[if_pos c,if_pos (h x (.head _) c)];lia
  ·rw[if_neg c];lia
theorem Hv{α:Type}{p q:α->Bool}:∀(l:List α),(∀x∈l,p x=true->q x=true)->∀z∈l,q z=true->p z=false->l.countP p < l.countP q
 | x::l,h,z,hz,hq,hp=>by
  rw[List.countP_cons,List.countP_cons]
  rcases List.mem_cons.mp hz with e | e
  ·subst e
   rw[if_neg (by rw[hp];exact Bool.false_ne_true),if_pos hq]
   have:=Cz l fun y hy=>h y (.tail _ hy)
   lia
  ·have ih:=Hv l (fun y hy=>h y (.tail _ hy)) z e hq hp
   by_cases c:p x=true
   ·rw[if_pos c,if_pos (h x (.head _) c)];lia
   ·rw[if_neg c];lia
def rk(ds:List D)(i:Nat):Nat:=(List.range ds.length).countP fun j=>lexLt (fl (ds.getD j .cz)) (fl (ds.getD i .cz))
theorem Nh(ds:List D){i j:Nat}(hi:i < ds.length):lexLt (fl (ds.getD i .cz)) (fl (ds.getD j .cz))=decide (rk ds i < rk ds j):=by
 cases q:lexLt (fl (ds.getD i .cz)) (fl (ds.getD j .cz)) with
 | true=>
  refine(decide_eq_true ?_).symm
  exact Hv _ (fun k _ hk=>lex_trans _ _ _ hk q) i (List.mem_range.mpr hi) q (uM _)
 | false=>
  refine(decide_eq_false (Nat.not_lt.mpr ?_)).symm
  refine Cz _ fun k _ hk=>?_
  cases z:lexLt (fl (ds.getD k .cz)) (fl (ds.getD i .cz)) with
  | true=>rfl
  | false=>
   have a:sF (fl (ds.getD i .cz)) (fl (ds.getD k .cz))=true:=by unfold sF;rw[z];rfl
   have b:sF (fl (ds.getD j .cz)) (fl (ds.getD i .cz))=true:=by unfold sF;rw[q];rfl
   have c:=yc _ _ _ b a
   unfold sF at c
   rw[hk] at c
   cases c
theorem map_range{α:Type}(ds:List α)(z:α):(List.range ds.length).map (fun i=>ds.getD i z)=ds:=by
 refine List.ext_getElem (by simp) fun i h1 h2=>?_
 simp at h1
 simp[h1]
theorem Hw{ds:List D}(hs:∀a∈ds,∀b∈ds,f7 a b=true){p:Array Nat}(hp:p.Perm (List.range ds.length).toArray)(hu:Up (rk ds) p ds.length):p.toList.map (fun i=>ds.getD i .cz)=eY ds:=by
 have pm:p.toList.Perm (List.range ds.length):=by
  have:=Array.perm_iff_toList_perm.mp hp
  simpa using this
 refine fK hs ?_ ?_
 ·have:=pm.map fun i=>ds.getD i D.cz
  rw[map_range] at this
  exact this
 ·rw[List.pairwise_map,List.pairwise_iff_getElem]
  intro i j hi hj qP
  have sz:p.toList.length=ds.length:=by rw[pm.length_eq,List.length_range]
  have u:=hu i j (Nat.le_of_lt qP) (by lia)
  have e:∀k (hk:k < p.toList.length),vl (rk ds) p k=rk ds p.toList[k]:=fun k hk=>by
   unfold vl
   have:k < p.size:=by rw[<- Array.length_toList];exact hk
   simp[Array.getD,this]
  rw[e i hi,e j hj] at u
  unfold sF
  rw[Nh ds (i:=p.toList[j])]
  ·rw[decide_eq_false (by lia)];rfl
  ·have:=pm.mem_iff.mp (List.getElem_mem hj)
   exact List.mem_range.mp this
inductive Sk:List D->SortKind->Prop
 | iy {ds:List D} {kd:SortKind}:ds.length < 2->Sk ds kd
 | nums {ds:List D}:(∀d∈ds,∃i,d = .int i)->Sk ds oneType'
 | qv {ds:List D}:(∀d∈ds,∃i xs,d = .tup (.int i::xs))->Sk ds (tuples' true)
 | OH {ds:List D}:(∀d∈ds,∃ys xs,d = .tup (.tup ys::xs))->Sk ds (tuples' false)
section
variable {prog:Program}{w:World}{A:Around}{E:Value->Shared->Prop}{s:Shared}
theorem zg(i j:Int):lexLt [i] [j]=decide (i < j):=by
 rw[cX,iA]
 by_cases c:i=j
 ·rw[if_pos c,decide_eq_false (by lia)]
 ·rw[if_neg c]
theorem AK{b fin:Bool}{Q:Bool->Shared->Prop}:∀(xs ys:List D) (vs ws:List Value) (i:Nat),(b=true->i=0->∃m n sU G6,xs = .int m::sU/\ys = .int n::G6)->fm xs ys=true->PL A s vs ws xs ys->bu s.heap xs vs->bu s.heap ys ws->fin=false->Q (lexLt (nR xs) (nR ys)) s->
  KatLex prog w A b fin Q (vs.zip ws) i s
 | [],[],vs,ws,i,_,_,hP,h1,h2,hf,hq=>by
  rw[bu] at h1 h2
  subst h1;subst h2
  show Q fin s
  rw[hf]
  exact hq
 | [],_::_,_,_,_,_,h,_,_,_,_,_=>by simp[fm] at h
 | _::_,[],_,_,_,_,h,_,_,_,_,_=>by simp[fm] at h
 | x::xs,y::ys,vs,ws,i,hb,h,hP,h1,h2,hf,hq=>by
  rw[bu] at h1
  rw[bu] at h2
  refine b8 h1 fun v r aV a1 a2=>?_
  clear h1
  walk_at"#"
  refine b8 h2 fun v' r' aV b1 b2=>?_
  clear h2
  walk_at"#"
  rw[fm,Bool.and_eq_true] at h
  cases hP with
  | cons he hl hfl Uu=>
   rw[nR,nR,zd hfl] at hq
   refine kat_cons (he prog w _ _ (kat_go (fun c=>kat_yes ?_) (fun c=>kat_no ?_)))
   ·have c:=of_decide_eq_true c
    rw[if_pos c] at hq
    exact AK xs ys r r' (i+1) (fun _ z=>absurd z (Nat.succ_ne_zero _)) h.2 Uu a2 b2 hf hq
   ·have c:=of_decide_eq_false c
    rw[if_neg c] at hq
    by_cases xS:b=true/\i=0
    ·obtain ⟨Rz,R1⟩:=xS
     refine Yz (hb Rz R1) fun m n _ _ e1 e2=>?_
     obtain ⟨rfl,_⟩:x = .int m/\_:=List.cons.inj e1
     obtain ⟨rfl,_⟩:y = .int n/\_:=List.cons.inj e2
     rw[eO] at a1
     rw[eO] at b1
     obtain ⟨t,rfl⟩:=a1
     obtain ⟨t',rfl⟩:=b1
     rw[Rz,R1]
     refine oneLt_int ?_
     rw[fl,fl,zg] at hq
     exact hq
    ·have:(b&&i==0)=false:=by
      cases b with
      | false=>rfl
      | true=>
       have:i≠0:=fun z=>xS ⟨rfl,z⟩
       simp[this]
     rw[this]
     exact kat_one _ _ (hl prog w _ _ (show PySem.W.BoolBack Q (.bool (lexLt (fl x) (fl y))) s from hq))
theorem u0{h:Heap}{ds:List D}{vs:List Value}(p:bu h ds vs){i:Nat}(hi:i < ds.length):eO h (ds.getD i .cz) (vs.getD i Value.none)/\ds.getD i .cz∈ds:=by
 have hv:i < vs.length:=by rw[p.len];exact hi
 obtain ⟨a,b⟩:=p.get i hv
 have e:vs.getD i Value.none=vs[i]:=by simp[hv]
 rw[e]
 exact⟨a,b⟩
theorem OI{ds:List D}{kd:SortKind}{vs:List Value}{i j:Nat}{C:Bool->Shared->Prop}(k:Sk ds kd)(h2:2<=ds.length)(hs:∀a∈ds,∀b∈ds,f7 a b=true)(hn:∀a∈ds,nl a=true)(hd:∀a∈ds,A.units+dep a < cLine)(p:bu s.heap ds vs)
  (hi:i < ds.length) (hj:j < ds.length) (hc:C (decide (rk ds i < rk ds j)) s):wpAny (model prog w) A (keyLt' kd (vs.getD i Value.none) (vs.getD j Value.none)) C (fun _ _=>False) s:=by
 rw[<- Nh ds hi] at hc
 obtain ⟨ai,mi⟩:=u0 p hi
 obtain ⟨aj,mj⟩:=u0 p hj
 generalize ds.getD i .cz=x at hc ai mi
 generalize ds.getD j .cz=y at hc aj mj
 have tup:∀{b:Bool} {xs ys:List D},x = .tup xs->y = .tup ys->(b=true->∃m n sU G6,xs = .int m::sU/\ys = .int n::G6)->wpAny (model prog w) A (keyLt' (tuples' b) (vs.getD i Value.none) (vs.getD j Value.none)) C (fun _ _=>False) s:=by
  intro b xs ys ex ey hb
  have sh:=hs x mi y mj
  have nx:=hn x mi
  have dx:=hd x mi
  subst ex;subst ey
  rw[f7] at sh
  rw[nl] at nx
  rw[dep] at dx
  rw[eO] at ai
  rw[eO] at aj
  refine b8 ai fun a it e1 uz p1=>?_
  clear ai
  obtain ⟨o1,q1,_,n1,d1⟩:=uz
  refine b8 aj fun b' it2 e2 uz p2=>?_
  clear aj
  obtain ⟨o2,q2,_,n2,d2⟩:=uz
  rw[e1,e2]
  have P:=OG xs ys (A:=A) sh nx p1 p2 (by lia)
  refine kat_lt q1 d1 q2 d2 (AK xs ys _ _ 0 (fun h _=>hb h) sh P p1 p2 (decide_eq_false ?_) ?_)
  ·have:it.toList.length=it2.toList.length:=P.len
   simp at this
   lia
  ·rw[fl,fl] at hc
   exact hc
 cases k with
 | iy h=>lia
 | nums h=>
  obtain ⟨m,rfl⟩:=h x mi
  obtain ⟨n,rfl⟩:=h y mj
  rw[eO] at ai
  rw[eO] at aj
  obtain ⟨t,e1⟩:=ai
  obtain ⟨t',e2⟩:=aj
  rw[e1,e2,keyLt'_oneType]
  refine oneLt_int ?_
  rw[fl,fl,zg] at hc
  exact hc
 | qv h=>
  refine qq (h x mi) fun m xs e1=>?_
  refine qq (h y mj) fun n ys e2=>?_
  exact tup e1 e2 fun _=>⟨m,n,xs,ys,rfl,rfl⟩
 | OH h=>
  refine qq (h x mi) fun m xs e1=>?_
  refine qq (h y mj) fun n ys e2=>?_
  exact tup e1 e2 fun z=>nomatch z
theorem zh{h:Heap}:∀{ds:List D} {vs:List Value} (f:D->Prop),(∀d∈ds,∃x xs,d = .tup (x::xs)/\f x)->bu h ds vs->∃fs:List Value,fs.length=ds.length/\KatTups h vs fs/\∀v∈fs,∃x,f x/\eO h x v
 | [],vs,f,_,p=>by
  rw[bu] at p;subst p
  exact⟨[],rfl,.nil,fun v hv=>absurd hv (by simp)⟩
 | d::ds,vs,f,hd,p=>by
  rw[bu] at p
  refine b8 p fun v r aV a b=>?_
  clear p
  walk_at"#"
  refine bQ (zh f (fun d JK=>hd d (.tail _ JK)) b) fun fs l k e=>?_
  refine cN (hd d (.head _)) fun x xs aV fx=>?_
  walk_at"#"
  rw[eO] at a
  refine b8 a fun ad it aV uz p1=>?_
  clear a
  walk_at"#"
  obtain ⟨o1,q1,c1,n1,d1⟩:=uz
  rw[bu] at p1
  refine b8 p1 fun y r' e1 a1 _=>?_
  clear p1
  refine⟨y::fs,by rw[List.length_cons,List.length_cons,l],.cons q1 c1 d1 ?_ k,fun z hz=>?_⟩
  ·rw[<- Array.getElem?_toList,e1];rfl
  ·rcases List.mem_cons.mp hz with rfl | hz
   ·exact⟨x,fx,a1⟩
   ·exact e z hz
theorem Hx{ds:List D}{kd:SortKind}{vs:List Value}{Q:SortKind->Shared->Prop}(k:Sk ds kd)(h2:2<=ds.length)(p:bu s.heap ds vs)(hq:Q kd s):wpAny (model prog w) A (keyKind' vs.toArray) Q E s:=by
 cases k with
 | iy h=>lia
 | nums h=>
  refine kas_kind (T:=.type "int") (by rw[p.len];exact h2) (fun v hv=>?_) (by decide) (by decide) hq
  obtain ⟨i,hi,e⟩:=List.mem_iff_getElem.mp hv
  obtain ⟨a,b⟩:=p.get i hi
  obtain ⟨m,em⟩:=h _ b
  rw[em,eO] at a
  obtain ⟨t,et⟩:=a
  rw[<- e,et]
  exact Looks.now
 | qv h=>
  obtain ⟨fs,l,kt,e⟩:=zh (fun x=>∃i,x = .int i) (fun d hd=>by obtain ⟨i,xs,e⟩:=h d hd;exact⟨_,xs,e,i,rfl⟩) p
  refine kat_kind (T:=.type "int") kt (by lia) (fun v hv=>?_) (by decide) hq
  refine aN (e v hv) fun x gM q=>?_
  obtain ⟨i,rfl⟩:=gM
  rw[eO] at q
  obtain ⟨t,rfl⟩:=q
  exact Looks.now
 | OH h=>
  obtain ⟨fs,l,kt,e⟩:=zh (fun x=>∃ys,x = .tup ys) (fun d hd=>by obtain ⟨ys,xs,e⟩:=h d hd;exact⟨_,xs,e,ys,rfl⟩) p
  refine kat_kind (T:=.type "tuple") kt (by lia) (fun v hv=>?_) (by decide) hq
  refine aN (e v hv) fun x gM q=>?_
  obtain ⟨ys,rfl⟩:=gM
  rw[eO] at q
  refine b8 q fun a it aV uz _=>?_
  clear q
  walk_at"#"
  obtain ⟨o1,q1,c1,_⟩:=uz
  have lk:Looks (model prog w) s.heap (typeOf (.ref a)) o1.cls:=(Looks.ld q1).andThen .now
  rw[c1] at lk
  exact lk
theorem u5{v:Value}{Pd:List D->SortKind->List Value->Prop}{Q:Value->Shared->Prop}
  (hk:∀es kd vs,Pd es kd vs->Sk es kd/\es.length < 64/\(∀a∈es,∀b∈es,f7 a b=true)/\(∀a∈es,nl a=true)/\∀a∈es,A.units+2+dep a < cLine)
  (ab1:∀R:List Value->Shared->Prop,(∀h' tk es kd vs,(∀b ob,s.heap.get? b=some ob->h'.get? b=some ob)->Pd es kd vs->bu h' es vs->R vs { s with heap:=h',toks:=tk })->wpAny (model prog w) A.in1 (collect v) R E s)
  (h:∀(h1 h':Heap) tk es kd vs L n (pm:List Nat),(∀b ob,s.heap.get? b=some ob->h1.get? b=some ob)->(∀b ob,h1.get? b=some ob->h'.get? b=some ob)->Pd es kd vs->bu h1 es vs->h1.objs.size<=L->(∀i∈pm,i < es.length)->eY es=pm.map (fun i=>es.getD i .cz)->
   h'.get? L=some (seqObj "list" (pm.map fun i=>vs.getD i Value.none).toArray n)->Q (.ref L) { s with heap:=h',toks:=tk }) :
  wpAny (model prog w) A (call (.builtin "sorted") [v]) Q E s:=by
 refine Calls.call_function_entry kind_sorted plain_sorted entry_sorted (args_sorted1 _) ?_
 unfold Builtin.«sorted»
 refine wpAny_bind (m:=checkCount "sorted" 1 1 _) (wpAny_pure ?_)
 refine wpAny_bind (ab1 _ fun h1 tk es kd vs k1 pd p=>?_)
 refine El (hk es kd vs pd) fun sk l64 hs hn hd=>?_
 have lv:vs.length=es.length:=p.len
 have big:64<=sizeLine:=by rw[sizeLine_eq];decide
 refine wpAny_bind (wpAny_newList ?_ (by lia))
 have oL:(h1.push (seqObj "list" vs.toArray 0)).get? h1.objs.size=some (seqObj "list" vs.toArray 0):=Heap.get?_push_size _ rfl
 have nk:∀h',Keeps h1.objs.size (h1.push (seqObj "list" vs.toArray 0)) h'->∀b ob,h1.get? b=some ob->h'.get? b=some ob:=fun h' kh b ob e=>kh b ob (Nat.ne_of_lt (Heap.lt_size e)) (Heap.get?_push_of_some _ e)
 refine wpAny_bind (wpAny_holding (wpAny_call_entry slot_list_sort ⟨_,oL,rfl⟩ entry_list_sort ?body (args_list_sort _)))
 case body=>
  refine yN (kd:=kd) (r:=rk es) (s:={ s with heap:=h1.push (seqObj "list" vs.toArray 0),toks:=tk }) oL (by lia) (fun h2 h' R kh hR=>Hx sk (by lia) (p.keep (nk h' kh)) hR) (fun h2 h' i j C kh hi hj hC=>?_) fun h' n' pm kh hp hu ho=>?_
  ·exact OI sk (by lia) hs hn (fun a ha=>by have:=hd a ha;show A.units+1+1+_ < _;lia) (p.keep (nk h' kh)) (by lia) (by lia) hC
  ·rw[lv] at hp hu
   have lt:∀i∈pm.toList,i < es.length:=fun i hi=>by
    have:=(Array.perm_iff_toList_perm.mp hp).mem_iff.mp hi
    simpa using this
   exact⟨_,rfl,wpAny_pure ⟨_,rfl,h h1 h' tk es kd vs _ n' pm.toList k1 (nk h' kh) pd p (Nat.le_refl _) lt (Hw hs hp hu).symm ho⟩⟩
end
end Dm
end Uw
section ab2
namespace Dm
open PySem PyProof.Rows L2 PySem.SeqAt
section
variable {s:Shared}
theorem KU{A:Around}{d e:D}{u v:Value}{n:Nat}(x:Vw s.heap d u)(y:Vw s.heap e v)(fj:A.units < cLine)(hn:dep d=n)(fx:flat d=true)(fy:flat e=true)
  (ht:∀{xs ys:List D} {a b:Addr} {bh jL:Array Value},dep (.tup xs)=n->bW xs=true->bW ys=true->IsTup s.heap a bh->bu s.heap xs bh.toList->IsTup s.heap b jL->bu s.heap ys jL.toList->RcAt A s (.ref a) (.ref b) (cP xs ys))
  (hl:∀{xs ys:List D} {a b:Addr} {bh jL:Array Value},dep (.lst xs)=n->bW xs=true->bW ys=true->PlainL s.heap a bh->bu s.heap xs bh.toList->PlainL s.heap b jL->bu s.heap ys jL.toList->RcAt A s (.ref a) (.ref b) (cP xs ys)):RcAt A s u v (fU d e):=by
 cases x with
 | cz=>
  cases y with
  | cz=>exact RcAt.none_none
  | bl c=>exact RcAt.none_bool c
  | int j r=>exact RcAt.none_int j r
  | str y r=>exact RcAt.none_str y r
  | tup q' p'=>exact RcAt.none_tuple (aL q') fj
  | lst q' p'=>exact RcAt.none_list q'.isList fj
 | bl b=>
  cases y with
  | cz=>exact RcAt.bool_none b
  | bl c=>exact RcAt.bool_bool b c
  | int j r=>exact RcAt.bool_int b j r
  | str y r=>exact RcAt.bool_str b y r
  | tup q' p'=>exact RcAt.bool_tuple b (aL q') fj
  | lst q' p'=>exact RcAt.bool_list b q'.isList fj
 | int i t=>
  cases y with
  | cz=>exact RcAt.int_none i t
  | bl c=>exact RcAt.int_bool i t c
  | int j r=>exact RcAt.int_int i t j r
  | str y r=>exact RcAt.int_str i t y r
  | tup q' p'=>exact RcAt.int_tuple i t (aL q') fj
  | lst q' p'=>exact RcAt.int_list i t q'.isList fj
 | str x t=>
  cases y with
  | cz=>exact RcAt.str_none x t
  | bl c=>exact RcAt.str_bool x t c
  | int j r=>exact RcAt.str_int x t j r
  | str y r=>exact RcAt.str_str x t y r
  | tup q' p'=>exact RcAt.str_tuple x t (aL q') fj
  | lst q' p'=>exact RcAt.str_list x t q'.isList fj
 | tup q p=>
  cases y with
  | cz=>exact RcAt.tuple_none (aL q) fj
  | bl c=>exact RcAt.tuple_bool c (aL q) fj
  | int j r=>exact RcAt.tuple_int j r (aL q) fj
  | str y r=>exact RcAt.tuple_str y r (aL q) fj
  | tup q' p'=>exact ht hn (by rw[flat] at fx;exact fx) (by rw[flat] at fy;exact fy) q p q' p'
  | lst q' p'=>exact RcAt.tuple_list (aL q) q'.isList fj
 | lst q p=>
  cases y with
  | cz=>exact RcAt.list_none q.isList fj
  | bl c=>exact RcAt.list_bool c q.isList fj
  | int j r=>exact RcAt.list_int j r q.isList fj
  | str y r=>exact RcAt.list_str y r q.isList fj
  | tup q' p'=>exact RcAt.list_tuple q.isList (aL q') fj
  | lst q' p'=>exact hl hn (by rw[flat] at fx;exact fx) (by rw[flat] at fy;exact fy) q p q' p'
theorem OJ(d e:D){A:Around}{u v:Value}(fx:flat d=true)(fy:flat e=true)(hu:eO s.heap d u)(hv:eO s.heap e v)(hr:A.units+dep d < cLine):RcAt A s u v (fU d e):=by
 walk_at"e"
 refine KU (vw hu) (vw hv) fj rfl fx fy (fun {xs ys a b bh jL} hn fx fy q p q' p'=>?_) (fun {xs ys a b bh jL} hn fx fy q p q' p'=>?_)
 ·rw[<- vB p p']
  exact RcAt.tuples (aL q) (aL q') fj (kW p p' fun x y u v m1 m2 g1 g2=>sR _ _ (cJ fx m1) (cJ fy m2) g1 g2 (by show A.units+1+_ < _;rw[<- hn,dep] at hr;have:=gx m1;lia))
 ·by_cases hl:bh.size=jL.size
  ·rw[<- Cv p p' hl]
   exact RcAt.lists q.isList q'.isList hl fj (kW p p' fun x y u v m1 m2 g1 g2=>sR _ _ (cJ fx m1) (cJ fy m2) g1 g2 (by show A.units+1+_ < _;rw[<- hn,dep] at hr;have:=gx m1;lia))
  ·rw[<- Cw p p' hl]
   exact RcAt.lists_lengths q.isList q'.isList (by simpa using hl) fj
theorem ET{A:Around}{d e:D}{u v:Value}{n:Nat}(x:Vw s.heap d u)(y:Vw s.heap e v)(fj:A.units < cLine)(hn:dep d=n)(fx:flat d=true)(fy:flat e=true)
  (ht:∀{xs ys:List D} {a b:Addr} {bh jL:Array Value},dep (.tup xs)=n->bW xs=true->bW ys=true->IsTup s.heap a bh->bu s.heap xs bh.toList->IsTup s.heap b jL->bu s.heap ys jL.toList->RcNeAt A s (.ref a) (.ref b) (!cP xs ys))
  (hl:∀{xs ys:List D} {a b:Addr} {bh jL:Array Value},dep (.lst xs)=n->bW xs=true->bW ys=true->PlainL s.heap a bh->bu s.heap xs bh.toList->PlainL s.heap b jL->bu s.heap ys jL.toList->RcNeAt A s (.ref a) (.ref b) (!cP xs ys)):RcNeAt A s u v (!fU d e):=by
 cases x with
 | cz=>
  cases y with
  | cz=>exact RcNeAt.none_none
  | bl c=>exact RcNeAt.none_bool c
  | int j r=>exact RcNeAt.none_int j r
  | str y r=>exact RcNeAt.none_str y r
  | tup q' p'=>exact RcNeAt.none_tuple (aL q') fj
  | lst q' p'=>exact RcNeAt.none_list q'.isList fj
 | bl b=>
  cases y with
  | cz=>exact RcNeAt.bool_none b
  | bl c=>exact RcNeAt.bool_bool b c
  | int j r=>exact RcNeAt.bool_int b j r
  | str y r=>exact RcNeAt.bool_str b y r
  | tup q' p'=>exact RcNeAt.bool_tuple b (aL q') fj
  | lst q' p'=>exact RcNeAt.bool_list b q'.isList fj
 | int i t=>
  cases y with
  | cz=>exact RcNeAt.int_none i t
  | bl c=>exact RcNeAt.int_bool i t c
  | int j r=>exact RcNeAt.int_int i t j r
  | str y r=>exact RcNeAt.int_str i t y r
  | tup q' p'=>exact RcNeAt.int_tuple i t (aL q') fj
  | lst q' p'=>exact RcNeAt.int_list i t q'.isList fj
 | str x t=>
  cases y with
  | cz=>exact RcNeAt.str_none x t
  | bl c=>exact RcNeAt.str_bool x t c
  | int j r=>exact RcNeAt.str_int x t j r
  | str y r=>exact RcNeAt.str_str x t y r
  | tup q' p'=>exact RcNeAt.str_tuple x t (aL q') fj
  | lst q' p'=>exact RcNeAt.str_list x t q'.isList fj
 | tup q p=>
  cases y with
  | cz=>exact RcNeAt.tuple_none (aL q) fj
  | bl c=>exact RcNeAt.tuple_bool c (aL q) fj
  | int j r=>exact RcNeAt.tuple_int j r (aL q) fj
  | str y r=>exact RcNeAt.tuple_str y r (aL q) fj
  | tup q' p'=>exact ht hn (by rw[flat] at fx;exact fx) (by rw[flat] at fy;exact fy) q p q' p'
  | lst q' p'=>exact RcNeAt.tuple_list (aL q) q'.isList fj
 | lst q p=>
  cases y with
  | cz=>exact RcNeAt.list_none q.isList fj
  | bl c=>exact RcNeAt.list_bool c q.isList fj
  | int j r=>exact RcNeAt.list_int j r q.isList fj
  | str y r=>exact RcNeAt.list_str y r q.isList fj
  | tup q' p'=>exact RcNeAt.list_tuple q.isList (aL q') fj
  | lst q' p'=>exact hl hn (by rw[flat] at fx;exact fx) (by rw[flat] at fy;exact fy) q p q' p'
theorem Hy(d e:D){A:Around}{u v:Value}(fx:flat d=true)(fy:flat e=true)(hu:eO s.heap d u)(hv:eO s.heap e v)(hr:A.units+dep d < cLine):RcNeAt A s u v (!fU d e):=by
 walk_at"e"
 refine ET (vw hu) (vw hv) fj rfl fx fy (fun {xs ys a b bh jL} hn fx fy q p q' p'=>?_) (fun {xs ys a b bh jL} hn fx fy q p q' p'=>?_)
 ·rw[<- vB p p']
  exact RcNeAt.tuples (aL q) (aL q') fj (kW p p' fun x y u v m1 m2 g1 g2=>sR _ _ (cJ fx m1) (cJ fy m2) g1 g2 (by show A.units+1+_ < _;rw[<- hn,dep] at hr;have:=gx m1;lia))
 ·by_cases hl:bh.size=jL.size
  ·rw[<- Cv p p' hl]
   exact RcNeAt.lists q.isList q'.isList hl fj (kW p p' fun x y u v m1 m2 g1 g2=>sR _ _ (cJ fx m1) (cJ fy m2) g1 g2 (by show A.units+1+_ < _;rw[<- hn,dep] at hr;have:=gx m1;lia))
  ·rw[<- Cw p p' hl]
   exact RcNeAt.lists_lengths q.isList q'.isList (by simpa using hl) fj
end
end Dm
end ab2
section ab3
namespace Dm
open PySem PyProof.Rows L2 PySem.SeqAt
theorem aG.tup{K:PySem.W.Frag}{H H':Hp}{a:Addr}{xs:List V}(e:aG H H')(h:kT K H a xs):kT K H' a xs:=by
 rcases h with (h | ⟨o,h⟩) | h
 ·exact .inl (.inl (e _ _ h))
 ·exact .inl (.inr ⟨o,e _ _ h⟩)
 ·exact .inr h
def er(H:Hp)(A:List Addr):Hp:=fun a=>if a∈A then none else H a
theorem cV{H:Hp}{A:List Addr}{a:Addr}(h:a∈A):er H A a=none:=if_pos h
theorem aW{H:Hp}{A:List Addr}{a:Addr}(h:a∉A):er H A a=H a:=if_neg h
theorem aH(H:Hp)(A:List Addr):aG (er H A) H:=fun b o h=>by
 by_cases q:b∈A
 ·rw[cV q] at h;cases h
 ·rwa [aW q] at h
theorem aD{H H':Hp}{A:List Addr}(e:aG H H'):aG (er H A) (er H' A):=fun b o h=>by
 by_cases q:b∈A
 ·rw[cV q] at h;cases h
 ·rw[aW q] at h ⊢;exact e b o h
structure Cfg where
 ob:Nat->PySem.W.Frag->Hp->Addr->List V->Prop
 mono:∀{t:Nat} {K:PySem.W.Frag} {H H':Hp} {a:Addr} {vs:List V},aG H H'->ob t K H a vs->ob t K H' a vs
 own:PySem.W.Frag->Hp->Hp->Addr->List V->Prop
 DC:∀{K:PySem.W.Frag} {F F' H H':Hp} {a:Addr} {vs:List V},aG F F'->H' a=H a->own K F H a vs->own K F' H' a vs
 Ni:∀{K:PySem.W.Frag} {F G H:Hp} {a:Addr} {vs:List V},own K F H a vs->aG F G->G a=H a->ob 2 K G a vs
 Ux:∀{K:PySem.W.Frag} {F H:Hp} {a:Addr} {vs:List V},own K F H a vs->∃φ,H a=some (.ext φ)
def Uy:Cfg:=⟨fun _ _ _ _ _=>False,fun _ h=>h,fun _ _ _ _ _=>False,fun _ _ h=>h,fun h _ _=>h,fun h=>h.elim⟩
mutual
def Rep(K:PySem.W.Frag)(C:Cfg):Hp->D->V->Prop
 | _,.cz,v=>v = .cz
 | _,.bl b,v=>v = .bl b
 | _,.int i,v=>v = .int i
 | _,.str x,v=>v = .str x
 | H,.tup ds,v=>∃a xs,v = .ref a/\kT K H a xs/\aM K C H ds xs
 | H,.lst ds,v=>∃a xs,v = .ref a/\jJ K H a xs/\aM K C (er H [a]) ds xs
 | H,.bU t ds,v=>∃a xs,v = .ref a/\C.ob t K H a xs/\aM K C H ds xs
def aM(K:PySem.W.Frag)(C:Cfg):Hp->List D->List V->Prop
 | _,[],vs=>vs=[]
 | H,d::ds,vs=>∃v r,vs=v::r/\Rep K C H d v/\aM K C H ds r
end
section
variable {K:PySem.W.Frag}{C:Cfg}
mutual
theorem Rep.same:∀{H H':Hp} (e:aG H H') (d:D) {v:V},Rep K C H d v->Rep K C H' d v
 | _,_,e,.cz,v,q=>by rw[Rep] at q ⊢;exact q
 | _,_,e,.bl b,v,q=>by rw[Rep] at q ⊢;exact q
 | _,_,e,.int i,v,q=>by rw[Rep] at q ⊢;exact q
 | _,_,e,.str x,v,q=>by rw[Rep] at q ⊢;exact q
 | _,_,e,.tup ds,v,q=>by
  rw[Rep] at q ⊢
  refine b8 q fun a xs h1 h2 h3=>?_
  clear q
  exact⟨a,xs,h1,aG.tup e h2,aM.same e ds h3⟩
 | _,_,e,.lst ds,v,q=>by
  rw[Rep] at q ⊢
  refine b8 q fun a xs h1 h2 h3=>?_
  clear q
  exact⟨a,xs,h1,e.seq h2,aM.same (aD e) ds h3⟩
 | _,_,e,.bU t ds,v,q=>by
  rw[Rep] at q ⊢
  refine b8 q fun a xs h1 h2 h3=>?_
  clear q
  exact⟨a,xs,h1,C.mono e h2,aM.same e ds h3⟩
theorem aM.same:∀{H H':Hp} (e:aG H H') (ds:List D) {vs:List V},aM K C H ds vs->aM K C H' ds vs
 | _,_,e,[],_,q=>by rw[aM] at q ⊢;exact q
 | _,_,e,d::ds,_,q=>by
  rw[aM] at q ⊢
  refine b8 q fun v r e1 a b=>?_
  clear q
  exact⟨v,r,e1,Rep.same e d a,aM.same e ds b⟩
end
variable {H H':Hp}
theorem Rep.items{ds:List D}{v:V}(q:Rep K C H (.lst ds) v):∃a xs,v = .ref a/\jJ K H a xs/\aM K C H ds xs:=by
 rw[Rep] at q
 refine b8 q fun a xs h1 h2 h3=>?_
 clear q
 exact⟨a,xs,h1,h2,h3.same (aH _ _) _⟩
theorem aM.len:∀{ds:List D} {vs:List V},aM K C H ds vs->vs.length=ds.length
 | [],_,e=>by rw[aM] at e;subst e;rfl
 | d::ds,_,e=>by
  rw[aM] at e
  refine b8 e fun v r aV _ q=>?_
  clear e
  walk_at"#"
  rw[List.length_cons,List.length_cons,q.len]
theorem aM.get':∀{ds:List D} {vs:List V} {j:Nat} {d:D},aM K C H ds vs->ds[j]?=some d->∃v,vs[j]?=some v/\Rep K C H d v
 | [],_,j,v,e,h=>by cases h
 | d::ds,_,j,v,e,h=>by
  rw[aM] at e
  refine b8 e fun u r aV a q=>?_
  clear e
  walk_at"#"
  cases j with
  | zero=>cases h;exact⟨u,rfl,a⟩
  | succ j=>
   refine aN (q.get' (j:=j) (by simpa using h)) fun z h1 h2=>?_
   exact⟨z,by simpa using h1,h2⟩
theorem aM.nil:aM K C H [] []:=by rw[aM]
theorem aM.cons{d:D}{ds:List D}{v:V}{vs:List V}(a:Rep K C H d v)(b:aM K C H ds vs):aM K C H (d::ds) (v::vs):=by rw[aM];exact⟨v,vs,rfl,a,b⟩
theorem aM.app:∀{ds es:List D} {vs ws:List V},aM K C H ds vs->aM K C H es ws->aM K C H (ds++es) (vs++ws)
 | [],_,_,_,a,b=>by rw[aM] at a;subst a;exact b
 | d::ds,_,_,_,a,b=>by
  rw[aM] at a
  refine b8 a fun v r aV a1 a2=>?_
  clear a
  walk_at"#"
  exact .cons a1 (a2.app b)
theorem aM.take:∀{ds:List D} {vs:List V} (n:Nat),aM K C H ds vs->aM K C H (ds.take n) (vs.take n)
 | [],_,n,a=>by rw[aM] at a;subst a;simp[aM]
 | d::ds,_,0,a=>by simp[aM]
 | d::ds,_,n+1,a=>by
  rw[aM] at a
  refine b8 a fun v r aV a1 a2=>?_
  clear a
  walk_at"#"
  rw[List.take_succ_cons,List.take_succ_cons]
  exact .cons a1 (a2.take n)
theorem aM.drop:∀{ds:List D} {vs:List V} (n:Nat),aM K C H ds vs->aM K C H (ds.drop n) (vs.drop n)
 | [],_,n,a=>by rw[aM] at a;subst a;simp[aM]
 | d::ds,_,0,a=>a
 | d::ds,_,n+1,a=>by
  rw[aM] at a
  refine b8 a fun v r aV a1 a2=>?_
  clear a
  walk_at"#"
  rw[List.drop_succ_cons,List.drop_succ_cons]
  exact a2.drop n
theorem aM.ints:∀ns:List Int,aM K C H (ns.map D.int) (ns.map V.int)
 | []=>.nil
 | n::ns=>.cons (by rw[Rep]) (aM.ints ns)
end
section
variable {X:Cx}{pins:List (Addr×Obj)}{σ:L2.St}{H:Hp}{s:Shared}{C:Cfg}
mutual
theorem Inv.dat(I:Inv X pins σ H s):∀(d:D) {v:V} {u:Value},flat d=true->Rep X.K C H d v->RelV v u->eO s.heap d u
 | .cz,v,u,_,q,r=>by rw[Rep] at q;subst q;rw[eO];exact r
 | .bl b,v,u,_,q,r=>by rw[Rep] at q;subst q;rw[eO];exact r
 | .int i,v,u,_,q,r=>by rw[Rep] at q;subst q;rw[eO];exact r
 | .str x,v,u,_,q,r=>by rw[Rep] at q;subst q;rw[eO];exact r
 | .tup ds,v,u,f,q,r=>by
  rw[Rep] at q
  rw[flat] at f
  refine b8 q fun a xs aV h2 h3=>?_
  clear q
  walk_at"#"
  obtain rfl:u = .ref a:=r
  refine bQ (I.tuple h2) fun bh r1 t _=>?_
  rw[eO]
  exact⟨a,bh.toArray,rfl,t,Inv.KW I ds f h3 r1⟩
 | .lst ds,v,u,f,q,r=>by
  have q:=q.items
  rw[flat] at f
  refine b8 q fun a xs aV h2 h3=>?_
  clear q
  walk_at"#"
  obtain rfl:u = .ref a:=r
  refine bQ (I.list h2) fun bh r1 t _=>?_
  rw[eO]
  exact⟨a,bh.toArray,rfl,t,Inv.KW I ds f h3 r1⟩
 | .bU tb ds,v,u,f,q,r=>by rw[flat] at f;cases f
theorem Inv.KW(I:Inv X pins σ H s):∀(ds:List D) {vs:List V} {us:List Value},bW ds=true->aM X.K C H ds vs->Vals vs us->bu s.heap ds us
 | [],_,_,_,q,r=>by rw[aM] at q;subst q;cases r;rw[bu]
 | d::ds,_,_,f,q,r=>by
  rw[aM] at q
  refine b8 q fun v MU aV a b=>?_
  clear q
  walk_at"#"
  rw[bW,Bool.and_eq_true] at f
  cases r with
  | cons r1 r2=>
   rw[bu]
   exact⟨_,_,rfl,Inv.dat I d f.1 a r1,Inv.KW I ds f.2 b r2⟩
end
def OL(K:PySem.W.Frag)(C:Cfg)(neg:Bool):R2:=fun x y H Q=>∃d e,Rep K C H d x/\Rep K C H e y/\flat d=true/\flat e=true/\dep d<=60/\Q (.bl (if neg then !fU d e else fU d e)) H
theorem vF(hu:X.A.units+64 < cLine):q9 X (compareOp .Eq) (OL X.K C false):=by
 intro pins s σ H x y v u Q I rx ry ⟨d,e,h1,h2,f1,f2,h3,q⟩
 exact OJ d e f1 f2 (Inv.dat I d f1 h1 rx) (Inv.dat I e f2 h2 ry) (by lia) _ _ _ _ ⟨.bl (fU d e),H,I,rfl,q⟩
theorem nS(hu:X.A.units+64 < cLine):q9 X (compareOp .NotEq) (OL X.K C true):=by
 intro pins s σ H x y v u Q I rx ry ⟨d,e,h1,h2,f1,f2,h3,q⟩
 exact Hy d e f1 f2 (Inv.dat I d f1 h1 rx) (Inv.dat I e f2 h2 ry) (by lia) _ _ _ _ ⟨.bl (!fU d e),H,I,rfl,q⟩
def OM(K:PySem.W.Frag)(C:Cfg)(neg:Bool):R2:=fun x y H Q=>∃d es,Rep K C H d x/\(Rep K C H (.lst es) y\/Rep K C H (.tup es) y)/\flat d=true/\bW es=true/\jT es<=60/\Q (.bl (if neg then !(es.any fun e=>fU e d) else es.any fun e=>fU e d)) H
def u6(h:Heap)(d:D)(y:Value):Bool:=@decide (∃e,eO h e y/\fU e d=true) (Classical.propDecidable _)
theorem AL{h:Heap}{d e:D}{y:Value}(q:eO h e y):u6 h d y=fU e d:=by
 unfold u6
 cases z:fU e d with
 | true=>exact @decide_eq_true _ (Classical.propDecidable _) ⟨e,q,z⟩
 | false=>
  refine @decide_eq_false _ (Classical.propDecidable _) ?_
  rintro ⟨e',q',z'⟩
  rw[eO.inj e e' q q'] at z
  rw[z] at z';cases z'
theorem kX{h:Heap}{d:D}:∀(es:List D) {ys:List Value},bu h es ys->ys.any (u6 h d)=es.any fun e=>fU e d
 | [],_,q=>by rw[bu] at q;subst q;rfl
 | e::es,_,q=>by
  rw[bu] at q
  refine b8 q fun v r aV a b=>?_
  clear q
  walk_at"#"
  rw[List.any_cons,List.any_cons,AL a,kX es b]
theorem lM{A:Around}{d:D}{x:Value}(fd:flat d=true)(hx:eO s.heap d x){es:List D}{ys:List Value}(f:bW es=true)(q:bu s.heap es ys)(hu:A.units+jT es < cLine):∀y∈ys,EqAt A s y x (u6 s.heap d y):=fun y hy=>by
 obtain ⟨j,hj,e⟩:=List.mem_iff_getElem.mp hy
 obtain ⟨a,b⟩:=q.get j hj
 rw[e] at a
 rw[AL a]
 have:=gx b
 exact sR _ _ (cJ f b) fd a hx (by lia)
theorem lN(hu:X.A.units+64 < cLine):q9 X (compareOp .In) (OM X.K C false):=by
 intro pins s σ H x y v u Q I rx ry ⟨d,es,h1,h2,f1,f2,h3,q⟩
 have hd:=Inv.dat I d f1 h1 rx
 rcases h2 with h2 | h2
 ·have he:=Inv.dat I (.lst es) (by rw[flat];exact f2) h2 ry
  rw[eO] at he
  refine b8 he fun a it aV t p=>?_
  clear he
  walk_at"#"
  refine in_listAt (u6 s.heap d) t.isList (fun y hy=>lM f1 hd f2 p (by show X.A.units+1+_ < _;lia) y (Array.mem_toList_iff.mpr hy)) ?_
  rw[<- Array.any_toList,kX es p]
  exact⟨.bl (es.any fun e=>fU e d),H,I,rfl,q⟩
 ·have he:=Inv.dat I (.tup es) (by rw[flat];exact f2) h2 ry
  rw[eO] at he
  refine b8 he fun a it aV t p=>?_
  clear he
  walk_at"#"
  refine in_tupleAt (u6 s.heap d) (aL t) (fun y hy=>lM f1 hd f2 p (by show X.A.units+1+_ < _;lia) y (Array.mem_toList_iff.mpr hy)) ?_
  rw[<- Array.any_toList,kX es p]
  exact⟨.bl (es.any fun e=>fU e d),H,I,rfl,q⟩
theorem kY(hu:X.A.units+64 < cLine):q9 X (compareOp .NotIn) (OM X.K C true):=by
 intro pins s σ H x y v u Q I rx ry ⟨d,es,h1,h2,f1,f2,h3,q⟩
 have hd:=Inv.dat I d f1 h1 rx
 rcases h2 with h2 | h2
 ·have he:=Inv.dat I (.lst es) (by rw[flat];exact f2) h2 ry
  rw[eO] at he
  refine b8 he fun a it aV t p=>?_
  clear he
  walk_at"#"
  refine notIn_listAt (u6 s.heap d) t.isList (fun y hy=>lM f1 hd f2 p (by show X.A.units+1+_ < _;lia) y (Array.mem_toList_iff.mpr hy)) ?_
  rw[<- Array.any_toList,kX es p]
  exact⟨.bl (!es.any fun e=>fU e d),H,I,rfl,q⟩
 ·have he:=Inv.dat I (.tup es) (by rw[flat];exact f2) h2 ry
  rw[eO] at he
  refine b8 he fun a it aV t p=>?_
  clear he
  walk_at"#"
  refine notIn_tupleAt (u6 s.heap d) (aL t) (fun y hy=>lM f1 hd f2 p (by show X.A.units+1+_ < _;lia) y (Array.mem_toList_iff.mpr hy)) ?_
  rw[<- Array.any_toList,kX es p]
  exact⟨.bl (!es.any fun e=>fU e d),H,I,rfl,q⟩
end
end Dm
end ab3
section ab4
namespace Dm
open PySem PyProof.Rows L2 PySem.SeqAt Ts
section
variable {X:Cx}{C:Cfg}
theorem zj{ws:List V}{vs:List Value}(r:Vals ws vs):∀(pm:List Nat),(∀i∈pm,i < ws.length)->Vals (pm.map fun i=>ws.getD i .cz) (pm.map fun i=>vs.getD i Value.none)
 | [],_=>.nil
 | i::pm,h=>by
  refine .cons ?_ (zj r pm fun j hj=>h j (.tail _ hj))
  have hi:=h i (.head _)
  refine aN (r.get (List.getElem?_eq_getElem hi)) fun u h1 h2=>?_
  have e1:ws.getD i .cz=ws[i]:=by simp[hi]
  have e2:vs.getD i Value.none=u:=by simp[h1]
  show RelV (ws.getD i .cz) (vs.getD i Value.none)
  rw[e1,e2];exact h2
theorem zm{K:PySem.W.Frag}{H:Hp}{ws:List V}{ds:List D}(r:aM K C H ds ws):∀(pm:List Nat),(∀i∈pm,i < ds.length)->aM K C H (pm.map fun i=>ds.getD i .cz) (pm.map fun i=>ws.getD i .cz)
 | [],_=>.nil
 | i::pm,h=>by
  refine .cons ?_ (zm r pm fun j hj=>h j (.tail _ hj))
  have hi:=h i (.head _)
  refine aN (r.get' (List.getElem?_eq_getElem hi)) fun u h1 h2=>?_
  have e1:ds.getD i .cz=ds[i]:=by simp[hi]
  have e2:ws.getD i .cz=u:=by simp[h1]
  show Rep K C H (ds.getD i .cz) (ws.getD i .cz)
  rw[e1,e2];exact h2
structure vG(ds:List D):Prop where
 kd:∃kd,Sk ds kd
 iy:ds.length < 64
 f7:∀a∈ds,∀b∈ds,f7 a b=true
 nl:∀a∈ds,nl a=true
 dep:∀a∈ds,dep a<=50
theorem xy{ds:List D}(h:∀a∈ds,∀b∈ds,f7 a b=true):bW ds=true:=f9 fun d hd=>(vE d d (h d hd d hd)).1
def Hz(K:PySem.W.Frag)(C:Cfg):List V->Hp->VK->Prop:=fun xs H Q=>∃v ds,xs=[v]/\Rep K C H (.lst ds) v/\vG ds/\∀p ws,H p=none->aM K C H (eY ds) ws->Q (.ref p) (upd H p (.lst ws))
theorem AM{pins:List (Addr×Obj)}{σ:L2.St}{H:Hp}{s:Shared}{Q:VK}{h1 h':Heap}{tk L n:Nat}{ws:List V}{vs:List Value}(I:L2.Inv X pins σ H s)(k1:∀b ob,s.heap.get? b=some ob->h1.get? b=some ob)(k2:∀b ob,h1.get? b=some ob->h'.get? b=some ob)
  (hL:h1.objs.size<=L) (ho:h'.get? L=some (seqObj "list" vs.toArray n)) (r:Vals ws vs) (hz:ws.length<=sizeLine) (q:H L=none->Q (.ref L) (upd H L (.lst ws))):EP X pins σ Q (.ref L) { s with heap:=h',toks:=tk }:=by
 have I1:L2.Inv X pins σ H { s with heap:=h1,toks:=tk }:=I.kept k1
 have hn:H L=none:=I1.dS.fresh hL
 refine⟨.ref L,upd H L (.lst ws),I1.laid (t':=tk) k2 hL ⟨hz,vs,n,r,ho⟩,rfl,q hn⟩
theorem j3(hu:X.A.units+64 < cLine):nN X (.builtin "sorted") (Hz X.K C):=by
 intro pins s σ H xs us Q I r ⟨v,ds,e,h1,S,q⟩
 subst e
 refine aN (vals1 r) fun u gM rv=>?_
 walk_at"8"
 have h1:=h1.items
 refine b8 h1 fun a ws aV h2 h3=>?_
 clear h1
 walk_at"#"
 obtain rfl:u = .ref a:=rv
 refine bQ (I.list h2) fun bh r1 pl hz=>?_
 have ff:=xy S.f7
 obtain ⟨kd,sk⟩:=S.kd
 have ld:bh.length=ds.length:=by rw[<- r1.length,h3.len]
 refine u5 (Pd:=fun es kd' vs=>es=ds/\kd'=kd/\vs=bh) (fun es kd' vs hp=>?_) (fun R hR=>?_) fun h1 h' tk es kd' vs L n pm k1 k2 hp hd hL gG hs ho=>?_
 ·refine qT hp fun KJ gM aV=>?_
  clear hp
  obtain rfl:=KJ
  walk_at"8#"
  exact⟨sk,S.iy,S.f7,S.nl,fun a ha=>by have:=S.dep a ha;lia⟩
 ·refine collect_list (vs:=bh) (s:=s) pl.isList ?_ (by rw[<- r1.length];exact hz)
  have keep:∀b ob,s.heap.get? b=some ob->((s.heap.push (seqObj "list" #[] 0)).update s.heap.objs.size (Obj.mapSeq (· ++ bh.toArray))).get? b=some ob:=fun b ob e=>by
   rw[Heap.get?_update_ne _ _ _ _ (Nat.ne_of_lt (Heap.lt_size e))]
   exact Heap.get?_push_of_some _ e
  exact hR _ s.toks ds kd bh keep ⟨rfl,rfl,rfl⟩ ((Inv.KW I ds ff h3 r1).keep keep)
 ·refine qT hp fun KJ gM aV=>?_
  clear hp
  obtain rfl:=KJ
  walk_at"8#"
  have lw:ws.length=es.length:=h3.len
  have lp:pm.length=es.length:=by
   have:=congrArg List.length hs
   rw[List.length_map,(dD es).length_eq] at this
   exact this.symm
  refine AM I k1 k2 hL ho (zj r1 pm fun i hi=>by rw[lw];exact gG i hi) (by rw[List.length_map,lp,<- lw];exact hz) fun hn=>q L _ hn ?_
  rw[hs]
  exact zm h3 pm gG
end
end Dm
end ab4
section ab5
namespace Dm
open PySem PyProof.Rows L2 PySem.SeqAt Ts Tb
theorem vH{prog:Program}{w:World}{ks:List Int}{vs:List Value}(h:ItemsAre (intKind prog w) ks vs):∀v∈vs,∃i t,v=Value.int i t:=by
 induction h with
 | nil=>intro v hv;cases hv
 | cons h1 _ ih=>
  intro v hv
  rcases List.mem_cons.mp hv with rfl | hv
  ·obtain ⟨t,e⟩:=Value.isInt_shape h1
   exact⟨_,t,e⟩
  ·exact ih v hv
def tupS(prog:Program)(w:World):nK prog w (List Int) where
 toHeapKind:=tupleKind (intKind prog w)
 Gs:=fun {A E s k a Q} hk h=>by
  have hT:=hk.typeIs
  refine JY hk fun o items n ho _ hd hi=>?_
  clear hk
  unfold ofAClassStatement
  refine wpAny_bind (wpAny_typeOf hT ?_)
  dsimp only
  rw[if_pos (by decide)]
  walk_at">R"
  refine wpAny_bind (wpAny_seqItems ho hd ?_)
  dsimp only
  refine wpAny_bind ?_
  rw[<- Array.forIn_toList]
  refine wpAny_forIn_list _ (fun rest r s'=>r.1=none/\s'=s/\∀v∈rest,∃i t,v=Value.int i t) _ ?_ ?_ _ _ ⟨rfl,rfl,vH hi⟩
  ·rintro v rest r s' ⟨hr,rfl,kR⟩
   refine qq (kR v List.mem_cons_self) fun i t aV=>?_
   walk_at"#"
   unfold ofAClassStatement
   walk_at">K"
   exact wpAny_pure ⟨rfl,rfl,fun u hu=>kR u (List.mem_cons_of_mem _ hu)⟩
  ·rintro ⟨r1,r2⟩ s' ⟨hr,rfl,_⟩
   simp only at hr
   subst hr
   exact wpAny_pure h
 N2:=fun {A E s k a Q} hk h=>by
  have hT:=hk.typeIs
  refine JY hk fun o items n ho _ hd hi=>?_
  clear hk
  unfold hashByValue
  refine wpAny_bind (wpAny_specialOf hT F.slot_tuple_hash.lookup ?_)
  dsimp only
  refine wpAny_bind (wpAny_seqItems ho hd ?_)
  dsimp only[Option.getD]
  refine wpAny_bind ?_
  rw[<- Array.forIn_toList]
  refine wpAny_forIn_list _ (fun rest r s'=>r.1=none/\s'=s/\∀v∈rest,∃i t,v=Value.int i t) _ ?_ ?_ _ _ ⟨rfl,rfl,vH hi⟩
  ·rintro v rest r s' ⟨hr,rfl,kR⟩
   refine qq (kR v List.mem_cons_self) fun i t aV=>?_
   walk_at"#"
   unfold hashByValue
   walk_at">R"
   exact wpAny_pure ⟨rfl,rfl,fun u hu=>kR u (List.mem_cons_of_mem _ hu)⟩
  ·rintro ⟨r1,r2⟩ s' ⟨hr,rfl,_⟩
   simp only at hr
   subst hr
   exact wpAny_pure h
 mono:=fun hk e=>by
  refine JY hk fun o items n ho hc hd hi=>?_
  clear hk
  exact⟨o,items,n,e _ _ ho hc,hc,hd,hi⟩
theorem AN{prog:Program}{w:World}{h:Heap}:∀{ns:List Int} {vs:List Value},bu h (ns.map D.int) vs->ItemsAre (intKind prog w) ns vs
 | [],_,q=>by rw[List.map_nil,bu] at q;subst q;exact .nil
 | n::ns,_,q=>by
  rw[List.map_cons,bu] at q
  refine b8 q fun v r aV a b=>?_
  clear q
  walk_at"#"
  rw[eO] at a
  obtain ⟨t,rfl⟩:=a
  exact .cons (by show Value.isInt n (.int n t)=true;simp[Value.isInt]) (AN b)
theorem Uz{prog:Program}{w:World}{h:Heap}{ns:List Int}{a:Addr}(q:eO h (.tup (ns.map D.int)) (.ref a)):(tupS prog w).is h ns a:=by
 rw[eO] at q
 refine b8 q fun b it e uz p=>?_
 clear q
 obtain ⟨o,h1,h2,n,h3⟩:=uz
 obtain rfl:a=b:=by injection e
 exact⟨o,it,n,h1,h2,h3,AN p⟩
def HA(prog:Program)(w:World)(a:Addr)(zs:List (List Int×Addr))(h:Heap):Prop:=
 ∃o ep t,h.get? a=some o/\o.ExactSet/\o.data = .set (zs.map (entry (tupS prog w))).toArray ep t/\Good t zs.length/\Paths t (fun i=>((zs.map (entry (tupS prog w))).toArray[i]?.map (·.1)).getD 0) zs.length/\
  t.led=gC w/\t.plain=true/\zs.length * 5 < t.mask * 3/\(zs.map (·.1)).Nodup
section
variable {X:Cx}{C:Cfg}
def Members(K:PySem.W.Frag)(H:Hp)(zs:List (List Int×Addr)):Prop:=∀z∈zs,kT K H z.2 (z.1.map V.int)
def DE(X:Cx)(C:Cfg):List V->Hp->VK->Prop:=fun xs H Q=>∃(v:V) (iO:List (List Int)),xs=[v]/\Rep X.K C H (.lst (iO.map fun ns=>.tup (ns.map D.int))) v/\iO.length<=50/\
 ∀p zs,H p=none->Members X.K H zs->(zs.map (·.1)).Nodup->(∀ns,ns∈zs.map (·.1)↔ns∈iO)->Q (.ref p) (upd H p (.ext (HA X.prog X.w p zs)))
theorem yd{K:PySem.W.Frag}{H:Hp}:∀{iO:List (List Int)} {ws:List V},aM K C H (iO.map fun ns=>.tup (ns.map D.int)) ws->∃ys:List (List Int×Addr),ys.map (·.1)=iO/\ws=(ys.map fun y=>V.ref y.2)/\Members K H ys
 | [],_,q=>by rw[List.map_nil,aM] at q;subst q;exact⟨[],rfl,rfl,fun z hz=>by cases hz⟩
 | ns::iO,_,q=>by
  rw[List.map_cons,aM] at q
  refine b8 q fun v r aV a b=>?_
  clear q
  walk_at"#"
  refine bQ (yd b) fun ys e1 e2 m=>?_
  rw[Rep] at a
  refine b8 a fun ad xs aV t p=>?_
  clear a
  walk_at"#"
  have exs:xs=ns.map V.int:=by
   clear t
   induction ns generalizing xs with
   | nil=>rw[List.map_nil,aM] at p;exact p
   | cons n ns ih=>
    rw[List.map_cons,aM] at p
    refine b8 p fun v r' aV a1 a2=>?_
    clear p
    walk_at"#"
    rw[Rep] at a1
    rw[a1,ih _ a2];rfl
  subst exs
  refine⟨(ns,ad)::ys,by rw[List.map_cons,e1],by rw[List.map_cons,e2],fun z hz=>?_⟩
  rcases List.mem_cons.mp hz with rfl | hz
  ·exact t
  ·exact m z hz
theorem HB{pins:List (Addr×Obj)}{σ:L2.St}{H:Hp}{s:Shared}(I:L2.Inv X pins σ H s){z:List Int×Addr}(h:kT X.K H z.2 (z.1.map V.int)):(tupS X.prog X.w).is s.heap z.1 z.2:=by
 refine Uz ?_
 refine Inv.dat (C:=Uy) I _ (v:=V.ref z.2) ?_ ?_ rfl
 ·rw[flat]
  exact f9 fun d hd=>by
   walk_at"S#"
   rw[flat] <;> simp
 ·rw[Rep]
  exact⟨z.2,_,rfl,h,aM.ints z.1⟩
theorem ye{vs:List Value}:∀{ys:List (List Int×Addr)},Vals (ys.map fun y=>V.ref y.2) vs->vs=ys.map fun y=>Value.ref y.2
 | [],r=>by cases r;rfl
 | y::ys,r=>by
  cases r with
  | cons r1 r2=>
   rw[List.map_cons,ye r2]
   congr 1
theorem EU(hh:X.A.handled=none)(hu:X.A.units+64 < cLine):nN X (.type "set") (DE X C):=by
 intro pins s σ H xs us Q I r ⟨v,iO,e,h1,hn,q⟩
 subst e
 refine aN (vals1 r) fun u gM rv=>?_
 walk_at"8"
 have h1:=h1.items
 refine b8 h1 fun a ws aV h2 h3=>?_
 clear h1
 walk_at"#"
 obtain rfl:u = .ref a:=rv
 refine bQ (I.list h2) fun bh r1 pl hz=>?_
 refine bQ (yd h3) fun ys e1 e2 m=>?_
 subst e2
 obtain rfl:=ye r1
 have ly:ys.length=iO.length:=by rw[<- e1,List.length_map]
 refine Gy (κ:=tupS X.prog X.w) (ys:=ys) hh (by show X.A.units+1+1+1 < cLine;lia) pl.isList (by lia) (fun y hy=>HB I (m y hy)) fun h' tk o ep t zs k S m1 m2=>?_
 have hf:H s.heap.objs.size=none:=I.dS.fresh (Nat.le_refl _)
 refine⟨.ref s.heap.objs.size,upd H s.heap.objs.size (.ext (HA X.prog X.w s.heap.objs.size zs)),I.laid (t':=tk) k (Nat.le_refl _) ?_,rfl,q _ zs hf (fun z hz=>m z (m1 z hz)) S.keys fun ns=>?_⟩
 ·refine⟨⟨o,ep,t,S.obj,S.lH,S.data,S.good,S.Dj,S.Et,S.plain,S.iy,S.keys⟩,⟨o,S.obj⟩,?_⟩
  rintro h1 h2 ⟨o',yP,t',q1,q2⟩ ke
  exact⟨o',yP,t',ke _ q1,q2⟩
 ·constructor
  ·intro hm
   refine aN (List.mem_map.mp hm) fun z hz aV=>?_
   walk_at"#"
   rw[<- e1]
   exact List.mem_map.mpr ⟨z,m1 z hz,rfl⟩
  ·intro hm
   rw[<- e1] at hm
   refine aN (List.mem_map.mp hm) fun y hy aV=>?_
   walk_at"#"
   exact m2 y hy
def Rows(iO:List (List Int)):Prop:=∃n,∀ns∈iO,ns.length=n+1
theorem sW:∀{a b:List Int},a.length=b.length->fm (a.map D.int) (b.map D.int)=true
 | [],[],_=>by simp[fm]
 | x::a,y::b,h=>by
  rw[List.map_cons,List.map_cons,fm,sW (by simpa using h)]
  simp[f7]
theorem AO:∀a:List Int,KS (a.map D.int)=true
 | []=>by simp[KS]
 | x::a=>by rw[List.map_cons,KS,AO a];simp[nl]
theorem EV(a:List Int):jT (a.map D.int)=0:=by
 have:jT (a.map D.int)<=0:=lK fun d hd=>by
  walk_at"S#"
  rw[dep] <;> simp
 lia
theorem xA{iO:List (List Int)}(h:Rows iO)(iy:iO.length < 64):vG (iO.map fun ns=>.tup (ns.map D.int)):=by
 obtain ⟨n,hn⟩:=h
 have mem:∀d∈iO.map (fun ns=>D.tup (ns.map D.int)),∃ns∈iO,d = .tup (ns.map D.int):=fun d hd=>by
  refine aN (List.mem_map.mp hd) fun ns h1 h2=>?_
  exact⟨ns,h1,h2.symm⟩
 refine⟨⟨_,.qv fun d hd=>?_⟩,by rw[List.length_map];exact iy,fun a ha b hb=>?_,fun a ha=>?_,fun a ha=>?_⟩
 ·refine aN (mem d hd) fun ns h1 aV=>?_
  walk_at"#"
  have:=hn ns h1
  match ns,this with
  | i::r,_=>exact⟨i,r.map D.int,rfl⟩
 ·refine aN (mem a ha) fun ns h1 aV=>?_
  walk_at"#"
  refine aN (mem b hb) fun ms h2 aV=>?_
  walk_at"#"
  rw[f7]
  exact sW (by rw[hn ns h1,hn ms h2])
 ·refine aN (mem a ha) fun ns h1 aV=>?_
  walk_at"#"
  rw[nl];exact AO ns
 ·refine aN (mem a ha) fun ns h1 aV=>?_
  walk_at"#"
  rw[dep,EV];decide
def CA(X:Cx)(C:Cfg):List V->Hp->VK->Prop:=fun xs H Q=>∃a zs,xs=[.ref a]/\H a=some (.ext (HA X.prog X.w a zs))/\Members X.K H zs/\zs.length<=50/\Rows (zs.map (·.1))/\
 ∀p ws (es:List (List Int)),H p=none->es.Perm (zs.map (·.1))->aM X.K C H (eY (es.map fun ns=>.tup (ns.map D.int))) ws->Q (.ref p) (upd H p (.lst ws))
theorem EW{α β:Type}{f:α->β}:∀{l:List α} {m:List β},m.Perm (l.map f)->∃l':List α,l'.Perm l/\m=l'.map f:=by
 intro l m h
 generalize e:l.map f=k at h
 induction h generalizing l with
 | nil=>
  exact⟨l,.refl _,e.symm⟩
 | cons x _ ih=>
  match l,e with
  | a::l,e=>
   rw[List.map_cons] at e
   injection e with e1 e2
   refine aN (ih e2) fun l' p q=>?_
   exact⟨a::l',p.cons a,by rw[List.map_cons,e1,q]⟩
 | swap x y k=>
  match l,e with
  | a::b::l,e=>
   rw[List.map_cons,List.map_cons] at e
   injection e with e1 e2
   injection e2 with e2 e3
   exact⟨b::a::l,.swap a b l,by rw[List.map_cons,List.map_cons,e1,e2,e3]⟩
 | trans _ _ ih1 ih2=>
  refine aN (ih2 e) fun l1 p1 q1=>?_
  refine aN (ih1 q1.symm) fun l2 p2 q2=>?_
  exact⟨l2,p2.trans p1,q2⟩
theorem zo(hh:X.A.handled=none)(hu:X.A.units+64 < cLine):nN X (.builtin "sorted") (CA X C):=by
 intro pins s σ H xs us Q I r ⟨a,zs,e,h1,hm,hn,hr,q⟩
 subst e
 refine aN (vals1 r) fun u gM rv=>?_
 walk_at"8"
 obtain rfl:u = .ref a:=rv
 refine qT (I.dS a _ h1) fun KJ _ _=>?_
 obtain ⟨o,ep,t,g1,g2,g3,g4,g5,g6,g7,g8,g9⟩:=KJ
 have S:gH (tupS X.prog X.w) s.heap a (gC X.w) zs o ep t:=⟨g1,g2,g3,g4,g5,g6,g7,g8,g9,fun x hx=>HB I (hm x hx)⟩
 refine u5 (Pd:=fun es kd vs=>kd=tuples' true/\∃l:List (List Int×Addr),l.Perm zs/\es=(l.map fun y=>.tup (y.1.map D.int))/\vs=l.map fun y=>Value.ref y.2) (fun es kd vs hp=>?_) (fun R hR=>?_) fun h1 h' tk es kd vs L n pm k1 k2 hp hd hL gG hs ho=>?_
 ·obtain ⟨rfl,l,p,rfl,rfl⟩:=hp
  obtain ⟨m,yJ⟩:=hr
  have rows:Rows (l.map (·.1)):=⟨m,fun ns WG=>yJ ns ((p.map _).mem_iff.mp WG)⟩
  have so:=xA rows (by rw[List.length_map,p.length_eq];lia)
  rw[List.map_map] at so
  refine⟨.qv fun d hd=>?_,so.iy,so.f7,so.nl,fun a ha=>by have:=so.dep a ha;lia⟩
  refine aN (List.mem_map.mp hd) fun y hy aV=>?_
  walk_at"#"
  have:=yJ y.1 (List.mem_map.mpr ⟨y,p.mem_iff.mp hy,rfl⟩)
  match h:y.1,this with
  | i::r,_=>exact⟨i,r.map D.int,rfl⟩
 ·refine Am (κ:=tupS X.prog X.w) hh S hn fun h' tk vs k pv=>?_
  refine aN (EW pv) fun l p aV=>?_
  walk_at"#"
  refine hR h' tk _ _ _ k ⟨rfl,l,p,rfl,rfl⟩ (bu.of_map _ _ l fun y hy=>eO.keep k _ ?_)
  have t:=hm y (p.mem_iff.mp hy)
  refine Inv.dat (C:=Uy) I _ (v:=V.ref y.2) ?_ ?_ rfl
  ·rw[flat]
   exact f9 fun d hd=>by
    walk_at"S#"
    rw[flat] <;> simp
  ·rw[Rep]
   exact⟨y.2,_,rfl,t,aM.ints y.1⟩
 ·obtain ⟨rfl,l,p,rfl,rfl⟩:=hp
  have ll:l.length<=50:=by rw[p.length_eq];exact hn
  have lp:pm.length=l.length:=by
   have:=congrArg List.length hs
   rw[List.length_map,(dD _).length_eq,List.length_map] at this
   exact this.symm
  have rv:∀l:List (List Int×Addr),Vals (l.map fun y=>V.ref y.2) (l.map fun y=>Value.ref y.2):=fun l=>by
   induction l with
   | nil=>exact .nil
   | cons y l ih=>exact .cons rfl ih
  have lt':∀i∈pm,i < l.length:=fun i hi=>by have:=gG i hi;rwa [List.length_map] at this
  have rp:aM X.K C H (l.map fun y=>.tup (y.1.map D.int)) (l.map fun y=>V.ref y.2):=by
   have WI:∀y∈l,kT X.K H y.2 (y.1.map V.int):=fun y hy=>hm y (p.mem_iff.mp hy)
   clear hs gG lt' lp hd ho p ll
   induction l with
   | nil=>exact .nil
   | cons y l ih=>
    refine .cons ?_ (ih fun z hz=>WI z (List.mem_cons_of_mem _ hz))
    rw[Rep]
    exact⟨y.2,_,rfl,WI y List.mem_cons_self,aM.ints y.1⟩
  have big:64<=sizeLine:=by rw[sizeLine_eq];decide
  refine AM I k1 k2 hL ho (zj (rv l) pm fun i hi=>by rw[List.length_map];exact lt' i hi) (by rw[List.length_map,lp];lia) fun yK=>q L _ (l.map (·.1)) yK (p.map _) ?_
  rw[List.map_map]
  show aM X.K C H (eY (l.map fun y=>.tup (y.1.map D.int))) _
  rw[hs]
  exact zm rp pm gG
end
end Dm
end ab5
section ab6
namespace Dm
open PySem PySem.Spec PyProof.Rows L2
def WJ(l:List Env)(B h:Heap):Prop:=∀b o,h.get? b=some o->b∉ve l->B.get? b=some o
def pK(P:Program)(w:World):EJ:=fun outer H s E e s'=>∃a cls dx a0 H' h B,e = .ref a/\Heap.FlyingW B outer a cls a0 s'.heap/\XD dx a s'.heap/\WJ outer B h/\h.UpToSlots s'.heap/\E cls dx H'/\s'.os=s.os/\AllBare s'.gens/\
 Un (ve outer) [] H H' s.heap h/\sN P w H' h
structure Made(h h':Heap)(a:Addr)(cls:Value):Prop where
 keeps:∀b o,h.get? b=some o->h'.get? b=some o
 new:h.get? a=none
 there:∃o a0,h'.get? a=some o/\o.cls=cls/\o.data = .fields #[a0,.none,.none,.none,.bool false,.none]
theorem Made.of{h h':Heap}{a:Addr}{cls:Value}{vs:List Value}(x:Heap.MadeExcOf h h' a cls vs):Made h h' a cls:=by
 refine bQ x.there fun t he _ _=>?_
 exact⟨x.keeps,x.new,_,_,he,rfl,rfl⟩
def jU(X:Cx)(E:L2.St->XK)(e:Value)(s':Shared):Prop:=∃a cls dx σ H h,e = .ref a/\L2.Inv X [] σ H { s' with heap:=h }/\E σ cls dx H/\XD dx a s'.heap/\
 (Made h s'.heap a cls\/(∃a0 B,WJ X.stack B h/\h.UpToSlots s'.heap/\(Heap.FlyingW B X.stack a cls a0 s'.heap\/Heap.HeldW B X.stack a cls a0 X.env.locals s'.heap)))
theorem vI{X:Cx}{pins:List (Addr×Obj)}{σ:L2.St}{H:Hp}{s:Shared}(I:L2.Inv X pins σ H s):L2.Inv X [] σ H s:=I.qX fun p hp=>by cases hp
section
variable {X:Cx}{E:L2.St->XK}
theorem KY{pins:List (Addr×Obj)}{σ:L2.St}{H:Hp}{s:Shared}{h':Heap}{a:Addr}{cls:Value}(I:L2.Inv X pins σ H s)(hx:Made s.heap h' a cls)(q:E σ cls none H):jU X E (.ref a) { s with heap:=h' }:=
 ⟨a,cls,none,σ,H,s.heap,rfl,vI I,q,.no,.inl hx⟩
theorem AQ{pins:List (Addr×Obj)}{σ:L2.St}{H:Hp}{s s':Shared}{e:Value}(I:L2.Inv X pins σ H s)(c:pK X.prog X.w X.stack H s (E σ) e s'):jU X E e s':=by
 obtain ⟨a,cls,dx,a0,H',h,B,rfl,f,xd,cv,up,q,os,bare,un,dS⟩:=c
 have I':L2.Inv X pins σ H' { s' with heap:=h }:=Inv.As I (s':={ s' with heap:=h }) os un dS bare (fun b z=>absurd z (by simp))
 exact⟨a,cls,dx,σ,H',h,rfl,vI I',q,xd,.inr ⟨a0,B,cv,up,.inl f⟩⟩
theorem uK{h base:Heap}{l:List Env}(f:h.FunFrames base l):∃B:Heap,WJ l B h/\B.StaysIn h/\h.FunFrames B l/\∀b,h.get? b=none->B.get? b=none:=by
 have st:(PySem.W.hideAll h (ve l)).StaysIn h:=fun b o e=>PySem.W.of_hideAll _ e
 refine⟨PySem.W.hideAll h (ve l),fun b o e n=>PySem.W.hideAll_get _ e n,st,PySem.W.funFrames_hide f fun env he a ha=>List.mem_filterMap.mpr ⟨env,he,ha⟩,fun b hb=>?_⟩
 cases hq:(PySem.W.hideAll h (ve l)).get? b with
 | none=>rfl
 | some o'=>have:=st b o' hq;rw[hb] at this;cases this
structure ON(X:Cx):Prop where
 GF:X.stack=X.env::X.outer
 fr:X.env.frame=some X.env.locals
theorem AR{e:Value}{s':Shared}{Q:Unit->Shared->Prop}{E':Value->Shared->Prop}(O:ON X)(f:jU X E e s')
  (hq:∀(a:Addr) cls dx a0 σ H h B h',e = .ref a->L2.Inv X [] σ H { s' with heap:=h }->E σ cls dx H->XD dx a h'->WJ X.stack B h->h.UpToSlots h'->Heap.HeldW B X.stack a cls a0 X.env.locals h'->Q () { s' with heap:=h' }) :
  wpAny (model X.prog X.w) X.A (noteFrame e X.env) Q E' s':=by
 obtain ⟨a,cls,dx,σ,H,h,rfl,I,q,xd,f⟩:=f
 have fr:X.A.frames=some (X.env::X.outer):=by rw[I.ok.frames,O.GF]
 refine wpAny_mono (AF (Q:=fun u s1=>XD dx a s1.heap->Q u s1) (E:=E') (KP _ _) ?_ xd) (fun u s1 h=>h.1 h.2) fun _ _ h=>h.1
 rcases f with hx | ⟨a0,B,cv,up,f | f⟩
 ·obtain ⟨oe,a0,he,Aa,hdt⟩:=hx.there
  subst Aa
  obtain ⟨B,b1,b2,b3,b4⟩:=uK I.stack
  have ff:s'.heap.FunFrames B X.stack:=b3.of_keeps fun b o hb _=>⟨o,hx.keeps b o hb,rfl⟩
  rw[O.GF] at ff
  unfold noteFrame
  simp only[O.fr]
  refine wpAny_bind (wpAny_field he (vs:=#[a0,.none,.none,.none,.bool false,.none]) hdt (x:=.none) rfl ?_)
  rw[if_neg (by decide)]
  refine wpAny_entryW (a0:=a0) fr ff O.fr he (fun b o hb=>hx.keeps b o (b2 b o hb)) (b4 a hx.new) hdt (by simp) rfl fun h' hN=>?_
  obtain ⟨k1,k2,k3,k4⟩:=hN
  refine fun xd=>hq a _ dx a0 σ H h B h' rfl I q xd b1 ((Heap.UpToSlots.of_keeps hx.keeps).trans k4) ⟨k1,b4 a hx.new,?_,k3⟩
  rw[O.GF];exact k2
 ·rw[O.GF] at f
  refine wpAny_looks_onW fr O.fr f fun h' hh us=>?_
  exact fun xd=>hq a cls dx a0 σ H h B h' rfl I q xd cv (up.trans us) (by rw[O.GF];exact hh)
 ·refine wpAny_noteFrame_againW O.fr f.2.2.2 ?_
  exact fun xd=>hq a cls dx a0 σ H h B s'.heap rfl I q xd cv up f
theorem bg(O:ON X):PassesOwn (model X.prog X.w) X.A X.env (jU X E):=by
 intro e s' f
 refine AR O f fun a cls dx a0 σ H h B h' ea I q xd cv up hd=>?_
 subst ea
 unfold cameBackBy
 obtain ⟨k1,k2,k3,oe,vs,T,oT,ts,he,hc,JJ,h1,WK,hTe,hT,R3,h3⟩:=hd
 refine wpAny_bind (wpAny_field he JJ h1 ?_)
 rw[if_neg (by simp)]
 unfold setFlight
 refine wpAny_bind (wpAny_field he JJ h1 ?_)
 rw[if_pos (show (Value.ref T !=Value.none)=true from by simp)]
 have h3s:3 < ts.size:=(Array.getElem?_eq_some_iff.mp h3).1
 rw[O.fr]
 refine wpAny_setField hT R3 h3s ?_
 have other:∀b,b≠T->(h'.update T (Obj.mapFields (·.setIfInBounds 3 (rawInt X.env.locals)))).get? b=h'.get? b:=fun b hb=>Heap.get?_update_other _ _ (Ne.symm hb)
 have Nj:∀b o,h'.get? b=some o->(∀vs,o.data≠ .fields vs)->b≠T:=fun b o hb hnf z=>by
  rw[z,hT] at hb;injection hb with hb;subst hb;exact hnf ts R3
 refine⟨a,cls,dx,σ,H,h,rfl,I,q,xd.upd (rg _),.inr ⟨a0,B,cv,fun b o hb hn=>?_,.inr ⟨fun b o hb=>?_,k2,k3.of_keeps fun b o hb hnf=>⟨o,(other b (Nj b o hb hnf)).trans hb,rfl⟩,?_⟩⟩⟩
 ·obtain ⟨sl,e1⟩:=up b o hb hn
  exact⟨sl,(other b (Nj b _ e1 fun vs z=>hn vs z)).trans e1⟩
 ·refine(other b fun z=>?_).trans (k1 b o hb)
  rw[z,WK] at hb;cases hb
 ·refine⟨oe,vs,T,_,_,(other a (Ne.symm hTe)).trans he,hc,JJ,h1,WK,hTe,Heap.get?_update_self _ hT (Obj.isFreed_of_fields (Obj.data_mapFields R3 _)),Obj.data_mapFields R3 _,?_⟩
  simp[h3s]
end
section
variable {P:Program}{w:World}{K:PySem.W.Frag}{mg:Str->Option Value}{base:Heap}{N:List Str}{qual:Str}{scope:Scope}{f:Addr}{cd:Value}{A:Around}{outer:List Env}{s:Shared}{H:Hp}{E:XK}
theorem EX{e:Value}{s':Shared}(fl:jU (pT (pK P w) P w K mg base N qual scope f cd A outer s H E) (fun _=>E) e s'):(pT (pK P w) P w K mg base N qual scope f cd A outer s H E).xe e s':=by
 let X:=pT (pK P w) P w K mg base N qual scope f cd A outer s H E
 have O:ON X:=⟨rfl,rfl⟩
 show wpAny (model P w) X.A (leaving X.env e) (fun _ Kv=>pK P w outer H s E e Kv) (fun e' Kv=>pK P w outer H s E e' Kv) s'
 unfold leaving
 refine wpAny_bind (AR O fl fun a cls dx a0 σ H' h B h' ea I q xd cv up hd=>?_)
 subst ea
 refine wpAny_mono (AF (Q:=fun _ s1=>XD dx a s1.heap->pK P w outer H s E (.ref a) s1) (E:=fun e' s1=>pK P w outer H s E e' s1) (z9 _ _) ?_ xd) (fun u s1 h=>h.1 h.2) fun _ _ h=>h.1
 refine wpAny_landsW hd fun h2 fl2 us xd=>?_
 refine Ad fl2 fun k1 k2 aV k4=>?_
 clear fl2
 obtain ⟨_,⟨L',o',e1,e2,e3,e4⟩,k3⟩:=aV
 obtain rfl:X.env.locals=L':=Option.some.inj e1
 have hL:H' X.env.locals=none:=I.free
 have fr:∀b,b∈ve X.stack↔b=X.env.locals\/b∈ve outer:=fun b=>by
  show b∈ve (X.env::outer)↔_
  unfold ve
  rw[List.filterMap_cons_some (show X.env.frame=some X.env.locals from rfl),List.mem_cons]
 have get:∀b o,b≠X.env.locals->h.get? b=some o->(PySem.W.hideAll h [X.env.locals]).get? b=some o:=fun b o n e=>PySem.W.hideAll_get _ e (by simpa using n)
 refine⟨a,cls,dx,a0,H',PySem.W.hideAll h [X.env.locals],B,rfl,⟨k1,k2,k3,k4⟩,xd,fun b o e nb=>?_,fun b o e hn=>?_,q,I.os,I.bare,?_,?_⟩
 ·have nl:b≠X.env.locals:=fun z=>by
   have z':=PySem.W.hideAll_none [X.env.locals] (h:=h) (b:=b) (by simp[z])
   rw[e] at z'
   cases z'
  exact cv b o (PySem.W.of_hideAll _ e) fun z=>by
   rcases (fr b).mp z with z | z
   ·exact nl z
   ·exact nb z
 ·exact(up.trans us) b o (PySem.W.of_hideAll _ e) hn
 ·have u:Un (ve outer) [] H H' s.heap h:=I.base
  have ne:∀b o,s.heap.get? b=some o->b≠X.env.locals:=fun b o e=>Nat.ne_of_lt (Nat.lt_of_lt_of_le (Heap.lt_size e) I.ok.above)
  refine⟨fun b o e n nf nx=>get b o (ne b o e) (u.keep b o e n nf nx),fun b o e n nf nx=>?_,u.free,fun b o e nx=>?_,u.qv,u.xw,u.yR⟩
  ·obtain ⟨sl,e1⟩:=u.slot b o e n nf nx
   exact⟨sl,get b _ (ne b o e) e1⟩
  ·obtain ⟨o',e1⟩:=u.there b o e nx
   exact⟨o',get b _ (ne b o e) e1⟩
 ·intro b u e
  refine(I.dS b u e).yQ (fun c v hc q'=>get c v ?_ q') (fun _ z=>z) fun _ _ z=>z
  rcases hc with z | z
  ·rintro rfl;rw[<- z,hL] at e;cases e
  ·rintro rfl;rw[hL] at z;cases z
end
end Dm
end ab6
section UA
namespace Dm
open PySem PySem.Spec PyProof.Rows L2 PySem.W
def exD(K:Frag)(C:Addr)(OO:List Value)(newId:String)(o:Obj):Bool:=match o.data with
 | .cls cd=>!cd.hasDel&&cd.mro.head?==some (.ref C)&&tailIn K OO cd.mro.tail&&nsOkIn K cd.ns&&nsIn K cd.ns "__init__" ==some none&&o.cls == .type "type" && o.slots.toList[4]?==some (some (.builtin newId))&&o.slots.toList.length==6
 | _=>false
def Nk(K:Frag)(C:Addr)(OO:List Value)(newId:String):Bool:=(K.lookup C).any (exD K C OO newId)
theorem six{l:List (Option Value)}{a:Option Value}(h:l.length=6)(e:l[4]?=some a):∃k0 k1 k2 k3 k5,l=[k0,k1,k2,k3,a,k5]:=by
 refine qq (List.exists_cons_of_length_eq_add_one h) fun k0 l aV=>?_
 walk_at"#"
 refine qq (List.exists_cons_of_length_eq_add_one (Nat.succ.inj h)) fun k1 l aV=>?_
 walk_at"#"
 refine qq (List.exists_cons_of_length_eq_add_one (Nat.succ.inj (Nat.succ.inj h))) fun k2 l aV=>?_
 walk_at"#"
 refine qq (List.exists_cons_of_length_eq_add_one (Nat.succ.inj (Nat.succ.inj (Nat.succ.inj h)))) fun k3 l aV=>?_
 walk_at"#"
 refine qq (List.exists_cons_of_length_eq_add_one (Nat.succ.inj (Nat.succ.inj (Nat.succ.inj (Nat.succ.inj h))))) fun k4 l aV=>?_
 walk_at"#"
 refine qq (List.exists_cons_of_length_eq_add_one (Nat.succ.inj (Nat.succ.inj (Nat.succ.inj (Nat.succ.inj (Nat.succ.inj h)))))) fun k5 l aV=>?_
 walk_at"#"
 obtain rfl:=List.eq_nil_of_length_eq_zero (Nat.succ.inj (Nat.succ.inj (Nat.succ.inj (Nat.succ.inj (Nat.succ.inj (Nat.succ.inj h))))))
 cases e
 exact⟨k0,k1,k2,k3,k5,rfl⟩
theorem OP{K:Frag}{h:Heap}{mg:Str->Option Value}{x:Str}{C:Addr}{OO:List Value}{newId:String}(X:K.In h)(hb:mg x=some (.ref C))(q:Nk K C OO newId=true):OwnCls x C OO newId mg h:=by
 refine⟨hb,?_⟩
 unfold Nk at q
 cases ho:K.lookup C with
 | none=>rw[ho] at q;cases q
 | some o=>
  rw[ho] at q
  replace q:exD K C OO newId o=true:=q
  obtain ⟨oc,dd,dt,sl⟩:=o
  cases dt with
  | cls cd=>
   obtain ⟨nm,bs,mro,ns,qn,hd,sn,sub,ab,col,del⟩:=cd
   obtain ⟨l⟩:=sl
   unfold exD at q
   simp only[Bool.and_eq_true,beq_iff_eq,Bool.not_eq_true'] at q
   obtain ⟨⟨⟨⟨⟨⟨⟨rfl,q1⟩,q2⟩,q3⟩,q4⟩,rfl⟩,q5⟩,q6⟩:=q
   cases mro with
   | nil=>cases q1
   | cons m bm=>
    cases q1
    refine YA (six q6 q5) fun k0 k1 k2 k3 k5 KH=>?_
    obtain rfl:=KH
    exact⟨bm,ns,nm,qn,bs,hd,sn,sub,ab,col,dd,k0,k1,k2,k3,k5,_,X _ _ ho,.of_isNs (isNs_of_in X q3),nsMap_none_of_in X q3 q4,tail_of_in X q2⟩
  | _=>exact nomatch q
section
variable {X:Cx}{E:L2.St->XK}{x:Str}{C:Addr}{B newId CB:String}{bm:List Value}{np i7 pos:Pos}{xB:Expr}{rest:List Expr}{ta:TA}
def OQ(E:L2.St->XK)(cls:Value)(ta:TA):TS:=fun _ σ H=>ta σ H fun vs H1=>vs.length<=sizeLine/\E σ cls none H1
theorem HC(FB:ExcBaseFacts B newId CB bm)(hh:X.A.handled=none)(hm:X.mg x=some (.ref C))(hc:Nk X.K C bm newId=true)(hg:Gl X x)(ha:PA (X.dw (jU X E)) (xB::rest) ta)
  (he:starEach (xB::rest) X.env=(false,eval xB X.env)::starEach rest X.env:=by rfl) (vv:(backTo i7 (starEach rest X.env)).any (·.1)=false:=by rfl) (hd:(x==("__debug__" : Str))=false:=by decide) :
  PS (X.dw (jU X E)) (.Raise (some (.Call (.Name x np) (xB::rest) [] i7)) none pos) (OQ E (.ref C) ta):=by
 walk_at"?"
 have O:OwnCls x C bm newId X.mg X.base:=OP I.ok.mod.S4 hm hc
 obtain ⟨tl,N,nm,q,bs,hdct,sn,sub,ab,col,dd,k0,k1,k2,k3,k5,mN,hC,hN,hni,T⟩:=O.obj
 refine wpAny_Raise_call_subT (C:=C) (nm:=nm) (q:=q) (N:=N) (bs:=bs) (bm:=tl) (hdct:=hdct) (sn:=sn) (sub:=sub) (ab:=ab) (col:=col) (dd:=dd) (k0:=k0) (k1:=k1) (k2:=k2) (k3:=k3) (k5:=k5)
  FB (mN:=mN) (T.hasType FB.hasBase) hh (by rw[he];show (false || (backTo i7 (starEach rest X.env)).any (·.1))=false;rw[vv];rfl) hni (qZ I hg hm ⟨rfl,?_⟩ hd)
 have hp:=ha i7 pins s σ H _ I h
 rw[he] at hp ⊢
 refine Calls.evalArgs_plain (wpAny_mono hp (fun us s2 iz=>?_) fun _ _ y=>y)
 refine ux iz fun vs H1 I1 r z w=>?_
 clear iz
 exact⟨rfl,by rw[<- r.length];exact z,I1.bk _ _ hC,hN.keeps I1.bk,T.keeps I1.bk,fun h' e hx=>KY I1.gO (.of hx) w⟩
def HD(sp:Sp)(E:L2.St->XK)(t:TA):TE:=fun σ H Q=>t σ H fun vs H1=>sp vs H1 Q (E σ)
theorem KZ{CX:EJ}{k:Nat}{f:Addr}{fd:FuncData}{ps:List Str}{sp:Sp}{pins:List (Addr×Obj)}{σ:L2.St}{H:Hp}{s:Shared}{Q:VK}{us:List Value}{vs:List V}(F:iQ X.prog X.w X.K X.mg X.base (pK X.prog X.w) k f fd ps sp)(hr:i6 k X.A)(hb:Binds X.K fd ps [])
  (I:L2.Inv X pins σ H s) (r:Vals vs us) (h:sp vs H Q (E σ)):wpAny (model X.prog X.w) X.A (call (.ref f) us) (EP X pins σ Q) (jU X E) s:=by
 have hl:(us++[]).length=ps.length:=by rw[List.append_nil,<- r.length];exact F.len _ _ _ _ h
 have UB:=hb s us I.Ao hl
 rw[List.append_nil] at UB
 refine wpAny_call (codeAny_mono (F.run X.A X.stack s H ⟨us,[]⟩ us vs Q (E σ) hr I.TQ UB r h) fun r s' hq=>?_)
 cases r with
 | error e=>exact AQ I hq
 | ok fl=>
  cases fl with
  | ret u=>exact I.after hq
  | next=>exact False.elim hq
  | brk=>exact False.elim hq
  | cont=>exact False.elim hq
theorem HE{k:Nat}{f:Addr}{fd:FuncData}{ps:List Str}{sp:Sp}{e:Expr}{es:List Expr}{t:TA}{p:Pos}(F:iQ X.prog X.w X.K X.mg X.base (pK X.prog X.w) k f fd ps sp)(hr:i6 k X.A)(hg:Gl X x)(hm:X.mg x=some (.ref f))(hk:PySem.W.keepIn X.K (.ref f)=true)(hb:Binds X.K fd ps [])
  (ha:PA (X.dw (jU X E)) (e::es) t) (EL:(x==("__debug__" : Str))=false:=by decide) (he:starEach (e::es) X.env=(false,eval e X.env)::starEach es X.env:=by rfl) (v7:(backTo pos (starEach es X.env)).any (·.1)=false:=by rfl) :
  PE (X.dw (jU X E)) (.Call (.Name x p) (e::es) [] pos) (HD sp E t):=by
 walk_at"<"
 refine wpAny_Call_Name_kw (qZ I hg hm ?_ EL)
 refine PySem.W.callWith_K (h₀:=X.base) I.ok.mod.S4 hk (fH (ha pos pins s σ H _ I h) fun us s1 lO=>lO.elim fun vs qQ=>qQ.elim fun H1 DG=>DG.elim fun I1 EY=>EY.elim fun r q=>⟨I1.Ao,?_⟩) he v7
 refine fH (KZ (CX:=pK X.prog X.w) F hr hb I1.gO r q) fun u s2 G7=>G7.elim fun v Au=>Au.elim fun H2 BU=>BU.elim fun I2 BV=>BV.elim fun r2 q2=>⟨v,H2,I2.dw _,r2,q2⟩
def OR(C:Addr)(sp:Sp)(E:L2.St->XK)(t:TA):TE:=fun σ H Q=>t σ H fun vs H1=>∀x dx,H1 x=none->H1 dx=none->dx≠x->
 sp (.ref x::vs) (upd (upd H1 dx (.own x)) x (.ins C dx [])) (fun v H2=>v = .cz/\Q (.ref x) H2) (E σ)
theorem EZ{k:Nat}{f:Addr}{fd:FuncData}{ps:List Str}{sp:Sp}{pins:List (Addr×Obj)}{σ:L2.St}{H:Hp}{s:Shared}{Q:VK}{us:List Value}{vs:List V}(M:Mk X.K C f)(F:iQ X.prog X.w X.K X.mg X.base (pK X.prog X.w) k f fd ps sp)(hr:i6 (k+1) X.A)(hb:Binds X.K fd ps [])
  (I:L2.Inv X pins σ H s) (r:Vals vs us) (h:∀x dx,H x=none->H dx=none->dx≠x->sp (.ref x::vs) (upd (upd H dx (.own x)) x (.ins C dx [])) (fun v H2=>v = .cz/\Q (.ref x) H2) (E σ)) :
  wpAny (model X.prog X.w) X.A (call (.ref C) us) (EP X pins σ Q) (jU X E) s:=by
 have hq:=h (s.heap.objs.size+1) s.heap.objs.size (I.dS.fresh (Nat.le_succ _)) (I.dS.fresh (Nat.le_refl _)) (Nat.ne_of_lt (Nat.lt_succ_self _))
 have I2:=Inv.made (C:=C) I
 have r2:Vals (V.ref (s.heap.objs.size+1)::vs) (Value.ref (s.heap.objs.size+1)::us):=.cons rfl r
 have hl:(Value.ref (s.heap.objs.size+1)::us++[]).length=ps.length:=by
  rw[List.append_nil,<- r2.length];exact F.len _ _ _ _ hq
 have UB:=hb _ (Value.ref (s.heap.objs.size+1)::us) I2.Ao hl
 rw[List.append_nil] at UB
 refine wpAny_call (GW (f:=f) I.Ao M.makes M.init (beq_iff_eq.mp M.fn) (codeAny_mono (F.run _ X.stack _ _ ⟨Value.ref (s.heap.objs.size+1)::us,[]⟩ (Value.ref (s.heap.objs.size+1)::us) _ _ (E σ) (hr.make C us [])
  (I2.TQ.make C us []) UB r2 hq) fun r s' Nl=>?_))
 cases r with
 | error e=>exact AQ I2 Nl
 | ok fl=>
  cases fl with
  | ret u=>
   refine ux (I2.after Nl) fun v H' I3 rv ev q3=>?_
   subst ev
   exact⟨rv,⟨V.ref (s.heap.objs.size+1),H',I3,rfl,q3⟩⟩
  | next=>exact False.elim Nl
  | brk=>exact False.elim Nl
  | cont=>exact False.elim Nl
theorem HF{k:Nat}{f:Addr}{fd:FuncData}{ps:List Str}{sp:Sp}{e:Expr}{es:List Expr}{t:TA}{p:Pos}(M:Mk X.K C f)(F:iQ X.prog X.w X.K X.mg X.base (pK X.prog X.w) k f fd ps sp)(hr:i6 (k+1) X.A)(hg:Gl X x)(hm:X.mg x=some (.ref C))(hb:Binds X.K fd ps [])
  (ha:PA (X.dw (jU X E)) (e::es) t) (EL:(x==("__debug__" : Str))=false:=by decide) (he:starEach (e::es) X.env=(false,eval e X.env)::starEach es X.env:=by rfl) (v7:(backTo pos (starEach es X.env)).any (·.1)=false:=by rfl) :
  PE (X.dw (jU X E)) (.Call (.Name x p) (e::es) [] pos) (OR C sp E t):=by
 walk_at"<"
 refine wpAny_Call_Name_kw (qZ I hg hm ?_ EL)
 refine PySem.W.callWith_K (h₀:=X.base) I.ok.mod.S4 M.kp (fH (ha pos pins s σ H _ I h) fun us s1 yT=>yT.elim fun vs CC=>CC.elim fun H1 CD=>CD.elim fun I1 CF=>CF.elim fun r q=>⟨I1.Ao,?_⟩) he v7
 refine fH (EZ M F hr hb I1.gO r q) fun u s2 HG=>HG.elim fun v OS=>OS.elim fun H2 OT=>OT.elim fun I2 OU=>OU.elim fun r2 q2=>⟨v,H2,I2.dw _,r2,q2⟩
theorem yf{P:Program}{w:World}{K:PySem.W.Frag}{mg:Str->Option Value}{base:Heap}{x qual:Str}{st:Stmt}{f:Addr}{fd:FuncData}{N ps:List Str}{k:Nat}{sp:Sp}(F:Hj K x qual st f fd)(S:br N ps (az st))(len:∀vs H Q E,sp vs H Q E->vs.length=ps.length)
  (AA:∀(dU:Value) (A:Around) (outer:List Env) (s:Shared) (H:Hp) (vs:List V) (Q:VK) (E:XK),i6 k (A.deeper (envOfC qual (az st) s.heap.objs.size f dU))->sp vs H Q E->
   ∃t,sP ((pT (pK P w) P w K mg base N qual (az st) f dU A outer s H E).dw (jU (pT (pK P w) P w K mg base N qual (az st) f dU A outer s H E) fun _=>E)) (bf st) t/\t { nx:=fun _ H'=>Q .cz H',rt:=Q } (start N vs) H) :
  iQ P w K mg base (pK P w) (k+1) f fd ps sp:=by
 refine NI F.ex fun oc od kV doc pm an dU ct G4 zo9 lk C0=>?_
 obtain rfl:=zo9
 refine TU lk C0 S len fun A outer s H vs Q E hr h=>?_
 refine aN (AA dU A outer s H vs Q E hr h) fun t ht q=>?_
 refine⟨t,fun pins s' σ H' D I hw=>?_,q⟩
 exact wpAny_mono (ht pins s' σ H' D (I.dw _) hw) (fun fl Kv hs=>SP.gO hs) fun e Kv hs=>EX hs
end
end Dm
end UA
section UC
namespace Dm
open PySem PySem.Spec PyProof.Rows L2 PySem.W
section
variable {M:Model}{A:Around}{E:Value->Shared->Prop}{K:Frag}{h:Heap}{g:Array GenState}{d:Drawn}{t:Nat}{os:OsState}{e:Addr}{oe:Obj}
variable {nm q:Str}{C N:Addr}{bs bm:List Value}{hdct:Bool}{sn:List Str}{sub:List Value}{ab:Bool}{col:Option Bool}{dd:Option Addr}{k0 k1 k2 k3 k5:Option Value}{newId:String}
end
section
variable {K:Frag}{prog:Program}{w:World}{A:Around}{E:Value->Shared->Prop}{s:Shared}{Q:Value->Shared->Prop}{e C:Addr}{c:Value}
def ClsAt(e:Addr)(cls:Value)(h:Heap):Prop:=∃o,h.get? e=some o/\o.cls=cls
end
end Dm
end UC
section ab7
namespace Dm
open PySem PySem.Spec PyProof.Rows L2 PySem.W PySem.Calls PySem.Builtin PySem.Builtin.ObjectAttr PySem.Builtin.Getset_descriptor
def ab8(e C dx:Addr)(h:Heap):Prop:=∃o,h.get? e=some o/\o.cls = .ref C/\o.dict=some dx/\∃vs,o.data = .fields vs
section
variable {K:Frag}{prog:Program}{w:World}{A:Around}{E:Value->Shared->Prop}{s:Shared}{e C dx:Addr}{v:Value}{mA:Str->Option Value}
end
end Dm
end ab7
section ab9
namespace Dm
open PySem PySem.Spec PyProof.Rows L2
inductive R(α:Type) where
 | ok (a:α) | ex (c:Addr) (p:Option Int) | bad
def R.bind{α β:Type}(r:R α)(f:α->R β):R β:=match r with | .ok a=>f a | .ex c p=>.ex c p | .bad=>.bad
abbrev dh:=List (Option D)
abbrev DF:=dh->R D
abbrev DA:=dh->R (List D)
inductive Out where
 | nx (st:dh) | rt (d:D) | bk (st:dh) | ct (st:dh) | ex (c:Addr) (p:Option Int) (st:dh) | bad
abbrev DS:=dh->Out
def G8(E:XK)(c:Addr)(p:Option Int)(H:Hp):Prop:=match p with
 | none=>E (.ref c) none H
 | some n=>∀dx,H dx=some (.xd [("at",.int n)])->E (.ref c) (some dx) H
def u7:Option HO->Bool
 | none=>true
 | some (.tup _)=>true
 | some (.GB _ (.tup _))=>true
 | _=>false
def nw(G H:Hp):Hp:=fun a=>if u7 (G a)=true then H a else none
theorem cK(G H:Hp):aG (nw G H) H:=fun b o h=>by
 unfold nw at h;split at h
 ·exact h
 ·cases h
theorem bJ{G H H':Hp}(e:aG H H'):aG (nw G H) (nw G H'):=fun b o h=>by
 unfold nw at h ⊢;split at h
 ·rename_i q;rw[if_pos q];exact e b o h
 ·cases h
theorem lP{G G':Hp}(e:aG G G'){a:Addr}(h:u7 (G' a)=true):u7 (G a)=true:=by
 cases q:G a with
 | none=>rfl
 | some o=>rw[e a o q] at h;exact h
theorem uN{G G' H:Hp}(e:aG G G'):aG (nw G' H) (nw G H):=fun b o h=>by
 unfold nw at h ⊢;split at h
 ·rename_i q;rw[if_pos (lP e q)];exact h
 ·cases h
theorem jV{G H:Hp}{a:Addr}(h:G a=none):nw G H a=H a:=by unfold nw;rw[h];rfl
def ji(H G:Hp):Prop:=aG G H/\∀a xs,Rd H a (.tup xs)->Rd G a (.tup xs)
theorem ji.trans{H G F:Hp}(a:ji H G)(b:ji G F):ji H F:=⟨b.1.trans a.1,fun x xs h=>b.2 x xs (a.2 x xs h)⟩
theorem ji.nw{G H:Hp}(e:aG G H):ji H (nw G H):=⟨cK _ _,fun a xs h=>by
 have k:u7 (G a)=true:=by
  cases q:G a with
  | none=>rfl
  | some o=>
   have:=e a o q
   rcases h with h | ⟨u,h⟩
   ·rw[h] at this;cases this;rfl
   ·rw[h] at this;cases this;rfl
 unfold Rd Dm.nw
 rw[if_pos k];exact h⟩
def OV:HO->Bool
 | .lst _=>true
 | .ext _=>true
 | _=>false
theorem ji.er{H:Hp}{A:List Addr}(h:∀a∈A,∃o,H a=some o/\OV o=true):ji H (er H A):=⟨aH _ _,fun a xs r=>by
 have k:a∉A:=fun m=>by
  obtain ⟨o,q,z⟩:=h a m
  rcases r with r | ⟨u,r⟩
  ·rw[q] at r;cases r;cases z
  ·rw[q] at r;cases r;cases z
 unfold Rd
 rw[aW k];exact r⟩
mutual
def eX:D->Bool
 | .tup ds=>cT ds
 | .lst _=>false
 | .bU _ _=>false
 | _=>true
def cT:List D->Bool
 | []=>true
 | d::ds=>eX d&&cT ds
end
theorem jk:∀{ds:List D} {d:D},cT ds=true->d∈ds->eX d=true
 | _::_,_,h,.head _=>by rw[cT,Bool.and_eq_true] at h;exact h.1
 | _::ds,_,h,.tail _ m=>by rw[cT,Bool.and_eq_true] at h;exact jk h.2 m
theorem eZ:∀{ds:List D},(∀d∈ds,eX d=true)->cT ds=true
 | [],_=>rfl
 | d::ds,h=>by rw[cT,Bool.and_eq_true];exact⟨h d (.head _),eZ fun x hx=>h x (.tail _ hx)⟩
section
variable {K:PySem.W.Frag}{C:Cfg}{H G:Hp}
theorem ji.sq(k:ji H G){a:Addr}{xs:List V}(h:kT K H a xs):kT K G a xs:=by
 rcases h with h | h
 ·exact .inl (k.2 a xs h)
 ·exact .inr h
mutual
theorem Rep.part(k:ji H G):∀(d:D) {v:V},eX d=true->Rep K C H d v->Rep K C G d v
 | .cz,v,_,q=>by rw[Rep] at q ⊢;exact q
 | .bl b,v,_,q=>by rw[Rep] at q ⊢;exact q
 | .int i,v,_,q=>by rw[Rep] at q ⊢;exact q
 | .str x,v,_,q=>by rw[Rep] at q ⊢;exact q
 | .tup ds,v,n,q=>by
  rw[Rep] at q ⊢
  rw[eX] at n
  refine b8 q fun a xs h1 h2 h3=>?_
  clear q
  exact⟨a,xs,h1,k.sq h2,aM.part k ds n h3⟩
 | .lst ds,v,n,q=>by rw[eX] at n;cases n
 | .bU t ds,v,n,q=>by rw[eX] at n;cases n
theorem aM.part(k:ji H G):∀(ds:List D) {vs:List V},cT ds=true->aM K C H ds vs->aM K C G ds vs
 | [],_,_,q=>by rw[aM] at q ⊢;exact q
 | d::ds,_,n,q=>by
  rw[aM] at q ⊢
  rw[cT,Bool.and_eq_true] at n
  refine b8 q fun v r e1 a b=>?_
  clear q
  exact⟨v,r,e1,Rep.part k d n.1 a,aM.part k ds n.2 b⟩
end
end
inductive Kd where
 | new | uB | loc | old | kQ | aF
inductive SK where
 | par | loc | own (n:Bool) | any | pr
def lQ:D->Bool
 | .lst _=>true
 | .bU t _=>t==2
 | _=>false
def jW(K:PySem.W.Frag)(C:Cfg)(F H:Hp)(p:Addr):D->Prop
 | .lst ds=>∃xs,H p=some (.lst xs)/\aM K C F ds xs
 | .bU t ds=>t=2/\∃xs,C.own K F H p xs/\aM K C F ds xs
 | _=>False
section
variable {K:PySem.W.Frag}{C:Cfg}{F F' H H' G:Hp}{p:Addr}
theorem jW.OV:∀{d:D},jW K C F H p d->∃o,H p=some o/\Dm.OV o=true
 | .lst _,h=>let ⟨_,e,_⟩:=h;⟨_,e,rfl⟩
 | .bU _ _,h=>let ⟨_,_,e,_⟩:=h;let ⟨_,q⟩:=C.Ux e;⟨_,q,rfl⟩
theorem jW.lQ:∀{d:D},jW K C F H p d->Dm.lQ d=true
 | .lst _,_=>rfl
 | .bU _ _,h=>by rw[Dm.lQ,h.1];rfl
theorem jW.mono(f:aG F F')(e:H' p=H p):∀{d:D},jW K C F H p d->jW K C F' H' p d
 | .lst _,h=>let ⟨xs,a,b⟩:=h;⟨xs,e.trans a,b.same f _⟩
 | .bU _ _,h=>let ⟨t,xs,a,b⟩:=h;⟨t,xs,C.DC f e a,b.same f _⟩
theorem jW.later(f:aG F F')(e:aG H H'){d:D}(h:jW K C F H p d):jW K C F' H' p d:=by
 obtain ⟨o,q,_⟩:=h.OV
 exact h.mono f ((e _ _ q).trans q.symm)
theorem jW.rep(f:aG F (er G [p]))(e:G p=H p):∀{d:D},jW K C F H p d->Rep K C G d (.ref p)
 | .lst _,h=>by obtain ⟨xs,a,b⟩:=h;rw[Rep];exact⟨p,xs,rfl,.of (e.trans a),b.same f _⟩
 | .bU _ _,h=>by obtain ⟨rfl,xs,a,b⟩:=h;rw[Rep];exact⟨p,xs,rfl,C.Ni a (f.trans (aH _ _)) e,b.same (f.trans (aH _ _)) _⟩
end
def nU(K:PySem.W.Frag)(C:Cfg)(G F:Hp)(d:D)(v:V):Prop:=∀s ds,d = .tup [.str s,.lst ds]->∃q p xs,v = .ref q/\kT K F q [.str s,.ref p]/\G p=none/\F p=some (.lst xs)/\aM K C (er F [p]) ds xs
def pU:D->Bool
 | .tup [.str _,.lst _]=>false
 | _=>true
theorem nU.not{K:PySem.W.Frag}{C:Cfg}{G F:Hp}{d:D}{v:V}(n:pU d=true):nU K C G F d v:=fun s ds z=>by subst z;cases n
theorem nU.mono{K:PySem.W.Frag}{C:Cfg}{G F F':Hp}{d:D}{v:V}(f:aG F F')(t:nU K C G F d v):nU K C G F' d v:=fun s ds h=>by
 refine Ae (t s ds h) fun q p xs a b c e g=>?_
 exact⟨q,p,xs,a,aG.tup f b,c,f _ _ e,g.same (aD f) _⟩
theorem nU.early{K:PySem.W.Frag}{C:Cfg}{G G' F:Hp}{d:D}{v:V}(e:aG G G')(t:nU K C G' F d v):nU K C G F d v:=fun s ds h=>by
 refine NF (t s ds h) fun q p xs a b c=>?_
 exact⟨q,p,xs,a,b,e.free c.1,c.2⟩
def lR(K:PySem.W.Frag)(C:Cfg)(G F:Hp)(d:D)(v:V):Prop:=(lQ d=true->∃p,v = .ref p/\G p=none/\jW K C (er F [p]) F p d)/\nU K C G F d v
section
variable (K:PySem.W.Frag)(C:Cfg)
def Val(κ:Kd)(G0:Hp)(A:List Addr)(H H':Hp)(d:D)(v:V):Prop:=match κ with
 | .new=>Rep K C (nw H H') d v/\lR K C H (nw H H') d v
 | .uB=>Rep K C (er H' A) d v/\lR K C H (er H' A) d v
 | .loc=>Rep K C (nw G0 (er H' A)) d v/\lR K C G0 (nw G0 (er H' A)) d v
 | .old=>Rep K C (er H' A) d v
 | .kQ=>Rep K C (nw G0 H') d v/\lR K C G0 (nw G0 H') d v
 | .aF=>Rep K C H' d v
def eh(n:Bool)(G0:Hp)(A:List Addr)(H:Hp):Hp:=if n=true then nw G0 (er H A) else er H A
def Slot(k:SK)(G0:Hp)(A:List Addr)(H:Hp)(d:D)(v:V):Prop:=match k with
 | .par=>Rep K C (er H A) d v
 | .loc=>Rep K C (nw G0 (er H A)) d v/\lR K C G0 (nw G0 (er H A)) d v
 | .own n=>(∃p,v = .ref p/\p∈A/\G0 p=none/\jW K C (eh n G0 A H) H p d)\/(lQ d=false/\nU K C G0 (eh n G0 A H) d v/\Rep K C (eh n G0 A H) d v)
 | .any=>Rep K C H d v
 | .pr=>(∃q p s ds xs,d = .tup [.str s,.lst ds]/\v = .ref q/\kT K (er H A) q [.str s,.ref p]/\p∈A/\G0 p=none/\H p=some (.lst xs)/\aM K C (er H A) ds xs)\/(pU d=true/\Rep K C (er H A) d v)
structure RS(G0:Hp)(Γ:List SK)(σ:L2.St)(H:Hp)(A:List Addr)(st:dh):Prop where
 base:aG G0 (er H A)
 lists:∀a∈A,∃o,H a=some o/\OV o=true
 len:σ.length=st.length
 slot:∀(i:Nat) (d:D),st[i]?=some (some d)->∃k v,Γ[i]?=some k/\σ[i]?=some (some v)/\Slot K C k G0 A H d v
 apart:∀(i j:Nat) (n m:Bool) (p:Addr) (d e:D),i≠j->Γ[i]?=some (.own n)->Γ[j]?=some (.own m)->st[i]?=some (some d)->st[j]?=some (some e)->lQ d=true->lQ e=true->σ[i]?=some (some (.ref p))->σ[j]?≠some (some (.ref p))
end
section
variable {K:PySem.W.Frag}{C:Cfg}{G0:Hp}{Γ:List SK}{σ:L2.St}{H H' UD H1:Hp}{A:List Addr}{st:dh}{κ:Kd}{d:D}{v:V}
theorem lR.mono{G F F':Hp}(f:aG F F')(t:lR K C G F d v):lR K C G F' d v:=⟨fun h=>by
 refine bQ (t.1 h) fun p a b c=>?_
 exact⟨p,a,b,c.later (aD f) f⟩,t.2.mono f⟩
theorem lR.early{G G' F:Hp}(e:aG G G')(t:lR K C G' F d v):lR K C G F d v:=⟨fun h=>by
 refine bQ (t.1 h) fun p a b c=>?_
 exact⟨p,a,e.free b,c⟩,t.2.early e⟩
theorem HH:∀{d:D},eX d=true->lQ d=false
 | .lst _,h=>by rw[eX] at h;cases h
 | .bU _ _,h=>by rw[eX] at h;cases h
 | .cz,_=>rfl
 | .bl _,_=>rfl
 | .int _,_=>rfl
 | .str _,_=>rfl
 | .tup _,_=>rfl
theorem lR.not{G F:Hp}(n:lQ d=false)(m:pU d=true):lR K C G F d v:=⟨fun h=>(by rw[n] at h;cases h),.not m⟩
theorem lR.eX{G F:Hp}(n:eX d=true):lR K C G F d v:=⟨fun h=>(by rw[HH n] at h;cases h),fun s ds z=>by subst z;simp[Dm.eX,cT] at n⟩
theorem Val.later(e:aG H' UD)(q:Val K C κ G0 A H H' d v):Val K C κ G0 A H UD d v:=by
 cases κ with
 | new=>exact⟨q.1.same (bJ e) _,q.2.mono (bJ e)⟩
 | uB=>exact⟨q.1.same (aD e) _,q.2.mono (aD e)⟩
 | loc=>exact⟨q.1.same (bJ (aD e)) _,q.2.mono (bJ (aD e))⟩
 | old=>exact Rep.same (aD e) _ q
 | kQ=>exact⟨q.1.same (bJ e) _,q.2.mono (bJ e)⟩
 | aF=>exact Rep.same e _ q
theorem Val.early(e:aG H H1)(q:Val K C κ G0 A H1 H' d v):Val K C κ G0 A H H' d v:=by
 cases κ with
 | new=>exact⟨q.1.same (uN e) _,(q.2.early e).mono (uN e)⟩
 | uB=>exact⟨q.1,q.2.early e⟩
 | loc=>exact q
 | old=>exact q
 | kQ=>exact q
 | aF=>exact q
theorem Val.rep(q:Val K C κ G0 A H H' d v):Rep K C H' d v:=by
 cases κ with
 | new=>exact q.1.same (cK _ _) _
 | uB=>exact q.1.same (aH _ _) _
 | loc=>exact q.1.same ((cK _ _).trans (aH _ _)) _
 | old=>exact Rep.same (aH _ _) _ q
 | kQ=>exact q.1.same (cK _ _) _
 | aF=>exact q
theorem RS.mono(r:RS K C G0 Γ σ H A st)(e:aG H H'):RS K C G0 Γ σ H' A st where
 base:=r.base.trans (aD e)
 lists:=fun a m=>let ⟨o,h,z⟩:=r.lists a m;⟨o,e _ _ h,z⟩
 len:=r.len
 slot:=fun i d h=>by
  refine b8 (r.slot i d h) fun k v h1 h2 h3=>?_
  refine⟨k,v,h1,h2,?_⟩
  have ee:∀n,aG (eh n G0 A H) (eh n G0 A H'):=fun n=>by
   unfold eh;cases n
   ·exact aD e
   ·exact bJ (aD e)
  cases k with
  | par=>exact Rep.same (aD e) _ h3
  | loc=>exact⟨h3.1.same (bJ (aD e)) _,h3.2.mono (bJ (aD e))⟩
  | own n=>
   rcases h3 with ⟨p,b,c,f,g⟩ | ⟨a,b⟩
   ·exact .inl ⟨p,b,c,f,g.later (ee n) e⟩
   ·exact .inr ⟨a,b.1.mono (ee n),b.2.same (ee n) _⟩
  | pr=>
   rcases h3 with ⟨q,p,s,ds,xs,a,b,c,f,g,h,j⟩ | ⟨a,b⟩
   ·exact .inl ⟨q,p,s,ds,xs,a,b,aG.tup (aD e) c,f,g,e _ _ h,j.same (aD e) _⟩
   ·exact .inr ⟨a,Rep.same (aD e) _ b⟩
  | any=>exact Rep.same e _ h3
 apart:=r.apart
theorem RS.g0(r:RS K C G0 Γ σ H A st):aG G0 H:=r.base.trans (aH _ _)
theorem RS.DH(r:RS K C G0 Γ σ H A st):ji H (er H A):=.er r.lists
theorem RS.u7(r:RS K C G0 Γ σ H A st):ji H (nw G0 (er H A)):=r.DH.trans (.nw r.base)
theorem Val.flat(r:RS K C G0 Γ σ H A st)(e:aG H H')(n:eX d=true)(q:Rep K C H' d v)(κ:Kd):Val K C κ G0 A H H' d v:=by
 have r':=r.mono e
 cases κ with
 | new=>exact⟨q.part (.nw e) _ n,.eX n⟩
 | uB=>exact⟨q.part r'.DH _ n,.eX n⟩
 | loc=>exact⟨q.part r'.u7 _ n,.eX n⟩
 | old=>exact Rep.part r'.DH _ n q
 | kQ=>exact⟨q.part (.nw r'.g0) _ n,.eX n⟩
 | aF=>exact q
theorem RS.vJ(r:RS K C G0 Γ σ H A st)(e:aG H H'):aG (nw H H') (er H' A):=fun b o h=>by
 unfold nw at h;split at h
 ·rename_i q
  have:b∉A:=fun m=>by
   obtain ⟨o,hx,z⟩:=r.lists b m
   rw[hx] at q
   cases o with
   | lst _=>cases q
   | ext _=>cases q
   | _=>cases z
  rw[aW this];exact h
 ·cases h
theorem RS.L0(r:RS K C G0 Γ σ H A st)(e:aG H H'):aG (nw H H') (nw G0 (er H' A)):=fun b o h=>by
 have h1:=r.vJ e b o h
 unfold nw at h;split at h
 ·rename_i q
  unfold nw
  rw[if_pos (lP r.g0 q)];exact h1
 ·cases h
def Kd.le:Kd->Kd->Bool
 | .new,_=>true
 | .uB,.uB=>true | .uB,.old=>true | .uB,.aF=>true
 | .loc,.loc=>true | .loc,.old=>true | .loc,.kQ=>true | .loc,.aF=>true
 | .old,.old=>true | .old,.aF=>true
 | .kQ,.kQ=>true | .kQ,.aF=>true
 | .aF,.aF=>true
 | _,_=>false
theorem Val.le(r:RS K C G0 Γ σ H A st)(e:aG H H'){κ κ':Kd}(l:κ.le κ'=true)(q:Val K C κ G0 A H H' d v):Val K C κ' G0 A H H' d v:=by
 have ne:=r.vJ e
 have nl:=r.L0 e
 cases κ <;> cases κ' <;> first
  | exact q
  | (cases l;done)
  | exact q.rep
  | exact⟨q.1.same ne _,q.2.mono ne⟩
  | exact⟨q.1.same nl _,(q.2.early r.g0).mono nl⟩
  | exact q.1.same ne _
  | exact⟨q.1.same (nl.trans (bJ (aH _ _))) _,(q.2.early r.g0).mono (nl.trans (bJ (aH _ _)))⟩
  | exact q.1
  | exact q.1.same (cK _ _) _
  | exact⟨q.1.same (bJ (aH _ _)) _,q.2.mono (bJ (aH _ _))⟩
end
end Dm
end ab9
section UE
namespace Dm
open PySem PySem.Spec PyProof.Rows L2
def Kd.hp(κ:Kd)(G0:Hp)(A:List Addr)(H H':Hp):Hp:=match κ with
 | .new=>nw H H' | .uB=>er H' A | .loc=>nw G0 (er H' A) | .old=>er H' A | .kQ=>nw G0 H' | .aF=>H'
def SK.kd:SK->Kd
 | .par=>.old | .loc=>.loc | .own true=>.kQ | .own false=>.aF | .any=>.aF | .pr=>.aF
def SK.takes:SK->Kd->Bool
 | .par,κ=>κ.le .old
 | .loc,κ=>κ.le .loc
 | .own true,κ=>κ.le .new
 | .own false,κ=>κ.le .uB
 | .any,_=>true
 | .pr,κ=>κ.le .new
theorem Kd.HJ:∀{κ:Kd},κ.le .new=true->κ = .new
 | .new,_=>rfl
section
variable {K:PySem.W.Frag}{C:Cfg}{G0:Hp}{Γ:List SK}{σ:L2.St}{H H' UD H1:Hp}{A:List Addr}{st:dh}{κ:Kd}{d:D}{v:V}
theorem Val.hp(q:Val K C κ G0 A H H' d v):Rep K C (κ.hp G0 A H H') d v:=by
 cases κ with
 | new=>exact q.1
 | uB=>exact q.1
 | loc=>exact q.1
 | old=>exact q
 | kQ=>exact q.1
 | aF=>exact q
theorem Kd.rq(e:aG H' UD):aG (κ.hp G0 A H H') (κ.hp G0 A H UD):=by
 cases κ with
 | new=>exact bJ e
 | uB=>exact aD e
 | loc=>exact bJ (aD e)
 | old=>exact aD e
 | kQ=>exact bJ e
 | aF=>exact e
theorem Kd.HK(e:aG H H1):aG (κ.hp G0 A H1 H') (κ.hp G0 A H H'):=by
 cases κ with
 | new=>exact uN e
 | uB=>exact .refl _
 | loc=>exact .refl _
 | old=>exact .refl _
 | kQ=>exact .refl _
 | aF=>exact .refl _
theorem Kd.vK:aG (κ.hp G0 A H H') H':=by
 cases κ with
 | new=>exact cK _ _
 | uB=>exact aH _ _
 | loc=>exact(cK _ _).trans (aH _ _)
 | old=>exact aH _ _
 | kQ=>exact cK _ _
 | aF=>exact .refl _
theorem c6{p:Addr}{o:HO}(h:H p=none):aG H (upd H p o):=fun b u q=>by rw[aY (bI q h)];exact q
theorem AS(r:RS K C G0 Γ σ H A st)(e:aG H H'){p:Addr}{o:HO}(h:H' p=none):κ.hp G0 A H (upd H' p o) p=some o:=by
 have h0:H p=none:=e.free h
 have g0:G0 p=none:=r.g0.free h0
 have nA:p∉A:=fun m=>by obtain ⟨xs,q,_⟩:=r.lists p m;rw[h0] at q;cases q
 have u:upd H' p o p=some o:=bM
 cases κ with
 | new=>show nw H _ p=_;rw[jV h0];exact u
 | uB=>show er _ A p=_;rw[aW nA];exact u
 | loc=>show nw G0 _ p=_;rw[jV g0,aW nA];exact u
 | old=>show er _ A p=_;rw[aW nA];exact u
 | kQ=>show nw G0 _ p=_;rw[jV g0];exact u
 | aF=>exact u
theorem Val.tup(r:RS K C G0 Γ σ H A st)(e:aG H H'){p:Addr}{ds:List D}{xs:List V}(h:H' p=none)(np:pU (.tup ds)=true)(q:aM K C (κ.hp G0 A H H') ds xs):Val K C κ G0 A H (upd H' p (.tup xs)) (.tup ds) (.ref p):=by
 have R:Rep K C (κ.hp G0 A H (upd H' p (.tup xs))) (.tup ds) (.ref p):=by
  rw[Rep]
  exact⟨p,xs,rfl,.of (AS r e h),q.same (Kd.rq (c6 h)) _⟩
 have T:∀G F,lR K C G F (.tup ds) (.ref p):=fun G F=>.not rfl np
 cases κ with
 | new=>exact⟨R,T _ _⟩
 | uB=>exact⟨R,T _ _⟩
 | loc=>exact⟨R,T _ _⟩
 | old=>exact R
 | kQ=>exact⟨R,T _ _⟩
 | aF=>exact R
theorem Val.lst(r:RS K C G0 Γ σ H A st)(e:aG H H'){p:Addr}{ds:List D}{xs:List V}(h:H' p=none)(q:aM K C (κ.hp G0 A H H') ds xs):Val K C κ G0 A H (upd H' p (.lst xs)) (.lst ds) (.ref p):=by
 have h0:H p=none:=e.free h
 have R0:aM K C (er (κ.hp G0 A H (upd H' p (.lst xs))) [p]) ds xs:=by
  refine q.same (fun b u z=>?_) _
  have nb:b≠p:=fun w=>by
   have:=Kd.vK _ _ z
   rw[w,h] at this;cases this
  rw[aW (by simpa using nb)]
  exact Kd.rq (c6 h) _ _ z
 have R:Rep K C (κ.hp G0 A H (upd H' p (.lst xs))) (.lst ds) (.ref p):=by
  rw[Rep]
  exact⟨p,xs,rfl,.of (AS r e h),R0⟩
 have T:∀G,G p=none->lR K C G (κ.hp G0 A H (upd H' p (.lst xs))) (.lst ds) (.ref p):=fun G g=>⟨fun _=>⟨p,rfl,g,xs,AS r e h,R0⟩,.not rfl⟩
 cases κ with
 | new=>exact⟨R,T _ h0⟩
 | uB=>exact⟨R,T _ h0⟩
 | loc=>exact⟨R,T _ (r.g0.free h0)⟩
 | old=>exact R
 | kQ=>exact⟨R,T _ (r.g0.free h0)⟩
 | aF=>exact R
theorem L1{d:D}(h:pU d=false):∃s ds,d = .tup [.str s,.lst ds]:=by
 unfold pU at h
 split at h
 ·exact⟨_,_,rfl⟩
 ·cases h
theorem HL:∀{d:D},lQ d=true->pU d=true
 | .lst _,_=>rfl
 | .bU _ _,_=>rfl
 | .tup _,h=>by cases h
theorem RS.read(r:RS K C G0 Γ σ H A st){i:Nat}{k:SK}(hk:Γ[i]?=some k)(h:st[i]?=some (some d)):∃v,σ[i]?=some (some v)/\Val K C k.kd G0 A H H d v:=by
 refine b8 (r.slot i d h) fun k' v h1 h2 h3=>?_
 rw[hk] at h1;cases h1
 refine⟨v,h2,?_⟩
 cases k with
 | par=>exact h3
 | loc=>exact h3
 | any=>exact h3
 | pr=>
  show Rep K C H d v
  rcases h3 with ⟨q,p,s,ds,xs,rfl,rfl,c,f,g,h,j⟩ | ⟨_,b⟩
  ·have S:aG (er H A) (er H [p]):=fun b u w=>by
    have nb:b≠p:=fun z=>by rw[z,cV f] at w;cases w
    rw[aW (by simpa using nb)]
    exact aH _ _ _ _ w
   rw[Rep]
   refine⟨q,_,rfl,aG.tup (aH _ _) c,.cons (by rw[Rep]) (.cons ?_ (by rw[aM]))⟩
   rw[Rep]
   exact⟨p,xs,rfl,.of h,j.same S _⟩
  ·exact b.same (aH _ _) _
 | own n=>
  rcases h3 with ⟨p,rfl,c,f,g⟩ | ⟨a,b⟩
  ·have np:∀b u,eh n G0 A H b=some u->b≠p:=fun b u w w'=>by
    subst w'
    unfold eh at w
    cases n with
    | true=>have:=cK _ _ _ _ w;rw[cV c] at this;cases this
    | false=>rw[if_neg (by decide),cV c] at w;cases w
   have S:∀F:Hp,aG (eh n G0 A H) F->aG (eh n G0 A H) (er F [p]):=fun F e b u w=>by
    rw[aW (by simpa using np b u w)];exact e _ _ w
   cases n with
   | true=>
    have e1:aG (eh true G0 A H) (nw G0 H):=by unfold eh;exact bJ (aH _ _)
    have e2:nw G0 H p=H p:=jV f
    exact⟨g.rep (S _ e1) e2,fun _=>⟨p,rfl,f,g.mono (S _ e1) e2⟩,.not (HL g.lQ)⟩
   | false=>
    have e1:aG (eh false G0 A H) H:=by unfold eh;exact aH _ _
    exact g.rep (S _ e1) rfl
  ·cases n with
   | true=>exact⟨b.2.same (by unfold eh;exact bJ (aH _ _)) _,fun h=>(by rw[a] at h;cases h),b.1.mono (by unfold eh;exact bJ (aH _ _))⟩
   | false=>exact b.2.same (by unfold eh;exact aH _ _) _
theorem RS.set(r:RS K C G0 Γ σ H A st)(e:aG H H'){i:Nat}{k:SK}(hk:Γ[i]?=some k)(l:k.takes κ=true)(q:Val K C κ G0 A H H' d v) :
  ∃A',RS K C G0 Γ (σ.set i (some v)) H' A' (st.set i (some d))/\aG (er H A) (er H' A')/\∀a∈A,a∈A':=by
 have r':=r.mono e
 have same:(∀n,k = .own n->lQ d=false)->Slot K C k G0 A H' d v->∃A',RS K C G0 Γ (σ.set i (some v)) H' A' (st.set i (some d))/\aG (er H A) (er H' A')/\∀a∈A,a∈A':=fun nl s=>by
  refine⟨A,⟨r'.base,r'.lists,by simp[r.len],fun j d' h=>?_,fun a b n m p ds es sS g1 g2 s1 s2 o1 o2 w1 w2=>?_⟩,aD e,fun _ m=>m⟩
  ·by_cases hj:i=j
   ·subst hj
    have gG:i < st.length:=by
     have:=(List.getElem?_eq_some_iff.mp h).1
     simpa using this
    rw[List.getElem?_set_self gG] at h
    cases h
    exact⟨k,v,hk,List.getElem?_set_self (by rw[r.len];exact gG),s⟩
   ·rw[List.getElem?_set_ne hj] at h ⊢
    exact r'.slot j d' h
  ·have ha:a≠i:=fun z=>by
    subst z
    have gG:a < st.length:=by
     have:=(List.getElem?_eq_some_iff.mp s1).1
     simpa using this
    rw[List.getElem?_set_self gG] at s1
    rw[hk] at g1
    cases s1
    rw[nl n (Option.some.inj g1)] at o1;cases o1
   have hb:b≠i:=fun z=>by
    subst z
    have gG:b < st.length:=by
     have:=(List.getElem?_eq_some_iff.mp s2).1
     simpa using this
    rw[List.getElem?_set_self gG] at s2
    rw[hk] at g2
    cases s2
    rw[nl m (Option.some.inj g2)] at o2;cases o2
   rw[List.getElem?_set_ne (Ne.symm ha)] at s1 w1
   rw[List.getElem?_set_ne (Ne.symm hb)] at s2 w2
   exact r.apart a b n m p ds es sS g1 g2 s1 s2 o1 o2 w1 w2
 cases k with
 | par=>exact same (fun _ z=>by cases z) (Val.le r e (κ':=.old) l q)
 | loc=>exact same (fun _ z=>by cases z) (Val.le r e (κ':=.loc) l q)
 | any=>exact same (fun _ z=>by cases z) q.rep
 | pr=>
  obtain rfl:=Kd.HJ (κ:=κ) l
  have qo:Rep K C (er H' A) d v:=Val.le r e (κ:=.new) (κ':=.old) rfl q
  by_cases hd:pU d=true
  ·exact same (fun _ z=>by cases z) (.inr ⟨hd,qo⟩)
  ·obtain ⟨s,ds,rfl⟩:∃s ds,d = .tup [.str s,.lst ds]:=L1 (Bool.eq_false_iff.mpr hd)
   obtain ⟨tq,p,xs,rfl,sq,h0,JP,i1⟩:=q.2.2 s ds rfl
   have hp:H' p=some (.lst xs):=cK _ _ _ _ JP
   have pA:p∉A:=fun m=>by obtain ⟨ys,z,_⟩:=r.lists p m;rw[h0] at z;cases z
   have g0:G0 p=none:=r.g0.free h0
   have ee:aG (er H A) (er H' (p::A)):=fun b u z=>by
    have nb:b≠p:=fun w=>by have:=aH _ _ _ _ z;rw[w,h0] at this;cases this
    by_cases mb:b∈A
    ·rw[cV mb] at z;cases z
    ·rw[aW (by simp[nb,mb])]
     rw[aW mb] at z
     exact e _ _ z
   have HM:∀m,aG (eh m G0 A H) (eh m G0 (p::A) H'):=fun m=>by
    unfold eh;cases m
    ·exact ee
    ·exact bJ ee
   have en:aG (er (nw H H') [p]) (er H' (p::A)):=fun b u z=>by
    by_cases nb:b=p
    ·rw[nb,cV (by simp)] at z;cases z
    ·rw[aW (by simpa using nb)] at z
     have:=r.vJ e _ _ z
     by_cases mb:b∈A
     ·rw[cV mb] at this;cases this
     ·rw[aW mb] at this
      rw[aW (by simp[nb,mb])];exact this
   have sq':kT K (er H' (p::A)) tq [.str s,.ref p]:=by
    rcases sq with sq | sq
    ·refine .inl ?_
     have nq:tq≠p:=fun w=>by
      rcases sq with sq | ⟨u,sq⟩
      ·rw[w,JP] at sq;cases sq
      ·rw[w,JP] at sq;cases sq
     have up:nw H H' tq=er H' (p::A) tq\/nw H H' tq=none:=by
      cases hz:nw H H' tq with
      | none=>exact .inr rfl
      | some u=>
       refine .inl ?_
       have:=en tq u (by rw[aW (by simpa using nq)];exact hz)
       rw[this]
     rcases sq with sq | ⟨u,sq⟩
     ·rcases up with up | up
      ·exact .inl (by rw[<- up];exact sq)
      ·rw[up] at sq;cases sq
     ·rcases up with up | up
      ·exact .inr ⟨u,by rw[<- up];exact sq⟩
      ·rw[up] at sq;cases sq
    ·exact .inr sq
   walk_at"f"
   ·walk_at"J"
    ·exact⟨_,hp,rfl⟩
    ·exact r'.lists a m
   ·by_cases hj:i=j
    ·subst hj
     have gG:i < st.length:=by
      have:=(List.getElem?_eq_some_iff.mp h).1
      simpa using this
     rw[List.getElem?_set_self gG] at h
     cases h
     exact⟨.pr,.ref tq,hk,List.getElem?_set_self (by rw[r.len];exact gG),.inl ⟨tq,p,s,ds,xs,rfl,rfl,sq',.head _,g0,hp,i1.same en _⟩⟩
    ·rw[List.getElem?_set_ne hj] at h ⊢
     refine b8 (r.slot j d' h) fun k' v' h1 h2 h3=>?_
     refine⟨k',v',h1,h2,?_⟩
     cases k' with
     | par=>exact Rep.same ee _ h3
     | loc=>exact⟨h3.1.same (bJ ee) _,h3.2.mono (bJ ee)⟩
     | any=>exact Rep.same e _ h3
     | pr=>
      rcases h3 with ⟨q2,p2,s2,ds2,xs2,a,b,c,f,g,hh,jj⟩ | ⟨a,b⟩
      ·exact .inl ⟨q2,p2,s2,ds2,xs2,a,b,aG.tup ee c,.tail _ f,g,e _ _ hh,jj.same ee _⟩
      ·exact .inr ⟨a,Rep.same ee _ b⟩
     | own m=>
      rcases h3 with ⟨p2,b,c,f,g⟩ | ⟨a,b⟩
      ·exact .inl ⟨p2,b,.tail _ c,f,g.later (HM m) e⟩
      ·exact .inr ⟨a,b.1.mono (HM m),b.2.same (HM m) _⟩
   ·have ha:a≠i:=fun z=>by subst z;rw[hk] at g1;cases g1
    have hb:b≠i:=fun z=>by subst z;rw[hk] at g2;cases g2
    rw[List.getElem?_set_ne (Ne.symm ha)] at s1 w1
    rw[List.getElem?_set_ne (Ne.symm hb)] at s2 w2
    exact r.apart a b n' m' p' F0 BS sS g1 g2 s1 s2 o1 o2 w1 w2
 | own n=>
  have q1:Val K C .uB G0 A H H' d v:=Val.le r e (κ':=.uB) (by cases n <;> cases κ <;> first | rfl | cases l) q
  have q2:n=true->Val K C .loc G0 A H H' d v:=fun z=>by
   subst z
   obtain rfl:=Kd.HJ (κ:=κ) l
   exact Val.le r e rfl q
  by_cases hd:lQ d=true
  ·refine bQ (q1.2.1 hd) fun p aV h0 i1=>?_
   walk_at"#"
   refine aN i1.OV fun o JP hM=>?_
   have hp:H' p=some o:=aH _ _ _ _ JP
   have pA:p∉A:=fun m=>by obtain ⟨ys,z,_⟩:=r.lists p m;rw[h0] at z;cases z
   have g0:G0 p=none:=r.g0.free h0
   have ee:aG (er H A) (er H' (p::A)):=fun b u z=>by
    have nb:b≠p:=fun w=>by have:=aH _ _ _ _ z;rw[w,h0] at this;cases this
    by_cases mb:b∈A
    ·rw[cV mb] at z;cases z
    ·rw[aW (by simp[nb,mb])]
     rw[aW mb] at z
     exact e _ _ z
   have HM:∀m,aG (eh m G0 A H) (eh m G0 (p::A) H'):=fun m=>by
    unfold eh;cases m
    ·exact ee
    ·exact bJ ee
   have items:jW K C (eh n G0 (p::A) H') H' p d:=by
    cases n with
    | false=>exact i1.mono (fun b u z=>by
      by_cases mb:b∈[p]
      ·rw[cV mb] at z;cases z
      ·rw[aW mb] at z
       by_cases ma:b∈A
       ·rw[cV ma] at z;cases z
       ·rw[aW ma] at z
        show er H' (p::A) b=_
        rw[aW (by simpa[ma] using mb)];exact z) (hp.trans JP.symm)
    | true=>
     refine bQ ((q2 rfl).2.1 hd) fun p' e1 _ i2=>?_
     cases e1
     exact i2.mono (fun b u z=>by
      by_cases mb:b∈[p]
      ·rw[cV mb] at z;cases z
      ·rw[aW mb] at z
       show nw G0 (er H' (p::A)) b=_
       unfold nw at z ⊢
       split at z
       ·rename_i kk
        rw[if_pos kk]
        by_cases ma:b∈A
        ·rw[cV ma] at z;cases z
        ·rw[aW ma] at z
         rw[aW (by simpa[ma] using mb)];exact z
       ·cases z) (by rw[jV g0];exact hp.trans JP.symm)
   walk_at"f"
   ·walk_at"J"
    ·exact⟨o,hp,hM⟩
    ·exact r'.lists a m
   ·by_cases hj:i=j
    ·subst hj
     have gG:i < st.length:=by
      have:=(List.getElem?_eq_some_iff.mp h).1
      simpa using this
     rw[List.getElem?_set_self gG] at h
     cases h
     exact⟨.own n,.ref p,hk,List.getElem?_set_self (by rw[r.len];exact gG),.inl ⟨p,rfl,.head _,g0,items⟩⟩
    ·rw[List.getElem?_set_ne hj] at h ⊢
     refine b8 (r.slot j d' h) fun k' v' h1 h2 h3=>?_
     refine⟨k',v',h1,h2,?_⟩
     cases k' with
     | par=>exact Rep.same ee _ h3
     | loc=>exact⟨h3.1.same (bJ ee) _,h3.2.mono (bJ ee)⟩
     | any=>exact Rep.same e _ h3
     | pr=>
      rcases h3 with ⟨q2,p2,s2,ds2,xs2,a,b,c,f,g,hh,jj⟩ | ⟨a,b⟩
      ·exact .inl ⟨q2,p2,s2,ds2,xs2,a,b,aG.tup ee c,.tail _ f,g,e _ _ hh,jj.same ee _⟩
      ·exact .inr ⟨a,Rep.same ee _ b⟩
     | own m=>
      rcases h3 with ⟨p2,b,c,f,g⟩ | ⟨a,b⟩
      ·exact .inl ⟨p2,b,.tail _ c,f,g.later (HM m) e⟩
      ·exact .inr ⟨a,b.1.mono (HM m),b.2.same (HM m) _⟩
   ·
    have old:∀{c:Nat} {nn:Bool} {cd:D},c≠i->Γ[c]?=some (.own nn)->(st.set i (some d))[c]?=some (some cd)->lQ cd=true->(σ.set i (some (.ref p)))[c]?≠some (some (.ref p)):=fun {c nn cd} hc gc sc oc wc=>by
     rw[List.getElem?_set_ne (Ne.symm hc)] at sc wc
     refine b8 (r.slot c _ sc) fun k' v' h1 h2 h3=>?_
     rw[gc] at h1;cases h1
     rw[wc] at h2;cases h2
     rcases h3 with ⟨p2,b,c',_⟩ | ⟨a,_⟩
     ·cases b;exact pA c'
     ·rw[oc] at a;cases a
    by_cases ha:a=i
    ·subst ha
     have gG:a < st.length:=by
      have:=(List.getElem?_eq_some_iff.mp s1).1
      simpa using this
     rw[List.getElem?_set_self (by rw[r.len];exact gG)] at w1
     cases w1
     exact old (Ne.symm sS) g2 s2 o2 w2
    ·by_cases hb:b=i
     ·subst hb
      have gG:b < st.length:=by
       have:=(List.getElem?_eq_some_iff.mp s2).1
       simpa using this
      rw[List.getElem?_set_self (by rw[r.len];exact gG)] at w2
      cases w2
      exact old ha g1 s1 o1 w1
     ·rw[List.getElem?_set_ne (Ne.symm ha)] at s1 w1
      rw[List.getElem?_set_ne (Ne.symm hb)] at s2 w2
      exact r.apart a b n' m' p' F0 BS sS g1 g2 s1 s2 o1 o2 w1 w2
  ·have hd:=Bool.eq_false_iff.mpr hd
   refine same (fun _ _=>hd) (.inr ⟨hd,?_⟩)
   cases n with
   | false=>exact⟨q1.2.2.early r.g0,q1.1⟩
   | true=>exact⟨(q2 rfl).2.2,(q2 rfl).1⟩
end
end Dm
end UE
section UG
namespace Dm
open PySem PySem.Spec PyProof.Rows L2
section
variable (K:PySem.W.Frag)(C:Cfg)(G0:Hp)(Γ:List SK)(E:L2.St->XK)
def tD(f:DF)(κ:Kd):TE:=fun σ H Q=>∃A st,RS K C G0 Γ σ H A st/\match f st with
 | .ok d=>∀v H',aG H H'->Val K C κ G0 A H H' d v->Q v H'
 | .ex c p=>∀H',aG H H'->G8 (E σ) c p H'
 | .bad=>False
def G9(f:DA)(κ:Kd):TA:=fun σ H Q=>∃A st,RS K C G0 Γ σ H A st/\match f st with
 | .ok ds=>∀vs H',aG H H'->aM K C (κ.hp G0 A H H') ds vs->Q vs H'
 | .ex c p=>∀H',aG H H'->G8 (E σ) c p H'
 | .bad=>False
def vL(f:DF):TT:=fun σ H Q=>∃A st,RS K C G0 Γ σ H A st/\match f st with
 | .ok (.bl b)=>∀H',aG H H'->Q b H'
 | .ex c p=>∀H',aG H H'->G8 (E σ) c p H'
 | _=>False
end
theorem _root_.L2.PE.imp{X:Cx}{e:Expr}{t t':TE}(h:PE X e t)(i:∀σ H Q,t' σ H Q->t σ H Q):PE X e t':=fun pins s σ H Q I q=>h pins s σ H Q I (i σ H Q q)
theorem _root_.L2.PT.imp{X:Cx}{e:Expr}{t t':TT}(h:PT X e t)(i:∀σ H Q,t' σ H Q->t σ H Q):PT X e t':=fun pins s σ H Q I q=>h pins s σ H Q I (i σ H Q q)
theorem _root_.L2.PW.imp{X:Cx}{e:Expr}{t t':TT}(h:PW X e t)(i:∀σ H Q,t' σ H Q->t σ H Q):PW X e t':=fun w pins s σ H Q I q=>h w pins s σ H Q I (i σ H Q q)
theorem _root_.L2.PA.imp{X:Cx}{e:List Expr}{t t':TA}(h:PA X e t)(i:∀σ H Q,t' σ H Q->t σ H Q):PA X e t':=fun p pins s σ H Q I q=>h p pins s σ H Q I (i σ H Q q)
theorem _root_.L2.PS.imp{X:Cx}{e:Stmt}{t t':TS}(h:PS X e t)(i:∀D σ H,t' D σ H->t D σ H):PS X e t':=fun pins s σ H D I q=>h pins s σ H D I (i D σ H q)
theorem _root_.L2.sP.imp{X:Cx}{e:List Stmt}{t t':TS}(h:sP X e t)(i:∀D σ H,t' D σ H->t D σ H):sP X e t':=fun pins s σ H D I q=>h pins s σ H D I (i D σ H q)
def ak(i:Nat):DF:=fun st=>match st[i]? with | some (some d)=>.ok d | _=>.bad
def dC(d:D):DF:=fun _=>.ok d
def aX(f:DF):DF:=fun st=>(f st).bind fun d=>if eX d=true then .ok d else .bad
def aQ(g:D->D->R D)(fa fb:DF):DF:=fun st=>(fa st).bind fun a=>(fb st).bind fun b=>g a b
def rA(g:D->R D)(fa:DF):DF:=fun st=>(fa st).bind g
def av:DA:=fun _=>.ok []
def aa(f:DF)(g:DA):DA:=fun st=>(f st).bind fun d=>(g st).bind fun ds=>.ok (d::ds)
def bz(g:List D->R D)(f:DA):DF:=fun st=>(f st).bind g
def j4(fa fb:DF):DF:=fun st=>(fa st).bind fun a=>match a with | .bl true=>fb st | .bl false=>.ok (.bl false) | _=>.bad
def Ga(fa fb:DF):DF:=fun st=>(fa st).bind fun a=>match a with | .bl true=>.ok (.bl true) | .bl false=>fb st | _=>.bad
def qx(fa:DF):DF:=fun st=>(fa st).bind fun a=>match a with | .bl b=>.ok (.bl (!b)) | _=>.bad
section
variable {X:Cx}{C:Cfg}{G0:Hp}{Γ:List SK}{E:L2.St->XK}{e a b c:Expr}{f fa fb fc:DF}{κ κ' aA bC:Kd}{es:List Expr}{fs:DA}{pos:Pos}
theorem zp(i:Nat){k:SK}(h:PE X e (lI i))(hk:Γ[i]?=some k:=by rfl):PE X e (tD X.K C G0 Γ E (ak i) k.kd):=h.imp fun σ H Q zz=>by
 walk_at"02"
 unfold ak at q
 cases hs:st[i]? with
 | none=>rw[hs] at q;exact q.elim
 | some o=>
  cases o with
  | none=>rw[hs] at q;exact q.elim
  | some d=>
   rw[hs] at q
   refine aN (r.read hk hs) fun v h1 h2=>?_
   exact⟨v,h1,q v H (.refl _) h2⟩
theorem L3{v:V}{d:D}(h:PE X e (tC v))(n:eX d=true)(q:∀H,Rep X.K C H d v):PE X e (tD X.K C G0 Γ E (dC d) .new):=h.imp fun σ H Q iz=>iz.elim fun A lO=>lO.elim fun st qQ=>qQ.elim fun r k=>k v H (.refl _) (.flat r (.refl _) n (q H) _)
theorem au{i:Int}{j}:PE X (.Constant (.int i) j pos) (tD X.K C G0 Γ E (dC (.int i)) .new):=L3 GG (by rw[eX] <;> simp) fun H=>by rw[Rep]
theorem HN{i:Bool}{j}:PE X (.Constant (.bool i) j pos) (tD X.K C G0 Γ E (dC (.bl i)) .new):=L3 S8 (by rw[eX] <;> simp) fun H=>by rw[Rep]
theorem HP{i:Str}{j}:PE X (.Constant (.str i) j pos) (tD X.K C G0 Γ E (dC (.str i)) .new):=L3 O2 (by rw[eX] <;> simp) fun H=>by rw[Rep]
theorem rB{x:Str}{i:Int}{t:Tok}(hg:Gl X x)(hm:X.mg x=some (.int i t))(hd:(x==("__debug__" : Str))=false:=by decide):PE X (.Name x pos) (tD X.K C G0 Γ E (dC (.int i)) .new):=L3 (Kl hg hm (v:=.int i) ⟨t,rfl⟩ hd) (by rw[eX] <;> simp) fun H=>by rw[Rep]
theorem bF(h:PE X e (tD X.K C G0 Γ E f κ)):PE X e (tD X.K C G0 Γ E (aX f) .new):=h.imp fun σ H Q Au=>Au.elim fun A BU=>BU.elim fun st BV=>BV.elim fun r q=>⟨A,st,r,by
 unfold aX R.bind at q
 cases hf:f st with
 | ok d=>
  walk_at"1"
  dsimp only at q ⊢
  by_cases n:eX d=true
  ·rw[if_pos n] at q
   exact fun v H' e w=>q v H' e (.flat r e n w.rep _)
  ·rw[if_neg n] at q;exact q.elim
 | ex c p=>rw[hf] at q;exact q
 | bad=>rw[hf] at q;exact q⟩
def uC(K:PySem.W.Frag)(C:Cfg)(r2:R2)(g:D->D->R D)(κ:Kd):Prop:=∀(G0:Hp) (Γ:List SK) (E:XK) (σ:L2.St) (A:List Addr) (st:dh) (H:Hp) (a b:D) (x y:V) (Q:VK),RS K C G0 Γ σ H A st->Rep K C H a x->Rep K C H b y->
 (match g a b with | .ok d=>∀v H',aG H H'->Val K C κ G0 A H H' d v->Q v H' | .ex c p=>∀H',aG H H'->G8 E c p H' | .bad=>False)->r2 x y H Q
theorem two{r2:R2}{g:D->D->R D}(ho:uC X.K C r2 g κ):∀σ H Q,tD X.K C G0 Γ E (aQ g fa fb) κ σ H Q->QX r2 (tD X.K C G0 Γ E fa aA) (tD X.K C G0 Γ E fb bC) σ H Q:=fun σ H Q zz=>by
 walk_at"024"
 unfold aQ R.bind at q
 cases ha:fa st with
 | bad=>rw[ha] at q;exact q
 | ex c p=>rw[ha] at q;exact q
 | ok a=>
  rw[ha] at q
  intro x H1 e1 w1
  walk_at"@,"
  cases hb:fb st with
  | bad=>rw[hb] at q;exact q
  | ex c p=>rw[hb] at q;exact fun H' e'=>q H' (e1.trans e')
  | ok b=>
   rw[hb] at q
   intro y H2 e2 w2
   refine ho G0 Γ (E σ) σ A st H2 a b x y Q ((r.mono e1).mono e2) (w1.rep.same e2 _) w2.rep ?_
   walk_at","
   cases hg:g a b with
   | bad=>rw[hg] at q;exact q
   | ex c p=>rw[hg] at q;exact fun H' e'=>q H' ((e1.trans e2).trans e')
   | ok d=>rw[hg] at q;exact fun v H' e' w=>q v H' ((e1.trans e2).trans e') (w.early (e1.trans e2))
theorem bA{op:Operator}{r2:R2}{g:D->D->R D}(hr:q9 X (binaryOp op) r2)(ho:uC X.K C r2 g κ)(ha:PE X a (tD X.K C G0 Γ E fa aA))(hb:PE X b (tD X.K C G0 Γ E fb bC)):PE X (.BinOp a op b pos) (tD X.K C G0 Γ E (aQ g fa fb) κ):=(SO hr ha hb).imp (two ho)
theorem zq{op:CmpOp}{r2:R2}{g:D->D->R D}(hr:q9 X (compareOp op) r2)(ho:uC X.K C r2 g κ)(ha:PE X a (tD X.K C G0 Γ E fa aA))(hb:PE X b (tD X.K C G0 Γ E fb bC))(hm:behindInMarks op b=false):PE X (.Compare a [op] [b] pos) (tD X.K C G0 Γ E (aQ g fa fb) κ):=(Kq hr ha hb hm).imp (two ho)
theorem uC.flat{K:PySem.W.Frag}{r2:R2}{g:D->D->R D}(h:∀(H:Hp) (a b:D) (x y:V) (Q:VK),Rep K C H a x->Rep K C H b y->(match g a b with | .ok d=>eX d=true/\∀v,Rep K C H d v->Q v H | _=>False)->r2 x y H Q)(hg:∀a b,(∀c p,g a b≠ .ex c p)/\∀d,g a b = .ok d->eX d=true):uC K C r2 g κ:=fun G0 Γ E σ A st H a b x y Q r qa qb q=>h H a b x y Q qa qb (by
 cases hz:g a b with
 | bad=>rw[hz] at q;exact q
 | ex c p=>exact absurd hz ((hg a b).1 c p)
 | ok d=>rw[hz] at q;exact⟨(hg a b).2 d hz,fun v w=>q v H (.refl _) (.flat r (.refl _) ((hg a b).2 d hz) w _)⟩)
def DJ(Cd:Int->Int->Bool)(g:Int->Int->D):D->D->R D:=fun a b=>match a,b with | .int i,.int j=>if Cd i j=true then .ok (g i j) else .bad | _,_=>.bad
theorem HQ{Cd:Int->Int->Bool}{g:Int->Int->D}{a b d:D}(h:DJ Cd g a b = .ok d):∃i j,a = .int i/\b = .int j/\Cd i j=true/\d=g i j:=by
 unfold DJ at h
 split at h
 ·split at h
  ·rename_i q;cases h;exact⟨_,_,rfl,rfl,q,rfl⟩
  ·cases h
 ·cases h
theorem HR{Cd:Int->Int->Bool}{g:Int->Int->D}{a b:D}{c:Addr}{p:Option Int}:DJ Cd g a b≠ .ex c p:=by
 unfold DJ
 split
 ·split <;> exact fun h=>by cases h
 ·exact fun h=>by cases h
theorem jM{K:PySem.W.Frag}{r2:R2}{Cd:Int->Int->Bool}{g:Int->Int->D}(h:∀(H:Hp) (i j:Int) (Q:VK),Cd i j=true->(∀v,Rep K C H (g i j) v->Q v H)->r2 (.int i) (.int j) H Q)(n:∀i j,eX (g i j)=true):uC K C r2 (DJ Cd g) κ:=.flat (fun H a b x y Q qa qb q=>by
  cases hz:DJ Cd g a b with
  | bad=>rw[hz] at q;exact q.elim
  | ex c p=>exact absurd hz HR
  | ok d=>
   rw[hz] at q
   refine ux (HQ hz) fun i j aV uz hc KH=>?_
   walk_at"#"
   obtain rfl:=uz
   obtain rfl:=KH
   rw[Rep] at qa qb;subst qa;subst qb
   exact h H i j Q hc q.2) fun a b=>⟨fun c p=>HR,fun d hd=>by obtain ⟨i,j,_,_,_,rfl⟩:=HQ hd;exact n i j⟩
def gf:=DJ (fun _ _=>true) fun i j=>.int (i+j)
def jS:=DJ (fun _ _=>true) fun i j=>.int (i - j)
def sm(i:Int):Bool:=decide (-(2 ^ 64) < i)&&decide (i < 2 ^ 64)
def rC:=DJ (fun i j=>sm i || sm j) fun i j=>.int (i * j)
def nV:=DJ (fun _ j=>decide (0 < j)&&decide (j < 1073741824)) fun i j=>.int (i / j)
def i8:=DJ (fun _ j=>decide (0 < j)) fun i j=>.int (i % j)
def UH:=DJ (fun _ _=>true) fun i j=>.bl (decide (i < j))
def Nm:=DJ (fun _ _=>true) fun i j=>.bl (decide (i<=j))
def L4:=DJ (fun _ _=>true) fun i j=>.bl (decide (j < i))
theorem xC{K:PySem.W.Frag}{H:Hp}{i:Int}:Rep K C H (.int i) (.int i):=by rw[Rep]
theorem zu{K:PySem.W.Frag}{H:Hp}{i:Bool}:Rep K C H (.bl i) (.bl i):=by rw[Rep]
theorem cM{K:PySem.W.Frag}:uC K C (G3 fun i j=>.int (i+j)) gf .new:=jM (fun H i j Q _ q=>⟨i,j,rfl,rfl,q _ xC⟩) fun i j=>by rw[eX] <;> simp
theorem lS{K:PySem.W.Frag}:uC K C (G3 fun i j=>.int (i - j)) jS .new:=jM (fun H i j Q _ q=>⟨i,j,rfl,rfl,q _ xC⟩) fun i j=>by rw[eX] <;> simp
theorem rD{K:PySem.W.Frag}:uC K C (rI Kp fun i j=>.int (i * j)) rC .new:=jM (fun H i j Q c q=>⟨i,j,rfl,rfl,by
 rcases Bool.or_eq_true _ _ |>.mp c with c | c
 ·simp[sm] at c;exact .inl ⟨by lia,by lia⟩
 ·simp[sm] at c;exact .inr ⟨by lia,by lia⟩,q _ xC⟩) fun i j=>by rw[eX] <;> simp
theorem jN{K:PySem.W.Frag}:uC K C (rI SR fun i j=>.int (i / j)) nV .new:=jM (fun H i j Q c q=>⟨i,j,rfl,rfl,by simp at c;exact⟨c.1,c.2⟩,q _ xC⟩) fun i j=>by rw[eX] <;> simp
theorem gy{K:PySem.W.Frag}:uC K C (rI (fun _ j=>0 < j) fun i j=>.int (i % j)) i8 .new:=jM (fun H i j Q c q=>⟨i,j,rfl,rfl,by simpa using c,q _ xC⟩) fun i j=>by rw[eX] <;> simp
theorem HS{K:PySem.W.Frag}:uC K C (G3 fun i j=>.bl (decide (i < j))) UH .new:=jM (fun H i j Q _ q=>⟨i,j,rfl,rfl,q _ zu⟩) fun i j=>by rw[eX] <;> simp
theorem sX{K:PySem.W.Frag}:uC K C (G3 fun i j=>.bl (decide (i<=j))) Nm .new:=jM (fun H i j Q _ q=>⟨i,j,rfl,rfl,q _ zu⟩) fun i j=>by rw[eX] <;> simp
theorem zv{K:PySem.W.Frag}:uC K C (G3 fun i j=>.bl (decide (j < i))) L4 .new:=jM (fun H i j Q _ q=>⟨i,j,rfl,rfl,q _ zu⟩) fun i j=>by rw[eX] <;> simp
def iX(neg:Bool):D->D->R D:=fun a b=>if (Dm.flat a&&Dm.flat b&&decide (dep a<=60))=true then .ok (.bl (if neg then !fU a b else fU a b)) else .bad
theorem ic{K:PySem.W.Frag}{neg:Bool}:uC K C (OL K C neg) (iX neg) .new:=.flat (fun H a b x y Q qa qb q=>by
  unfold iX at q
  split at q
  ·rename_i c
   split at c
   ·rename_i c'
    cases c
    simp only[Bool.and_eq_true,decide_eq_true_eq] at c'
    exact⟨a,b,qa,qb,c'.1.1,c'.1.2,c'.2,q.2 _ zu⟩
   ·cases c
  ·exact q.elim) fun a b=>⟨fun c p=>(by unfold iX;split <;> exact fun h=>(by cases h)),fun d h=>by unfold iX at h;split at h <;> cases h;rw[eX] <;> simp⟩
def j8(neg:Bool):D->D->R D:=fun a b=>match b with
 | .lst es=>if (Dm.flat a&&bW es&&decide (jT es<=60))=true then .ok (.bl (if neg then !(es.any fun e=>fU e a) else es.any fun e=>fU e a)) else .bad
 | .tup es=>if (Dm.flat a&&bW es&&decide (jT es<=60))=true then .ok (.bl (if neg then !(es.any fun e=>fU e a) else es.any fun e=>fU e a)) else .bad
 | _=>.bad
theorem gP{K:PySem.W.Frag}{neg:Bool}:uC K C (OM K C neg) (j8 neg) .new:=.flat (fun H a b x y Q qa qb q=>by
  cases b with
  | lst es=>
   unfold j8 at q
   walk_at","
   split at q
   ·rename_i c
    split at c
    ·rename_i c'
     cases c
     simp only[Bool.and_eq_true,decide_eq_true_eq] at c'
     exact⟨a,es,qa,.inl qb,c'.1.1,c'.1.2,c'.2,q.2 _ zu⟩
    ·cases c
   ·exact q.elim
  | tup es=>
   unfold j8 at q
   walk_at","
   split at q
   ·rename_i c
    split at c
    ·rename_i c'
     cases c
     simp only[Bool.and_eq_true,decide_eq_true_eq] at c'
     exact⟨a,es,qa,.inr qb,c'.1.1,c'.1.2,c'.2,q.2 _ zu⟩
    ·cases c
   ·exact q.elim
  | _=>exact q.elim) fun a b=>⟨fun c p=>(by unfold j8;split <;> (try split) <;> exact fun h=>(by cases h)),fun d h=>by unfold j8 at h;split at h <;> (try split at h) <;> cases h <;> (rw[eX] <;> simp)⟩
def cQ:D->D->R D:=fun a b=>match a,b with
 | .lst ds,.int i=>match yW ds i with | some d=>.ok d | none=>.bad
 | .tup ds,.int i=>match yW ds i with | some d=>.ok d | none=>.bad
 | _,_=>.bad
theorem AU{K:PySem.W.Frag}{H:Hp}{ds:List D}{xs:List V}{i:Int}{d:D}(q:aM K C H ds xs)(h:yW ds i=some d):∃v,yW xs i=some v/\Rep K C H d v:=by
 unfold yW at h ⊢
 rw[q.len]
 cases hj:G5 ds.length i with
 | none=>rw[hj] at h;cases h
 | some j=>
  rw[hj] at h
  exact q.get' h
end
end Dm
end UG
section UI
namespace Dm
open PySem PySem.Spec PyProof.Rows L2
section
variable {X:Cx}{C:Cfg}{G0:Hp}{Γ:List SK}{E:L2.St->XK}{e a b c:Expr}{f fa fb fc:DF}{κ κ' aA bC:Kd}{es rest:List Expr}{fs:DA}{pos:Pos}
theorem OW{K:PySem.W.Frag}{H:Hp}{a d:D}{x:V}{i:Int}(qa:Rep K C H a x)(h:cQ a (.int i) = .ok d):(∃p xs v,x = .ref p/\(jJ K H p xs\/kT K H p xs)/\yW xs i=some v/\Rep K C H d v):=by
 cases a with
 | lst ds=>
  unfold cQ at h
  dsimp only at h
  cases hz:yW ds i with
  | none=>rw[hz] at h;cases h
  | some d'=>
   rw[hz] at h;cases h
   refine b8 qa.items fun p xs aV h2 h3=>?_
   walk_at"#"
   refine aN (AU h3 hz) fun v h4 h5=>?_
   exact⟨p,xs,v,rfl,.inl h2,h4,h5⟩
 | tup ds=>
  unfold cQ at h
  dsimp only at h
  cases hz:yW ds i with
  | none=>rw[hz] at h;cases h
  | some d'=>
   rw[hz] at h;cases h
   rw[Rep] at qa
   refine b8 qa fun p xs aV h2 h3=>?_
   clear qa
   walk_at"#"
   refine aN (AU h3 hz) fun v h4 h5=>?_
   exact⟨p,xs,v,rfl,.inr h2,h4,h5⟩
 | _=>cases h
def UJ(K:PySem.W.Frag):R2:=fun x y H Q=>Ub K x y H Q\/Ow K x y H Q
theorem ac0:KC X (UJ X.K):=KG.or Hh
theorem jJ.part{K:PySem.W.Frag}{G H:Hp}(e:aG G H){p:Addr}{xs:List V}(h:jJ K G p xs\/kT K G p xs):jJ K H p xs\/kT K H p xs:=h.imp (fun h=>e.seq h) fun h=>aG.tup e h
def Kd.item:Kd->Kd
 | .uB=>.old
 | .new=>.old
 | .loc=>.old
 | .old=>.old
 | _=>.aF
theorem L5{a b d:D}(h:cQ a b = .ok d):∃i,b = .int i:=by
 cases b with
 | int i=>exact⟨i,rfl⟩
 | _=>cases a <;> cases h
theorem OX{a b:D}{c:Addr}{p:Option Int}:cQ a b≠ .ex c p:=by
 unfold cQ
 split
 ·split <;> exact fun h=>(by cases h)
 ·split <;> exact fun h=>(by cases h)
 ·exact fun h=>(by cases h)
theorem HU(ha:PE X a (tD X.K C G0 Γ E fa aA))(hb:PE X b (tD X.K C G0 Γ E fb bC))(hs:rf b):PE X (.Subscript a b pos) (tD X.K C G0 Γ E (aQ cQ fa fb) aA.item):=(Hf ac0 ha hb hs).imp fun σ H Q zz=>by
 walk_at"024"
 unfold aQ R.bind at q
 cases ha:fa st with
 | bad=>rw[ha] at q;exact q
 | ex c p=>rw[ha] at q;exact q
 | ok a=>
  rw[ha] at q
  intro x H1 e1 w1
  walk_at"@,"
  cases hb:fb st with
  | bad=>rw[hb] at q;exact q
  | ex c p=>rw[hb] at q;exact fun H' e'=>q H' (e1.trans e')
  | ok b=>
   rw[hb] at q
   intro y H2 e2 w2
   walk_at","
   cases hg:cQ a b with
   | bad=>rw[hg] at q;exact q.elim
   | ex c p=>exact absurd hg OX
   | ok d=>
    rw[hg] at q
    obtain ⟨i,rfl⟩:=L5 hg
    have sG:=e1.trans e2
    have w:=w1.later e2
    obtain rfl:y = .int i:=by have:=w2.rep;rw[Rep] at this;exact this
    have fin:∀G:Hp,aG G H2->Rep X.K C G a x->(∀v,Rep X.K C G d v->Val X.K C aA.item G0 A H H2 d v)->UJ X.K x (.int i) H2 Q:=fun G e qa k=>by
     refine JY (OW qa hg) fun p xs v uz s at' rv=>?_
     obtain rfl:=uz
     rcases jJ.part e s with s | s
     ·exact .inl ⟨p,xs,i,v,rfl,rfl,s,at',q v H2 sG (k v rv)⟩
     ·exact .inr ⟨p,xs,i,v,rfl,rfl,s,at',q v H2 sG (k v rv)⟩
    cases aA with
    | new=>exact fin _ (aH _ _) (w.le r sG (κ':=.old) rfl) fun v z=>z
    | uB=>exact fin _ (aH _ _) (w.le r sG (κ':=.old) rfl) fun v z=>z
    | loc=>exact fin _ (aH _ _) (w.le r sG (κ':=.old) rfl) fun v z=>z
    | old=>exact fin _ (aH _ _) w fun v z=>z
    | kQ=>exact fin _ (.refl _) w.rep fun v z=>z
    | aF=>exact fin _ (.refl _) w fun v z=>z
theorem ay:PA X [] (G9 X.K C G0 Γ E av κ):=fV.imp fun σ H Q iz=>iz.elim fun A lO=>lO.elim fun st qQ=>qQ.elim fun r q=>q [] H (.refl _) .nil
theorem af(ha:PE X e (tD X.K C G0 Γ E f aA))(hr:PA X es (G9 X.K C G0 Γ E fs κ))(l:aA.le κ=true:=by rfl)(hs:starEach (e::es) X.env=(false,eval e X.env)::starEach es X.env:=by rfl):PA X (e::es) (G9 X.K C G0 Γ E (aa f fs) κ):=(cZ ha hr hs).imp fun σ H Q zz=>by
 walk_at"024"
 unfold aa R.bind at q
 cases hf:f st with
 | bad=>rw[hf] at q;exact q
 | ex c p=>rw[hf] at q;exact q
 | ok a=>
  walk_at"1"
  intro x H1 e1 w1
  walk_at"@,"
  cases hb:fs st with
  | bad=>rw[hb] at q;exact q
  | ex c p=>rw[hb] at q;exact fun H' e'=>q H' (e1.trans e')
  | ok b=>
   rw[hb] at q
   intro y H2 e2 w2
   exact q (x::y) H2 (e1.trans e2) (.cons ((w1.le r e1 l).hp.same (Kd.rq e2) _) (w2.same (Kd.HK e1) _))
theorem vM{α:Type}{l:List α}(h:l.length<=100):l.length<=sizeLine:=Nat.le_trans h (by rw[sizeLine_eq];decide)
def bK(n:Nat)(f:DA):DF:=fun st=>(f st).bind fun ds=>if ds.length<=n/\pU (.tup ds)=true then .ok (.tup ds) else .bad
theorem cC{x1}(h:PA X es (G9 X.K C G0 Γ E fs κ)):PE X (.Tuple es x1 pos) (tD X.K C G0 Γ E (bK 100 fs) κ):=(GY h).imp fun σ H Q zz=>by
 walk_at"024"
 unfold bK R.bind at q
 cases hf:fs st with
 | bad=>rw[hf] at q;exact q
 | ex c p=>rw[hf] at q;exact q
 | ok ds=>
  walk_at"1,"
  split at q
  ·rename_i d hz
   split at hz
   ·rename_i hl
    cases hz
    exact fun vs H1 e1 w1=>⟨vM (by rw[w1.len];exact hl.1),fun p hp=>q _ _ (e1.trans (c6 hp)) (.tup r e1 hp hl.2 w1)⟩
   ·cases hz
  ·rename_i hz;split at hz <;> cases hz
  ·exact q.elim
def bY(n:Nat)(f:DA):DF:=fun st=>(f st).bind fun ds=>if ds.length<=n then .ok (.lst ds) else .bad
theorem dO(h:PA X es (G9 X.K C G0 Γ E fs κ)):PE X (.List es pos) (tD X.K C G0 Γ E (bY 100 fs) κ):=(Ou h).imp fun σ H Q zz=>by
 walk_at"024"
 unfold bY R.bind at q
 cases hf:fs st with
 | bad=>rw[hf] at q;exact q
 | ex c p=>rw[hf] at q;exact q
 | ok ds=>
  walk_at"1,"
  split at q
  ·rename_i d hz
   split at hz
   ·rename_i hl
    cases hz
    exact fun vs H1 e1 w1=>⟨vM (by rw[w1.len];exact hl),fun p hp=>q _ _ (e1.trans (c6 hp)) (.lst r e1 hp w1)⟩
   ·cases hz
  ·rename_i hz;split at hz <;> cases hz
  ·exact q.elim
def OY(K:PySem.W.Frag)(C:Cfg)(r1:List V->Hp->VK->Prop)(g:List D->R D)(κ:Kd):Prop:=∀(G0:Hp) (Γ:List SK) (E:XK) (σ:L2.St) (A:List Addr) (st:dh) (H:Hp) (ds:List D) (xs:List V) (Q:VK),RS K C G0 Γ σ H A st->aM K C H ds xs->
 (match g ds with | .ok d=>∀v H',aG H H'->Val K C κ G0 A H H' d v->Q v H' | .ex c p=>∀H',aG H H'->G8 E c p H' | .bad=>False)->r1 xs H Q
theorem dP{r1:List V->Hp->VK->Prop}{g:List D->R D}(ho:OY X.K C r1 g κ)(h:PE X e (QZ r1 (G9 X.K C G0 Γ E fs aA))):PE X e (tD X.K C G0 Γ E (bz g fs) κ):=h.imp fun σ H Q zz=>by
 walk_at"024"
 unfold bz R.bind at q
 cases hf:fs st with
 | bad=>rw[hf] at q;exact q
 | ex c p=>rw[hf] at q;exact q
 | ok ds=>
  walk_at"1,"
  intro vs H1 e1 w1
  refine ho G0 Γ (E σ) σ A st H1 ds vs Q (r.mono e1) (w1.same Kd.vK _) ?_
  cases hg:g ds with
  | bad=>rw[hg] at q;exact q
  | ex c p=>rw[hg] at q;exact fun H' e'=>q H' (e1.trans e')
  | ok d=>rw[hg] at q;exact fun v H' e' w=>q v H' (e1.trans e') (w.early e1)
theorem nW{K:PySem.W.Frag}{H:Hp}{d:D}{xs:List V}(h:aM K C H [d] xs):∃v,xs=[v]/\Rep K C H d v:=by
 rw[aM] at h
 refine b8 h fun v r aV q z=>?_
 clear h
 walk_at"#"
 rw[aM] at z;subst z
 exact⟨v,rfl,q⟩
def jX:List D->R D:=fun ds=>match ds with | [.lst xs]=>.ok (.int xs.length) | [.tup xs]=>.ok (.int xs.length) | _=>.bad
theorem j5{K:PySem.W.Frag}:OY K C (fun xs H Q=>∃p ys,xs=[.ref p]/\(jJ K H p ys\/kT K H p ys)/\Q (.int ys.length) H) jX .new:=fun G0 Γ E σ A st H ds xs Q r w q=>by
 unfold jX at q
 split at q
 ·rename_i z
  split at z
  ·cases z
   walk_at"N8"
   refine b8 w1.items fun p ys aV s t=>?_
   walk_at"#"
   exact⟨p,ys,rfl,.inl s,q _ H (.refl _) (.flat r (.refl _) (by rw[eX] <;> simp) (by rw[t.len];exact xC) _)⟩
  ·cases z
   walk_at"N8"
   rw[Rep] at w1
   refine b8 w1 fun p ys aV s t=>?_
   clear w1
   walk_at"#"
   exact⟨p,ys,rfl,.inr s,q _ H (.refl _) (.flat r (.refl _) (by rw[eX] <;> simp) (by rw[t.len];exact xC) _)⟩
  ·cases z
 ·rename_i z;split at z <;> cases z
 ·exact q.elim
def iY:List D->R D:=fun ds=>match ds with | [.lst xs]=>if cT xs=true then .ok (.lst xs) else .bad | [.tup xs]=>if cT xs=true then .ok (.lst xs) else .bad | _=>.bad
theorem jl{K:PySem.W.Frag}:OY K C (fun xs H Q=>∃p ys,xs=[.ref p]/\(jJ K H p ys\/kT K H p ys)/\∀l,H l=none->Q (.ref l) (upd H l (.lst ys))) iY .new:=fun G0 Γ E σ A st H ds xs Q r w q=>by
 have fin:∀(es:List D) (p:Addr) (ys:List V),(jJ K H p ys\/kT K H p ys)->aM K C H es ys->cT es=true->(∀v H',aG H H'->Val K C .new G0 A H H' (.lst es) v->Q v H')->∃p' G6,[V.ref p]=[.ref p']/\(jJ K H p' G6\/kT K H p' G6)/\∀l,H l=none->Q (.ref l) (upd H l (.lst G6)):=fun es p ys s t n q=>
  ⟨p,ys,rfl,s,fun l hl=>q _ _ (c6 hl) (.lst r (.refl _) hl (t.part (.nw (.refl _)) _ n))⟩
 unfold iY at q
 split at q
 ·rename_i z
  split at z
  ·split at z
   ·rename_i n
    cases z
    walk_at"N8"
    refine b8 w1.items fun p ys aV s t=>?_
    walk_at"#"
    exact fin _ _ _ (.inl s) t n q
   ·cases z
  ·split at z
   ·rename_i n
    cases z
    walk_at"N8"
    rw[Rep] at w1
    refine b8 w1 fun p ys aV s t=>?_
    clear w1
    walk_at"#"
    exact fin _ _ _ (.inr s) t n q
   ·cases z
  ·cases z
 ·rename_i z;split at z <;> (try split at z) <;> cases z
 ·exact q.elim
theorem yg(h:PE X e (tD X.K C G0 Γ E f κ))(he:∀whole,isTrue e X.env whole=(do let v <- whole;standAt e.pos;holding [v] (truthy v)):=by intro _;rfl):PT X e (vL X.K C G0 Γ E f):=(O3 h he).imp fun σ H Q zz=>by
 walk_at"024"
 cases hf:f st with
 | bad=>rw[hf] at q;exact q
 | ex c p=>rw[hf] at q;exact q
 | ok d=>
  walk_at"1"
  cases d with
  | bl b=>exact fun v H' e' w=>⟨b,by have:=w.rep;rw[Rep] at this;exact this,q H' e'⟩
  | _=>exact q.elim
theorem c5{op:CmpOp}{r2:R2}{g:D->D->R D}(hr:q9 X (compareOp op) r2)(ho:uC X.K C r2 g .new)(ha:PE X a (tD X.K C G0 Γ E fa aA))(hb:PE X b (tD X.K C G0 Γ E fb bC))(hm:behindInMarks op b=false):PT X (.Compare a [op] [b] pos) (vL X.K C G0 Γ E (aQ g fa fb)):=(Kr hr ha hb hm).imp fun σ H Q zz=>by
 walk_at"02"
 refine two (κ:=.new) ho σ H _ ⟨A,st,r,?_⟩
 cases hf:aQ g fa fb st with
 | bad=>rw[hf] at q;exact q
 | ex c p=>rw[hf] at q;exact q
 | ok d=>
  walk_at"1"
  cases d with
  | bl b=>exact fun v H' e' w=>⟨b,by have:=w.rep;rw[Rep] at this;exact this,q H' e'⟩
  | _=>exact q.elim
theorem sY(h:PT X a (vL X.K C G0 Γ E fa)):PT X (.UnaryOp .Not a pos) (vL X.K C G0 Γ E (qx fa)):=(O4 h).imp fun σ H Q zz=>by
 walk_at"024"
 unfold qx R.bind at q
 cases hf:fa st with
 | bad=>rw[hf] at q;exact q
 | ex c p=>rw[hf] at q;exact q
 | ok d=>
  walk_at"1"
  cases d with
  | bl b=>exact q
  | _=>exact q.elim
theorem uO(ha:PT X a (vL X.K C G0 Γ E fa)):PW X (.BoolOp .And [a] pos) (vL X.K C G0 Γ E fa):=pw_and1 ha
theorem HV(ha:PT X a (vL X.K C G0 Γ E fa)):PW X (.BoolOp .Or [a] pos) (vL X.K C G0 Γ E fa):=pw_or1 ha
theorem vN(ha:PT X a (vL X.K C G0 Γ E fa))(hb:PW X (.BoolOp .And (b::rest) pos) (vL X.K C G0 Γ E fb)):PW X (.BoolOp .And (a::b::rest) pos) (vL X.K C G0 Γ E (j4 fa fb)):=(pw_and ha hb).imp fun σ H Q zz=>by
 walk_at"024"
 unfold j4 R.bind at q
 cases hf:fa st with
 | bad=>rw[hf] at q;exact q
 | ex c p=>rw[hf] at q;exact q
 | ok d=>
  walk_at"1"
  cases d with
  | bl b=>
   intro H1 e1
   cases b with
   | false=>rw[if_neg Bool.false_ne_true];exact q H1 e1
   | true=>
    rw[if_pos rfl]
    walk_at"@,"
    cases hb:fb st with
    | bad=>rw[hb] at q;exact q
    | ex c p=>rw[hb] at q;exact fun H' e'=>q H' (e1.trans e')
    | ok d=>
     rw[hb] at q
     cases d with
     | bl b=>exact fun H' e'=>q H' (e1.trans e')
     | _=>exact q.elim
  | _=>exact q.elim
theorem DK(ha:PT X a (vL X.K C G0 Γ E fa))(hb:PW X (.BoolOp .Or (b::rest) pos) (vL X.K C G0 Γ E fb)):PW X (.BoolOp .Or (a::b::rest) pos) (vL X.K C G0 Γ E (Ga fa fb)):=(pw_or ha hb).imp fun σ H Q zz=>by
 walk_at"024"
 unfold Ga R.bind at q
 cases hf:fa st with
 | bad=>rw[hf] at q;exact q
 | ex c p=>rw[hf] at q;exact q
 | ok d=>
  walk_at"1"
  cases d with
  | bl b=>
   intro H1 e1
   cases b with
   | true=>rw[if_pos rfl];exact q H1 e1
   | false=>
    rw[if_neg Bool.false_ne_true]
    walk_at"@,"
    cases hb:fb st with
    | bad=>rw[hb] at q;exact q
    | ex c p=>rw[hb] at q;exact fun H' e'=>q H' (e1.trans e')
    | ok d=>
     rw[hb] at q
     cases d with
     | bl b=>exact fun H' e'=>q H' (e1.trans e')
     | _=>exact q.elim
  | _=>exact q.elim
theorem HW{op}(ha:PE X a (tD X.K C G0 Γ E fa κ)):PE X (.BoolOp op [a] pos) (tD X.K C G0 Γ E fa κ):=O5 ha
theorem vbl{K:PySem.W.Frag}{A:List Addr}{H H':Hp}{b:Bool}{v:V}(w:Val K C κ G0 A H H' (.bl b) v):v = .bl b:=by have:=w.rep;rw[Rep] at this;exact this
theorem CG(ha:PE X a (tD X.K C G0 Γ E fa aA))(hb:PE X (.BoolOp .And (b::rest) pos) (tD X.K C G0 Γ E fb κ)):PE X (.BoolOp .And (a::b::rest) pos) (tD X.K C G0 Γ E (j4 fa fb) κ):=(O6 ha hb).imp fun σ H Q zz=>by
 walk_at"024"
 unfold j4 R.bind at q
 cases hf:fa st with
 | bad=>rw[hf] at q;exact q
 | ex c p=>rw[hf] at q;exact q
 | ok d=>
  walk_at"1"
  cases d with
  | bl b=>
   intro v H1 e1 w1
   refine⟨b,vbl w1,?_⟩
   cases b with
   | false=>rw[if_neg Bool.false_ne_true];exact q _ H1 e1 (.flat r e1 (by rw[eX] <;> simp) zu _)
   | true=>
    rw[if_pos rfl]
    walk_at"@,"
    cases hb:fb st with
    | bad=>rw[hb] at q;exact q
    | ex c p=>rw[hb] at q;exact fun H' e'=>q H' (e1.trans e')
    | ok d=>rw[hb] at q;exact fun v H' e' w=>q v H' (e1.trans e') (w.early e1)
  | _=>exact q.elim
end
end Dm
end UI
section UK
namespace Dm
open PySem PySem.Spec PyProof.Rows L2
def L6(K:PySem.W.Frag)(C:Cfg)(fL:Bool)(G0 H':Hp)(d:D)(v:V):Prop:=match fL with
 | true=>Rep K C (nw G0 H') d v/\lR K C G0 (nw G0 H') d v
 | false=>Rep K C H' d v
section
variable (K:PySem.W.Frag)(C:Cfg)(G0:Hp)(Γ:List SK)(E:L2.St->XK)(fL:Bool)
def nX(F:DS):TS:=fun D σ H=>∃A st,RS K C G0 Γ σ H A st/\match F st with
 | .nx st'=>∀cH H' A',RS K C G0 Γ cH H' A' st'->aG (er H A) (er H' A')->D.nx cH H'
 | .bk st'=>∀cH H' A',RS K C G0 Γ cH H' A' st'->aG (er H A) (er H' A')->D.bk cH H'
 | .ct st'=>∀cH H' A',RS K C G0 Γ cH H' A' st'->aG (er H A) (er H' A')->D.ct cH H'
 | .rt d=>∀v H',aG G0 H'->L6 K C fL G0 H' d v->D.rt v H'
 | .ex c p st'=>∀cH H' A',RS K C G0 Γ cH H' A' st'->aG (er H A) (er H' A')->G8 (E cH) c p H'
 | .bad=>False
end
def b9(F G:DS):DS:=fun st=>match F st with | .nx st'=>G st' | o=>o
def bN:DS:=fun st=>.nx st
def zw:DS:=fun st=>.bk st
def bO(i:Nat)(f:DF):DS:=fun st=>match f st with | .ok d=>.nx (st.set i (some d)) | .ex c p=>.ex c p st | .bad=>.bad
def u9(f:DF):DS:=fun st=>match f st with | .ok _=>.nx st | .ex c p=>.ex c p st | .bad=>.bad
def eS(f:DF):DS:=fun st=>match f st with | .ok d=>.rt d | .ex c p=>.ex c p st | .bad=>.bad
def cI(fc:DF)(F G:DS):DS:=fun st=>match fc st with | .ok (.bl true)=>F st | .ok (.bl false)=>G st | .ok _=>.bad | .ex c p=>.ex c p st | .bad=>.bad
section
variable {X:Cx}{C:Cfg}{G0:Hp}{Γ:List SK}{E:L2.St->XK}{fL:Bool}{e a b c:Expr}{f fa fb fc:DF}{κ κ' aA bC:Kd}{es rest:List Expr}{fs:DA}{pos:Pos}{s:Stmt}{ss:List Stmt}{F G:DS}
theorem dG:sP X [] (nX X.K C G0 Γ E fL bN):=Kn.imp fun D σ H iz=>iz.elim fun A lO=>lO.elim fun st qQ=>qQ.elim fun r q=>q σ H A r (.refl _)
theorem HX:PS X (.Break pos) (nX X.K C G0 Γ E fL zw):=GH.imp fun D σ H Au=>Au.elim fun A BU=>BU.elim fun st BV=>BV.elim fun r q=>q σ H A r (.refl _)
theorem aE(h1:PS X s (nX X.K C G0 Γ E fL F))(h2:sP X ss (nX X.K C G0 Γ E fL G)):sP X (s::ss) (nX X.K C G0 Γ E fL (b9 F G)):=(Av h1 h2).imp fun D σ H zz=>by
 walk_at"024"
 unfold b9 at q
 cases hf:F st with
 | nx st'=>
  walk_at"1"
  intro cH H' A' r' e'
  refine⟨A',st',r',?_⟩
  walk_at","
  cases hg:G st' with
  | nx sE=>rw[hg] at q;exact fun yV H2 A2 r2 e2=>q yV H2 A2 r2 (e'.trans e2)
  | bk sE=>rw[hg] at q;exact fun yV H2 A2 r2 e2=>q yV H2 A2 r2 (e'.trans e2)
  | ct sE=>rw[hg] at q;exact fun yV H2 A2 r2 e2=>q yV H2 A2 r2 (e'.trans e2)
  | rt d=>rw[hg] at q;exact q
  | ex c p sE=>rw[hg] at q;exact fun yV H2 A2 r2 e2=>q yV H2 A2 r2 (e'.trans e2)
  | bad=>rw[hg] at q;exact q
 | bk st'=>rw[hf] at q;exact q
 | ct st'=>rw[hf] at q;exact q
 | rt d=>rw[hf] at q;exact q
 | ex c p st'=>rw[hf] at q;exact q
 | bad=>rw[hf] at q;exact q
theorem aR(h1:PS X s (nX X.K C G0 Γ E fL F)):sP X [s] (nX X.K C G0 Γ E fL F):=Du h1
theorem bD{i:Nat}{k:SK}{x:Str}{pos':Pos}(hN:X.N.Nodup)(he:PE X e (tD X.K C G0 Γ E f κ))(hk:Γ[i]?=some k:=by rfl)(hl:k.takes κ=true:=by rfl)(hi:X.N[i]?=some x:=by rfl)(hx:Loc X.env.scope x:=by first | exact Or.inl rfl | exact Or.inr rfl)(hs:swapsWith e (some (.Name x pos')) pos.line X.env=pure false:=by rfl)
  (hf:X.fn x=true\/X.env.scope.names.lookup x=some .local:=by first | exact .inl rfl | exact .inr rfl | assumption):PS X (.Assign [.Name x pos'] e pos) (nX X.K C G0 Γ E fL (bO i f)):=(Od hN hi hx he hs hf).imp fun D σ H zz=>by
 walk_at"024"
 unfold bO at q
 cases hf:f st with
 | bad=>rw[hf] at q;exact q
 | ex c p=>rw[hf] at q;exact fun H' e'=>q σ H' A (r.mono e') (aD e')
 | ok d=>
  walk_at"1"
  intro v H' e' w
  refine bQ (r.set e' hk hl w) fun A' r' e2 _=>?_
  exact q _ _ A' r' e2
theorem zx(he:PE X e (tD X.K C G0 Γ E f κ))(hs:swapsWith e none pos.line X.env=pure false:=by rfl):PS X (.Expr e pos) (nX X.K C G0 Γ E fL (u9 f)):=(r8 he hs).imp fun D σ H zz=>by
 walk_at"024"
 unfold u9 at q
 cases hf:f st with
 | bad=>rw[hf] at q;exact q
 | ex c p=>rw[hf] at q;exact fun H' e'=>q σ H' A (r.mono e') (aD e')
 | ok d=>rw[hf] at q;exact fun v H' e' w=>q σ H' A (r.mono e') (aD e')
def ac1:Bool->Kd | true=>.kQ | false=>.aF
theorem c7(he:PE X e (tD X.K C G0 Γ E f κ))(l:κ.le (ac1 fL)=true:=by rfl):PS X (.Return (some e) pos) (nX X.K C G0 Γ E fL (eS f)):=(O9 he).imp fun D σ H zz=>by
 walk_at"024"
 unfold eS at q
 cases hf:f st with
 | bad=>rw[hf] at q;exact q
 | ex c p=>rw[hf] at q;exact fun H' e'=>q σ H' A (r.mono e') (aD e')
 | ok d=>
  walk_at"1"
  intro v H' e' w
  have w':=w.le r e' l
  refine q v H' (r.g0.trans e') ?_
  cases fL with
  | true=>exact w'
  | false=>exact w'
theorem gh(hc:PT X c (vL X.K C G0 Γ E fc))(ha:sP X ss (nX X.K C G0 Γ E fL F)){ss':List Stmt}(hb:sP X ss' (nX X.K C G0 Γ E fL G)):PS X (.If c ss ss' pos) (nX X.K C G0 Γ E fL (Dm.cI fc F G)):=(Se hc ha hb).imp fun D σ H zz=>by
 walk_at"024"
 unfold Dm.cI at q
 have sub:∀{H1:Hp} (e1:aG H H1) {G:DS},(match G st with
   | .nx st'=>∀cH H' A',RS X.K C G0 Γ cH H' A' st'->aG (er H A) (er H' A')->D.nx cH H'
   | .bk st'=>∀cH H' A',RS X.K C G0 Γ cH H' A' st'->aG (er H A) (er H' A')->D.bk cH H'
   | .ct st'=>∀cH H' A',RS X.K C G0 Γ cH H' A' st'->aG (er H A) (er H' A')->D.ct cH H'
   | .rt d=>∀v H',aG G0 H'->L6 X.K C fL G0 H' d v->D.rt v H'
   | .ex c p st'=>∀cH H' A',RS X.K C G0 Γ cH H' A' st'->aG (er H A) (er H' A')->G8 (E cH) c p H'
   | .bad=>False)->nX X.K C G0 Γ E fL G D σ H1:=fun {H1} e1 {G} q=>by
  walk_at"@"
  cases hg:G st with
  | nx sE=>rw[hg] at q;exact fun yV H2 A2 r2 e2=>q yV H2 A2 r2 ((aD e1).trans e2)
  | bk sE=>rw[hg] at q;exact fun yV H2 A2 r2 e2=>q yV H2 A2 r2 ((aD e1).trans e2)
  | ct sE=>rw[hg] at q;exact fun yV H2 A2 r2 e2=>q yV H2 A2 r2 ((aD e1).trans e2)
  | rt d=>rw[hg] at q;exact q
  | ex c p sE=>rw[hg] at q;exact fun yV H2 A2 r2 e2=>q yV H2 A2 r2 ((aD e1).trans e2)
  | bad=>rw[hg] at q;exact q
 cases hf:fc st with
 | bad=>rw[hf] at q;exact q
 | ex c p=>rw[hf] at q;exact fun H' e'=>q σ H' A (r.mono e') (aD e')
 | ok d=>
  walk_at"1"
  cases d with
  | bl b=>
   intro H1 e1
   cases b with
   | true=>rw[if_pos rfl];exact sub e1 q
   | false=>rw[if_neg Bool.false_ne_true];exact sub e1 q
  | _=>exact q.elim
def rE:List SK->Bool:=fun Γ=>Γ.all fun k=>match k with | .any=>false | .pr=>false | _=>true
theorem HY{Γ:List SK}(h:rE Γ=true){i:Nat}:Γ[i]?≠some .any:=fun z=>by
 unfold rE at h
 have:=List.all_eq_true.mp h _ (List.mem_of_getElem? z)
 cases this
theorem HZ{Γ:List SK}(h:rE Γ=true){i:Nat}:Γ[i]?≠some .pr:=fun z=>by
 unfold rE at h
 have:=List.all_eq_true.mp h _ (List.mem_of_getElem? z)
 cases this
theorem RS.OZ{K:PySem.W.Frag}{σ:L2.St}{H:Hp}{A:List Addr}{st:dh}(r:RS K C G0 Γ σ H A st)(na:rE Γ=true){i:Nat}{n:Bool}{p:Addr}{ob:HO}{d' d0:D}(hk:Γ[i]?=some (.own n))(hs:st[i]?=some (some d0))(hv:σ[i]?=some (some (.ref p)))(hp:p∈A)(g0:G0 p=none)
  (Ab:lQ d0=true) (hM:OV ob=true) (q:jW K C (eh n G0 A H) (upd H p ob) p d'):RS K C G0 Γ σ (upd H p ob) A (st.set i (some d'))/\aG (er H A) (er (upd H p ob) A):=by
 have ee:er (upd H p ob) A=er H A:=by
  funext b
  by_cases mb:b∈A
  ·rw[cV mb,cV mb]
  ·rw[aW mb,aW mb,aY (fun z:b=p=>mb (by rw[z];exact hp))]
 have HM:∀m,eh m G0 A (upd H p ob)=eh m G0 A H:=fun m=>by unfold eh;rw[ee]
 refine⟨⟨by rw[ee];exact r.base,fun a m=>?_,by simp[r.len],fun j d h=>?_,fun a b n' m' p' ds es sS g1 g2 s1 s2 o1 o2 w1 w2=>?_⟩,by rw[ee];exact .refl _⟩
 ·by_cases ha:a=p
  ·subst ha;exact⟨ob,bM,hM⟩
  ·rw[aY ha];exact r.lists a m
 ·by_cases hj:i=j
  ·subst hj
   rw[List.getElem?_set_self (List.getElem?_eq_some_iff.mp hs).1] at h
   cases h
   exact⟨_,_,hk,hv,.inl ⟨p,rfl,hp,g0,by rw[HM];exact q⟩⟩
  ·rw[List.getElem?_set_ne hj] at h
   refine b8 (r.slot j d h) fun k v h1 h2 h3=>?_
   refine⟨k,v,h1,h2,?_⟩
   cases k with
   | par=>show Rep K C (er _ A) d v;rw[ee];exact h3
   | loc=>show _/\_;rw[ee];exact h3
   | any=>exact absurd h1 (HY na)
   | pr=>exact absurd h1 (HZ na)
   | own m=>
    rcases h3 with ⟨p2,b,c,f,q2⟩ | ⟨a,b⟩
    ·subst b
     have np:p2≠p:=fun z=>by
      subst z
      exact r.apart i j n m p2 d0 d hj hk h1 hs h Ab q2.lQ hv h2
     exact .inl ⟨p2,rfl,c,f,by rw[HM];exact q2.mono (.refl _) (aY np)⟩
    ·exact .inr ⟨a,by rw[HM];exact b⟩
 ·have back:∀{c:Nat} {x:D},(st.set i (some d'))[c]?=some (some x)->lQ x=true->∃y,st[c]?=some (some y)/\lQ y=true:=fun {c x} h ho=>by
   by_cases hc:i=c
   ·subst hc
    exact⟨d0,hs,Ab⟩
   ·rw[List.getElem?_set_ne hc] at h;exact⟨_,h,ho⟩
  obtain ⟨ds1,s1,o1⟩:=back s1 o1
  obtain ⟨es1,s2,o2⟩:=back s2 o2
  exact r.apart a b n' m' p' ds1 es1 sS g1 g2 s1 s2 o1 o2 w1 w2
theorem RS.mut{K:PySem.W.Frag}{σ:L2.St}{H:Hp}{A:List Addr}{st:dh}(r:RS K C G0 Γ σ H A st)(na:rE Γ=true){i:Nat}{n:Bool}{p:Addr}{F0:List D}{sU:List V}{d0:D}(hk:Γ[i]?=some (.own n))(hs:st[i]?=some (some d0))(hv:σ[i]?=some (some (.ref p)))(hp:p∈A)(g0:G0 p=none)
  (Ab:∃ds,d0 = .lst ds) (q:aM K C (eh n G0 A H) F0 sU):RS K C G0 Γ σ (upd H p (.lst sU)) A (st.set i (some (.lst F0)))/\aG (er H A) (er (upd H p (.lst sU)) A):=by
 obtain ⟨ds,rfl⟩:=Ab
 exact r.OZ na hk hs hv hp g0 rfl rfl ⟨sU,bM,q⟩
theorem RS.CH{K:PySem.W.Frag}{σ:L2.St}{H:Hp}{A:List Addr}{st:dh}(r:RS K C G0 Γ σ H A st){i:Nat}{n:Bool}{d:D}(hk:Γ[i]?=some (.own n))(hs:st[i]?=some (some d))(hd:lQ d=true) :
  ∃p,σ[i]?=some (some (.ref p))/\p∈A/\G0 p=none/\jW K C (eh n G0 A H) H p d:=by
 refine b8 (r.slot i _ hs) fun k v h1 h2 h3=>?_
 rw[hk] at h1;cases h1
 rcases h3 with ⟨p2,b,c,f,q2⟩ | ⟨a,b⟩
 ·cases b
  exact⟨p2,h2,c,f,q2⟩
 ·rw[hd] at a;cases a
theorem RS.owned{K:PySem.W.Frag}{σ:L2.St}{H:Hp}{A:List Addr}{st:dh}(r:RS K C G0 Γ σ H A st){i:Nat}{n:Bool}{ds:List D}(hk:Γ[i]?=some (.own n))(hs:st[i]?=some (some (.lst ds))) :
  ∃p xs,σ[i]?=some (some (.ref p))/\p∈A/\G0 p=none/\H p=some (.lst xs)/\aM K C (eh n G0 A H) ds xs:=by
 refine Yy (r.CH hk hs rfl) fun p a b c q=>?_
 exact aN q fun xs e w=>⟨p,xs,a,b,c,e,w⟩
def P0:Bool->Kd | true=>.loc | false=>.old
theorem Val.P0{K:PySem.W.Frag}{σ:L2.St}{H H':Hp}{A:List Addr}{st:dh}{n:Bool}{d:D}{v:V}(r:RS K C G0 Γ σ H A st)(e:aG H H')(l:κ.le (P0 n)=true)(w:Val K C κ G0 A H H' d v):Rep K C (eh n G0 A H') d v:=by
 have:=w.le r e l
 cases n with
 | true=>exact this.1
 | false=>exact this
def i9(i:Nat)(f:DF):DS:=fun st=>match st[i]? with
 | some (some (.lst ds))=>match f st with
  | .ok d=>if ds.length<=1000 then .nx (st.set i (some (.lst (ds++[d])))) else .bad
  | .ex c p=>.ex c p st
  | .bad=>.bad
 | _=>.bad
theorem qy{i:Nat}{n:Bool}{to:TE}(h:PE X e (tBM X.K "list" yY (lI i) (vp (tD X.K C G0 Γ E f κ) Cr)))(na:rE Γ=true)(hk:Γ[i]?=some (.own n):=by rfl)(hl:κ.le (P0 n)=true:=by rfl)(hs:swapsWith e none pos.line X.env=pure false:=by rfl):PS X (.Expr e pos) (nX X.K C G0 Γ E fL (i9 i f)):=(r8 h hs).imp fun D σ H zz=>by
 walk_at"02"
 unfold i9 at q
 split at q
 all_goals first
  | (rename_i z;split at z <;> (try split at z) <;> (try split at z) <;> cases z;done)
  | skip
 ·rename_i st' z
  split at z
  ·rename_i ds hs
   cases hf:f st with
   | bad=>rw[hf] at z;cases z
   | ex c p=>rw[hf] at z;cases z
   | ok d=>
    rw[hf] at z
    dsimp only at z
    split at z
    ·rename_i hlen
     cases z
     refine En (r.owned hk hs) fun p xs h1 h2 h3 h4 h5=>?_
     refine⟨_,h1,.inl ⟨rfl,xs,.of h4⟩,A,st,r,?_⟩
     rw[hf]
     intro v H' e' w
     have r':=r.mono e'
     have q5:aM X.K C (eh n G0 A H') ds xs:=h5.same (by
      unfold eh;cases n
      ·exact aD e'
      ·exact bJ (aD e')) _
     refine⟨p,xs,v,rfl,rfl,e' _ _ h4,?_,?_⟩
     ·rw[h5.len]
      have:1001<=sizeLine:=by rw[sizeLine_eq];decide
      lia
     ·obtain ⟨r2,e2⟩:=r'.mut na hk hs h1 h2 h3 ⟨ds,rfl⟩ (q5.app (.cons (w.P0 r e' hl) .nil))
      exact q _ _ A r2 ((aD e').trans e2)
    ·cases z
  ·cases z
 ·rename_i c p st' z
  split at z
  ·rename_i ds hs
   cases hf:f st with
   | bad=>rw[hf] at z;cases z
   | ok d=>rw[hf] at z;dsimp only at z;split at z <;> cases z
   | ex c p=>
    rw[hf] at z
    cases z
    refine En (r.owned hk hs) fun p' xs h1 h2 h3 h4 h5=>?_
    refine⟨_,h1,.inl ⟨rfl,xs,.of h4⟩,A,st,r,?_⟩
    rw[hf]
    exact fun H' e'=>q σ H' A (r.mono e') (aD e')
  ·cases z
 ·exact q.elim
end
end Dm
end UK
section UL
namespace Dm
open PySem PySem.Spec PyProof.Rows L2
def WL(K:PySem.W.Frag)(C:Cfg)(n:Nat)(F:List D->R D)(fL:Bool):Sp:=fun vs H Q E=>∃ds,ds.length=n/\aM K C H ds vs/\match F ds with
 | .ok d=>∀v H',aG H H'->L6 K C fL H H' d v->Q v H'
 | .ex c p=>∀H',aG H H'->G8 E c p H'
 | .bad=>False
def bP(m:Nat)(Fb:DS):List D->R D:=fun ds=>match Fb (ds.map some++List.replicate (m - ds.length) none) with
 | .rt d=>.ok d | .nx _=>.ok .cz | .ex c p _=>.ex c p | _=>.bad
section
variable {K:PySem.W.Frag}{C:Cfg}{Γ:List SK}{H:Hp}
theorem lT:er H []=H:=by funext a;exact aW (by simp)
theorem I0{n:Nat}{N:List Str}{ds:List D}{vs:List V}(hn:ds.length=n)(AG:∀i,i < n->Γ[i]?=some .par)(q:aM K C H ds vs):RS K C H Γ (L2.start N vs) H [] (ds.map some++List.replicate (N.length - ds.length) none) where
 base:=by rw[lT];exact .refl _
 lists:=fun a m=>by cases m
 len:=by unfold L2.start;simp[q.len]
 slot:=fun i d h=>by
  have hi:i < ds.length:=by
   apply Decidable.byContradiction
   intro gG
   rw[List.getElem?_append_right (by simp;lia)] at h
   simp at h
   rw[List.getElem?_replicate] at h
   split at h <;> cases h
  rw[List.getElem?_append_left (by simpa using hi),List.getElem?_map] at h
  cases hd:ds[i]? with
  | none=>rw[hd] at h;cases h
  | some d'=>
   rw[hd] at h;cases h
   refine aN (q.get' hd) fun v h1 h2=>?_
   refine⟨.par,v,AG i (by lia),?_,?_⟩
   ·unfold L2.start
    rw[List.getElem?_append_left (by rw[List.length_map,q.len];exact hi),List.getElem?_map,h1];rfl
   ·show Rep K C (er H []) d v
    rw[lT];exact h2
 apart:=fun i j a b p F0 es qP g1 g2 s1 s2 w1 w2=>by
  have hi:i < ds.length:=by
   apply Decidable.byContradiction
   intro gG
   rw[List.getElem?_append_right (by simp;lia)] at s1
   simp at s1
   rw[List.getElem?_replicate] at s1
   split at s1 <;> cases s1
  rw[AG i (by lia)] at g1;cases g1
theorem P4{P:Program}{w:World}{mg:Str->Option Value}{base:Heap}{x qual:Str}{st:Stmt}{f:Addr}{fd:FuncData}{N ps:List Str}{k n:Nat}{fL:Bool}{Fb:DS}(F:Hj K x qual st f fd)(S:br N ps (az st))(hn:ps.length=n)(AG:∀i,i < n->Γ[i]?=some .par)
  (body:∀(dU:Value) (A:Around) (outer:List Env) (s:Shared) (H:Hp) (E:XK),i6 k (A.deeper (envOfC qual (az st) s.heap.objs.size f dU))->
   sP ((pT (pK P w) P w K mg base N qual (az st) f dU A outer s H E).dw (jU (pT (pK P w) P w K mg base N qual (az st) f dU A outer s H E) fun _=>E)) (bf st) (nX K C H Γ (fun _=>E) fL Fb)) :
  iQ P w K mg base (pK P w) (k+1) f fd ps (WL K C n (bP N.length Fb) fL):=by
 refine yf F S (fun vs H Q E iz=>by obtain ⟨ds,h1,h2,_⟩:=iz;rw[h2.len,h1,hn]) fun dU A outer s H vs Q E hr lO=>?_
 refine bQ lO fun ds h1 h2 q=>?_
 clear lO
 refine⟨_,body dU A outer s H E hr,[],_,I0 h1 AG h2,?_⟩
 unfold bP at q
 cases hf:Fb (ds.map some++List.replicate (N.length - ds.length) none) with
 | nx st'=>
  walk_at"1"
  intro cH H' A' r' e'
  refine q .cz H' (r'.g0) ?_
  have R:∀H:Hp,Rep K C H .cz .cz:=fun H=>by rw[Rep]
  cases fL with
  | true=>exact⟨R (nw H H'),.not rfl rfl⟩
  | false=>exact R H'
 | bk st'=>rw[hf] at q;exact q.elim
 | ct st'=>rw[hf] at q;exact q.elim
 | rt d=>rw[hf] at q;exact q
 | ex c p st'=>rw[hf] at q;exact fun cH H' A' r' e'=>q H' r'.g0
 | bad=>rw[hf] at q;exact q.elim
end
section
variable {X:Cx}{C:Cfg}{G0:Hp}{Γ:List SK}{E:L2.St->XK}{fL:Bool}{e a b c:Expr}{f fa fb fc:DF}{κ κ' aA bC:Kd}{es rest:List Expr}{fs:DA}{pos:Pos}{s:Stmt}{ss:List Stmt}{F G:DS}
def I8:Bool->Kd | true=>.new | false=>.aF
theorem Ia{n:Nat}{Fd:List D->R D}{xq:Bool}{K:PySem.W.Frag}:∀σ H Q,tD K C G0 Γ E (bz Fd fs) (I8 xq) σ H Q->(∀st ds,fs st = .ok ds->ds.length=n)->HD (WL K C n Fd xq) E (G9 K C G0 Γ E fs κ) σ H Q:=fun σ H Q qQ hlen=>by
 refine cN qQ fun A st r q=>?_
 clear qQ
 walk_at"4"
 unfold bz R.bind at q
 cases hf:fs st with
 | bad=>rw[hf] at q;exact q
 | ex c p=>rw[hf] at q;exact q
 | ok ds=>
  walk_at"1,"
  intro vs H1 e1 w1
  refine⟨ds,hlen st ds hf,w1.same Kd.vK _,?_⟩
  cases hg:Fd ds with
  | bad=>rw[hg] at q;exact q
  | ex c p=>rw[hg] at q;exact fun H' e'=>q H' (e1.trans e')
  | ok d=>
   rw[hg] at q
   refine fun v H' e' w=>q v H' (e1.trans e') ?_
   cases xq with
   | true=>
    have w':Val K C .new G0 A H1 H' d v:=w
    exact w'.early e1
   | false=>exact w
theorem aO:∀st ds,av st = .ok ds->ds.length=0:=fun st ds h=>by cases h;rfl
theorem aq{n:Nat}(h:∀st ds,fs st = .ok ds->ds.length=n):∀st ds,aa f fs st = .ok ds->ds.length=n+1:=fun st ds q=>by
 unfold aa R.bind at q
 cases hf:f st with
 | bad=>rw[hf] at q;cases q
 | ex c p=>rw[hf] at q;cases q
 | ok d=>
  walk_at"1,"
  cases hg:fs st with
  | bad=>rw[hg] at q;cases q
  | ex c p=>rw[hg] at q;cases q
  | ok F0=>
   rw[hg] at q;cases q
   rw[List.length_cons,h st _ hg]
theorem L7{X:Cx}{x:Str}{k n:Nat}{ff:Addr}{fd:FuncData}{ps:List Str}{Fd:List D->R D}{xq:Bool}{p:Pos}(Fn:iQ X.prog X.w X.K X.mg X.base (pK X.prog X.w) k ff fd ps (WL X.K C n Fd xq))(hr:i6 k X.A)(hm:X.mg x=some (.ref ff))(hk:PySem.W.keepIn X.K (.ref ff)=true)(hb:Binds X.K fd ps [])
  (ha:PA (X.dw (jU X E)) (e::es) (G9 X.K C G0 Γ E fs κ)) (hlen:∀st ds,fs st = .ok ds->ds.length=n) (hg:Gl X x:=by rfl) (EL:(x==("__debug__" : Str))=false:=by decide) (he:starEach (e::es) X.env=(false,eval e X.env)::starEach es X.env:=by rfl) (v7:(backTo pos (starEach es X.env)).any (·.1)=false:=by rfl) :
  PE (X.dw (jU X E)) (.Call (.Name x p) (e::es) [] pos) (tD X.K C G0 Γ E (bz Fd fs) (I8 xq)):=(HE Fn hr hg hm hk hb ha EL he v7).imp fun σ H Q q=>Ia σ H Q q hlen
abbrev DB:=D->dh->Option dh
def cY(bind:DB)(F:DS):List D->dh->Out
 | [],st=>.nx st
 | d::ds,st=>match bind d st with
  | none=>.bad
  | some jY=>match F jY with
   | .nx st'=>cY bind F ds st'
   | .ct st'=>cY bind F ds st'
   | .bk st'=>.nx st'
   | o=>o
abbrev DI:=dh->R (List D)
def dZ(g:DI)(bind:DB)(F:DS):DS:=fun st=>match g st with | .ok ds=>cY bind F ds st | .ex c p=>.ex c p st | .bad=>.bad
def qc(K:PySem.W.Frag)(C:Cfg)(G0:Hp)(Γ:List SK)(t:TG)(bind:DB):Prop:=∀(σ:L2.St) (H:Hp) (A:List Addr) (st jY:dh) (d:D) (v:V) (Q:L2.St->Hp->Prop),RS K C G0 Γ σ H A st->Rep K C (er H A) d v->bind d st=some jY->
 (∀cH A',RS K C G0 Γ cH H A' jY->aG (er H A) (er H A')->(∀a∈A,a∈A')->Q cH H)->t v σ H Q
def bX(i:Nat):DB:=fun d st=>some (st.set i (some d))
def iZ(i j:Nat):DB:=fun d st=>match d with | .tup [a,b]=>some ((st.set i (some a)).set j (some b)) | _=>none
theorem dz{K:PySem.W.Frag}{i:Nat}{k:SK}(hk:Γ[i]?=some k:=by rfl)(l:k.takes .old=true:=by rfl):qc K C G0 Γ (Aw i) (bX i):=fun σ H A st jY d v Q r w hb q=>by
 cases hb
 refine bQ (r.set (.refl _) hk l (κ:=.old) w) fun A' r' e' sb=>?_
 exact q _ A' r' e' sb
theorem rF{K:PySem.W.Frag}{i j:Nat}{k k':SK}(hk:Γ[i]?=some k:=by rfl)(hj:Γ[j]?=some k':=by rfl)(l:k.takes .old=true:=by rfl)(l':k'.takes .old=true:=by rfl):qc K C G0 Γ (Sl K 2 (GI (Aw i) (GI (Aw j) Si))) (iZ i j):=fun σ H A st jY d v Q r w hb q=>by
 unfold iZ at hb
 split at hb
 ·rename_i a b
  cases hb
  rw[Rep] at w
  refine b8 w fun p xs aV h2 h3=>?_
  clear w
  walk_at"#"
  have Di:=aG.tup (aH _ _) h2
  rw[aM] at h3
  obtain ⟨x,r1,rfl,wx,h3⟩:=h3
  rw[aM] at h3
  obtain ⟨y,r2,rfl,wy,h3⟩:=h3
  rw[aM] at h3
  subst h3
  refine⟨p,_,rfl,Di,rfl,x,[y],rfl,y,[],rfl,rfl,?_⟩
  refine bQ (r.set (.refl _) hk l (κ:=.old) wx) fun A1 s1 e1 b1=>?_
  refine bQ (s1.set (.refl _) hj l' (κ:=.old) (wy.same e1 _)) fun A2 s2 e2 b2=>?_
  exact q _ A2 s2 (e1.trans e2) fun a m=>b2 a (b1 a m)
 ·cases hb
def F1(K:PySem.W.Frag)(C:Cfg)(A:List Addr)(H1:Hp)(J:It)(ds:List D):Prop:=∀(i:Nat) (H:Hp) (A':List Addr),aG (er H1 A) (er H A')->(∀a∈A',H a≠none)->
 (∀d,ds[i]?=some d->J.go i H/\∀x H',J.WC i H x H'->aG H H'/\Rep K C (er H' A') d x)/\(ds[i]?=none->J.stop i H)
theorem sZ{K:PySem.W.Frag}{J:It}{ds:List D}{bind:DB}{g:TG}{A:List Addr}{H H1:Hp}{σ:L2.St}{st:dh}{D:Ends}(hB:qc K C G0 Γ g bind)(hJ:F1 K C A H1 J ds)(r:RS K C G0 Γ σ H A st)(e1:aG H H1)(q:match cY bind F ds st with
   | .nx st'=>∀cH H' A',RS K C G0 Γ cH H' A' st'->aG (er H A) (er H' A')->D.nx cH H'
   | .bk st'=>∀cH H' A',RS K C G0 Γ cH H' A' st'->aG (er H A) (er H' A')->D.bk cH H'
   | .ct st'=>∀cH H' A',RS K C G0 Γ cH H' A' st'->aG (er H A) (er H' A')->D.ct cH H'
   | .rt d=>∀v H',aG G0 H'->L6 K C fL G0 H' d v->D.rt v H'
   | .ex c p st'=>∀cH H' A',RS K C G0 Γ cH H' A' st'->aG (er H A) (er H' A')->G8 (E cH) c p H'
   | .bad=>False) :
  ∃W:Nat->Nat->L2.St->Hp->Prop,(∃m,W 0 m σ H1)/\∀i m σ H,W i m σ H->
   (J.stop i H/\D.nx σ H)\/(J.go i H/\∃N:L2.St->Hp->Prop,(∀cH H',N cH H'->∃m',m' < m/\W (i+1) m' cH H')/\∀x H',J.WC i H x H'->g x σ H' fun yV H2=>nX K C G0 Γ E fL F { D with nx:=N,ct:=N,bk:=D.nx } yV H2):=by
 refine⟨fun i m cH H'=>m=ds.length - i/\i<=ds.length/\∃A' st',RS K C G0 Γ cH H' A' st'/\aG (er H1 A) (er H' A')/\cY bind F (ds.drop i) st'=cY bind F ds st,⟨ds.length,rfl,Nat.zero_le _,A,st,r.mono e1,.refl _,rfl⟩,?_⟩
 rintro i m Ax H3 ⟨rfl,hi,A3,GR,r3,e3,g3⟩
 obtain ⟨kZ,qV⟩:=hJ i H3 A3 e3 (fun a m=>by obtain ⟨xs,q,_⟩:=r3.lists a m;rw[q];simp)
 cases hd:ds[i]? with
 | none=>
  have:ds.drop i=[]:=List.drop_eq_nil_iff.mpr (List.getElem?_eq_none_iff.mp hd)
  rw[this] at g3
  rw[<- g3] at q
  exact .inl ⟨qV hd,q Ax H3 A3 r3 ((aD e1).trans e3)⟩
 | some d=>
  obtain ⟨go,yl⟩:=kZ d hd
  have gG:i < ds.length:=(List.getElem?_eq_some_iff.mp hd).1
  have hdr:ds.drop i=d::ds.drop (i+1):=by
   rw[List.drop_eq_getElem_cons gG]
   congr 1
   exact(List.getElem?_eq_some_iff.mp hd).2
  refine .inr ⟨go,fun cH H'=>∃A' st',RS K C G0 Γ cH H' A' st'/\aG (er H1 A) (er H' A')/\cY bind F (ds.drop (i+1)) st'=cY bind F ds st,fun cH H' DG=>DG.elim fun A' EY=>EY.elim fun st' G7=>G7.elim fun h1 Au=>Au.elim fun h2 h3=>⟨ds.length - (i+1),by lia,rfl,gG,A',st',h1,h2,h3⟩,fun x H' hy=>?_⟩
  obtain ⟨e4,wx⟩:=yl x H' hy
  rw[hdr,cY] at g3
  cases hb:bind d GR with
  | none=>rw[hb] at g3;rw[<- g3] at q;exact q.elim
  | some R4=>
   rw[hb] at g3
   dsimp only at g3
   refine hB Ax H' A3 GR R4 d x _ (r3.mono e4) wx hb fun σ5 A5 r5 e5 _=>⟨A5,R4,r5,?_⟩
   have L8:aG (er H1 A) (er H' A5):=(e3.trans (aD e4)).trans e5
   cases hf:F R4 with
   | nx Ko=>rw[hf] at g3;exact fun Oj H6 A6 r6 e6=>⟨A6,Ko,r6,L8.trans e6,g3⟩
   | ct Ko=>rw[hf] at g3;exact fun Oj H6 A6 r6 e6=>⟨A6,Ko,r6,L8.trans e6,g3⟩
   | bk Ko=>rw[hf] at g3;rw[<- g3] at q;exact fun Oj H6 A6 r6 e6=>q Oj H6 A6 r6 (((aD e1).trans L8).trans e6)
   | rt d=>rw[hf] at g3;rw[<- g3] at q;exact q
   | ex c p Ko=>rw[hf] at g3;rw[<- g3] at q;exact fun Oj H6 A6 r6 e6=>q Oj H6 A6 r6 (((aD e1).trans L8).trans e6)
   | bad=>rw[hf] at g3;rw[<- g3] at q;exact q.elim
def eT(f:DF):DI:=fun st=>match f st with | .ok (.lst ds)=>.ok ds | .ok _=>.bad | .ex c p=>.ex c p | .bad=>.bad
theorem cW{tg iter:Expr}{bind:DB}{g:TG}(hp:PassesOwn (model X.prog X.w) X.A X.env X.xe)(hc:X.calm=true)(he:PE X iter (tD X.K C G0 Γ E f κ))(l:κ.le .old=true)(hg:PG X tg g)(hB:qc X.K C G0 Γ g bind)(hb:sP X ss (nX X.K C G0 Γ E fL F))(hs:∀x,foldedSetIterable iter X.env x=pure x:=by intro _;rfl) :
  PS X (.For tg iter ss [] pos) (nX X.K C G0 Γ E fL (dZ (eT f) bind F)):=(Ci hp hc (Dv he) hg hb hs).imp fun D σ H zz=>by
 walk_at"024"
 unfold dZ eT at q
 cases hf:f st with
 | bad=>rw[hf] at q;exact q.elim
 | ex c p=>rw[hf] at q;exact fun H' e'=>q σ H' A (r.mono e') (aD e')
 | ok d=>
  walk_at"1"
  cases d with
  | lst ds=>
   walk_at","
   intro v H1 e1 w
   have w':Rep X.K C (er H1 A) (.lst ds) v:=w.le r e1 (κ':=.old) l
   rw[Rep] at w'
   refine b8 w' fun a xs aV h2 h3=>?_
   clear w'
   walk_at"#"
   refine⟨a,rfl,⟨xs,(aH _ _).seq h2⟩,?_⟩
   refine sZ hB (fun i H3 A3 e3 _=>⟨fun d hd=>?_,fun hd=>?_⟩) r e1 q
   ·refine aN (h3.get' hd) fun v hv rv=>?_
    have s3:jJ X.K H3 a xs:=(e3.trans (aH _ _)).seq h2
    refine⟨⟨xs,v,s3,hv⟩,fun x H' BU=>?_⟩
    obtain ⟨hH,hx⟩:=BU
    subst hH
    have:=hx xs s3
    rw[hv] at this;cases this
    exact⟨.refl _,rv.same ((aH _ _).trans e3) _⟩
   ·exact⟨xs,(e3.trans (aH _ _)).seq h2,by rw[h3.len];exact List.getElem?_eq_none_iff.mp hd⟩
  | _=>exact q.elim
def rG(fs:DA):DI:=fun st=>match fs st with | .ok [.int j]=>if (decide (-(2 ^ 62)<=j)&&decide (j < 2 ^ 62))=true then .ok ((List.range j.toNat).map fun i=>.int (i:Nat)) else .bad | .ok _=>.bad | .ex c p=>.ex c p | .bad=>.bad
theorem lU{tg:Expr}{bind:DB}{g:TG}{p:Pos}(hp:PassesOwn (model X.prog X.w) X.A X.env X.xe)(hc:X.calm=true)(hm:X.mg "range" =none)(ha:PA X [a] (G9 X.K C G0 Γ E fs κ))(hg:PG X tg g)(hB:qc X.K C G0 Γ g bind)(hb:sP X ss (nX X.K C G0 Γ E fL F))(hgl:Gl X "range":=by rfl)
  (WM:starEach [a] X.env=[(false,eval a X.env)]:=by rfl) (hs:∀x,foldedSetIterable (.Call (.Name "range" p) [a] [] pos) X.env x=pure x:=by intro _;rfl) {pos':Pos} :
  PS X (.For tg (.Call (.Name "range" p) [a] [] pos) ss [] pos') (nX X.K C G0 Γ E fL (dZ (rG fs) bind F)):=(Ci hp hc (EE hgl hm ha WM) hg hb hs).imp fun D σ H zz=>by
 walk_at"024"
 unfold dZ at q
 cases hg:rG fs st with
 | bad=>rw[hg] at q;exact q.elim
 | ex c p=>
  rw[hg] at q
  have hf:fs st = .ex c p:=by
   unfold rG at hg
   split at hg
   ·split at hg <;> cases hg
   ·cases hg
   ·rename_i z;rw[z];cases hg;rfl
   ·cases hg
  rw[hf]
  exact fun H' e'=>q σ H' A (r.mono e') (aD e')
 | ok F0=>
  rw[hg] at q
  unfold rG at hg
  split at hg
  ·rename_i j hf
   rw[hf]
   split at hg
   ·rename_i hc
    cases hg
    simp only[Bool.and_eq_true,decide_eq_true_eq] at hc
    intro vs H1 e1 w1
    refine aN (nW w1) fun v gM wv=>?_
    walk_at"8"
    obtain rfl:v = .int j:=by rw[Rep] at wv;exact wv
    refine⟨j,rfl,hc.1,hc.2,?_⟩
    refine sZ hB (fun i H3 A3 e3 _=>⟨fun d hd=>?_,fun hd=>?_⟩) r e1 q
    ·rw[List.getElem?_map] at hd
     have hi:i < j.toNat:=by
      apply Decidable.byContradiction
      intro gG
      rw[List.getElem?_eq_none (by simpa using gG)] at hd
      cases hd
     rw[List.getElem?_range hi] at hd
     cases hd
     refine⟨hi,fun x H' BV=>?_⟩
     obtain ⟨hH,hx⟩:=BV
     subst hH;subst hx
     refine⟨.refl _,?_⟩
     rw[Rep,Int.zero_add]
    ·show j.toNat<=i
     have:=List.getElem?_eq_none_iff.mp hd
     simpa using this
   ·cases hg
  ·cases hg
  ·cases hg
  ·cases hg
end
end Dm
end UL
section ac2
namespace Dm
open PySem PySem.Spec PyProof.Rows L2
def jZ(f:DF)(F:DS):Nat->DS
 | 0,_=>.bad
 | n+1,st=>match f st with
  | .ok (.bl true)=>(match F st with
   | .nx st'=>jZ f F n st'
   | .ct st'=>jZ f F n st'
   | .bk st'=>.nx st'
   | o=>o)
  | .ok (.bl false)=>.nx st
  | .ok _=>.bad
  | .ex c p=>.ex c p st
  | .bad=>.bad
section
variable {X:Cx}{C:Cfg}{G0:Hp}{Γ:List SK}{E:L2.St->XK}{fL:Bool}{c:Expr}{f:DF}{pos:Pos}{ss:List Stmt}{F:DS}
theorem vO(n:Nat)(hp:PassesOwn (model X.prog X.w) X.A X.env X.xe)(hc:PT X c (vL X.K C G0 Γ E f))(hb:sP X ss (nX X.K C G0 Γ E fL F)):PS X (.While c ss [] pos) (nX X.K C G0 Γ E fL (jZ f F n)):=(GN hp hc hb).imp fun D σ H zz=>by
 walk_at"02"
 refine⟨fun m GJ H1=>∃A1 jY,RS X.K C G0 Γ GJ H1 A1 jY/\aG (er H A) (er H1 A1)/\jZ f F m jY=jZ f F n st,⟨n,A,st,r,.refl _,rfl⟩,?_⟩
 intro m GJ H1 w1
 refine b8 w1 fun A1 jY r1 e1 g1=>?_
 clear w1
 refine⟨A1,jY,r1,?_⟩
 rw[<- g1] at q
 cases m with
 | zero=>exact q.elim
 | succ m=>
  rw[jZ] at q g1
  cases hf:f jY with
  | bad=>rw[hf] at q;exact q
  | ex cl p=>rw[hf] at q;exact fun H' e'=>q GJ H' A1 (r1.mono e') (e1.trans (aD e'))
  | ok d=>
   rw[hf] at q g1
   cases d with
   | bl b=>
    intro H2 e2
    cases b with
    | false=>rw[if_neg Bool.false_ne_true];exact q GJ H2 A1 (r1.mono e2) (e1.trans (aD e2))
    | true=>
     rw[if_pos rfl]
     refine⟨fun Ax H3=>∃A3 GR,RS X.K C G0 Γ Ax H3 A3 GR/\aG (er H A) (er H3 A3)/\jZ f F m GR=jZ f F n st,fun Ax H3 w=>⟨m,Nat.lt_succ_self m,w⟩,A1,jY,r1.mono e2,?_⟩
     dsimp only at q g1
     cases hF:F jY with
     | nx sE=>rw[hF] at g1;exact fun Gb H4 A4 r4 e4=>⟨A4,sE,r4,(e1.trans (aD e2)).trans e4,g1⟩
     | ct sE=>rw[hF] at g1;exact fun Gb H4 A4 r4 e4=>⟨A4,sE,r4,(e1.trans (aD e2)).trans e4,g1⟩
     | bk sE=>rw[hF] at q;exact fun Gb H4 A4 r4 e4=>q Gb H4 A4 r4 ((e1.trans (aD e2)).trans e4)
     | rt d=>rw[hF] at q;exact q
     | ex cl p sE=>rw[hF] at q;exact fun Gb H4 A4 r4 e4=>q Gb H4 A4 r4 ((e1.trans (aD e2)).trans e4)
     | bad=>rw[hF] at q;exact q
   | _=>exact q.elim
end
end Dm
end ac2
section UM
namespace Dm
open PySem PySem.Spec PyProof.Rows L2
section
variable {X:Cx}{C:Cfg}{G0:Hp}{Γ:List SK}{E:L2.St->XK}{fL:Bool}{e a b c:Expr}{f fa fb fc:DF}{κ κ' aA bC xq:Kd}{es rest:List Expr}{fs:DA}{pos:Pos}{s:Stmt}{ss:List Stmt}{F G:DS}
def lV(g g':D->D->R D)(fa fb fc:DF):DF:=fun st=>(fa st).bind fun a=>(fb st).bind fun b=>(g a b).bind fun z=>match z with
 | .bl true=>(fc st).bind fun c=>g' b c
 | .bl false=>.ok (.bl false)
 | _=>.bad
theorem yh{K:PySem.W.Frag}{r2 Nn:R2}{g g':D->D->R D}(ho:uC K C r2 g .new)(Aq:uC K C Nn g' .new):∀σ H Q,tD K C G0 Γ E (lV g g' fa fb fc) .new σ H Q->Cj r2 Nn (tD K C G0 Γ E fa aA) (tD K C G0 Γ E fb bC) (tD K C G0 Γ E fc xq) σ H Q:=fun σ H Q zz=>by
 walk_at"024"
 unfold lV R.bind at q
 cases ha:fa st with
 | bad=>rw[ha] at q;exact q
 | ex c p=>rw[ha] at q;exact q
 | ok a=>
  rw[ha] at q
  intro x H1 e1 w1
  walk_at"@,"
  cases hb:fb st with
  | bad=>rw[hb] at q;exact q
  | ex c p=>rw[hb] at q;exact fun H' e'=>q H' (e1.trans e')
  | ok b=>
   rw[hb] at q
   intro y H2 e2 w2
   walk_at","
   have sG:=e1.trans e2
   refine ho G0 Γ (E σ) σ A st H2 a b x y _ (r.mono sG) (w1.rep.same e2 _) w2.rep ?_
   cases hg:g a b with
   | bad=>rw[hg] at q;exact q
   | ex c p=>rw[hg] at q;exact fun H' e'=>q H' (sG.trans e')
   | ok z=>
    rw[hg] at q
    cases z with
    | bl k=>
     intro v H3 e3 w3
     refine⟨k,vbl w3,?_⟩
     have BW:=sG.trans e3
     cases k with
     | false=>rw[if_neg Bool.false_ne_true];exact q _ H3 BW (.flat r BW (by rw[eX] <;> simp) zu _)
     | true=>
      rw[if_pos rfl]
      refine⟨A,st,r.mono BW,?_⟩
      walk_at","
      cases hc:fc st with
      | bad=>rw[hc] at q;exact q
      | ex c p=>rw[hc] at q;exact fun H' e'=>q H' (BW.trans e')
      | ok c=>
       rw[hc] at q
       intro w' H4 e4 w4
       walk_at","
       refine Aq G0 Γ (E σ) σ A st H4 b c y w' Q (r.mono (BW.trans e4)) (w2.rep.same (e3.trans e4) _) w4.rep ?_
       cases Gu:g' b c with
       | bad=>rw[Gu] at q;exact q
       | ex c p=>rw[Gu] at q;exact fun H' e'=>q H' ((BW.trans e4).trans e')
       | ok d=>rw[Gu] at q;exact fun v H' e' w=>q v H' ((BW.trans e4).trans e') (w.early (BW.trans e4))
    | _=>exact q.elim
theorem AV{op Ck:CmpOp}{r2 Nn:R2}{g g':D->D->R D}(hr:q9 X (compareOp op) r2)(Gf:q9 X (compareOp Ck) Nn)(ho:uC X.K C r2 g .new)(Aq:uC X.K C Nn g' .new)(ha:PE X a (tD X.K C G0 Γ E fa aA))(hb:PE X b (tD X.K C G0 Γ E fb bC))(hc:PE X c (tD X.K C G0 Γ E fc xq))
  (hm:lastMarks [op,Ck] [b,c]=false:=by with_unfolding_all rfl):PE X (.Compare a [op,Ck] [b,c] pos) (tD X.K C G0 Γ E (lV g g' fa fb fc) .new):=(GU hr Gf ha hb hc hm).imp (yh ho Aq)
theorem Ib{op Ck:CmpOp}{r2 Nn:R2}{g g':D->D->R D}(hr:q9 X (compareOp op) r2)(Gf:q9 X (compareOp Ck) Nn)(ho:uC X.K C r2 g .new)(Aq:uC X.K C Nn g' .new)(ha:PE X a (tD X.K C G0 Γ E fa aA))(hb:PE X b (tD X.K C G0 Γ E fb bC))(hc:PE X c (tD X.K C G0 Γ E fc xq))
  (hm:lastMarks [op,Ck] [b,c]=false:=by with_unfolding_all rfl):PT X (.Compare a [op,Ck] [b,c] pos) (vL X.K C G0 Γ E (lV g g' fa fb fc)):=(GV hr Gf ha hb hc hm).imp fun σ H Q zz=>by
 walk_at"02"
 refine yh ho Aq σ H _ ⟨A,st,r,?_⟩
 cases hf:lV g g' fa fb fc st with
 | bad=>rw[hf] at q;exact q
 | ex c p=>rw[hf] at q;exact q
 | ok d=>
  walk_at"1"
  cases d with
  | bl b=>exact fun v H' e' w=>⟨b,vbl w,q H' e'⟩
  | _=>exact q.elim
def ac3:D->R D:=fun a=>match a with | .int i=>.ok (.int (-i)) | _=>.bad
def cutD(ds:List D)(lo hi:Option Int):List D:=(ds.drop (HT.ya ds.length 0 lo)).take (HT.ya ds.length ds.length hi - HT.ya ds.length 0 lo)
def qd(o:Option DF):dh->R (Option Int):=fun st=>match o with
 | none=>.ok none
 | some f=>(f st).bind fun d=>match d with | .int i=>.ok (some i) | _=>.bad
def Gd(fa:DF)(lo hi:Option DF):DF:=fun st=>(fa st).bind fun a=>(qd lo st).bind fun l=>(qd hi st).bind fun h=>match a with
 | .lst ds=>if cT ds=true then .ok (.lst (cutD ds l h)) else .bad
 | _=>.bad
def WN(K:PySem.W.Frag)(C:Cfg)(G0:Hp)(Γ:List SK)(E:L2.St->XK)(o:Option DF):TO:=fun σ H Q=>∃A st,RS K C G0 Γ σ H A st/\match qd o st with
 | .ok i=>∀H',aG H H'->Q i H'
 | .ex c p=>∀H',aG H H'->G8 (E σ) c p H'
 | .bad=>False
theorem zy:PO X none (WN X.K C G0 Γ E none):=fun pins s σ H Q I iz=>iz.elim fun A lO=>lO.elim fun st qQ=>qQ.elim fun r q=>Kx pins s σ H Q I (q H (.refl _))
theorem zA(h:PE X e (tD X.K C G0 Γ E f κ)):PO X (some e) (WN X.K C G0 Γ E (some f)):=fun pins s σ H Q I DG=>DG.elim fun A EY=>EY.elim fun st G7=>G7.elim fun r q=>Ky h pins s σ H Q I ⟨A,st,r,by
 unfold qd R.bind at q
 cases hf:f st with
 | bad=>simp only[hf] at q
 | ex c p=>simp only[hf] at q;exact q
 | ok d=>
  simp only[hf] at q
  cases d with
  | int i=>exact fun v H' e' w=>⟨i,by have:=w.rep;rw[Rep] at this;exact this,q H' e'⟩
  | _=>exact q.elim⟩
theorem Ic{K:PySem.W.Frag}{H:Hp}{ds:List D}{xs:List V}{lo hi:Option Int}(q:aM K C H ds xs):aM K C H (cutD ds lo hi) (EM xs lo hi):=by
 unfold cutD EM
 rw[q.len]
 exact(q.drop _).take _
theorem F2:∀{ds:List D} (n:Nat),cT ds=true->cT (ds.take n)=true:=fun n h=>eZ fun d hd=>jk h (List.mem_of_mem_take hd)
theorem F3:∀{ds:List D} (n:Nat),cT ds=true->cT (ds.drop n)=true:=fun n h=>eZ fun d hd=>jk h (List.mem_of_mem_drop hd)
theorem Ie{ds es:List D}(h:cT ds=true)(h':cT es=true):cT (ds++es)=true:=eZ fun d hd=>(List.mem_append.mp hd).elim (jk h) (jk h')
theorem vP{lo hi:Option Expr}{fl fh:Option DF}{p2:Pos}(he:PE X e (tD X.K C G0 Γ E fa aA))(hl:PO X lo (WN X.K C G0 Γ E fl))(hu:PO X hi (WN X.K C G0 Γ E fh)):PE X (.Subscript e (.Slice lo hi none p2) pos) (tD X.K C G0 Γ E (Gd fa fl fh) .new):=(H8 KI he hl hu).imp fun σ H Q zz=>by
 walk_at"024"
 unfold Gd R.bind at q
 cases ha:fa st with
 | bad=>rw[ha] at q;exact q
 | ex c p=>rw[ha] at q;exact q
 | ok a=>
  rw[ha] at q
  intro x H1 e1 w1
  walk_at"@,"
  cases hb:qd fl st with
  | bad=>rw[hb] at q;exact q
  | ex c p=>rw[hb] at q;exact fun H' e'=>q H' (e1.trans e')
  | ok l=>
   rw[hb] at q
   intro H2 e2
   refine⟨A,st,r.mono (e1.trans e2),?_⟩
   walk_at","
   cases hc:qd fh st with
   | bad=>rw[hc] at q;exact q
   | ex c p=>rw[hc] at q;exact fun H' e'=>q H' ((e1.trans e2).trans e')
   | ok h=>
    rw[hc] at q
    intro H3 e3
    walk_at","
    cases a with
    | lst ds=>
     walk_at","
     by_cases n:cT ds=true
     ·rw[if_pos n] at q
      refine b8 ((w1.rep.same (e2.trans e3) _).items) fun p xs aV h2 h3=>?_
      walk_at"#"
      have BW:=(e1.trans e2).trans e3
      refine⟨p,xs,rfl,h2,fun l' Dk=>q _ _ (BW.trans (c6 Dk)) (.lst r BW Dk ?_)⟩
      exact(Ic h3).part (.nw BW) _ (F2 _ (F3 _ n))
     ·rw[if_neg n] at q;exact q.elim
    | _=>exact q.elim
def Np(K:PySem.W.Frag):R2:=fun x y H Q=>∃l b xs zs,x = .ref l/\y = .ref b/\jJ K H l xs/\jJ K H b zs/\xs.length+zs.length<=sizeLine/\∀p,H p=none->Q (.ref p) (upd H p (.lst (xs++zs)))
theorem uP:q9 X (binaryOp .Add) (Np X.K):=by
 walk_at"Q"
 refine YF h fun l b xs zs Hg KH hH hB hz q=>?_
 clear h
 obtain rfl:=Hg
 obtain rfl:=KH
 cases rx
 cases ry
 refine bQ (I.list hH) fun bh r p1 _=>?_
 refine bQ (I.list hB) fun P5 r2 p2 _=>?_
 obtain ⟨⟨cls,dd,data,sl⟩,ho,hc,n,hd⟩:=id p1.isList
 obtain ⟨⟨ab0,Ut,data2,OD⟩,Uv,OF,n2,hd2⟩:=id p2.isList
 simp only at hc hd OF hd2
 subst hc hd OF hd2
 have l1:=r.length
 have l2:=r2.length
 refine concat_meets ⟨_,ho,rfl⟩ ⟨_,Uv,rfl⟩ noFill_list_add seq_list_add PySem.F.slot_list_add PySem.F.entry_list_add (PySem.F.args_list_add_2 _ _) (list_addW l b bh.toArray P5.toArray n n2 dd Ut sl OD (by simp;lia)) ⟨ho,Uv,?_⟩
 have ea:bh.toArray++P5.toArray=(bh++P5).toArray:=by simp
 rw[ea]
 exact⟨.ref _,_,I.aa1 (t':=s.toks) (r.append r2) (by rw[List.length_append];lia),rfl,q _ I.fresh⟩
def pV:D->D->R D:=fun a b=>match a,b with
 | .lst ds,.lst es=>if (cT ds&&cT es&&decide (ds.length+es.length<=1000))=true then .ok (.lst (ds++es)) else .bad
 | _,_=>.bad
theorem uQ{K:PySem.W.Frag}:uC K C (Np K) pV .new:=fun G0 Γ E σ A st H a b x y Q r qa qb q=>by
 cases hg:pV a b with
 | bad=>rw[hg] at q;exact q.elim
 | ex c p=>unfold pV at hg;split at hg <;> (try split at hg) <;> cases hg
 | ok d=>
  rw[hg] at q
  unfold pV at hg
  split at hg
  ·rename_i ds es
   split at hg
   ·rename_i hc
    cases hg
    simp only[Bool.and_eq_true,decide_eq_true_eq] at hc
    refine b8 qa.items fun p xs aV h2 h3=>?_
    walk_at"#"
    refine b8 qb.items fun p' ys aV Di h3'=>?_
    walk_at"#"
    refine⟨p,p',xs,ys,rfl,rfl,h2,Di,?_,fun l hl=>q _ _ (c6 hl) (.lst r (.refl _) hl ?_)⟩
    ·rw[h3.len,h3'.len]
     have:1000<=sizeLine:=by rw[sizeLine_eq];decide
     lia
    ·exact(h3.app h3').part (.nw (.refl _)) _ (Ie hc.1.1 hc.1.2)
   ·cases hg
  ·cases hg
def F4:D->Option (List Int)
 | .tup ds=>ds.mapM fun d=>match d with | .int i=>some i | _=>none
 | _=>none
theorem La:∀{d:D} {ns:List Int},F4 d=some ns->d = .tup (ns.map D.int)
 | .tup ds,ns,h=>by
  rw[F4] at h
  congr 1
  revert ns
  induction ds with
  | nil=>intro ns h;simp at h;subst h;rfl
  | cons d ds ih=>
   intro ns h
   rw[List.mapM_cons] at h
   cases d with
   | int i=>
    dsimp only at h
    cases hm:ds.mapM fun d=>match d with | .int i=>some i | _=>(none:Option Int) with
    | none=>rw[hm] at h;cases h
    | some ms=>
     rw[hm] at h
     have h':i::ms=ns:=Option.some.inj h
     subst h'
     rw[List.map_cons,<- ih ms hm]
   | _=>cases h
def yi(ds:List D):Option (List (List Int)):=ds.mapM F4
theorem AW:∀{ds:List D} {iO:List (List Int)},yi ds=some iO->ds=iO.map fun ns=>.tup (ns.map D.int)
 | [],iO,h=>by
  have h':some []=some iO:=h
  cases h';rfl
 | d::ds,iO,h=>by
  unfold yi at h
  rw[List.mapM_cons] at h
  cases hd:F4 d with
  | none=>rw[hd] at h;cases h
  | some ns=>
   rw[hd] at h
   cases hm:ds.mapM F4 with
   | none=>rw[hm] at h;cases h
   | some ms=>
    rw[hm] at h
    have h':ns::ms=iO:=Option.some.inj h
    subst h'
    rw[List.map_cons,<- AW (ds:=ds) hm,La hd]
def l0(iO:List (List Int)):Bool:=match iO with | []=>true | ns::_=>decide (ns.length≠0)&&iO.all fun ms=>decide (ms.length=ns.length)
theorem AX{iO:List (List Int)}(h:l0 iO=true):Rows iO:=by
 cases iO with
 | nil=>exact⟨0,fun ns hm=>by cases hm⟩
 | cons ns iO=>
  unfold l0 at h
  rw[Bool.and_eq_true] at h
  have h1:ns.length≠0:=by simpa using h.1
  refine⟨ns.length - 1,fun ms hm=>?_⟩
  have:=List.all_eq_true.mp h.2 ms hm
  have:ms.length=ns.length:=by simpa using this
  lia
def pW(ns:List Int):D:=.tup (ns.map D.int)
theorem Lb(ns:List Int):eX (pW ns)=true:=by
 unfold pW
 rw[eX]
 exact eZ fun d hd=>by
  walk_at"S#"
  rw[eX] <;> simp
theorem F5(iO:List (List Int)):cT (iO.map pW)=true:=eZ fun d hd=>by
 walk_at"S#"
 exact Lb n
def av2:List D->R D:=fun ds=>match ds with
 | [.lst es]=>match yi es with
  | some iO=>if (l0 iO&&decide (iO.length < 64))=true then .ok (.lst (eY es)) else .bad
  | none=>.bad
 | _=>.bad
def dd{α:Type}[DecidableEq α]:List α->List α
 | []=>[]
 | x::xs=>if x∈xs then dd xs else x::dd xs
theorem t6{α:Type}[DecidableEq α]{x:α}:∀{xs:List α},x∈dd xs↔x∈xs
 | []=>Iff.rfl
 | y::ys=>by
  rw[dd]
  split
  ·rename_i h
   rw[t6,List.mem_cons]
   constructor
   ·exact .inr
   ·rintro (rfl | q)
    ·exact h
    ·exact q
  ·rw[List.mem_cons,List.mem_cons,t6]
theorem rH{α:Type}[DecidableEq α]:∀(xs:List α),(dd xs).Nodup
 | []=>.nil
 | y::ys=>by
  rw[dd]
  split
  ·exact rH ys
  ·rename_i h
   exact List.nodup_cons.mpr ⟨fun q=>h (t6.mp q),rH ys⟩
def jm:D->R D:=fun a=>match a with
 | .lst es=>match yi es with
  | some iO=>if (l0 iO&&decide (iO.length<=50))=true then .ok (.lst (eY ((dd iO).map pW))) else .bad
  | none=>.bad
 | _=>.bad
theorem AY{ds es:List D}(hs:∀a∈ds,∀b∈ds,f7 a b=true)(hp:es.Perm ds):eY es=eY ds:=fK hs ((dD es).trans hp) (rm es)
end
end Dm
end UM
section UN
namespace Dm
open PySem PySem.Spec PyProof.Rows L2
section
variable {X:Cx}{C:Cfg}{G0:Hp}{Γ:List SK}{E:L2.St->XK}{fL:Bool}{e a b c:Expr}{f fa fb fc:DF}{κ κ' aA bC xq:Kd}{es rest:List Expr}{fs:DA}{pos:Pos}{s:Stmt}{ss:List Stmt}{F G:DS}
theorem P6:bootBuiltins "set" =some (.type "set"):=by decide +kernel
theorem l5:bootBuiltins "sorted" =some (.builtin "sorted"):=by decide +kernel
theorem Ig{iO:List (List Int)}(h:Rows iO):∀a∈iO.map pW,∀b∈iO.map pW,f7 a b=true:=fun a ha b hb=>by
 obtain ⟨n,hn⟩:=h
 refine aN (List.mem_map.mp ha) fun x hx aV=>?_
 walk_at"#"
 refine aN (List.mem_map.mp hb) fun y hy aV=>?_
 walk_at"#"
 unfold pW
 rw[f7]
 exact sW (by rw[hn x hx,hn y hy])
theorem P7(l:List (List Int)):(dd l).length<=l.length:=by
 induction l with
 | nil=>exact Nat.le_refl _
 | cons x l ih=>
  rw[dd]
  split
  ·exact Nat.le_succ_of_le ih
  ·rw[List.length_cons,List.length_cons];lia
theorem CI{p1 p2 Ih:Pos}(hh:X.A.handled=none)(hu:X.A.units+64 < cLine)(hm:X.mg "sorted" =none)(WI:X.mg "set" =none)(he:PE X e (tD X.K C G0 Γ E f κ))(hg:Gl X "sorted":=by rfl)(hg2:Gl X "set":=by rfl)
  (h1:starEach [Expr.Call (.Name "set" p2) [e] [] Ih] X.env=[(false,eval (.Call (.Name "set" p2) [e] [] Ih) X.env)]:=by rfl) (h2:starEach [e] X.env=[(false,eval e X.env)]:=by rfl) :
  PE X (.Call (.Name "sorted" p1) [.Call (.Name "set" p2) [e] [] Ih] [] pos) (tD X.K C G0 Γ E (rA jm f) .new):=by
 have P1:PE X (.Call (.Name "set" p2) [e] [] Ih) (QZ (DE X C) (vp (tD X.K C G0 Γ E f κ) Cr)):=dg (EU hh hu) hg2 WI P6 (cZ he fV h2) (by decide) (by decide) h2
 have P2:PE X (.Call (.Name "sorted" p1) [.Call (.Name "set" p2) [e] [] Ih] [] pos) (QZ (CA X C) (vp (QZ (DE X C) (vp (tD X.K C G0 Γ E f κ) Cr)) Cr)):=cu (zo hh hu) hg hm l5 (cZ P1 fV h1) (by decide) (by decide) h1
 refine P2.imp fun σ H Q iz=>iz.elim fun A lO=>lO.elim fun st qQ=>qQ.elim fun r q=>⟨A,st,r,?_⟩
 unfold rA R.bind at q
 cases hf:f st with
 | bad=>rw[hf] at q;exact q
 | ex c p=>rw[hf] at q;exact q
 | ok d=>
  walk_at"1,"
  intro v H1 e1 w1
  show DE X C [v] H1 (fun x H2=>CA X C [x] H2 Q)
  cases hg:jm d with
  | bad=>rw[hg] at q;exact q.elim
  | ex c p=>unfold jm at hg;split at hg <;> (try split at hg) <;> (try split at hg) <;> cases hg
  | ok d'=>
   rw[hg] at q
   unfold jm at hg
   split at hg
   ·rename_i es
    split at hg
    ·rename_i iO hr
     split at hg
     ·rename_i hc
      cases hg
      simp only[Bool.and_eq_true,decide_eq_true_eq] at hc
      have he:=AW hr
      have Ii:=AX hc.1
      refine⟨v,iO,rfl,by rw[<- he];exact w1.rep,hc.2,fun p zs hp yO nod mm=>?_⟩
      have pz:(zs.map (·.1)).Perm (dd iO):=(List.perm_ext_iff_of_nodup nod (rH iO)).mpr fun ns=>by rw[mm ns,t6]
      have hl:zs.length<=50:=by
       have h1:=pz.length_eq
       rw[List.length_map] at h1
       have:=P7 iO
       lia
      have hR:Rows (zs.map (·.1)):=by
       obtain ⟨n,hn⟩:=Ii
       exact⟨n,fun ns h=>hn ns ((mm ns).mp h)⟩
      have e2:aG H1 (upd H1 p (.ext (HA X.prog X.w p zs))):=c6 hp
      refine⟨p,zs,rfl,bM,fun z hz=>aG.tup e2 (yO z hz),hl,hR,fun p' ws BS JP pe' GL=>?_⟩
      have BW:=e1.trans e2
      refine q _ _ (BW.trans (c6 JP)) (.lst r BW JP ?_)
      have hs:eY (BS.map pW)=eY ((dd iO).map pW):=AY (Ig (by obtain ⟨n,hn⟩:=Ii;exact⟨n,fun ns h=>hn ns (t6.mp h)⟩)) ((pe'.trans pz).map _)
      have rw2:aM X.K C (upd H1 p (.ext (HA X.prog X.w p zs))) (eY ((dd iO).map pW)) ws:=by rw[<- hs];exact GL
      exact rw2.part (.nw BW) _ (eZ fun d hd=>jk (F5 _) ((dD _).mem_iff.mp hd))
     ·cases hg
    ·cases hg
   ·cases hg
def ax5(i:Nat)(fi f:DF):DS:=fun st=>match f st with
 | .ok d=>match st[i]? with
  | some (some (.lst ds))=>match fi st with
   | .ok (.int k)=>match G5 ds.length k with
    | some j=>.nx (st.set i (some (.lst (ds.set j d))))
    | none=>.bad
   | .ok _=>.bad
   | .ex c p=>.ex c p st
   | .bad=>.bad
  | _=>.bad
 | .ex c p=>.ex c p st
 | .bad=>.bad
def AZ(i j:Nat)(fs:DA):DS:=fun st=>match fs st with | .ok [a,b]=>.nx ((st.set i (some a)).set j (some b)) | .ok _=>.bad | .ex c p=>.ex c p st | .bad=>.bad
theorem Ij{i j:Nat}{x y:Str}{k k':SK}{px py pt:Pos}{kt k2 Of}(hc:X.calm=true)(hN:X.N.Nodup)(ha:PA X [a,b] (G9 X.K C G0 Γ E fs .new))(qP:i≠j)(hk:Γ[i]?=some k:=by rfl)(hk':Γ[j]?=some k':=by rfl)
  (hl:k.takes .old=true:=by rfl) (Dk:k'.takes .old=true:=by rfl) (hi:X.N[i]?=some x:=by rfl) (hj:X.N[j]?=some y:=by rfl) (hx:X.env.scope.names.lookup x=some .local:=by rfl) (hy:X.env.scope.names.lookup y=some .local:=by rfl)
  (hw:swappedStores [.Tuple [.Name x px,.Name y py] kt pt] (.Tuple [a,b] k2 Of) X.env=pure (some [x,y]):=by rfl)
  (hs:swapsWithSole [.Tuple [.Name x px,.Name y py] kt pt] (.Tuple [a,b] k2 Of) pos.line X.env=pure false:=by rfl) :
  PS X (.Assign [.Tuple [.Name x px,.Name y py] kt pt] (.Tuple [a,b] k2 Of) pos) (nX X.K C G0 Γ E fL (AZ i j fs)):=(Oe hc hN hi hj qP hx hy ha hw hs).imp fun D σ H zz=>by
 walk_at"024"
 unfold AZ at q
 cases hf:fs st with
 | bad=>rw[hf] at q;exact q
 | ex c p=>rw[hf] at q;exact fun H' e'=>q σ H' A (r.mono e') (aD e')
 | ok ds=>
  walk_at"1"
  match ds,q with
  | [a,b],q=>
   intro vs H1 e1 w
   rw[aM] at w
   obtain ⟨v,r1,rfl,wa,w⟩:=w
   obtain ⟨v',rfl,wb⟩:=nW w
   refine⟨v,v',rfl,?_⟩
   have wa':Rep X.K C (er H1 A) a v:=wa.same (r.vJ e1) _
   have wb':Rep X.K C (er H1 A) b v':=wb.same (r.vJ e1) _
   refine bQ ((r.mono e1).set (.refl _) hk hl (κ:=.old) wa') fun A1 s1 ee1 _=>?_
   refine bQ (s1.set (.refl _) hk' Dk (κ:=.old) (wb'.same ee1 _)) fun A2 s2 ee2 _=>?_
   exact q _ _ A2 s2 (((aD e1).trans ee1).trans ee2)
  | [],q=>exact q.elim
  | [_],q=>exact q.elim
  | _::_::_::_,q=>exact q.elim
def yj(bind:DB)(f:DF):DS:=fun st=>match f st with | .ok d=>(match bind d st with | some st'=>.nx st' | none=>.bad) | .ex c p=>.ex c p st | .bad=>.bad
theorem Lc{tg:Expr}{g:TG}{bind:DB}(he:PE X e (tD X.K C G0 Γ E f κ))(l:κ.le .old=true)(hg:PG X tg g)(hB:qc X.K C G0 Γ g bind)(hs:swapsWithSole [tg] e pos.line X.env=pure false:=by rfl)(hw:swappedStores [tg] e X.env=pure none:=by rfl)
  (h1:(assignEach [tg] X.env).map (·.2)=[assign tg X.env]:=by rfl):PS X (.Assign [tg] e pos) (nX X.K C G0 Γ E fL (yj bind f)):=(GK he hg hs hw h1).imp fun D σ H zz=>by
 walk_at"024"
 unfold yj at q
 cases hf:f st with
 | bad=>rw[hf] at q;exact q
 | ex c p=>rw[hf] at q;exact fun H' e'=>q σ H' A (r.mono e') (aD e')
 | ok d=>
  walk_at"1,"
  intro v H1 e1 w
  cases hb:bind d st with
  | none=>rw[hb] at q;exact q.elim
  | some st'=>
   rw[hb] at q
   exact hB σ H1 A st st' d v _ (r.mono e1) (w.le r e1 (κ':=.old) l) hb fun cH A' r' e' _=>q cH H1 A' r' ((aD e1).trans e')
def xD(X:Cx)(P:L2.St->Prop)(n:Nat)(e:Expr):Prop:=∀(pins:List (Addr×Obj)) (s:Shared) (σ:L2.St) (H:Hp) (Q:Value->Shared->Prop) (Ex:Value->Shared->Prop),L2.Inv X pins σ H s->P σ->(∀x t s',L2.Inv X pins σ H s'->x.length<=n->Q (.str x t) s')->wpAny (model X.prog X.w) X.A (eval e X.env) Q Ex s
theorem j9{P:L2.St->Prop}{x:Str}{j}{n:Nat}(h:x.length<=n:=by decide):xD X P n (.Constant (.str x) j pos):=fun pins s σ H Q Ex I p q=>Calls.Constant_str (q _ _ _ (I.tok _) h)
theorem B0{P:L2.St->Prop}{x:Str}{i:Int}{t:Tok}{n:Nat}{p:Pos}(hm:X.mg x=some (.int i t))(hs:i.natAbs.log2 < 1920)(hl:(toString i:Str).length<=n)(hg:Gl X x:=by rfl)(hd:(x==("__debug__" : Str))=false:=by decide):xD X P n (.FormattedValue (.Name x p) (-1) none pos):=fun pins s σ H Q Ex I pp q=>
 FormattedValue_plain (qZ I hg hm (formatField_int_small hs (q _ _ _ (I.tok _) hl)) hd)
end
end Dm
end UN
section UO
namespace Dm
open PySem PySem.Spec PyProof.Rows L2
def Nq(i:Nat)(Γ:List SK):Bool:=(List.range Γ.length).all fun j=>match Γ[j]? with
 | some .par=>true
 | some .loc=>true
 | some .pr=>j==i
 | _=>false
theorem B3{i:Nat}{Γ:List SK}(h:Nq i Γ=true){j:Nat}{k:SK}(hk:Γ[j]?=some k):k = .par\/k = .loc\/(k = .pr/\j=i):=by
 have gG:=(List.getElem?_eq_some_iff.mp hk).1
 have:=List.all_eq_true.mp h j (List.mem_range.mpr gG)
 rw[hk] at this
 cases k with
 | par=>exact .inl rfl
 | loc=>exact .inr (.inl rfl)
 | pr=>exact .inr (.inr ⟨rfl,by simpa using this⟩)
 | own n=>cases this
 | any=>cases this
section
variable {X:Cx}{C:Cfg}{G0:Hp}{Γ:List SK}{E:L2.St->XK}{fL:Bool}{e:Expr}{f:DF}{κ:Kd}{pos:Pos}
def asPair(o:Option (Option D)):Option (Str×List D):=match o with
 | some (some (.tup [.str s,.lst ds]))=>some (s,ds)
 | _=>none
theorem F6{o:Option (Option D)}{z:Str×List D}(h:asPair o=some z):o=some (some (.tup [.str z.1,.lst z.2])):=by
 unfold asPair at h
 split at h
 ·cases h;rfl
 ·cases h
def B4(i:Nat)(f:DF):DS:=fun st=>match asPair st[i]? with
 | some z=>(match f st with
  | .ok _=>if z.2.length<=1000 then .nx (st.set i none) else .bad
  | .ex c p=>.ex c p st
  | .bad=>.bad)
 | none=>.bad
theorem Ld{i:Nat}(h:PE X e (tBM X.K "list" yY (QX (Ow X.K) (lI i) (tC (.int 1))) (vp (tD X.K C G0 Γ E f κ) Cr)))(hP:Nq i Γ=true)(hk:Γ[i]?=some .pr:=by rfl)(hs:swapsWith e none pos.line X.env=pure false:=by rfl) :
  PS X (.Expr e pos) (nX X.K C G0 Γ E fL (B4 i f)):=(r8 h hs).imp fun D σ H zz=>by
 obtain ⟨A,st,r,q⟩:=zz
 unfold B4 at q
 cases qV:asPair st[i]? with
 | none=>rw[qV] at q;exact q.elim
 | some z=>
  rw[qV] at q
  obtain ⟨s,ds⟩:=z
  have qV:=F6 qV
  dsimp only at q qV
  obtain ⟨k,v,h1,h2,h3⟩:=r.slot i _ qV
  rw[hk] at h1;cases h1
  rcases h3 with ⟨tq,p,s',F0,xs,z,rfl,c,pA,g0,hp,rx⟩ | ⟨a,_⟩
  ·cases z
   refine⟨_,h2,tq,[.str s,.ref p],1,.ref p,rfl,rfl,aG.tup (aH _ _) c,KA (j:=1) rfl,.inl ⟨rfl,xs,.of hp⟩,A,st,r,?_⟩
   cases hf:f st with
   | bad=>rw[hf] at q;exact q
   | ex c p=>rw[hf] at q;exact fun H' e'=>q σ H' A (r.mono e') (aD e')
   | ok d=>
    walk_at"1,"
    intro y H1 e1 w1
    by_cases hc:ds.length<=1000
    ·rw[if_pos hc] at q
     have r':=r.mono e1
     refine⟨p,xs,y,rfl,rfl,e1 _ _ hp,by rw[rx.len];have:1001<=sizeLine:=(by rw[sizeLine_eq];decide);lia,?_⟩
     have ee:er (upd H1 p (.lst (xs++[y]))) A=er H1 A:=by
      funext b
      by_cases mb:b∈A
      ·rw[cV mb,cV mb]
      ·rw[aW mb,aW mb,aY (fun z:b=p=>mb (by rw[z];exact pA))]
     refine q σ _ A ⟨by rw[ee];exact r'.base,fun a m=>?_,by simp[r.len],fun j d' h=>?_,fun a b n' m' p' F0 BS sS g1 g2=>?_⟩ (by rw[ee];exact aD e1)
     ·by_cases ha:a=p
      ·subst ha;exact⟨_,bM,rfl⟩
      ·rw[aY ha];exact r'.lists a m
     ·by_cases hj:i=j
      ·subst hj
       rw[List.getElem?_set_self (List.getElem?_eq_some_iff.mp qV).1] at h
       cases h
      ·rw[List.getElem?_set_ne hj] at h
       obtain ⟨k,v,h1,h2,h3⟩:=r'.slot j d' h
       refine⟨k,v,h1,h2,?_⟩
       rcases B3 hP h1 with rfl | rfl | ⟨_,z⟩
       ·show Rep X.K C (er _ A) d' v;rw[ee];exact h3
       ·show _/\_;rw[ee];exact h3
       ·exact absurd z.symm hj
     ·rcases B3 hP g1 with z | z | ⟨z,_⟩ <;> cases z
    ·rw[if_neg hc] at q;exact q.elim
  ·cases a
theorem rJ(i:Nat)(h:PE X e (lI i))(hk:Γ[i]?=some .pr:=by rfl):PE X e (tD X.K C G0 Γ E (ak i) .aF):=zp i h hk
end
end Dm
end UO
section ac4
namespace Dm
open PySem PySem.Spec PyProof.Rows L2 PySem.W
section
variable {X:Cx}{e:Value}{pins:List (Addr×Obj)}{σ:L2.St}{H:Hp}{s:Shared}
end
def Le(c:Addr):Nat:=c+3
section
variable {X:Cx}{C:Cfg}{G0:Hp}{Γ:List SK}{E E0:L2.St->XK}{fL:Bool}{F G:DS}{pos np UP:Pos}
end
end Dm
end ac4
section ac5
namespace Dm
open PySem PySem.Spec PyProof.Rows L2
abbrev vQ(X:Cx)(scope:Scope)(cl:List (Str×Addr))(N':List Str)(fp:List Addr)(s:Shared)(H:Hp)(L:Addr):Cx:=
 { X with N:=N',gK:=s,GD:=H,env:=compEnvC scope cl L X.env,outer:=X.stack,ex:=fp,fn:=fun _=>false,pn:=[],xe:=fun _ _=>False }
def R5(X:Cx)(scope:Scope)(cl:List (Str×Addr)):List (Nat×Str)->Prop
 | []=>True
 | (i,x)::r=>(X.N[i]?=some x/\X.env.kindOf x=some .cell/\cl.lookup x=X.env.cells.lookup x/\(relabel scope X.env).names.lookup x=some .cell)/\R5 X scope cl r
theorem R5.get{X:Cx}{scope:Scope}{cl:List (Str×Addr)}:∀{l:List (Nat×Str)} {p:Nat×Str},R5 X scope cl l->p∈l->X.N[p.1]?=some p.2/\X.env.kindOf p.2=some .cell/\cl.lookup p.2=X.env.cells.lookup p.2/\(relabel scope X.env).names.lookup p.2=some .cell
 | _::_,_,h,.head _=>h.1
 | _::_,_,h,.tail _ m=>h.2.get m
section
variable {X:Cx}{pins:List (Addr×Obj)}{σ:L2.St}{H:Hp}{s:Shared}{scope:Scope}{cl:List (Str×Addr)}{N':List Str}{fp:List Addr}{L:Addr}
theorem P8(I:L2.Inv X pins σ H s)(hk:scope.kind = .function)(hL:s.heap.objs.size<=L)(Aa:∀x c,cl.lookup x=some c->X.env.cells.lookup x=some c)(F7:∀x,((relabel scope X.env).names.lookup x=some .cell\/(relabel scope X.env).names.lookup x=some .free)->∃c,cl.lookup x=some c)
  (hf:∀b∈fp,yU X pins H b) (WO:∀b∈fp,b < s.heap.objs.size):(vQ X scope cl N' fp s H L).Ok where
 mod:=I.ok.mod
 kind:=hk
 glob:=I.ok.glob
 blt:=I.ok.blt
 above:=hL
 inj:=fun x y c h1 h2=>I.ok.inj x y c (Aa _ _ h1) (Aa _ _ h2)
 has:=F7
 QV:=fun x c z=>(nomatch z)
 hd:=I.ok.hd
 frames:=I.ok.frames
 GF:=.inl rfl
 S5:=fun b hb=>⟨Nat.ne_of_lt (Nat.lt_of_lt_of_le (WO b hb) hL),fun x c h=>(hf b hb).2.2.2.2.1 x c (Aa _ _ h)⟩
 bs:=I.bs
 JN:=Nat.le_trans I.ok.JN I.sz
 EA:=fun b o e hb=>by
  rcases (hf b hb).2.2.2.1 with z | z
  ·exact I.ok.EA b o e z
  ·exact absurd (Nat.lt_of_lt_of_le (Heap.lt_size e) (Nat.le_trans I.ok.JN z)) (Nat.lt_irrefl _)
 EB:=fun b hb z=>by
  rcases List.mem_cons.mp (I.Ce b z) with e | e
  ·exact(hf b hb).2.1 e
  ·exact(hf b hb).2.2.1 e
 sO:=I.stack
 N6:=I.Ds
def nY{α:Type}(k:Nat)(fr:List Nat)(σ:List (Option α)):List (Option α):=List.replicate k none++fr.map fun i=>(σ[i]?).join
theorem B5{α:Type}{k:Nat}{fr:List Nat}{σ:List (Option α)}{j:Nat}{v:α}(h:(nY k fr σ)[j]?=some (some v)):∃i,k<=j/\fr[j - k]?=some i/\σ[i]?=some (some v):=by
 unfold nY at h
 by_cases hj:j < k
 ·rw[List.getElem?_append_left (by simpa using hj),List.getElem?_replicate,if_pos hj] at h;cases h
 ·rw[List.getElem?_append_right (by simpa using Nat.le_of_not_lt hj),List.length_replicate,List.getElem?_map] at h
  cases hi:fr[j - k]? with
  | none=>rw[hi] at h;cases h
  | some i=>
   rw[hi] at h
   have h':(σ[i]?).join=some v:=Option.some.inj h
   refine⟨i,Nat.le_of_not_lt hj,rfl,?_⟩
   cases hs:σ[i]? with
   | none=>rw[hs] at h';cases h'
   | some o=>rw[hs] at h';rw[show o=some v from h']
theorem Ik{α:Type}{k:Nat}{fr:List Nat}{σ:List (Option α)}{j i:Nat}{v:α}(hj:k<=j)(hi:fr[j - k]?=some i)(h:σ[i]?=some (some v)):(nY k fr σ)[j]?=some (some v):=by
 unfold nY
 rw[List.getElem?_append_right (by simpa using hj),List.length_replicate,List.getElem?_map,hi]
 show some ((σ[i]?).join)=_
 rw[h];rfl
theorem Lf{s1:Shared}{H1:Hp}{fM:List Str}{caps:List (Nat×Str)}{m:Str->Option Value}(I:L2.Inv X pins σ H s)(ok:(vQ X scope cl (fM++caps.map (·.2)) fp s H L).Ok)(F8:R5 X scope cl caps)(Aa:∀x c,cl.lookup x=some c->X.env.cells.lookup x=some c)
  (ho:s1.os=s.os) (hb:AllBare s1.gens) (un:Un (ve X.stack) fp H H1 s.heap s1.heap) (kc:∀b o,s.heap.get? b=some o->s1.heap.get? b=some o) (hn:s1.heap.Ns L m) (hL:H1 L=none) (Dt:∀x c,cl.lookup x=some c->H1 c=none) (dS:sN X.prog X.w H1 s1.heap) :
  L2.Inv (vQ X scope cl (fM++caps.map (·.2)) fp s H L) [] (nY fM.length (caps.map (·.1)) σ) H1 s1:=by
 refine⟨ok,ho,hb,un,⟨m,hn,fun j x v h1 h2 h3=>?_⟩,fun x c h=>?_,hL,Dt,fun p hp=>(by cases hp),dS,(by unfold nY;simp)⟩
 ·refine bQ (B5 h2) fun i hj hi hs=>?_
  rw[List.getElem?_append_right hj,List.getElem?_map] at h1
  rw[List.getElem?_map] at hi
  cases hc:caps[j - fM.length]? with
  | none=>rw[hc] at h1;cases h1
  | some p=>
   rw[hc] at h1 hi
   cases h1;cases hi
   refine Ad (F8.get (List.mem_of_getElem? hc)) fun c1 c2 c3 c4=>?_
   refine aN I.loc fun m0 hn0 NS=>?_
   refine aN (NS p.1 p.2 v c1 hs (.inr (.inl c2))) fun u ru lk=>?_
   refine⟨u,ru,.inr ⟨.inl c4,?_⟩⟩
   rcases lk with ⟨z,_⟩ | ⟨_,c,e1,e2⟩
   ·rw[c2] at z;cases z
   ·refine aN e2 fun o e3 e4=>?_
    clear e2
    exact⟨c,c3.trans e1,o,kc _ _ e3,e4⟩
 ·obtain ⟨v,q⟩:=I.cell x c (Aa _ _ h)
  refine aN q fun o e3 e4=>?_
  clear q
  exact⟨v,o,kc _ _ e3,e4⟩
end
end Dm
end ac5
section UQ
namespace Dm
open PySem PySem.Spec PyProof.Rows L2
abbrev vR:L2.St->XK:=fun _ _ _ _=>False
theorem uR{X:Cx}{e:Value}{s:Shared}(h:jU X vR e s):False:=by
 obtain ⟨_,_,_,_,_,_,_,_,q,_⟩:=h
 exact q
def gA(bind:DB)(test elt:DF):List D->dh->R (List D)
 | [],_=>.ok []
 | d::ds,st=>match bind d st with
  | none=>.bad
  | some jY=>match test jY with
   | .ok (.bl true)=>(match elt jY with
    | .ok e=>(match gA bind test elt ds jY with | .ok r=>.ok (e::r) | _=>.bad)
    | _=>.bad)
   | .ok (.bl false)=>gA bind test elt ds jY
   | _=>.bad
def zC(Γ:List SK):Prop:=∀(i:Nat) (k:SK),Γ[i]?=some k->k=SK.par
section
variable {K:PySem.W.Frag}{C:Cfg}{G0:Hp}{Γ:List SK}{σ:L2.St}{H H':Hp}{A B:List Addr}{st:dh}
theorem CJ{A B:List Addr}(h:∀a∈B,a∈A):aG (er H A) (er H B):=fun b o e=>by
 by_cases ha:b∈A
 ·rw[cV ha] at e;cases e
 ·rw[aW ha] at e
  rw[aW fun z=>ha (h b z)];exact e
theorem RS.UR(r:RS K C G0 Γ σ H A st)(AG:zC Γ)(sub:∀a∈B,a∈A):RS K C G0 Γ σ H B st where
 base:=r.base.trans (CJ sub)
 lists:=fun a m=>r.lists a (sub a m)
 len:=r.len
 slot:=fun i d h=>by
  refine b8 (r.slot i d h) fun k v h1 h2 h3=>?_
  obtain rfl:=AG i k h1
  exact⟨.par,v,h1,h2,Rep.same (CJ sub) _ h3⟩
 apart:=fun i j n m p ds es qP g1=>by have:=AG i _ g1;cases this
theorem RS.P9(r:RS K C G0 Γ σ H A st)(AG:zC Γ){a:Addr}{ys:List V}(ha:a∈A):RS K C G0 Γ σ (upd H a (.lst ys)) A st:=by
 have ee:er (upd H a (.lst ys)) A=er H A:=by
  funext b
  by_cases mb:b∈A
  ·rw[cV mb,cV mb]
  ·rw[aW mb,aW mb,aY (fun z:b=a=>mb (by rw[z];exact ha))]
 refine⟨by rw[ee];exact r.base,fun b m=>?_,r.len,fun i d h=>?_,fun i j n m p ds es qP g1=>by have:=AG i _ g1;cases this⟩
 ·by_cases hb:b=a
  ·subst hb;exact⟨_,bM,rfl⟩
  ·rw[aY hb];exact r.lists b m
 ·refine b8 (r.slot i d h) fun k v h1 h2 h3=>?_
  obtain rfl:=AG i k h1
  exact⟨.par,v,h1,h2,by show Rep K C (er _ A) d v;rw[ee];exact h3⟩
end
def part(n:Bool)(H2:Hp)(acc:Addr)(B:List Addr)(H:Hp):Hp:=if n=true then nw H2 (er H [acc]) else er H (acc::B)
theorem yk{n:Bool}{H2 H H':Hp}{acc:Addr}{B:List Addr}(e:aG H H'):aG (part n H2 acc B H) (part n H2 acc B H'):=by
 unfold part;cases n
 ·exact aD e
 ·exact bJ (aD e)
theorem Il{n:Bool}{H2 H:Hp}{acc:Addr}{B:List Addr}{o:HO}:part n H2 acc B (upd H acc o)=part n H2 acc B H:=by
 have e:∀A:List Addr,acc∈A->er (upd H acc o) A=er H A:=fun A m=>by
  funext b
  by_cases mb:b∈A
  ·rw[cV mb,cV mb]
  ·rw[aW mb,aW mb,aY (fun z:b=acc=>mb (by rw[z];exact m))]
 unfold part
 rw[e [acc] (.head _),e (acc::B) (.head _)]
theorem ym{X:Cx}{ft:DF}{C:Cfg}{G0:Hp}{Γ:List SK}{E:L2.St->XK}:∀(pins:List (Addr×Obj)) (s:Shared) (σ:L2.St) (H:Hp) (Q:Bool->Hp->Prop),L2.Inv X pins σ H s->vL X.K C G0 Γ E (dC (.bl true)) σ H Q->
  wpAny (model X.prog X.w) X.A (forIn ([]:List Expr) true fun c r=>if r=true then do let ok <- isTrue c X.env (eval c X.env);pure (ForInStep.yield ok) else pure (ForInStep.yield r)) (TP X pins σ Q) X.xe s:=fun pins s σ H Q I iz=>iz.elim fun A lO=>lO.elim fun st qQ=>qQ.elim fun r q=>wpAny_tests_nil ⟨H,I,q H (.refl _)⟩
theorem l6{X:Cx}{c:Expr}{ft:DF}{C:Cfg}{G0:Hp}{Γ:List SK}{E:L2.St->XK}(h:PT X c (vL X.K C G0 Γ E ft)):∀(pins:List (Addr×Obj)) (s:Shared) (σ:L2.St) (H:Hp) (Q:Bool->Hp->Prop),L2.Inv X pins σ H s->vL X.K C G0 Γ E ft σ H Q->
  wpAny (model X.prog X.w) X.A (forIn [c] true fun c r=>if r=true then do let ok <- isTrue c X.env (eval c X.env);pure (ForInStep.yield ok) else pure (ForInStep.yield r)) (TP X pins σ Q) X.xe s:=fun pins s σ H Q I q=>wpAny_tests_one (h pins s σ H Q I q)
section
variable {X:Cx}{C:Cfg}{G0:Hp}{Γ:List SK}{tg iter elt:Expr}{ifs:List Expr}{scope:Scope}{pos:Pos}{fp:List Addr}{it acc:Addr}{tn:Nat->Heap->Prop}{J:It}{g:TG}{bind:DB}{ft fe:DF}{ua:Kd}{n:Bool}{H2:Hp}{B:List Addr}{ds total:List D}{R:Result->Shared->Prop}
def vS(X:Cx)(C:Cfg)(G0:Hp)(Γ:List SK)(acc:Addr)(bind:DB)(ft fe:DF)(n:Bool)(H2:Hp)(B:List Addr)(ds total:List D)(i:Nat)(s:Shared)(σ:L2.St)(H:Hp):Prop:=
 ∃st ys es,L2.Inv X [] σ H s/\H acc=some (.lst ys)/\RS X.K C G0 Γ σ H (acc::B) st/\aG H2 (er H [acc])/\aM X.K C (part n H2 acc B H) es ys/\es.length<=i/\
  ∃rest,gA bind ft fe (ds.drop i) st = .ok rest/\es++rest=total
theorem F9(T:Turn X.prog X.w X.K tg J fp it tn)(DL:X.calm=true)(WQ:∀b∈fp,b∈X.ex/\b≠X.env.locals/\b∉X.fs/\(∀x c,X.env.cells.lookup x=some c->c≠b))(hpn:X.pn=[])(AG:zC Γ)(hJ:F1 X.K C B H2 J ds)(hB:qc X.K C G0 Γ g bind)(hG:PG (X.dw (jU X vR)) tg g)
  (hT:∀(pins:List (Addr×Obj)) (s:Shared) (σ:L2.St) (H:Hp) (Q:Bool->Hp->Prop),L2.Inv (X.dw (jU X vR)) pins σ H s->vL X.K C G0 Γ vR ft σ H Q->
   wpAny (model X.prog X.w) X.A (forIn ifs true fun c r=>if r=true then do let ok <- isTrue c X.env (eval c X.env);pure (ForInStep.yield ok) else pure (ForInStep.yield r)) (TP (X.dw (jU X vR)) pins σ Q) (jU X vR) s)
  (hE:PE (X.dw (jU X vR)) elt (tD X.K C G0 Γ vR fe ua)) (hn:n=true->ua = .new) (yK:n=false->ua.le .old=true) (CK:H2 acc=none) (iy:ds.length<=1000)
  (fin:∀s σ H,vS X C G0 Γ acc bind ft fe n H2 B ds total ds.length s σ H->R (.ok .next) s) :
  ∀s σ H,vS X C G0 Γ acc bind ft fe n H2 B ds total 0 s σ H->tn 0 s.heap->(∀b∈fp,H b=none)->codeAny (model X.prog X.w) X.A (.compLoop (.ListComp elt [⟨tg,iter,ifs,0⟩] scope pos) 0 (.ref it) (.ref acc) X.env) R s:=fun s0 σ0 H0 h0 t0 f0=>by
 refine codeAny_loop rfl (fun m s=>∃i σ H,m=ds.length - i/\i<=ds.length/\vS X C G0 Γ acc bind ft fe n H2 B ds total i s σ H/\tn i s.heap/\∀b∈fp,H b=none) (fun m s DG=>?_) ds.length ⟨0,σ0,H0,rfl,Nat.zero_le _,h0,t0,f0⟩
 refine Ae DG fun i σ H hm hi iv R6 QW=>?_
 clear DG
 subst hm
 show wpAny _ X.A ((compTurn (.ListComp elt [⟨tg,iter,ifs,0⟩] scope pos) 0 (.ref it) (.ref acc) X.env).onRaise (fun x=>do noteFrame x X.env;theTreesLotGoes x)) _ _ s
 refine wpAny_noted ?_
 rw[compTurn_list]
 obtain ⟨st,ys,es,I,hH,r,e2,rp,hl,rest,kZ,Pa⟩:=id iv
 have Pb:∀{H':Hp},(∀b∈fp,H' b=none)->∀b∈fp,yU X [] H' b:=fun hn b hb=>⟨hn b hb,(WQ b hb).2.1,(WQ b hb).2.2.1,.inl (WQ b hb).1,(WQ b hb).2.2.2,fun p hp=>by rw[hpn] at hp;cases hp⟩
 have hJi:=hJ i H (acc::B) (fun b o e=>by
  by_cases hb:b∈B
  ·rw[cV hb] at e;cases e
  ·rw[aW hb] at e
   have z:=e2 b o e
   by_cases ha:b=acc
   ·subst ha;rw[CK] at e;cases e
   ·rw[aW (by simpa using ha)] at z
    rw[aW (by simp[ha,hb])];exact z) (fun a m=>by obtain ⟨xs,q,_⟩:=r.lists a m;rw[q];simp)
 cases hd:ds[i]? with
 | none=>
  have hge:=List.getElem?_eq_none_iff.mp hd
  obtain rfl:i=ds.length:=Nat.le_antisymm hi hge
  refine wpAny_bind (wpAny_standAt (wpAny_bind (wpAny_mono (T.done X rfl rfl rfl DL _ [] s σ H _ I (Pb QW) R6 (hJi.2 hd)) (fun rr s1 EY=>?_) fun _ _ h=>h)))
  obtain ⟨hr,I1⟩:=EY
  subst hr
  exact wpAny_pure (fin s1 σ H ⟨st,ys,es,I1,hH,r,e2,rp,hl,rest,kZ,Pa⟩)
 | some d=>
  have gG:i < ds.length:=(List.getElem?_eq_some_iff.mp hd).1
  have hdr:ds.drop i=d::ds.drop (i+1):=by
   rw[List.drop_eq_getElem_cons gG]
   congr 1
   exact(List.getElem?_eq_some_iff.mp hd).2
  rw[hdr,gA] at kZ
  obtain ⟨go,yl⟩:=hJi.1 d hd
  refine wpAny_bind (wpAny_standAt (wpAny_bind (wpAny_mono (T.item X rfl rfl rfl DL i [] s σ H _ I (Pb QW) R6 go) (fun rr s1 G7=>?_) fun _ _ h=>h)))
  refine aN G7 fun u hr h1=>?_
  clear G7
  subst hr
  refine wpAny_bind (wpAny_mono h1 (fun _ s3 Au=>?_) fun _ _ h=>h)
  refine En Au fun x H3 I3 rx hy tn3 WR=>?_
  clear Au
  obtain ⟨e3,wx⟩:=yl x H3 hy
  have I3p:=I3.pinned (Pb WR) (T.obj _ _ tn3)
  cases hb:bind d st with
  | none=>rw[hb] at kZ;cases kZ
  | some jY=>
   rw[hb] at kZ
   dsimp only at kZ
   have r3:=r.mono e3
   refine wpAny_bind (wpAny_mono (hG _ s3 σ H3 x u (fun Gb H4=>H4=H3/\∃A4,RS X.K C G0 Γ Gb H3 A4 jY/\∀a∈acc::B,a∈A4) (I3p.dw _) rx (hB σ H3 (acc::B) st jY d x _ r3 wx hb fun Gb A4 r4 _ sb=>⟨rfl,A4,r4,sb⟩)) (fun _ s4 BU=>?_) fun _ _ h=>(uR h).elim)
   obtain ⟨Gb,H4,I4,hH4,A4,r4,sb⟩:=BU
   subst hH4
   have US:=r4.UR AG sb
   have hH3:H4 acc=some (.lst ys):=e3 _ _ hH
   have again:∀{s9:Shared} {WS:L2.St} {H9:Hp},L2.Inv X ([]++vm fp s3.heap) WS H9 s9->vS X C G0 Γ acc bind ft fe n H2 B ds total (i+1) s9 WS H9->∃m,m < ds.length - i/\∃i' cH H',m=ds.length - i'/\i'<=ds.length/\vS X C G0 Γ acc bind ft fe n H2 B ds total i' s9 cH H'/\tn i' s9.heap/\∀b∈fp,H' b=none:=fun {s9 WS H9} I9 c9=>by
    refine⟨ds.length - (i+1),by lia,i+1,WS,H9,rfl,gG,c9,T.keep _ _ _ tn3 fun b hb o e=>(I9.pin (b,o) (List.mem_append_right _ (List.mem_append_right _ (lJ hb e)))).1,fun b hb=>?_⟩
    refine aN (T.obj _ _ tn3 b hb) fun o e _=>?_
    exact(I9.pin (b,o) (List.mem_append_right _ (List.mem_append_right _ (lJ hb e)))).2.1
   have ep:aG H2 (er H4 [acc]):=e2.trans (aD e3)
   refine wpAny_bind (wpAny_mono (hT _ s4 Gb H4 (fun b H5=>aG H4 H5/\ft jY = .ok (.bl b)) I4 ⟨acc::B,jY,US,?_⟩) (fun ok s5 BV=>BV.elim fun H5 yT=>yT.elim fun I5 CC=>CC.elim fun e5 dS=>?_) fun _ _ h=>(uR h).elim)
   ·cases hf:ft jY with
    | bad=>rw[hf] at kZ;cases kZ
    | ex c p=>rw[hf] at kZ;cases kZ
    | ok t=>
     rw[hf] at kZ
     cases t with
     | bl b=>exact fun H' e'=>⟨e',rfl⟩
     | _=>cases kZ
   ·rw[dS] at kZ
    have ep5:=ep.trans (aD e5)
    cases ok with
    | false=>
     dsimp only at kZ
     exact wpAny_pure ⟨rfl,again I5.gO ⟨jY,ys,es,(I5.gO).qX (fun p hp=>by cases hp),e5 _ _ hH3,US.mono e5,ep5,rp.same (yk (e3.trans e5)) _,by lia,rest,kZ,Pa⟩⟩
    | true=>
     dsimp only at kZ
     cases WT:fe jY with
     | bad=>rw[WT] at kZ;cases kZ
     | ex c p=>rw[WT] at kZ;cases kZ
     | ok de=>
      rw[WT] at kZ
      dsimp only at kZ
      refine wpAny_bind (wpAny_bind (wpAny_mono (hE _ s5 Gb H5 (fun v H6=>aG H5 H6/\Val X.K C ua G0 (acc::B) H5 H6 de v) I5 ⟨acc::B,jY,US.mono e5,?_⟩) (fun ue s6 CD=>CD.elim fun v CF=>CF.elim fun H6 HG=>HG.elim fun I6 OS=>OS.elim fun rv OT=>OT.elim fun e6 wv=>?_) fun _ _ h=>(uR h).elim))
      ·rw[WT];exact fun v H' e' w=>⟨e',w⟩
      ·have WU:=e5.trans e6
       have hH6:H6 acc=some (.lst ys):=WU _ _ hH3
       have wp:Rep X.K C (part n H2 acc B H6) de v:=by
        cases n with
        | true=>
         obtain rfl:=hn rfl
         refine wv.1.same (fun b o z=>?_) _
         unfold nw at z
         split at z
         ·rename_i kk
          have hb:b≠acc:=fun w=>by subst w;rw[e5 _ _ hH3] at kk;cases kk
          show nw H2 (er H6 [acc]) b=_
          unfold nw
          rw[if_pos (lP (ep5.trans (aH _ _)) kk),aW (by simpa using hb)]
          exact z
         ·cases z
        | false=>exact Val.le (US.mono e5) e6 (κ':=.old) (yK rfl) wv
       refine wpAny_bind (wpAny_mono (fJ (X:=X.dw (jU X vR)) _ s6 Gb H6 (.ref acc) [v] (.ref acc) [ue] (fun z H7=>H7=upd H6 acc (.lst (ys++[v]))) I6 rfl (.cons rv .nil) ⟨acc,ys,v,rfl,rfl,hH6,?_,rfl⟩) (fun _ s7 OU=>OU.elim fun z ac6=>ac6.elim fun H7 ac7=>ac7.elim fun I7w O8=>O8.elim fun _ hH7=>?_) fun _ _ h=>(uR h).elim)
       ·rw[rp.len]
        have:1001<=sizeLine:=by rw[sizeLine_eq];decide
        lia
       ·subst hH7
        have I7:=I7w.gO
        refine wpAny_pure (wpAny_pure ⟨rfl,again I7 ?_⟩)
        cases WV:gA bind ft fe (ds.drop (i+1)) jY with
        | bad=>rw[WV] at kZ;cases kZ
        | ex c p=>rw[WV] at kZ;cases kZ
        | ok UT=>
         rw[WV] at kZ
         cases kZ
         refine⟨jY,ys++[v],es++[de],I7.qX (fun p hp=>by cases hp),bM,((US.mono WU)).P9 AG (.head _),?_,?_,by simp;lia,UT,WV,by simpa using Pa⟩
         ·have:er (upd H6 acc (.lst (ys++[v]))) [acc]=er H6 [acc]:=by
           funext b
           by_cases mb:b∈[acc]
           ·rw[cV mb,cV mb]
           ·rw[aW mb,aW mb,aY (by simpa using mb)]
          rw[this]
          exact ep.trans (aD WU)
         ·rw[Il]
          exact(rp.same (yk (e3.trans WU)) _).app (.cons wp .nil)
end
end Dm
end UQ
section UU
namespace Dm
open PySem PySem.Spec PyProof.Rows L2
def zB(z:Bool)(A:List Addr):List Addr:=if z=true then A else []
def Lg(K:PySem.W.Frag)(C:Cfg)(G0:Hp)(Γ:List SK)(E:L2.St->XK)(z:Bool)(gi:DI):TI:=fun σ H Rr=>∃A st,RS K C G0 Γ σ H A st/\match gi st with
 | .ok ds=>∀J H',aG H H'->F1 K C (zB z A) H' J ds->Rr J H'
 | .ex c p=>∀H',aG H H'->G8 (E σ) c p H'
 | .bad=>False
theorem _root_.L2.PI.imp{X:Cx}{tg e:Expr}{t t':TI}(h:PI X tg e t)(i:∀σ H Q,t' σ H Q->t σ H Q):PI X tg e t':=fun pins s σ H Q I q=>h pins s σ H Q I (i σ H Q q)
section
variable {X:Cx}{C:Cfg}{G0:Hp}{Γ:List SK}{E:L2.St->XK}{tg iter elt a:Expr}{f:DF}{fs:DA}{κ:Kd}{pos:Pos}{z:Bool}
theorem Im{A:List Addr}:∀a∈zB z A,a∈A:=fun a h=>by unfold zB at h;cases z with | true=>exact h | false=>cases h
theorem rK(he:PE X iter (tD X.K C G0 Γ E f κ))(l:z=true->κ.le .old=true):PI X tg iter (Lg X.K C G0 Γ E z (eT f)):=(Dv he).imp fun σ H Q zz=>by
 walk_at"024"
 unfold eT at q
 cases hf:f st with
 | bad=>rw[hf] at q;exact q
 | ex c p=>rw[hf] at q;exact q
 | ok d=>
  walk_at"1"
  cases d with
  | lst ds=>
   walk_at","
   intro v H1 e1 w
   have w':Rep X.K C (er H1 (zB z A)) (.lst ds) v:=by
    unfold zB
    cases z with
    | true=>exact w.le r e1 (κ':=.old) (l rfl)
    | false=>rw[if_neg (by decide),lT];exact w.rep
   rw[Rep] at w'
   refine b8 w' fun a xs aV h2 h3=>?_
   clear w'
   walk_at"#"
   refine⟨a,rfl,⟨xs,(aH _ _).seq h2⟩,q _ _ e1 fun i H3 A3 e3 _=>⟨fun d hd=>?_,fun hd=>?_⟩⟩
   ·refine aN (h3.get' hd) fun v hv rv=>?_
    have s3:jJ X.K H3 a xs:=(e3.trans (aH _ _)).seq h2
    refine⟨⟨xs,v,s3,hv⟩,fun x H' iz=>?_⟩
    obtain ⟨hH,hx⟩:=iz
    subst hH
    have:=hx xs s3
    rw[hv] at this;cases this
    exact⟨.refl _,rv.same ((aH _ _).trans e3) _⟩
   ·exact⟨xs,(e3.trans (aH _ _)).seq h2,by rw[h3.len];exact List.getElem?_eq_none_iff.mp hd⟩
  | _=>exact q.elim
theorem B6{pins:List (Addr×Obj)}{σ:L2.St}{H:Hp}{s:Shared}{L:Addr}{h':Heap}(I:L2.Inv X pins σ H s)(hH:H L=none)(hL:L≠X.env.locals)(hS:X.gK.heap.objs.size<=L)(hc:∀x c,X.env.cells.lookup x=some c->c≠L)(hp:∀p∈X.pn++pins,p.1≠L)(hs:Heap.SameBut L s.heap h'):L2.Inv X pins σ H { s with heap:=h' }:=by
 have kp:∀b o,b≠L->s.heap.get? b=some o->h'.get? b=some o:=fun b o hb e=>(hs.2 b hb).trans e
 refine Inv.As I (s':={ s with heap:=h' }) (ch:=[L]) rfl ⟨fun b o e n nf nx=>kp b o (by simpa using nx) e,fun b o e n nf nx=>⟨o.slots,kp b o (by simpa using nx) e⟩,fun b o e n nx=>n,fun b o e nx=>⟨o,kp b o (by simpa using nx) e⟩,fun b xs q=>q,fun b o u q=>q,fun b ps q=>⟨#[],by rw[q];simp⟩⟩ (fun b u e=>?_) I.bare (fun b hb=>?_)
 ·refine(I.dS b u e).yQ (fun c v uy q=>kp c v ?_ q) (fun _ q=>q) fun _ _ q=>q
  rintro rfl
  rcases uy with rfl | uy
  ·rw[hH] at e;cases e
  ·rw[hH] at uy;cases uy
 ·obtain rfl:b=L:=by simpa using hb
  exact⟨.inr hS,hL,hc,hp⟩
end
section
variable {X:Cx}{C:Cfg}{G0:Hp}{Γ:List SK}{E0:Value->Shared->Prop}{pins:List (Addr×Obj)}{σ:L2.St}{H2:Hp}{s2:Shared}{A:List Addr}{st:dh}{tg iter elt:Expr}{ifs:List Expr}{scope:Scope}{cl:List (Str×Addr)}{pos:Pos}{fp:List Addr}{it:Addr}{tn:Nat->Heap->Prop}{J:It}{g:TG}{bind:DB}{ft fe:DF}{ua:Kd}{n z:Bool}{ds total:List D}
 {fM:List Str} {caps:List (Nat×Str)} {RR:Value->Addr->Result->Shared->Prop}
def qe(m:Nat):List SK:=List.replicate m .par
theorem yo(m:Nat):zC (qe m):=fun i k h=>by unfold qe at h;rw[List.getElem?_replicate] at h;split at h <;> cases h;rfl
structure vU(X:Cx)(C:Cfg)(pins:List (Addr×Obj))(σ:L2.St)(n:Bool)(H2:Hp)(B:List Addr)(total:List D)(acc L:Addr)(s':Shared)(H':Hp)(ys:List V):Prop where
 inv:L2.Inv X pins σ H' s'
 ns:∃m,s'.heap.Ns L m
 hL:H' L=none
 lL:L≠X.env.locals
 sL:X.gK.heap.objs.size<=L
 cL:∀x c,X.env.cells.lookup x=some c->c≠L
 pL:∀p∈X.pn++pins,p.1≠L
 new:H2 acc=none
 at':H' acc=some (.lst ys)
 same:aG H2 (er H' [acc])
 ac8:aM X.K C (part n H2 acc B H') total ys
theorem vV(I2:L2.Inv X pins σ H2 s2)(DL:X.calm=true)(r2:RS X.K C G0 Γ σ H2 A st)(T:Turn X.prog X.w X.K tg J fp it tn)(R6:tn 0 s2.heap)(hf:∀b∈fp,yU X pins H2 b)(hJ:F1 X.K C (zB z A) H2 J ds)(hz:z=true->∀p∈caps,Γ[p.1]?=some .par\/Γ[p.1]?=some .loc)
  (kZ:gA bind ft fe ds (nY fM.length (caps.map (·.1)) st) = .ok total) (iy:ds.length<=1000) (hk:scope.kind = .function) (vf:∀y∈scope.names,y.2≠ .cell) (Aa:∀x c,cl.lookup x=some c->X.env.cells.lookup x=some c)
  (F7:∀x,((relabel scope X.env).names.lookup x=some .cell\/(relabel scope X.env).names.lookup x=some .free)->∃c,cl.lookup x=some c) (F8:R5 X scope cl caps)
  (hB:qc X.K C G0 (qe (fM.length+caps.length)) g bind)
  (hG:∀s H L,PG ((vQ X scope cl (fM++caps.map (·.2)) fp s H L).dw (jU (vQ X scope cl (fM++caps.map (·.2)) fp s H L) vR)) tg g)
  (hT:∀s0 H0 L (pins:List (Addr×Obj)) (s:Shared) (σ:L2.St) (H:Hp) (Q:Bool->Hp->Prop),L2.Inv ((vQ X scope cl (fM++caps.map (·.2)) fp s0 H0 L).dw (jU (vQ X scope cl (fM++caps.map (·.2)) fp s0 H0 L) vR)) pins σ H s->vL X.K C G0 (qe (fM.length+caps.length)) vR ft σ H Q->
   wpAny (model X.prog X.w) X.A (forIn ifs true fun c r=>if r=true then do let ok <- isTrue c (compEnvC scope cl L X.env) (eval c (compEnvC scope cl L X.env));pure (ForInStep.yield ok) else pure (ForInStep.yield r)) (TP ((vQ X scope cl (fM++caps.map (·.2)) fp s0 H0 L).dw (jU (vQ X scope cl (fM++caps.map (·.2)) fp s0 H0 L) vR)) pins σ Q) (jU (vQ X scope cl (fM++caps.map (·.2)) fp s0 H0 L) vR) s)
  (hE:∀s H L,PE ((vQ X scope cl (fM++caps.map (·.2)) fp s H L).dw (jU (vQ X scope cl (fM++caps.map (·.2)) fp s H L) vR)) elt (tD X.K C G0 (qe (fM.length+caps.length)) vR fe ua)) (hn:n=true->ua = .new) (yK:n=false->ua.le .old=true)
  (hRR:∀acc L s' H' ys,vU X C pins σ n H2 (zB z A) total acc L s' H' ys->RR (.ref acc) L (.ok .next) s') :
  wpAny (model X.prog X.w) X.A (newList []) (fun acc Pc=>wpAny (model X.prog X.w) X.A (newFunctionEnv scope X.env.globals cl [] X.env.qual none .none (some X.env)) (fun UW ac9=>
   codeAny (model X.prog X.w) X.A (.compStart (.ListComp elt [⟨tg,iter,ifs,0⟩] scope pos) 0 (.ref it) acc { UW with scope:=relabel scope X.env }) (RR acc UW.locals) ac9) E0 Pc) E0 s2:=by
 refine wpAny_newObj_type (wpAny_newFunctionEnv vf (by intro y hy;simp at hy) (fun Fe CL zD=>?_) hk)
 dsimp only at CL zD ⊢
 generalize hH2:s2.heap.push { cls:=.type "list",dict:=none,data:=.seq ([]:List Value).toArray }=G2 at CL zD ⊢
 have hC:G2.objs.size=s2.heap.objs.size+1:=by rw[<- hH2,Heap.size_push]
 have hDC:s2.heap.objs.size≠G2.objs.size:=by rw[hC];exact Nat.ne_of_lt (Nat.lt_succ_self _)
 have below:∀b,b < s2.heap.objs.size->b≠G2.objs.size/\b≠s2.heap.objs.size:=fun b hb=>⟨by rw[hC];exact Nat.ne_of_lt (Nat.lt_succ_of_lt hb),Nat.ne_of_lt hb⟩
 have old:∀b o,s2.heap.get? b=some o->Fe.get? b=some o:=fun b o e=>zD.extBut b o (below b (Heap.lt_size e)).1 (Heap.get?_push_of_some _ (hH2▸Heap.get?_push_of_some _ e))
 have CK:Fe.get? s2.heap.objs.size=some { cls:=.type "list",data:=.seq ([]:List Value).toArray 0 }:=zD.extBut _ _ hDC (Heap.get?_push_of_some _ (hH2▸Heap.get?_push_size _ rfl))
 have Ff:H2 s2.heap.objs.size=none:=I2.dS.fresh (Nat.le_refl _)
 have Pe:s2.heap.objs.size<=G2.objs.size:=by rw[hC];exact Nat.le_succ _
 have nL:H2 G2.objs.size=none:=I2.dS.fresh Pe
 have WO:∀b∈fp,b < s2.heap.objs.size:=fun b hb=>by obtain ⟨o,e,_⟩:=T.obj _ _ R6 b hb;exact Heap.lt_size e
 have ok:=P8 (N':=fM++caps.map (·.2)) (L:=G2.objs.size) I2 hk Pe Aa F7 hf WO
 have un:Un (ve X.stack) fp H2 (upd H2 s2.heap.objs.size (.lst [])) s2.heap Fe:=Un.laid old (Nat.le_refl _) Ff
 have dS:sN X.prog X.w (upd H2 s2.heap.objs.size (.lst [])) Fe:=I2.dS.laid old (Nat.le_refl _) ⟨Nat.zero_le _,[],0,.nil,CK⟩
 have inn:L2.Inv (vQ X scope cl (fM++caps.map (·.2)) fp s2 H2 G2.objs.size) [] (nY fM.length (caps.map (·.1)) σ) (upd H2 s2.heap.objs.size (.lst [])) { s2 with heap:=Fe,toks:=s2.toks+([]:List (Str×Value)).length }:=by
  refine Lf I2 ok F8 Aa rfl I2.bare un old CL (by rw[aY (Ne.symm hDC)];exact nL) (fun x c h=>?_) dS
  have hc:=I2.q8 x c (Aa _ _ h)
  have OF:c≠s2.heap.objs.size:=fun w=>by
   obtain ⟨v,q⟩:=I2.cell x c (Aa _ _ h)
   exact absurd q.lt (by rw[w];exact Nat.lt_irrefl _)
  rw[aY OF];exact hc
 have e2:aG H2 (upd H2 s2.heap.objs.size (.lst [])):=c6 Ff
 have ee:aG H2 (er (upd H2 s2.heap.objs.size (.lst [])) [s2.heap.objs.size]):=fun b o e=>by
  have:b≠s2.heap.objs.size:=fun w=>by rw[w,Ff] at e;cases e
  rw[aW (by simpa using this)];exact e2 b o e
 have eB:aG (er H2 (zB z A)) (er (upd H2 s2.heap.objs.size (.lst [])) (s2.heap.objs.size::zB z A)):=fun b o e=>by
  by_cases mb:b∈zB z A
  ·rw[cV mb] at e;cases e
  ·rw[aW mb] at e
   have:b≠s2.heap.objs.size:=fun w=>by rw[w,Ff] at e;cases e
   rw[aW (by simp[this,mb])];exact e2 b o e
 have rin:RS X.K C G0 (qe (fM.length+caps.length)) (nY fM.length (caps.map (·.1)) σ) (upd H2 s2.heap.objs.size (.lst [])) (s2.heap.objs.size::zB z A) (nY fM.length (caps.map (·.1)) st):=by
  refine⟨(r2.base.trans (CJ Im)).trans eB,fun a m=>?_,by unfold nY;simp,fun j d h=>?_,fun i j n' m' p F0 es qP g1=>by have:=yo _ i _ g1;cases this⟩
  ·walk_at"J"
   ·exact⟨_,bM,rfl⟩
   ·obtain ⟨o,q,hM⟩:=r2.lists a (Im a m)
    exact⟨o,e2 _ _ q,hM⟩
  ·refine bQ (B5 h) fun i hj hi hs=>?_
   refine b8 (r2.slot i d hs) fun k v h1 h2 h3=>?_
   have gG:j - fM.length < caps.length:=by have:=(List.getElem?_eq_some_iff.mp hi).1;simpa using this
   refine⟨.par,v,?_,Ik hj hi h2,?_⟩
   ·unfold qe;rw[List.getElem?_replicate,if_pos (by lia)]
   ·refine Rep.same eB _ ?_
    refine aN (r2.read h1 hs) fun v' w1 w2=>?_
    rw[h2] at w1;cases w1
    unfold zB
    cases z with
    | false=>rw[if_neg (by decide),lT];exact w2.rep
    | true=>
     rw[List.getElem?_map] at hi
     cases hc:caps[j - fM.length]? with
     | none=>rw[hc] at hi;cases hi
     | some p=>
      rw[hc] at hi;cases hi
      rcases hz rfl p (List.mem_of_getElem? hc) with q | q
      ·rw[h1] at q;cases q;exact h3
      ·rw[h1] at q;cases q;exact h3.1.same (cK _ _) _
 have loop:∀s3:Shared,s3={ s2 with heap:=Fe,toks:=s2.toks+([]:List (Str×Value)).length }->
   codeAny (model X.prog X.w) X.A (.compLoop (.ListComp elt [⟨tg,iter,ifs,0⟩] scope pos) 0 (.ref it) (.ref s2.heap.objs.size) (compEnvC scope cl G2.objs.size X.env)) (RR (.ref s2.heap.objs.size) G2.objs.size) s3:=by
  rintro s3 rfl
  refine F9 (X:=vQ X scope cl (fM++caps.map (·.2)) fp s2 H2 G2.objs.size) (C:=C) (G0:=G0) (B:=zB z A) (H2:=H2) (total:=total) T DL (fun b hb=>⟨hb,(ok.S5 b hb).1,ok.EB b hb,(ok.S5 b hb).2⟩) rfl (yo _) hJ hB (hG _ _ _) (hT _ _ _) (hE _ _ _) hn yK Ff iy
   (fun s' cH H' qQ=>qQ.elim fun st' DG=>DG.elim fun ys EY=>EY.elim fun es G7=>G7.elim fun I' Au=>Au.elim fun hy BU=>BU.elim fun r' BV=>BV.elim fun e' yT=>yT.elim fun rp CC=>CC.elim fun hl CD=>CD.elim fun rest CF=>CF.elim fun hg ht=>?_) _ _ _ ⟨_,[],[],inn,bM,rin,ee,.nil,Nat.zero_le _,total,by simpa using kZ,rfl⟩ (T.keep _ _ _ R6 fun b hb o e=>old b o e) (fun b hb=>by rw[aY (below b (WO b hb)).2];exact(hf b hb).1)
  have hr:rest=[]:=by
   rw[List.drop_length] at hg
   exact(R.ok.inj hg).symm
  subst hr
  rw[List.append_nil] at ht
  subst ht
  have ad0:L2.Inv X pins σ H' s':=Inv.As I2 I'.os I'.base I'.dS I'.bare fun b hb=>⟨(hf b hb).2.2.2.1,(hf b hb).2.1,(hf b hb).2.2.2.2.1,(hf b hb).2.2.2.2.2⟩
  refine hRR _ _ s' H' ys ⟨ad0,I'.loc.imp fun m h=>h.1,I'.free,?_,Nat.le_trans I2.sz Pe,fun x c h w=>?_,fun p hp w=>?_,Ff,hy,e',rp⟩
  ·exact Ne.symm (below _ I2.lt).1
  ·obtain ⟨v,q⟩:=I2.cell x c h
   exact(below _ q.lt).1 w
  ·exact(below _ (Heap.lt_size (I2.pin p hp).1)).1 w
 exact codeAny_compStart_list (loop _ rfl) (T.self X.A 0 _ _ _ (T.keep _ _ _ R6 fun b hb o e=>old b o e) (loop _ rfl))
end
end Dm
end UU
section UX
namespace Dm
open PySem PySem.Spec PyProof.Rows L2
def vW(z n:Bool):Kd:=if n=true then .new else if z=true then .uB else .aF
def iG(gi:DI)(k:Nat)(fr:List Nat)(bind:DB)(ft fe:DF):DF:=fun st=>match gi st with
 | .ok ds=>if ds.length<=1000 then (match gA bind ft fe ds (nY k fr st) with | .ok es=>.ok (.lst es) | _=>.bad) else .bad
 | .ex c p=>.ex c p
 | .bad=>.bad
section
variable {X:Cx}{C:Cfg}{G0:Hp}{Γ:List SK}{E:L2.St->XK}{fL:Bool}{tg iter elt:Expr}{ifs:List Expr}{scope:Scope}{cl:List (Str×Addr)}{pos:Pos}{g:TG}{bind:DB}{gi:DI}{ft fe:DF}{ua:Kd}{n z:Bool}{fM:List Str}{caps:List (Nat×Str)}
theorem vU.val{pins:List (Addr×Obj)}{σ:L2.St}{H H2:Hp}{A:List Addr}{total:List D}{acc L:Addr}{s':Shared}{H':Hp}{ys:List V}{st:dh}(b:vU X C pins σ n H2 (zB z A) total acc L s' H' ys)(r:RS X.K C G0 Γ σ H A st)(e:aG H H2):aG H H'/\Val X.K C (vW z n) G0 A H H' (.lst total) (.ref acc):=by
 have e2:aG H2 H':=b.same.trans (aH _ _)
 have eH:=e.trans e2
 refine⟨eH,?_⟩
 have h0:H acc=none:=e.free b.new
 have rp:=b.ac8
 unfold vW
 cases n with
 | true=>
  rw[if_pos rfl]
  have R0:aM X.K C (er (nw H H') [acc]) total ys:=rp.same (fun c o z=>by
   unfold part at z
   rw[if_pos rfl] at z
   by_cases hc:c=acc
   ·subst hc
    have:=cK _ _ _ _ z
    rw[cV (.head _)] at this;cases this
   ·rw[aW (by simpa using hc)]
    exact uN e _ _ (bJ (aH _ _) _ _ z)) _
  have ha:nw H H' acc=some (.lst ys):=by rw[jV h0];exact b.at'
  exact⟨by rw[Rep];exact⟨acc,ys,rfl,.of ha,R0⟩,⟨fun _=>⟨acc,rfl,h0,ys,ha,R0⟩,.not rfl⟩⟩
 | false=>
  rw[if_neg (by decide)]
  cases z with
  | true=>
   rw[if_pos rfl]
   have hA:acc∉A:=fun m=>by obtain ⟨xs,q,_⟩:=r.lists acc m;rw[h0] at q;cases q
   have R0:aM X.K C (er (er H' A) [acc]) total ys:=rp.same (fun c o z=>by
    unfold part zB at z
    rw[if_neg (by decide),if_pos rfl] at z
    by_cases hc:c∈acc::A
    ·rw[cV hc] at z;cases z
    ·rw[aW hc] at z
     have h1:c≠acc:=fun w=>hc (by rw[w];exact .head _)
     have h2:c∉A:=fun w=>hc (.tail _ w)
     rw[aW (by simpa using h1),aW h2];exact z) _
   have ha:er H' A acc=some (.lst ys):=by rw[aW hA];exact b.at'
   exact⟨by rw[Rep];exact⟨acc,ys,rfl,.of ha,R0⟩,⟨fun _=>⟨acc,rfl,h0,ys,ha,R0⟩,.not rfl⟩⟩
  | false=>
   rw[if_neg (by decide)]
   show Rep X.K C H' _ _
   rw[Rep]
   refine⟨acc,ys,rfl,.of b.at',rp.same (fun c o z=>?_) _⟩
   unfold part zB at z
   rw[if_neg (by decide),if_neg (by decide)] at z
   exact z
structure Io(X:Cx)(C:Cfg)(G0:Hp)(Γ:List SK)(tg elt:Expr)(ifs:List Expr)(scope:Scope)(cl:List (Str×Addr))(g:TG)(bind:DB)(ft fe:DF)(ua:Kd)(n z:Bool)(fM:List Str)(caps:List (Nat×Str)):Prop where
 calm:X.calm=true
 hk:scope.kind = .function
 vf:∀y∈scope.names,y.2≠ .cell
 Aa:∀x c,cl.lookup x=some c->X.env.cells.lookup x=some c
 F7:∀x,((relabel scope X.env).names.lookup x=some .cell\/(relabel scope X.env).names.lookup x=some .free)->∃c,cl.lookup x=some c
 Nr:closureFor scope X.env=pure cl
 Ip:∀y∈scope.names,y.2 = .local->scope.names.lookup y.1=some .local
 F8:R5 X scope cl caps
 hz:z=true->∀p∈caps,Γ[p.1]?=some .par\/Γ[p.1]?=some .loc
 hB:qc X.K C G0 (qe (fM.length+caps.length)) g bind
 hG:∀fp s H L,PG ((vQ X scope cl (fM++caps.map (·.2)) fp s H L).dw (jU (vQ X scope cl (fM++caps.map (·.2)) fp s H L) vR)) tg g
 hT:∀fp s0 H0 L (pins:List (Addr×Obj)) (s:Shared) (σ:L2.St) (H:Hp) (Q:Bool->Hp->Prop),L2.Inv ((vQ X scope cl (fM++caps.map (·.2)) fp s0 H0 L).dw (jU (vQ X scope cl (fM++caps.map (·.2)) fp s0 H0 L) vR)) pins σ H s->vL X.K C G0 (qe (fM.length+caps.length)) vR ft σ H Q->
   wpAny (model X.prog X.w) X.A (forIn ifs true fun c r=>if r=true then do let ok <- isTrue c (compEnvC scope cl L X.env) (eval c (compEnvC scope cl L X.env));pure (ForInStep.yield ok) else pure (ForInStep.yield r)) (TP ((vQ X scope cl (fM++caps.map (·.2)) fp s0 H0 L).dw (jU (vQ X scope cl (fM++caps.map (·.2)) fp s0 H0 L) vR)) pins σ Q) (jU (vQ X scope cl (fM++caps.map (·.2)) fp s0 H0 L) vR) s
 hE:∀fp s H L,PE ((vQ X scope cl (fM++caps.map (·.2)) fp s H L).dw (jU (vQ X scope cl (fM++caps.map (·.2)) fp s H L) vR)) elt (tD X.K C G0 (qe (fM.length+caps.length)) vR fe ua)
 hn:n=true->ua = .new
 yK:n=false->ua.le .old=true
theorem Lh(CM:PI X tg iter (Lg X.K C G0 Γ E z gi))(b:Io X C G0 Γ tg elt ifs scope cl g bind ft fe ua n z fM caps)(hs:∀x,foldedSetIterable iter X.env x=pure x:=by intro _;rfl) :
  PE X (.ListComp elt [⟨tg,iter,ifs,0⟩] scope pos) (tD X.K C G0 Γ E (iG gi fM.length (caps.map (·.1)) bind ft fe) (vW z n)):=fun pins s σ H Q I zz=>by
 walk_at"02"
 rw[eval_ListComp]
 unfold iG at q
 refine wpAny_comprehension_free (use:=none) rfl hs b.Nr b.hk b.Ip (wpAny_mono (CM pins s σ H (fun J H'=>∃ds total,aG H H'/\F1 X.K C (zB z A) H' J ds/\ds.length<=1000/\gA bind ft fe ds (nY fM.length (caps.map (·.1)) st) = .ok total/\∀v H',aG H H'->Val X.K C (vW z n) G0 A H H' (.lst total) v->Q v H') I ⟨A,st,r,?_⟩) (fun xv s1 h1=>wpAny_mono h1 (fun WD s2 h2=>?_) fun _ _ e=>e) fun _ _ e=>e)
 ·cases hg:gi st with
  | bad=>rw[hg] at q;exact q
  | ex c p=>rw[hg] at q;exact q
  | ok ds=>
   rw[hg] at q
   walk_at","
   by_cases hl:ds.length<=1000
   ·rw[if_pos hl] at q
    cases hc:gA bind ft fe ds (nY fM.length (caps.map (·.1)) st) with
    | bad=>rw[hc] at q;exact q.elim
    | ex c p=>rw[hc] at q;exact q.elim
    | ok total=>rw[hc] at q;exact fun J H' e' hJ=>⟨ds,total,e',hJ,hl,hc,q⟩
   ·rw[if_neg hl] at q;exact q.elim
 ·obtain ⟨it,fp,tn,J,H2,rfl,I2,T,t0,f0,ds,total,e2,hJ,hl,kZ,hq⟩:=h2
  refine vV (RR:=fun acc L=>compPost (model X.prog X.w) X.A X.xe none (EP X pins σ Q) acc L) I2 b.calm (r.mono e2) T t0 f0 hJ b.hz kZ hl b.hk b.vf b.Aa b.F7 b.F8 b.hB (b.hG fp) (b.hT fp) (b.hE fp) b.hn b.yK fun acc L s' H' ys be=>?_
  obtain ⟨e',w⟩:=be.val r e2
  obtain ⟨m,hm⟩:=be.ns
  exact⟨m,hm,fun h' hsb=>⟨.ref acc,H',B6 be.inv be.hL be.lL be.sL be.cL be.pL hsb,rfl,hq _ _ e' w⟩⟩
theorem Li{i:Nat}{k:SK}{x:Str}{pos' Iq:Pos}(hN:X.N.Nodup)(CM:PI X tg iter (Lg X.K C G0 Γ E z gi))(b:Io X C G0 Γ tg elt ifs scope cl g bind ft fe ua n z fM caps)(hk:Γ[i]?=some k:=by rfl)(hl:k.takes (vW z n)=true:=by rfl)(hi:X.N[i]?=some x:=by rfl)(hx:X.env.scope.names.lookup x=some .local:=by rfl)
  (hsw:swapsWith (.ListComp elt [⟨tg,iter,ifs,0⟩] scope pos) (some (.Name x pos')) Iq.line X.env=pure true:=by rfl) (hs:∀x,foldedSetIterable iter X.env x=pure x:=by intro _;rfl) :
  PS X (.Assign [.Name x pos'] (.ListComp elt [⟨tg,iter,ifs,0⟩] scope pos) Iq) (nX X.K C G0 Γ E fL (bO i (iG gi fM.length (caps.map (·.1)) bind ft fe))):=fun pins s σ H D I zz=>by
 walk_at"02"
 rw[exec_Assign_Name_used _ _ _ _ hsw]
 refine wpAny_bind (wpAny_standAt (wpAny_bind ?_))
 show wpAny _ X.A (do let _ <- comprehension (.ListComp elt [⟨tg,iter,ifs,0⟩] scope pos) scope X.env _ (newList []) false (eval iter X.env) (some (assign (.Name x pos') X.env))) _ _ s
 unfold bO iG at q
 refine wpAny_bind (wpAny_mono (wpAny_comprehension_free (use:=some (assign (.Name x pos') X.env)) (Q:=fun _ s'=>SP X pins D .next s') rfl hs b.Nr b.hk b.Ip (wpAny_mono (CM pins s σ H (fun J H'=>∃ds total,aG H H'/\F1 X.K C (zB z A) H' J ds/\ds.length<=1000/\gA bind ft fe ds (nY fM.length (caps.map (·.1)) st) = .ok total/\∀cH H' A',RS X.K C G0 Γ cH H' A' (st.set i (some (.lst total)))->aG (er H A) (er H' A')->D.nx cH H') I ⟨A,st,r,?_⟩) (fun xv s1 h1=>wpAny_mono h1 (fun WD s2 h2=>?_) fun _ _ e=>e) fun _ _ e=>e))
  (fun _ s' hq=>wpAny_pure (wpAny_pure hq)) fun _ _ e=>e)
 ·cases hg:gi st with
  | bad=>rw[hg] at q;exact q
  | ex c p=>rw[hg] at q;exact fun H' e'=>q σ H' A (r.mono e') (aD e')
  | ok ds=>
   rw[hg] at q
   walk_at","
   by_cases hl:ds.length<=1000
   ·rw[if_pos hl] at q
    cases hc:gA bind ft fe ds (nY fM.length (caps.map (·.1)) st) with
    | bad=>rw[hc] at q;exact q.elim
    | ex c p=>rw[hc] at q;exact q.elim
    | ok total=>rw[hc] at q;exact fun J H' e' hJ=>⟨ds,total,e',hJ,hl,hc,q⟩
   ·rw[if_neg hl] at q;exact q.elim
 ·obtain ⟨it,fp,tn,J,H2,rfl,I2,T,t0,f0,ds,total,e2,hJ,hlen,kZ,hq⟩:=h2
  refine vV (RR:=fun acc L=>compPost (model X.prog X.w) X.A X.xe (some (assign (.Name x pos') X.env)) (fun _ s'=>SP X pins D .next s') acc L) I2 b.calm (r.mono e2) T t0 f0 hJ b.hz kZ hlen b.hk b.vf b.Aa b.F7 b.F8 b.hB (b.hG fp) (b.hT fp) (b.hE fp) b.hn b.yK fun acc L s' H' ys be=>?_
  obtain ⟨e',w⟩:=be.val r e2
  obtain ⟨m,hm⟩:=be.ns
  refine bQ (r.set e' hk hl w) fun A' r' ea _=>?_
  refine wpAny_assign_Name (xV be.inv hN hi (.inl hx) (v:=.ref acc) rfl (fun s3 I3 iz=>?_) (.inr hx))
  refine aN iz fun c hsb hc=>?_
  clear iz
  have hcL:L≠c:=by
   rcases hc with rfl | hc
   ·exact be.lL
   ·exact fun z=>be.cL x c hc z.symm
  exact⟨m,hm.sameBut hsb hcL,fun h' BR=>⟨_,H',B6 I3 be.hL be.lL be.sL be.cL be.pL BR,hq _ _ A' r' ea⟩⟩
end
end Dm
end UX
section UY
namespace Dm
open PySem PySem.Spec PyProof.Rows L2
abbrev DP:=(Int×Int)×Addr×Int×Tok
def dxs(ps:List DP):List (List Int×Addr×Value):=ps.map fun p=>([p.1.1,p.1.2],p.2.1,.int p.2.2.1 p.2.2.2)
def DX(a:Addr)(ps:List DP)(h:Heap):Prop:=∃o es ep,h.get? a=some o/\o.ExactDict/\o.data = .dict es ep/\(∀(P:Program) (w:World),es.toList=(dxs ps).map (entryOfKey (tupleKind (intKind P w))))/\((dxs ps).map (·.1)).Nodup
def dvs(ps:List DP):List V:=ps.flatMap fun p=>[.int p.1.1,.int p.1.2,.int p.2.2.1]
def Lj(K:PySem.W.Frag)(H:Hp)(a:Addr)(vs:List V):Prop:=∃ps,vs=dvs ps/\H a=some (.ext (DX a ps))/\∀p∈ps,kT K H p.2.1 [.int p.1.1,.int p.1.2]
theorem Lj.mono{K:PySem.W.Frag}{H H':Hp}{a:Addr}{vs:List V}(e:aG H H')(h:Lj K H a vs):Lj K H' a vs:=by
 refine bQ h fun ps h1 h2 h3=>?_
 clear h
 exact⟨ps,h1,e _ _ h2,fun p hp=>aG.tup e (h3 p hp)⟩
section
variable {X:Cx}{pins:List (Addr×Obj)}{σ:L2.St}{H:Hp}{s:Shared}{a:Addr}
end
section
variable {X:Cx}{a b:Expr}{ta:TA}{p1 p2 pos ad1:Pos}
end
end Dm
end UY
section UZ
namespace Dm
open PySem PySem.Spec PyProof.Rows L2
abbrev SP:=List (List Int)×Addr×Value
def DY(a:Addr)(o:Obj)(ps:List SP)(h:Heap):Prop:=(a==sysModules)=false/\ps.length<=sizeLine/\h.get? a=some o/\o.ExactDict/\∃es ep,o.data = .dict es ep/\(∀(P:Program) (w:World),es.toList=ps.map (entryOfKey (Hk.jQ (intKind P w))))/\(ps.map (·.1)).Nodup
def jo(K:PySem.W.Frag)(H:Hp)(ks:List (List Int))(a:Addr):Prop:=∃cs:List Addr,kT K H a (cs.map V.ref)/\cs.length=ks.length/\∀z∈ks.zip cs,kT K H z.2 (z.1.map V.int)
def l7(ps:List SP)(vs:List V):List V:=(ps.zip vs).flatMap fun z=>[.ref z.1.2.1,z.2]
def V0(K:PySem.W.Frag)(F H:Hp)(a:Addr)(xs:List V):Prop:=∃o ps vs,xs=l7 ps vs/\Vals vs (ps.map (·.2.2))/\H a=some (.ext (DY a o ps))/\(∀p∈ps,jo K F p.1 p.2.1)/\∀l,V.ref l∈vs->∃ys,F l=some (.lst ys)
theorem jo.mono{K:PySem.W.Frag}{H H':Hp}{ks:List (List Int)}{a:Addr}(e:aG H H')(h:jo K H ks a):jo K H' ks a:=by
 refine bQ h fun cs h1 h2 h3=>?_
 exact⟨cs,aG.tup e h1,h2,fun z m=>aG.tup e (h3 z m)⟩
theorem V0.mono{K:PySem.W.Frag}{F F' H H':Hp}{a:Addr}{xs:List V}(f:aG F F')(e:H' a=H a)(h:V0 K F H a xs):V0 K F' H' a xs:=by
 refine Ae h fun o ps vs h1 h2 h3 h4 h5=>?_
 exact⟨o,ps,vs,h1,h2,e.trans h3,fun p m=>(h4 p m).mono f,fun l m=>let ⟨ys,q⟩:=h5 l m;⟨ys,f _ _ q⟩⟩
theorem DY.of{P:Program}{w:World}{a:Addr}{ps:List SP}{h:Heap}(z:(a==sysModules)=false)(hl:ps.length<=sizeLine)(q:h.DictOfH (Hk.jQ (intKind P w)) a ps):∃o,DY a o ps h:=by
 refine YE q fun o es ep h1 h2 h3 h4 _ h6=>?_
 exact⟨o,z,hl,h1,h2,es,ep,h3,fun P' w'=>h4,h6⟩
theorem DY.dict{P:Program}{w:World}{a:Addr}{o:Obj}{ps:List SP}{h:Heap}(q:DY a o ps h)(k:∀p∈ps,(Hk.jQ (intKind P w)).is h p.1 p.2.1):h.DictOfH (Hk.jQ (intKind P w)) a ps:=by
 obtain ⟨_,_,h1,h2,es,ep,h3,h4,h6⟩:=q
 exact⟨o,es,ep,h1,h2,h3,h4 P w,k,h6⟩
theorem DY.keep{a:Addr}{o:Obj}{ps:List SP}{h h':Heap}(q:DY a o ps h)(e:∀o,h.get? a=some o->h'.get? a=some o):DY a o ps h':=⟨q.1,q.2.1,e o q.2.2.1,q.2.2.2⟩
theorem B7{P:Program}{w:World}{H:Hp}{a:Addr}{o:Obj}{ps:List SP}{h:Heap}(q:DY a o ps h):fT P w H h a (.ext (DY a o ps)):=⟨q,⟨o,q.2.2.1⟩,fun h1 h2 z e=>z.keep e⟩
section
variable {X:Cx}{pins:List (Addr×Obj)}{σ:L2.St}{H:Hp}{s:Shared}{a:Addr}
theorem Ir(I:L2.Inv X pins σ H s){ns:List Int}(h:kT X.K H a (ns.map V.int)):(tupleKind (intKind X.prog X.w)).is s.heap ns a:=by
 refine bQ (I.tuple h) fun bh rv aV hsz=>?_
 clear hsz
 obtain ⟨o,e,hc,n,hd⟩:=aV
 refine⟨o,bh.toArray,n,e,hc,hd,?_⟩
 show ItemsAre _ ns bh
 clear h e hd
 induction ns generalizing bh with
 | nil=>cases rv;exact .nil
 | cons i ns ih=>
  cases rv with
  | cons r1 t1=>
   obtain ⟨t,rfl⟩:=r1
   exact .cons (by simp[intKind,Value.isInt]) (ih _ t1)
theorem lX(I:L2.Inv X pins σ H s){ks:List (List Int)}(h:jo X.K H ks a):(Hk.jQ (intKind X.prog X.w)).is s.heap ks a:=by
 refine bQ h fun cs h1 h2 h3=>?_
 refine bQ (I.tuple h1) fun bh rv aV hsz=>?_
 clear hsz
 obtain ⟨o,e,hc,n,hd⟩:=aV
 refine⟨o,bh.toArray,n,e,hc,hd,?_⟩
 show Hk.Refs _ s.heap ks bh
 clear h h1 e hd
 induction ks generalizing cs bh with
 | nil=>
  cases cs with
  | nil=>cases rv;exact rfl
  | cons c cs=>cases h2
 | cons k ks ih=>
  cases cs with
  | nil=>cases h2
  | cons c cs=>
   cases rv with
   | cons r1 t1=>
    cases r1
    exact⟨c,_,rfl,Ir I (h3 (k,c) (.head _)),ih cs (by simpa using h2) (fun z m=>h3 z (.tail _ m)) _ t1⟩
theorem lY(I:L2.Inv X pins σ H s){o:Obj}{ps:List SP}(ha:H a=some (.ext (DY a o ps)))(hk:∀p∈ps,jo X.K H p.1 p.2.1):s.heap.DictOfH (Hk.jQ (intKind X.prog X.w)) a ps/\(a==sysModules)=false/\ps.length<=sizeLine:=by
 refine qT ((show fT X.prog X.w H s.heap a (.ext (DY a o ps)) from I.dS a _ ha)) fun dx _ _=>?_
 exact⟨dx.dict fun p m=>lX I (hk p m),dx.1,dx.2.1⟩
end
end Dm
end UZ
section V1
namespace Dm
open PySem PySem.Spec PyProof.Rows L2
def KL(K:PySem.W.Frag)(H:Hp)(ps:List SP)(t7:List (List (List Int))):Prop:=t7.length=ps.length/\∀z∈ps.zip t7,jo K H z.2 z.1.2.1
section
variable {X:Cx}
theorem keys_eq{pins:List (Addr×Obj)}{σ:L2.St}{H:Hp}{s:Shared}(I:L2.Inv X pins σ H s):∀{ps:List SP} {t7:List (List (List Int))},(∀p∈ps,jo X.K H p.1 p.2.1)->KL X.K H ps t7->ps.map (·.1)=t7
 | [],[],_,_=>rfl
 | [],_::_,_,h=>by cases h.1
 | _::_,[],_,h=>by cases h.1
 | p::ps,k::t7,hk,h=>by
  rw[List.map_cons,keys_eq I (fun q m=>hk q (.tail _ m)) ⟨by simpa using h.1,fun z m=>h.2 z (.tail _ m)⟩]
  rw[(Hk.jQ (intKind X.prog X.w)).inj (lX I (hk p (.head _))) (lX I (h.2 (p,k) (.head _)))]
def Pf(K:PySem.W.Frag)(neg:Bool):R2:=fun x y H Q=>∃a b ob ps ks t7,x = .ref b/\y = .ref a/\H a=some (.ext (DY a ob ps))/\(∀p∈ps,jo K H p.1 p.2.1)/\KL K H ps t7/\jo K H ks b/\(ps.map (·.1)=t7->Q (.bl (if neg then !(atKey ps ks).isSome else (atKey ps ks).isSome)) H)
theorem Pg(hu:X.A.units+2 < cLine):q9 X (compareOp .In) (Pf X.K false):=by
 walk_at"Q"
 obtain ⟨a,b,ob,ps,ks,t7,rfl,rfl,ha,hk,Ph,hb,q⟩:=h
 cases rx;cases ry
 have q:=q (keys_eq I hk Ph)
 obtain ⟨dd,hd,_⟩:=lY I ha hk
 exact wpAny_in_heap (show X.A.units+1+1 < cLine from hu) (lX I hb) hd dd ⟨.bl (atKey ps ks).isSome,H,I.tok _,rfl,q⟩
theorem Fg(hu:X.A.units+2 < cLine):q9 X (compareOp .NotIn) (Pf X.K true):=by
 walk_at"Q"
 obtain ⟨a,b,ob,ps,ks,t7,rfl,rfl,ha,hk,Ph,hb,q⟩:=h
 cases rx;cases ry
 have q:=q (keys_eq I hk Ph)
 obtain ⟨dd,hd,_⟩:=lY I ha hk
 exact wpAny_notIn_heap (show X.A.units+1+1 < cLine from hu) (lX I hb) hd dd ⟨.bl (!(atKey ps ks).isSome),H,I.tok _,rfl,q⟩
def V2(K:PySem.W.Frag):R2:=fun x y H Q=>∃a b ob ps ks t7,x = .ref a/\y = .ref b/\H a=some (.ext (DY a ob ps))/\(∀p∈ps,jo K H p.1 p.2.1)/\KL K H ps t7/\jo K H ks b/\(ps.map (·.1)=t7->(∀l ys xs,jJ K H l ys->jJ K H l xs->ys=xs)->∃p v,atKey ps ks=some p/\RelV v p.2/\Q v H)
theorem ad2(hu:X.A.units+2 < cLine):KC X (V2 X.K):=by
 intro value slice pins s σ H x y v u Q I rx ry h hs
 obtain ⟨a,b,ob,ps,ks,t7,rfl,rfl,ha,hk,Ph,hb,q⟩:=h
 cases rx;cases ry
 obtain ⟨p,z,hp,rz,q⟩:=q (keys_eq I hk Ph) fun l ys xs h1 h2=>I.vh h1 h2
 obtain ⟨dd,hd,_⟩:=lY I ha hk
 have hT:s.TypeIs (.ref a) "dict":=dd.typeIs
 unfold subscriptTail
 refine wpAny_bind ?_
 rw[getitemInPython_of_ne hT.not_modules]
 refine wpAny_bind (wpAny_specialOf hT PySem.F.slot_dict_getitem.lookup ?_)
 have fin:wpAny (model X.prog X.w) X.A (subscripted slice false (.ref a) (.ref b)) (fun r Pc=>wpAny (model X.prog X.w) X.A (letTemporaryGo value (.ref a) r>>=fun _=>pure r) (EP X pins σ Q) X.xe Pc) X.xe s:=by
  rw[hs]
  refine wpAny_operating (wpAny_getItem_heap (show X.A.units+1+1 < cLine from hu) (lX I hb) dd hp ?_)
  exact wpAny_bind (wpAny_letTemporaryGo (wpAny_pure ⟨z,H,I.tok _,rz,q⟩))
 first
  | exact wpAny_pure (wpAny_bind fin)
  | exact wpAny_bind (wpAny_pure (wpAny_bind fin))
  | exact wpAny_bind fin
def V3(K:PySem.W.Frag):V->V->V->Hp->(Hp->Prop)->Prop:=fun o i v H Q=>∃a b ob ps ks t7,o = .ref a/\i = .ref b/\H a=some (.ext (DY a ob ps))/\(∀p∈ps,jo K H p.1 p.2.1)/\KL K H ps t7/\jo K H ks b/\ps.length < sizeLine/\∀u Kg,RelV v u->ps.map (·.1)=t7->Q (upd H a (.ext (DY a Kg (storedH ps ks b u))))
theorem CN{ps:List SP}{ks:List (List Int)}{b:Addr}{u:Value}:(storedH ps ks b u).length<=ps.length+1:=by
 unfold storedH
 split
 ·rw[List.length_map];exact Nat.le_succ _
 ·rw[List.length_append];exact Nat.le_refl _
theorem V4(hu:X.A.units+2 < cLine):Sh X (V3 X.K):=by
 intro pins s σ H o i v ov iv u Q I ro ri rv h
 obtain ⟨a,b,ob,ps,ks,t7,rfl,rfl,ha,hk,Ph,hb,hl,q⟩:=h
 cases ro;cases ri
 obtain ⟨dd,hd,hz⟩:=lY I ha hk
 refine wpAny_setItem_heap (hsz:=hz) (show X.A.units+1+1 < cLine from hu) (lX I hb) dd fun h' V5 hs=>?_
 have he:∃q,h'.get? a=some q:=let ⟨q,_,_,hq,_⟩:=V5;⟨q,hq⟩
 obtain ⟨Kg,dy⟩:=DY.of hd (Nat.le_trans CN hl) V5
 exact⟨_,I.write (x:=a) (e:=a) (by rw[ha];trivial) (.inl rfl) (fun c w hc z=>(hs.2 c hc).trans z) he (B7 dy),q u _ rv (keys_eq I hk Ph)⟩
theorem Inv.V6{pins:List (Addr×Obj)}{σ:L2.St}{H:Hp}{s:Shared}(I:L2.Inv X pins σ H s):sysModules < s.heap.objs.size:=
 Nat.lt_trans (by decide) (show mainGlobals < s.heap.objs.size from (I.mod.glob.keeps I.bk).lt)
def V7:TE:=fun σ H Q=>∀p o,H p=none->Q (.ref p) (upd H p (.ext (DY p o [])))
theorem Iu{h:Heap}(hb:(h.objs.size==sysModules)=false):DY h.objs.size { cls:=.type "dict",data:=.dict #[] } [] (h.push { cls:=.type "dict",data:=.dict #[] }):=
 ⟨hb,Nat.zero_le _,Heap.get?_push_size _ rfl,⟨rfl,rfl,rfl⟩,#[],0,rfl,fun _ _=>rfl,List.nodup_nil⟩
theorem Lk{pos:Pos}:PE X (.Dict [] [] pos) V7:=fun pins s σ H Q I h=>
 wpAny_Dict_empty ⟨.ref s.heap.objs.size,_,I.laid (a:=s.heap.objs.size) (o:=.ext (DY s.heap.objs.size _ [])) (t':=s.toks) (fun _ _ q=>Heap.get?_push_of_some _ q) (Nat.le_refl _) (B7 (Iu (beq_eq_false_iff_ne.mpr (Ne.symm (Nat.ne_of_lt (Inv.V6 I)))))),rfl,h _ _ (I.dS.fresh (Nat.le_refl _))⟩
end
end Dm
end V1
section ad3
namespace Dm
open PySem PySem.Spec PyProof.Rows L2 PySem.W
def aU(Cb:Addr):Cfg where
 ob:=fun t K H a vs=>((t=0/\∃dx fs l,H a=some (.ins Cb dx fs)/\fs.lookup ("cells" : Str)=some (.ref l)/\H l=some (.lst vs))\/(∃c,t=Le c/\((vs=[]/\H a=some (.ext (ClsAt a (.ref c))))\/∃n dx,vs=[.int n]/\H a=some (.ext (ab8 a c dx))/\H dx=some (.xd [("at",.int n)]))))\/(t=1/\Lj K H a vs)\/(t=2/\V0 K H H a vs)
 mono:=fun {t K H H' a vs} e h=>by
  rcases h with (⟨h0,dx,fs,l,h1,h2,h3⟩ | ⟨c,h0,⟨h1,h2⟩ | ⟨n,dx,h1,h2,h3⟩⟩) | ⟨h0,h1⟩ | ⟨h0,h1⟩
  ·exact .inl (.inl ⟨h0,dx,fs,l,e _ _ h1,h2,e _ _ h3⟩)
  ·exact .inl (.inr ⟨c,h0,.inl ⟨h1,e _ _ h2⟩⟩)
  ·exact .inl (.inr ⟨c,h0,.inr ⟨n,dx,h1,e _ _ h2,e _ _ h3⟩⟩)
  ·exact .inr (.inl ⟨h0,h1.mono e⟩)
  ·exact .inr (.inr ⟨h0,h1.mono e (by
    refine Ae h1 fun o ps vs _ _ z _ _=>?_
    exact(e _ _ z).trans z.symm)⟩)
 own:=V0
 DC:=fun f e h=>h.mono f e
 Ni:=fun h f e=>.inr (.inr ⟨rfl,h.mono f e⟩)
 Ux:=fun h=>by
  refine Ae h fun o ps vs _ _ z _ _=>?_
  exact⟨_,z⟩
section
variable {X:Cx}{Cb:Addr}{G0:Hp}{Γ:List SK}{E:L2.St->XK}{fL:Bool}{e a b c:Expr}{f fa fb fc:DF}{κ κ' aA bC xq:Kd}{es rest:List Expr}{fs:DA}{pos:Pos}{s:Stmt}{ss:List Stmt}{F G:DS}
def d9:D->R D:=fun a=>match a with | .bU 0 ds=>if cT ds=true then .ok (.lst ds) else .bad | _=>.bad
theorem Fi{a d:D}(h:d9 a = .ok d):∃ds,a = .bU 0 ds/\cT ds=true/\d = .lst ds:=by
 unfold d9 at h
 split at h
 ·split at h
  ·rename_i n;cases h;exact⟨_,rfl,n,rfl⟩
  ·cases h
 ·cases h
theorem Fj{a:D}{c:Addr}{p:Option Int}:d9 a≠ .ex c p:=by
 unfold d9
 split
 ·split <;> exact fun h=>(by cases h)
 ·exact fun h=>(by cases h)
theorem Fl{K:Frag}{H:Hp}{ds:List D}{x:V}(n:cT ds=true)(q:Rep K (aU Cb) H (.bU 0 ds) x):∃a dx fs l,x = .ref a/\H a=some (.ins Cb dx fs)/\fs.lookup ("cells" : Str)=some (.ref l)/\Rep K (aU Cb) H (.lst ds) (.ref l):=by
 rw[Rep] at q
 refine b8 q fun a xs aV h2 h3=>?_
 clear q
 walk_at"#"
 rcases h2 with (⟨_,dx,fs,l,h4,h5,h6⟩ | ⟨c,z,_⟩) | ⟨z,_⟩ | ⟨z,_⟩
 ·refine⟨a,dx,fs,l,rfl,h4,h5,?_⟩
  rw[Rep]
  exact⟨l,xs,rfl,.of h6,h3.part (.er fun b m=>by rw[List.mem_singleton.mp m];exact⟨_,h6,rfl⟩) _ n⟩
 ·unfold Le at z;lia
 ·cases z
 ·cases z
theorem Iv(hC:GX X.K Cb)(hA:jg X.K Cb "cells")(ha:PE X a (tD X.K (aU Cb) G0 Γ E fa aA))(hb:attributeBase a ("cells" : Str) X.env (eval a X.env)=eval a X.env:=by rfl):PE X (.Attribute a "cells" pos) (tD X.K (aU Cb) G0 Γ E (rA d9 fa) aA.item):=(Oq ha hb).imp fun σ H Q zz=>by
 walk_at"024"
 unfold rA R.bind at q
 cases ha:fa st with
 | bad=>rw[ha] at q;exact q
 | ex c p=>rw[ha] at q;exact q
 | ok a=>
  rw[ha] at q
  walk_at","
  intro x H1 e1 w1
  cases hg:d9 a with
  | bad=>rw[hg] at q;exact q.elim
  | ex c p=>exact absurd hg Fj
  | ok d=>
   rw[hg] at q
   refine bQ (Fi hg) fun ds gM n uz=>?_
   walk_at"8"
   obtain rfl:=uz
   have fin:∀G:Hp,aG G H1->Rep X.K (aU Cb) G (.bU 0 ds) x->(∀v,Rep X.K (aU Cb) G (.lst ds) v->Val X.K (aU Cb) aA.item G0 A H H1 (.lst ds) v)->∃a C dx fs v,x = .ref a/\H1 a=some (.ins C dx fs)/\GX X.K C/\jg X.K C "cells" /\fs.lookup ("cells" : Str)=some v/\Q v H1:=fun G e qa k=>by
    refine Rv (Fl n qa) fun a dx fs l Hg h1 h2 h3=>?_
    obtain rfl:=Hg
    exact⟨a,Cb,dx,fs,.ref l,rfl,e _ _ h1,hC,hA,h2,q _ _ e1 (k _ h3)⟩
   cases aA with
   | new=>exact fin _ (aH _ _) (w1.le r e1 (κ':=.old) rfl) fun v z=>z
   | uB=>exact fin _ (aH _ _) (w1.le r e1 (κ':=.old) rfl) fun v z=>z
   | loc=>exact fin _ (aH _ _) (w1.le r e1 (κ':=.old) rfl) fun v z=>z
   | old=>exact fin _ (aH _ _) w1 fun v z=>z
   | kQ=>exact fin _ (.refl _) w1.rep fun v z=>z
   | aF=>exact fin _ (.refl _) w1 fun v z=>z
def zE(K:Frag)(Cb:Addr)(Fc:List D->R D):Sp:=fun vs H Q E=>∃x dx ds v,vs=[.ref x,v]/\H x=some (.ins Cb dx [])/\Rep K (aU Cb) H (.lst ds) v/\match Fc [.lst ds] with
 | .ok _=>cT ds=true/\∀l H' ys,H l=none->(∀b o,b≠x->H b=some o->H' b=some o)->H' x=some (.ins Cb dx [("cells",.ref l)])->H' l=some (.lst ys)->aM K (aU Cb) H' ds ys->Q .cz H'
 | .ex c p=>∀H',aG H H'->G8 E c p H'
 | .bad=>False
theorem Ll{P:Program}{w:World}{K:Frag}{mg:Str->Option Value}{base:Heap}{x qual:Str}{st:Stmt}{f:Addr}{fd:FuncData}{k:Nat}{Fc:List D->R D}(F:Hj K x qual st f fd)(S:br ["self","cells"] ["self","cells"] (az st))(hC:GX K Cb)(hA:jg K Cb "cells")
  (AA:∀(dU:Value) (A:Around) (outer:List Env) (s:Shared) (H:Hp) (E:XK),i6 k (A.deeper (envOfC qual (az st) s.heap.objs.size f dU))->
   sP ((pT (pK P w) P w K mg base ["self","cells"] qual (az st) f dU A outer s H E).dw (jU (pT (pK P w) P w K mg base ["self","cells"] qual (az st) f dU A outer s H E) fun _=>E)) (bf st)
    (Sd (N8 (tD K (aU Cb) H [.par,.par] (fun _=>E) (bz Fc (aa (ak 1) av)) κ)) (Tf K (lI 0) (tD K (aU Cb) H [.par,.par] (fun _=>E) (bz iY (aa (ak 1) av)) .new) "cells"))) :
  iQ P w K mg base (pK P w) (k+1) f fd ["self","cells"] (zE K Cb Fc):=by
 refine yf F S (fun vs H Q E iz=>by obtain ⟨x,dx,ds,v,h,_⟩:=iz;rw[h];rfl) fun dU A outer s H vs Q E hr lO=>?_
 refine Rv lO fun x dx ds v hvs hx hd q=>?_
 clear lO
 subst hvs
 have r0:RS K (aU Cb) H [.par,.par] [some (.ref x),some v] H [] [none,some (.lst ds)]:=⟨by rw[lT];exact .refl _,fun a m=>(by cases m),rfl,fun i d h=>(by
  match i,h with
  | 1,h=>
   cases h
   exact⟨.par,v,rfl,rfl,by show Rep _ _ (er H []) _ _;rw[lT];exact hd⟩),fun i j n m p ds es qP g1=>(by
  match i,g1 with
  | 0,g1=>cases g1
  | 1,g1=>cases g1)⟩
 refine⟨_,AA dU A outer s H E hr,[],[none,some (.lst ds)],r0,?_⟩
 have hf:bz Fc (aa (ak 1) av) [none,some (.lst ds)]=Fc [.lst ds]:=rfl
 rw[hf]
 cases hF:Fc [.lst ds] with
 | bad=>rw[hF] at q;exact q
 | ex c p=>rw[hF] at q;exact q
 | ok d0=>
  rw[hF] at q
  obtain ⟨n,q⟩:=q
  intro v1 H1 e1 w1
  refine⟨[],[none,some (.lst ds)],r0.mono e1,?_⟩
  have hg:bz iY (aa (ak 1) av) [none,some (.lst ds)] = .ok (.lst ds):=by
   show iY [.lst ds]=_
   unfold iY
   dsimp only
   rw[if_pos n]
  rw[hg]
  intro y H2 e2 w2
  refine bQ (w2.2.1 rfl) fun l aV nl ow=>?_
  refine aN ow fun ys hl rl=>?_
  walk_at"#"
  have hl2:H2 l=some (.lst ys):=cK _ _ _ _ hl
  have sG:=e1.trans e2
  have Dl:H2 x=some (.ins Cb dx []):=sG _ _ hx
  have nlx:l≠x:=fun z=>by rw[z,e1 _ _ hx] at nl;cases nl
  refine⟨.ref x,rfl,x,Cb,dx,[],rfl,Dl,hC,hA,by show 0 < 1000;decide,?_⟩
  have keep:aG (er H2 [x]) (upd H2 x (.ins Cb dx (nO "cells" (.ref l) []))):=fun b o z=>by
   by_cases hb:b=x
   ·rw[hb,cV (.head _)] at z;cases z
   ·rw[aY hb]
    rw[aW (by simpa using hb)] at z;exact z
  refine q l _ ys (e1.free nl) (fun b o hb z=>by rw[aY hb];exact sG _ _ z) bM (by rw[aY nlx];exact hl2) ?_
  have rl2:aM K (aU Cb) H2 ds ys:=rl.same ((aH _ _).trans (cK _ _)) _
  refine aM.same keep _ (rl2.part ⟨aH _ _,fun b xs z=>?_⟩ _ n)
  unfold Rd
  have:b≠x:=fun w=>by
   subst w
   rcases z with z | ⟨o,z⟩
   ·rw[Dl] at z;cases z
   ·rw[Dl] at z;cases z
  rw[aW (by simpa using this)];exact z
def qz(Fc:List D->R D):List D->R D:=fun ds=>match ds with
 | [.lst es]=>(match Fc [.lst es] with | .ok _=>if cT es=true then .ok (.bU 0 es) else .bad | .ex c p=>.ex c p | .bad=>.bad)
 | _=>.bad
theorem Iw{X:Cx}{x:Str}{k:Nat}{fi:Addr}{fd:FuncData}{Fc:List D->R D}{p:Pos}(M:Mk X.K Cb fi)(Fn:iQ X.prog X.w X.K X.mg X.base (pK X.prog X.w) k fi fd ["self","cells"] (zE X.K Cb Fc))(hr:i6 (k+1) X.A)(hm:X.mg x=some (.ref Cb))(hb:Binds X.K fd ["self","cells"] [])
  (ha:PA (X.dw (jU X E)) [e] (G9 X.K (aU Cb) G0 Γ E fs κ)) (hg:Gl X x:=by rfl) (EL:(x==("__debug__" : Str))=false:=by decide) (he:starEach [e] X.env=[(false,eval e X.env)]:=by rfl) :
  PE (X.dw (jU X E)) (.Call (.Name x p) [e] [] pos) (tD X.K (aU Cb) G0 Γ E (bz (qz Fc) fs) .new):=(HF M Fn hr hg hm hb ha EL he).imp fun σ H Q zz=>by
 walk_at"024"
 unfold bz R.bind at q
 cases hf:fs st with
 | bad=>rw[hf] at q;exact q
 | ex c p=>rw[hf] at q;exact q
 | ok ds=>
  walk_at"1,"
  intro vs H1 e1 w1 y dx hy hdx MV
  have s0:aG H1 (upd (upd H1 dx (.own y)) y (.ins Cb dx [])):=fun b o z=>by
   rw[aY (bI z hy),aY (bI z hdx)];exact z
  match ds,q,w1 with
  | [.lst es],q,w1=>
   refine aN (nW w1) fun v gM wv=>?_
   walk_at"8"
   refine⟨y,dx,es,v,rfl,bM,(wv.same Kd.vK _).same s0 _,?_⟩
   unfold qz at q
   walk_at","
   cases hF:Fc [.lst es] with
   | bad=>rw[hF] at q;exact q
   | ex c p=>rw[hF] at q;exact fun H' e'=>q H' ((e1.trans s0).trans e')
   | ok d0=>
    rw[hF] at q
    walk_at","
    by_cases n:cT es=true
    ·rw[if_pos n] at q
     refine⟨n,fun l H' ys nl kp qS Dk rp=>⟨rfl,?_⟩⟩
     have e':aG H1 H':=fun b o z=>kp b o (bI z hy) (s0 b o z)
     have eH:=e1.trans e'
     have hy0:H y=none:=e1.free hy
     have NS:H l=none:=e1.free (s0.free nl)
     refine q _ _ eH ⟨?_,.not rfl rfl⟩
     rw[Rep]
     refine⟨y,ys,rfl,.inl (.inl ⟨rfl,dx,_,l,by rw[jV hy0];exact qS,rfl,by rw[jV NS];exact Dk⟩),rp.part (.nw eH) _ n⟩
    ·rw[if_neg n] at q;exact q.elim
  | [],q,_=>exact q.elim
  | [.cz],q,_=>exact q.elim
  | [.bl _],q,_=>exact q.elim
  | [.int _],q,_=>exact q.elim
  | [.str _],q,_=>exact q.elim
  | [.tup _],q,_=>exact q.elim
  | [.bU _ _],q,_=>exact q.elim
  | d1::d2::dr,q,_=>
   have:qz Fc (d1::d2::dr) = .bad:=by unfold qz;cases d1 <;> rfl
   rw[this] at q;exact q.elim
end
end Dm
end ad3
section ad4
namespace Dm
open PySem PySem.Spec PyProof.Rows L2 PySem.W
section
variable {X:Cx}{C:Cfg}{Cb:Addr}{G0:Hp}{Γ:List SK}{E:L2.St->XK}{fL:Bool}{e a b c:Expr}{f fa fb fc:DF}{κ κ' aA bC xq:Kd}{es rest:List Expr}{fs:DA}{pos:Pos}{s:Stmt}{ss:List Stmt}{F G:DS}
theorem vX{P:L2.St->Prop}{n:Nat}:∀(es:List Expr) (out:Str) (m:Nat),(∀e∈es,xD X P n e)->out.length+es.length * n<=m->m<=100000->∀(pins:List (Addr×Obj)) (s:Shared) (σ:L2.St) (H:Hp) (Q:Value->Shared->Prop) (Ex:Value->Shared->Prop),L2.Inv X pins σ H s->P σ->(∀x t s',L2.Inv X pins σ H s'->x.length<=m->Q (.str x t) s')->wpAny (model X.prog X.w) X.A (joinParts out (evalEach es X.env)) Q Ex s
 | [],out,m,_,hl,hm,pins,s,σ,H,Q,Ex,I,p,q=>joinParts_nil (q _ _ _ (I.tok _) (by simp at hl;lia)) (by rw[sizeLine_eq];simp at hl;lia)
 | e::es,out,m,h,hl,hm,pins,s,σ,H,Q,Ex,I,p,q=>by
  show wpAny _ _ (joinParts out (eval e X.env::evalEach es X.env)) Q Ex s
  refine joinParts_cons (h e (.head _) pins s σ H _ Ex I p fun x t s' I' hx=>?_)
  have hlen:(out++x).length=out.length+x.length:=strLen_append out x
  rw[List.length_cons,Nat.add_mul,Nat.one_mul] at hl
  refine⟨by rw[hlen,sizeLine_eq];lia,?_⟩
  exact vX es (out++x) m (fun e' m'=>h e' (.tail _ m')) (by rw[hlen];lia) hm pins s' σ H Q Ex I' p q
theorem B8{P:L2.St->Prop}{n:Nat}{v1 v2:Expr}{rest:List Expr}(h:∀e∈v1::v2::rest,xD X P n e)(hm:(v1::v2::rest).length * n<=100000):xD X P ((v1::v2::rest).length * n) (.JoinedStr (v1::v2::rest) pos):=fun pins s σ H Q Ex I p q=>
 JoinedStr_many (vX (v1::v2::rest) Str.empty _ h (by show 0+_<=_;lia) hm pins s σ H Q Ex I p q)
theorem all_nil{P:L2.St->Prop}{n:Nat}:∀e∈([]:List Expr),xD X P n e:=fun e h=>by cases h
theorem all_cons{P:L2.St->Prop}{n:Nat}{e:Expr}{es:List Expr}(h:xD X P n e)(t:∀e∈es,xD X P n e):∀e'∈e::es,xD X P n e':=fun e' m=>by
 walk_at"J"
 ·exact h
 ·exact t e' m
def gz(c:Addr):DS:=fun st=>.ex c none st
theorem l8{x:Str}{K0:Addr}{B newId CB:String}{bm:List Value}{np i7:Pos}{xB:Expr}{X:Cx}{n:Nat}(FB:ExcBaseFacts B newId CB bm)(hh:X.A.handled=none)(hm:X.mg x=some (.ref K0))(hc:Nk X.K K0 bm newId=true)(ha:xD (X.dw (jU X E)) (fun _=>True) n xB)(hg:Gl X x:=by rfl)
  (he:starEach [xB] X.env=[(false,eval xB X.env)]:=by rfl) (hd:(x==("__debug__" : Str))=false:=by decide) :
  PS (X.dw (jU X E)) (.Raise (some (.Call (.Name x np) [xB] [] i7)) none pos) (nX X.K C G0 Γ E fL (gz K0)):=by
 have P1:PE (X.dw (jU X E)) xB (fun σ H Q=>∀x:Str,Q (.str x) H):=fun pins s σ H Q I q=>ha pins s σ H _ _ I trivial fun x t s' I' _=>⟨.str x,H,I',⟨t,rfl⟩,q x⟩
 refine(HC FB hh hm hc hg (cZ P1 fV he) he rfl hd).imp fun D σ H iz=>?_
 refine cN iz fun A st r q=>?_
 clear iz
 intro x
 exact⟨vM (by show 1<=100;decide),q σ H A r (.refl _)⟩
def R7:D->Option String
 | .cz=>some "NoneType" | .bl _=>some "bool" | .int _=>some "int" | .str _=>some "str" | .tup _=>some "tuple" | .lst _=>some "list" | .bU _ _=>none
theorem V8{pins:List (Addr×Obj)}{σ:L2.St}{H:Hp}{s:Shared}{d:D}{x:V}{u c:Value}{t:String}{b:Bool}{Q:Value->Shared->Prop}{Ex:Value->Shared->Prop}(I:L2.Inv X pins σ H s)(q:Rep X.K C H d x)(rx:RelV x u)(ht:R7 d=some t)(e:kitOne X.K (.type t) c=some b)(h:∀tk,Q (.bool b) { s with toks:=tk }) :
  wpAny (model X.prog X.w) X.A (call (.builtin "isinstance") [u,c]) Q Ex s:=by
 cases d with
 | cz=>rw[Rep] at q;subst q;cases ht;cases (show u=Value.none from rx);exact kia_one kitx_none I.Ao True.intro e (fun z=>nomatch z) h
 | bl y=>rw[Rep] at q;subst q;cases ht;cases (show u=Value.bool y from rx);exact kia_one kitx_bool I.Ao True.intro e (fun z=>nomatch z) h
 | int i=>rw[Rep] at q;subst q;cases ht;obtain ⟨t,q⟩:=(show ∃t,u=Value.int i t from rx);cases q;exact kia_one kitx_int I.Ao True.intro e (fun z=>nomatch z) h
 | str y=>rw[Rep] at q;subst q;cases ht;obtain ⟨t,q⟩:=(show ∃t,u=Value.str y t from rx);cases q;exact kia_one kitx_str I.Ao True.intro e (fun z=>nomatch z) h
 | tup ds=>
  rw[Rep] at q
  refine b8 q fun a xs aV h2 _=>?_
  clear q
  walk_at"#"
  cases ht
  cases (show u=Value.ref a from rx)
  refine bQ (I.tuple h2) fun bh _ aV _=>?_
  obtain ⟨o,h1,h3,_⟩:=aV
  exact kia_one kitx_tuple I.Ao ⟨o,h1,h3⟩ e (fun z=>nomatch z) h
 | lst ds=>
  refine b8 q.items fun a xs aV h2 _=>?_
  walk_at"#"
  cases ht
  cases (show u=Value.ref a from rx)
  refine bQ (I.list h2) fun bh _ aV _=>?_
  obtain ⟨o,n,h1,h3,_⟩:=aV
  exact kia_one kitx_list I.Ao ⟨o,h1,h3⟩ e (fun z=>nomatch z) h
 | bU _ _=>cases ht
def xE(R8:String->Option Bool):D->R D:=fun d=>match R7 d with | some t=>(match R8 t with | some b=>.ok (.bl b) | none=>.bad) | none=>.bad
theorem Iz{T:String}{tx:Str}{p1 p2:Pos}{R8:String->Option Bool}(ad5:∀t b,R8 t=some b->kitOne X.K (.type t) (.type T)=some b)(hm:X.mg "isinstance" =none)(hmT:X.mg tx=none)(hvT:bootBuiltins tx=some (.type T))(ha:PE X a (tD X.K C G0 Γ E fa aA))
  (hg:Gl X "isinstance":=by rfl) (hgT:Gl X tx:=by rfl) (WK:tx≠ "__name__":=by decide) (R3:(tx==("__debug__" : Str))=false:=by decide)
  (h1:starEach [a,Expr.Name tx p2] X.env=[(false,eval a X.env),(false,eval (.Name tx p2) X.env)]:=by rfl) (h2:starEach [Expr.Name tx p2] X.env=[(false,eval (.Name tx p2) X.env)]:=by rfl) :
  PE X (.Call (.Name "isinstance" p1) [a,.Name tx p2] [] pos) (tD X.K C G0 Γ E (rA (xE R8) fa) .new):=by
 have V9:nN X (.builtin "isinstance") (fun xs H Q=>∃x d t b,xs=[x,.ty T]/\Rep X.K C H d x/\R7 d=some t/\R8 t=some b/\Q (.bl b) H):=fun pins s σ H xs us Q I r lO=>by
  refine NH lO fun x d t b hx hr ht hb q=>?_
  clear lO
  subst hx
  refine b8 (vals2 r) fun u w' aV ru GL=>?_
  walk_at"#"
  cases (show w'=Value.type T from GL)
  exact V8 I hr ru ht (ad5 t b hb) fun tk=>⟨.bl b,H,I.tok _,rfl,q⟩
 have P2:PE X (.Name tx p2) (tC (.ty T)):=Km hgT hmT hvT rfl WK R3
 refine(cu V9 hg hm (by decide +kernel) (cZ ha (cZ P2 fV h2) (by rw[h1,h2])) (by decide) (by decide) (by rw[h1,h2]) (by rw[h2];rfl)).imp fun σ H Q qQ=>qQ.elim fun A DG=>DG.elim fun st EY=>EY.elim fun r q=>⟨A,st,r,?_⟩
 unfold rA R.bind at q
 cases hf:fa st with
 | bad=>rw[hf] at q;exact q
 | ex c p=>rw[hf] at q;exact q
 | ok d=>
  walk_at"1,"
  intro x H1 e1 w1
  unfold xE at q
  cases ht:R7 d with
  | none=>rw[ht] at q;exact q.elim
  | some t=>
   rw[ht] at q
   walk_at","
   cases hb:R8 t with
   | none=>rw[hb] at q;exact q.elim
   | some b=>
    rw[hb] at q
    exact⟨x,d,t,b,rfl,w1.rep,ht,hb,q _ H1 e1 (.flat r e1 (by rw[eX] <;> simp) zu _)⟩
end
end Dm
end ad4
section ad6
namespace Dm
open PySem PySem.Spec PyProof.Rows L2 PySem.W
theorem ah{X:Cx}{C:Cfg}{G0:Hp}{Γ:List SK}{E:L2.St->XK}{e:Expr}(i:Nat)(h:PE X e (lI i))(hk:Γ[i]?=some .par:=by rfl):PE X e (tD X.K C G0 Γ E (ak i) .old):=zp i h hk
theorem d7{X:Cx}{C:Cfg}{G0:Hp}{Γ:List SK}{E:L2.St->XK}{e:Expr}(i:Nat)(h:PE X e (lI i))(hk:Γ[i]?=some .loc:=by rfl):PE X e (tD X.K C G0 Γ E (ak i) .loc):=zp i h hk
theorem ef{X:Cx}{C:Cfg}{G0:Hp}{Γ:List SK}{E:L2.St->XK}{e:Expr}(i:Nat)(h:PE X e (lI i))(hk:Γ[i]?=some (.own true):=by rfl):PE X e (tD X.K C G0 Γ E (ak i) .kQ):=zp i h hk
theorem bw{X:Cx}{C:Cfg}{G0:Hp}{Γ:List SK}{E:L2.St->XK}{a b:Expr}{fa fb:DF}{aA bC:Kd}{pos:Pos}(ha:PE X a (tD X.K C G0 Γ E fa aA))(hb:PE X b (tD X.K C G0 Γ E fb bC))(hs:rf b)(hk:aA.item = .old:=by rfl):PE X (.Subscript a b pos) (tD X.K C G0 Γ E (aQ cQ fa fb) .old):=hk▸HU ha hb hs
theorem vY{X:Cx}{C:Cfg}{G0:Hp}{Γ:List SK}{E:L2.St->XK}{a b:Expr}{fa fb:DF}{aA bC:Kd}{pos:Pos}(ha:PE X a (tD X.K C G0 Γ E fa aA))(hb:PE X b (tD X.K C G0 Γ E fb bC))(hs:rf b)(hk:aA.item = .aF:=by rfl):PE X (.Subscript a b pos) (tD X.K C G0 Γ E (aQ cQ fa fb) .aF):=hk▸HU ha hb hs
theorem rL{X:Cx}{Cb:Addr}{G0:Hp}{Γ:List SK}{E:L2.St->XK}{a:Expr}{fa:DF}{aA:Kd}{pos:Pos}(hC:GX X.K Cb)(hA:jg X.K Cb "cells")(ha:PE X a (tD X.K (aU Cb) G0 Γ E fa aA))(hb:attributeBase a ("cells" : Str) X.env (eval a X.env)=eval a X.env:=by rfl)(hk:aA.item = .old:=by rfl):PE X (.Attribute a "cells" pos) (tD X.K (aU Cb) G0 Γ E (rA d9 fa) .old):=hk▸Iv hC hA ha hb
def rM(K:Frag)(mg:Str->Option Value)(x qual:Str)(st:Stmt)(ps:List Str):Prop:=∃a fd,Hj K x qual st a fd/\mg x=some (.ref a)/\Binds K fd ps []
def Lm(n:Nat)(P:List Value->Prop):Prop:=match n with | 0=>P [] | n+1=>∀u,Lm n fun us=>P (u::us)
theorem fP{n:Nat}{P:List Value->Prop}(h:Lm n P){us:List Value}(hl:us.length=n):P us:=by
 subst hl
 induction us generalizing P with
 | nil=>exact h
 | cons u us ih=>exact ih (h u)
theorem yp{K:Frag}{x qual:Str}{st:Stmt}{f:Addr}{fd:FuncData}{ps:List Str}(F:Hj K x qual st f fd)(h:∀(kV doc pm:Value) (an:Option Addr) (dU ct:Value),Lm ps.length fun us=>bindArgs (PySem.W.fnOf x qual (bq st) (bf st) (az st) .none kV doc pm an dU ct) ⟨us,[]⟩=pure (ps.zip us)):Binds K fd ps []:=F.binds fun kV doc pm an dU ct us hl=>fP (h kV doc pm an dU ct) hl
theorem cA{K:Frag}{h:Heap}{mg:Str->Option Value}{x:Str}{st:Stmt}{ps:List Str}{f:Addr}{oc:Value}{od an:Option Addr}{G4:Array (Option Value)}{kV doc pm dU ct:Value}(X:K.In h)(G:h.Ns mainGlobals mg)(a:nsIn K mainGlobals x=some (some (.ref f)))(l:K.lookup f=some ⟨oc,od,.func (PySem.W.fnOf x x (bq st) (bf st) (az st) .none kV doc pm an dU ct),G4⟩)
  (c:PySem.W.codeIn K dU x=true) (k:PySem.W.keepIn K (.ref f)=true) (hb:∀(kV doc pm:Value) (an:Option Addr) (dU ct:Value),Lm ps.length fun us=>bindArgs (PySem.W.fnOf x x (bq st) (bf st) (az st) .none kV doc pm an dU ct) ⟨us,[]⟩=pure (ps.zip us)):rM K mg x x st ps:=
 ⟨_,_,yZ (st:=st) l c k,mg_of X G a,yp (yZ (st:=st) l c k) hb⟩
structure FD(P:Program)(w:World)(K:Frag)(mg:Str->Option Value)(base:Heap)(C:Cfg)(k:Nat)(x:Str)(ps:List Str)(n:Nat)(F:List D->R D)(κ:Bool):Prop where
 ex:∃a fd,iQ P w K mg base (pK P w) k a fd ps (WL K C n F κ)/\mg x=some (.ref a)/\keepIn K (.ref a)=true/\Binds K fd ps []/\∃o,K.lookup a=some o/\o.data = .func fd
theorem B9{K:Frag}{x qual:Str}{st:Stmt}{a:Addr}{fd:FuncData}(F:Hj K x qual st a fd):∃o,K.lookup a=some o/\o.data = .func fd:=by
 refine NI F.ex fun oc od kV doc pm an dU ct G4 e lk C0=>?_
 exact⟨_,lk,rfl⟩
theorem dQ{P:Program}{w:World}{K:Frag}{mg:Str->Option Value}{base:Heap}{C:Cfg}{x qual:Str}{st:Stmt}{N ps:List Str}{Γ:List SK}{k n:Nat}{fL:Bool}{Fb:DS}(T:rM K mg x qual st ps)(S:br N ps (az st))(hn:ps.length=n)(AG:∀i,i < n->Γ[i]?=some .par)
  (body:∀(f:Addr) (dU:Value) (A:Around) (outer:List Env) (s:Shared) (H:Hp) (E:XK),i6 k (A.deeper (envOfC qual (az st) s.heap.objs.size f dU))->
   sP ((pT (pK P w) P w K mg base N qual (az st) f dU A outer s H E).dw (jU (pT (pK P w) P w K mg base N qual (az st) f dU A outer s H E) fun _=>E)) (bf st) (nX K C H Γ (fun _=>E) fL Fb)) :
  FD P w K mg base C (k+1) x ps n (bP N.length Fb) fL:=by
 refine b8 T fun a fd Fu hm hb=>?_
 clear T
 exact⟨a,fd,P4 Fu S hn AG (body a),hm,Fu.kp,hb,B9 Fu⟩
theorem aJ{X:Cx}{C:Cfg}{G0:Hp}{Γ:List SK}{E:L2.St->XK}{e:Expr}{es:List Expr}{fs:DA}{κ:Kd}{pos p:Pos}{x:Str}{k j n:Nat}{ps:List Str}{F:List D->R D}{xq:Bool}{Va:Kd}(Fn:FD X.prog X.w X.K X.mg X.base C k x ps n F xq)(hr:i6 j X.A)(hj:k<=j)
  (ha:PA (X.dw (jU X E)) (e::es) (G9 X.K C G0 Γ E fs κ)) (hlen:∀st ds,fs st = .ok ds->ds.length=n) (Vb:I8 xq=Va:=by rfl) (hg:Gl X x:=by rfl) (EL:(x==("__debug__" : Str))=false:=by decide) (he:starEach (e::es) X.env=(false,eval e X.env)::starEach es X.env:=by rfl) (v7:(backTo pos (starEach es X.env)).any (·.1)=false:=by rfl) :
  PE (X.dw (jU X E)) (.Call (.Name x p) (e::es) [] pos) (tD X.K C G0 Γ E (bz F fs) Va):=by
 refine En Fn.ex fun a fd h1 h2 h3 h4 _=>?_
 subst Vb
 exact L7 h1 (hr.mono hj) h2 h3 h4 ha hlen hg EL he v7
theorem qA{cl cs:List (Str×Addr)}(h:∀p∈cl,cs.lookup p.1=some p.2):∀x c,cl.lookup x=some c->cs.lookup x=some c:=fun x c e=>by
 induction cl with
 | nil=>cases e
 | cons p cl ih=>
  obtain ⟨n,a⟩:=p
  rw[List.lookup_cons] at e
  by_cases hx:(x==n)=true
  ·rw[hx] at e
   cases e
   rw[beq_iff_eq.mp hx]
   exact h (n,c) (.head _)
  ·rw[Bool.not_eq_true] at hx
   rw[hx] at e
   exact ih (fun q m=>h q (.tail _ m)) e
theorem lookup_mem{β:Type}{x:Str}{k:β}:∀{names:List (Str×β)},names.lookup x=some k->(x,k)∈names
 | [],e=>by cases e
 | (n,k')::ns,e=>by
  rw[List.lookup_cons] at e
  by_cases hx:(x==n)=true
  ·rw[hx] at e
   cases e
   rw[beq_iff_eq.mp hx];exact .head _
  ·rw[Bool.not_eq_true] at hx
   rw[hx] at e
   exact .tail _ (lookup_mem e)
theorem lZ{names:List (Str×NameKind)}{cl:List (Str×Addr)}(h:(names.all fun p=>(p.2 != .cell&&p.2 != .free) || (cl.lookup p.1).isSome)=true):∀x,(names.lookup x=some .cell\/names.lookup x=some .free)->∃c,cl.lookup x=some c:=fun x e=>by
 have go:∀{k:NameKind},names.lookup x=some k->(k != .cell&&k != .free)=false->∃c,cl.lookup x=some c:=fun {k} e hk=>by
  have:=List.all_eq_true.mp h _ (lookup_mem e)
  dsimp only at this
  rw[hk,Bool.false_or] at this
  exact Option.isSome_iff_exists.mp this
 rcases e with e | e
 ·exact go e rfl
 ·exact go e rfl
theorem rN{X:Cx}{C:Cfg}{G0:Hp}{Γ:List SK}{E:L2.St->XK}{tg iter elt:Expr}{ifs:List Expr}{scope:Scope}{cl:List (Str×Addr)}{pos:Pos}{g:TG}{bind:DB}{gi:DI}{ft fe:DF}{ua xq:Kd}{n z:Bool}{fM:List Str}{caps:List (Nat×Str)}{kk:Nat}{fr:List Nat}
  (CM:PI X tg iter (Lg X.K C G0 Γ E z gi)) (b:Io X C G0 Γ tg elt ifs scope cl g bind ft fe ua n z fM caps) (hs:∀x,foldedSetIterable iter X.env x=pure x:=by intro _;rfl) (hk:vW z n=xq:=by rfl) (h1:fM.length=kk:=by rfl) (h2:caps.map (·.1)=fr:=by rfl) :
  PE X (.ListComp elt [⟨tg,iter,ifs,0⟩] scope pos) (tD X.K C G0 Γ E (iG gi kk fr bind ft fe) xq):=by
 subst hk;subst h1;subst h2
 exact Lh CM b hs
theorem vZ{X:Cx}{C:Cfg}{G0:Hp}{Γ:List SK}{E:L2.St->XK}{fL:Bool}{tg iter elt:Expr}{ifs:List Expr}{scope:Scope}{cl:List (Str×Addr)}{pos:Pos}{g:TG}{bind:DB}{gi:DI}{ft fe:DF}{ua:Kd}{n z:Bool}{fM:List Str}{caps:List (Nat×Str)}{kk:Nat}{fr:List Nat}
  {i:Nat} {k:SK} {x:Str} {pos' Iq:Pos} (hN:X.N.Nodup) (CM:PI X tg iter (Lg X.K C G0 Γ E z gi)) (b:Io X C G0 Γ tg elt ifs scope cl g bind ft fe ua n z fM caps) (hk:Γ[i]?=some k:=by rfl) (hl:k.takes (vW z n)=true:=by rfl) (hi:X.N[i]?=some x:=by rfl) (hx:X.env.scope.names.lookup x=some .local:=by rfl)
  (hsw:swapsWith (.ListComp elt [⟨tg,iter,ifs,0⟩] scope pos) (some (.Name x pos')) Iq.line X.env=pure true:=by rfl) (hs:∀x,foldedSetIterable iter X.env x=pure x:=by intro _;rfl) (h1:fM.length=kk:=by rfl) (h2:caps.map (·.1)=fr:=by rfl) :
  PS X (.Assign [.Name x pos'] (.ListComp elt [⟨tg,iter,ifs,0⟩] scope pos) Iq) (nX X.K C G0 Γ E fL (bO i (iG gi kk fr bind ft fe))):=by
 subst h1;subst h2
 exact Li hN CM b hk hl hi hx hsw hs
end Dm
end ad6
section ad7
namespace Dm
open PySem PySem.Spec PyProof.Rows L2
def Ite(K:PySem.W.Frag)(a:Addr):It:=
 ⟨fun i H=>∃xs x,jJ K H a xs/\xs[i]?=some x,fun i H x H'=>∃T y,H T=none/\H'=upd H T (.tup [.int i,y])/\x = .ref T/\∀xs,jJ K H a xs->xs[i]?=some y,fun i H=>∃xs,jJ K H a xs/\xs.length<=i⟩
theorem Fo{P:Program}{w:World}{K:PySem.W.Frag}{elts:List Expr}{x1}{pos:Pos}(a e it:Addr)(hei:e≠it):Turn P w K (.Tuple elts x1 pos) (Ite K a) [e,it] e (fun i h=>(∃old,IsEnum h e it i old)/\h.IsListIter it a i) where
 mem:=by simp
 obj:=fun i h st b hb=>by
  obtain ⟨⟨old,he⟩,o,ho,c,d⟩:=st
  rcases List.mem_cons.mp hb with rfl | hb
  ·exact⟨_,he,fun v z=>by cases z⟩
  ·obtain rfl:b=it:=by simpa using hb
   exact⟨o,ho,fun v z=>by rw[d] at z;cases z⟩
 keep:=fun i h h' st k=>⟨st.1.imp fun old he=>k e (by simp) _ he,st.2.at fun o z=>k it (by simp) o z⟩
 item:=by
  walk_at"B"
  subst hP hw hK
  obtain ⟨⟨old,he⟩,hit⟩:=st
  refine cN hg fun xs x hq hx=>?_
  clear hg
  refine bQ (I.list hq) fun bh rv p hz=>?_
  refine aN (rv.get hx) fun u hu ru=>?_
  have fe:=hf e (by simp)
  have fi:=hf it (by simp)
  have hn:H s.heap.objs.size=none:=I.dS.fresh (Nat.le_refl _)
  refine wpAny_pyNext_enum_item he hit p.isList (x:=u) (by simpa using hu) hei fun h' ho Pj hT hsz hk=>⟨_,rfl,?_⟩
  have kp:∀b o,b∉[e,it]->s.heap.get? b=some o->h'.get? b=some o:=fun b o hb q=>hk b o (fun z=>hb (by simp[z])) (fun z=>hb (by simp[z])) q
  have lt:∀b o,s.heap.get? b=some o->b≠s.heap.objs.size:=fun b o q=>Nat.ne_of_lt (Heap.lt_size q)
  have I1:L2.Inv X pins σ (upd H s.heap.objs.size (.tup [.int i,x])) { s with heap:=h',toks:=s.toks+1 }:=by
   refine Inv.As I (s':={ s with heap:=h',toks:=s.toks+1 }) (ch:=[e,it]) rfl ⟨fun b o q n nf nx=>kp b o nx q,fun b o q n nf nx=>⟨o.slots,kp b o nx q⟩,fun b o q n nx=>?_,fun b o q nx=>⟨o,kp b o nx q⟩,fun b ys q=>?_,fun b o u' q=>?_,fun b ps q=>⟨#[],?_⟩⟩ (fun b o q=>?_) I.bare (fun b hb=>?_)
   ·rw[aY (lt b o q)];exact n
   ·rw[aY (bI q hn)];exact q
   ·rw[aY (bI q hn)];exact q
   ·rw[aY (bI q hn),q];simp
   ·by_cases hb:b=s.heap.objs.size
    ·subst hb
     rw[bM] at q;cases q
     exact⟨by simp only[List.length_cons,List.length_nil];rw[sizeLine_eq];decide,[.int i s.toks,u],.cons ⟨_,rfl⟩ (.cons ru .nil),⟨_,hT,rfl,0,rfl⟩⟩
    ·rw[aY hb] at q
     refine(I.dS b o q).yQ (fun c v uy z=>kp c v ?_ z) (fun c z=>by rw[aY (bI z hn)];exact z) fun c ys z=>by rw[aY (bI z hn)];exact z
     intro hm
     rcases List.mem_cons.mp hm with rfl | hm
     ·rcases uy with rfl | uy
      ·rw[fe.1] at q;cases q
      ·rw[fe.1] at uy;cases uy
     ·obtain rfl:c=it:=by simpa using hm
      rcases uy with rfl | uy
      ·rw[fi.1] at q;cases q
      ·rw[fi.1] at uy;cases uy
   ·refine uw (hf b hb) fun f0 f1 f2 f3 f4 f5=>?_
    exact⟨f3,f1,f4,f5⟩
  have ne:e≠s.heap.objs.size:=lt e _ he
  have ni:it≠s.heap.objs.size:=by obtain ⟨o,z,_⟩:=hit;exact lt it _ z
  refine uw fe fun f0 f1 f2 f3 f4 f5=>?_
  clear fe
  refine wpAny_letOwnedTupleGo_enum ho fun h2 he2 Oo=>?_
  have I2:L2.Inv X pins σ (upd H s.heap.objs.size (.tup [.int i,x])) { s with heap:=h2,toks:=s.toks+1 }:=I1.turned (t':=s.toks+1) (fun b o hb q=>(Oo.2 b hb).trans q) (by rw[aY ne];exact f0) f1 f3 f4 f5
  refine⟨.ref s.heap.objs.size,_,I2,rfl,⟨_,x,hn,rfl,rfl,fun ys hy=>by rw[I.vh hy hq];exact hx⟩,⟨⟨u,by simpa using he2⟩,Pj.at fun o z=>(Oo.2 it (Ne.symm hei)).trans z⟩,fun b hb=>?_⟩
  rcases List.mem_cons.mp hb with rfl | hb
  ·rw[aY ne];exact f0
  ·obtain rfl:b=it:=by simpa using hb
   rw[aY ni];exact fi.1
 done:=by
  walk_at"B"
  subst hP hw hK
  obtain ⟨⟨old,he⟩,hit⟩:=st
  refine aN hg fun xs hq hx=>?_
  clear hg
  refine bQ (I.list hq) fun bh rv p hz=>?_
  walk_at"G"
  have hl:=rv.length
  exact wpAny_pyNext_enum_end (I.ok.hd hc) he hit p.isList (Array.getElem?_eq_none (by simp;lia)) fun h' eb=>⟨rfl,I.turned (t':=s.toks) (fun b o hb e=>eb b o hb e) f0 f1 f3 f4 f5⟩
 self:=fun _ _ _ _ _ st h=>by
  obtain ⟨⟨old,he⟩,_⟩:=st
  exact wpAny_pyIter_enum he h
def iEn(K:PySem.W.Frag)(ta:TA):TI:=fun σ H R=>ta σ H fun vs H1=>∃a,vs=[.ref a]/\(∃xs,jJ K H1 a xs)/\R (Ite K a) H1
theorem Fp:bootBuiltins "enumerate" =some (.type "enumerate"):=by decide +kernel
section
variable {X:Cx}{C:Cfg}{G0:Hp}{Γ:List SK}{E:L2.St->XK}{iter elt a tg:Expr}{f:DF}{fs:DA}{κ:Kd}{pos:Pos}{z:Bool}{elts:List Expr}{x1:Nat}{F:DS}{fL:Bool}{ss:List Stmt}
theorem Ln{p pos tp:Pos}{ta:TA}(hg:Gl X "enumerate")(hm:X.mg "enumerate" =none)(ha:PA X [a] ta)(hs:starEach [a] X.env=[(false,eval a X.env)]:=by rfl):PI X (.Tuple elts x1 tp) (.Call (.Name "enumerate" p) [a] [] pos) (iEn X.K ta):=by
 intro pins s σ H R I h
 refine Call_ (vg I hg hm Fp (PyProof.Rows.callWith_type1 (fH (ha pos pins s σ H _ I h) fun us s1 iz=>?_) hs rfl))
 refine b8 iz fun vs H1 I1 r1 q1=>?_
 clear iz
 refine bQ q1 fun a e aV q=>?_
 clear q1
 obtain ⟨xs,hq⟩:=aV
 subst e
 cases r1 with
 | cons r rr=>
  cases rr
  cases r
  refine bQ (I1.list hq) fun bh rv p hz=>?_
  refine call_enumerate_list p.isList fun h' he hit hsz hk=>wpAny_pyIter_enum he ?_
  have I2:L2.Inv X pins σ H1 { s1 with heap:=h' }:=I1.kept (t':=s1.toks) hk
  refine⟨s1.heap.objs.size+1,[s1.heap.objs.size+1,s1.heap.objs.size],_,_,H1,rfl,I2,Fo a _ _ (Nat.succ_ne_self _),⟨⟨.none,he⟩,hit⟩,fun b hb=>?_,q⟩
  have xS:s1.heap.objs.size<=b:=by
   rcases List.mem_cons.mp hb with rfl | hb
   ·exact Nat.le_succ _
   ·obtain rfl:b=s1.heap.objs.size:=by simpa using hb
    exact Nat.le_refl _
  exact I1.GO xS (I1.dS.fresh xS)
def Vc(ds:List D):List D:=ds.mapIdx fun i d=>.tup [.int i,d]
def Lo(f:DF):DI:=fun st=>match f st with | .ok (.lst ds)=>.ok (Vc ds) | .ok _=>.bad | .ex c p=>.ex c p | .bad=>.bad
theorem Lp{p tp:Pos}(hm:X.mg "enumerate" =none)(ha:PE X a (tD X.K C G0 Γ E f κ))(l:z=true->κ.le .old=true)(hgl:Gl X "enumerate":=by rfl)(WM:starEach [a] X.env=[(false,eval a X.env)]:=by rfl):PI X (.Tuple elts x1 tp) (.Call (.Name "enumerate" p) [a] [] pos) (Lg X.K C G0 Γ E z (Lo f)):=(Ln hgl hm (cZ ha fV WM) WM).imp fun σ H Q zz=>by
 walk_at"024"
 unfold Lo at q
 cases hf:f st with
 | bad=>rw[hf] at q;exact q
 | ex c p=>rw[hf] at q;exact q
 | ok d=>
  walk_at"1"
  cases d with
  | lst ds=>
   walk_at","
   intro v H1 e1 w
   have w':Rep X.K C (er H1 (zB z A)) (.lst ds) v:=by
    unfold zB
    cases z with
    | true=>exact w.le r e1 (κ':=.old) (l rfl)
    | false=>rw[if_neg (by decide),lT];exact w.rep
   rw[Rep] at w'
   refine b8 w' fun a xs aV h2 h3=>?_
   clear w'
   walk_at"#"
   refine⟨a,rfl,⟨xs,(aH _ _).seq h2⟩,q _ _ e1 fun i H3 A3 e3 nA=>⟨fun d hd=>?_,fun hd=>?_⟩⟩
   ·unfold Vc at hd
    rw[List.getElem?_mapIdx] at hd
    cases Ab:ds[i]? with
    | none=>rw[Ab] at hd;cases hd
    | some d0=>
     rw[Ab] at hd;cases hd
     refine aN (h3.get' Ab) fun v hv rv=>?_
     have s3:jJ X.K H3 a xs:=(e3.trans (aH _ _)).seq h2
     refine⟨⟨xs,v,s3,hv⟩,fun x H' lO=>?_⟩
     refine ux lO fun T y hT hH ex hx=>?_
     clear lO
     subst hH ex
     have:=hx xs s3
     rw[hv] at this;cases this
     have nT:T∉A3:=fun m=>nA T m hT
     refine⟨c6 hT,?_⟩
     have up:aG (er H3 A3) (er (upd H3 T (.tup [.int i,v])) A3):=aD (c6 hT)
     rw[Rep]
     refine⟨T,_,rfl,.inl (.inl (by rw[aW nT,bM])),?_⟩
     rw[aM]
     refine⟨.int i,[v],rfl,xC,?_⟩
     rw[aM]
     refine⟨v,[],rfl,rv.same ((aH _ _).trans (e3.trans up)) _,?_⟩
     rw[aM]
   ·unfold Vc at hd
    rw[List.getElem?_mapIdx] at hd
    refine⟨xs,(e3.trans (aH _ _)).seq h2,by rw[h3.len];exact List.getElem?_eq_none_iff.mp (by cases Ab:ds[i]? with | none=>rfl | some d=>rw[Ab] at hd;cases hd)⟩
  | _=>exact q.elim
theorem Lq{bind:DB}{g:TG}{gi:DI}(hp:PassesOwn (model X.prog X.w) X.A X.env X.xe)(hc:X.calm=true)(hI:PI X tg iter (Lg X.K C G0 Γ E true gi))(hg:PG X tg g)(hB:qc X.K C G0 Γ g bind)(hb:sP X ss (nX X.K C G0 Γ E fL F))(hs:∀x,foldedSetIterable iter X.env x=pure x:=by intro _;rfl) :
  PS X (.For tg iter ss [] pos) (nX X.K C G0 Γ E fL (dZ gi bind F)):=(Ci hp hc hI hg hb hs).imp fun D σ H zz=>by
 walk_at"024"
 unfold dZ at q
 cases hg:gi st with
 | bad=>rw[hg] at q;exact q.elim
 | ex c p=>rw[hg] at q;exact fun H' e'=>q σ H' A (r.mono e') (aD e')
 | ok ds=>
  rw[hg] at q
  intro J H1 e1 hJ
  exact sZ hB hJ r e1 q
end
end Dm
end ad7
section ad8
namespace Dm
open PySem PySem.Spec PyProof.Rows L2 PySem.W
def Pn:DS:=fun _=>.bad
section
variable {X:Cx}{C:Cfg}{G0:Hp}{Γ:List SK}{E:L2.St->XK}{fL:Bool}{ss:List Stmt}{a b e:Expr}{fa fb:DF}{aA bC κ:Kd}{pos:Pos}{Cb:Addr}
theorem DM:sP X ss (nX X.K C G0 Γ E fL Pn):=fun pins s σ H D I iz=>iz.elim fun A lO=>lO.elim fun st qQ=>qQ.elim fun r q=>q.elim
def ax6:D->D->R D:=fun a b=>match a,b with
 | .lst ds,.int k=>if (cT ds&&decide (0<=k)&&decide (k < 1000)&&decide (ds.length * k.toNat<=1000))=true then .ok (.lst (List.replicate k.toNat ds).flatten) else .bad
 | _,_=>.bad
def t8:List D->R D:=fun ds=>match ds with | [.int i]=>.ok (.int (if i < 0 then -i else i)) | _=>.bad
theorem IA:bootBuiltins "abs" =some (.builtin "abs"):=by decide +kernel
theorem rO:bootBuiltins "tuple" =some (.type "tuple"):=by decide +kernel
theorem DN{K:Frag}:OY K C (fun xs H Q=>∃i,xs=[.int i]/\Q (.int (if i < 0 then -i else i)) H) t8 .new:=fun G0 Γ E σ A st H ds xs Q r w q=>by
 unfold t8 at q
 split at q
 ·rename_i z
  split at z
  ·rename_i i
   cases z
   walk_at"N8"
   rw[Rep] at w1
   subst w1
   exact⟨i,rfl,q _ H (.refl _) (.flat r (.refl _) (by rw[eX] <;> simp) xC _)⟩
  ·cases z
 ·rename_i z;split at z <;> cases z
 ·exact q.elim
def isI:D->Bool | .int _=>true | _=>false
def Vd:D->Bool | .tup (.int _::_)=>true | _=>false
def Ve:D->Bool | .tup (.tup _::_)=>true | _=>false
def qf(ds:List D):Bool:=decide (ds.length < 64)&&cT ds&&ds.all (fun d=>nl d&&decide (dep d<=50))&&ds.all (fun a=>ds.all fun b=>f7 a b)&&(ds.all isI || ds.all Vd || ds.all Ve)
theorem IB{ds:List D}(h:qf ds=true):vG ds:=by
 unfold qf at h
 simp only[Bool.and_eq_true,Bool.or_eq_true,decide_eq_true_eq,List.all_eq_true] at h
 obtain ⟨⟨⟨⟨h1,h2⟩,h3⟩,h4⟩,h5⟩:=h
 refine⟨?_,h1,fun a ha b hb=>h4 a ha b hb,fun a ha=>(h3 a ha).1,fun a ha=>(h3 a ha).2⟩
 rcases h5 with (h5 | h5) | h5
 ·exact⟨_,.nums fun d hd=>by have:=h5 d hd;unfold isI at this;split at this;exact⟨_,rfl⟩;cases this⟩
 ·exact⟨_,.qv fun d hd=>by have:=h5 d hd;unfold Vd at this;split at this;exact⟨_,_,rfl⟩;cases this⟩
 ·exact⟨_,.OH fun d hd=>by have:=h5 d hd;unfold Ve at this;split at this;exact⟨_,_,rfl⟩;cases this⟩
def eo:List D->R D:=fun ds=>match ds with
 | [.lst es]=>if qf es=true then .ok (.lst (eY es)) else .bad
 | _=>.bad
theorem pM{K:Frag}:OY K C (Hz K C) eo .new:=fun G0 Γ E σ A st H ds xs Q r w q=>by
 cases hg:eo ds with
 | bad=>rw[hg] at q;exact q.elim
 | ex c p=>unfold eo at hg;split at hg <;> (try split at hg) <;> cases hg
 | ok d=>
  rw[hg] at q
  unfold eo at hg
  split at hg
  ·rename_i es
   split at hg
   ·rename_i hc
    cases hg
    walk_at"N8"
    have n:cT es=true:=by unfold qf at hc;simp only[Bool.and_eq_true] at hc;exact hc.1.1.1.2
    refine⟨v,es,rfl,w1,IB hc,fun p ws hp GL=>q _ _ (c6 hp) (.lst r (.refl _) hp (GL.part (.nw (.refl _)) _ ?_))⟩
    exact eZ fun d hd=>jk n ((dD es).mem_iff.mp hd)
   ·cases hg
  ·cases hg
end
end Dm
end ad8
section ad9
namespace Dm
open PySem PySem.Spec PyProof.Rows L2 PySem.W
theorem Po{K:Frag}{a b:String}{r:Bool}(h0:(Value.type a==Value.type b)=false)(h1:kitMeta b=true)(h2:(fastBuiltinMro a).map (·.contains (.type b))=some r):kitOne K (.type a) (.type b)=some r:=by
 unfold kitOne
 rw[if_neg (by rw[h0];exact Bool.false_ne_true)]
 unfold kitCls
 dsimp only
 rw[if_pos h1]
 exact h2
section
variable {X:Cx}{C:Cfg}{G0:Hp}{Γ:List SK}{E:L2.St->XK}{fL:Bool}{ss:List Stmt}{a b e iter tg:Expr}{f fa fb:DF}{aA bC κ:Kd}{pos:Pos}{Cb:Addr}{z:Bool}
def ie:List D->R D:=fun ds=>match ds with | [.lst es]=>if cT es=true then .ok (.tup es) else .bad | _=>.bad
theorem pN{K:Frag}:OY K C (fun xs H Q=>∃p ys,xs=[.ref p]/\((jJ K H p ys/\∀l,H l=none->Q (.ref l) (upd H l (.tup ys)))\/(kT K H p ys/\Q (.ref p) H))) ie .new:=fun G0 Γ E σ A st H ds xs Q r w q=>by
 unfold ie at q
 split at q
 ·rename_i zz
  split at zz
  ·rename_i es
   split at zz
   ·rename_i n
    cases zz
    walk_at"N8"
    refine b8 w1.items fun p ys aV s t=>?_
    walk_at"#"
    refine⟨p,ys,rfl,.inl ⟨s,fun l hl=>q _ _ (c6 hl) (.flat r (c6 hl) (by rw[eX];exact n) ?_ _)⟩⟩
    rw[Rep]
    exact⟨l,ys,rfl,.inl (.inl bM),t.same (c6 hl) _⟩
   ·cases zz
  ·cases zz
 ·rename_i zz
  split at zz
  ·split at zz <;> cases zz
  ·cases zz
 ·exact q.elim
def WW(f:DF):DI:=fun st=>match f st with | .ok (.tup ds)=>.ok ds | .ok _=>.bad | .ex c p=>.ex c p | .bad=>.bad
theorem Pp(he:PE X iter (tD X.K C G0 Γ E f κ))(l:z=true->κ.le .old=true):PI X tg iter (Lg X.K C G0 Γ E z (WW f)):=(Oh he).imp fun σ H Q zz=>by
 walk_at"024"
 unfold WW at q
 cases hf:f st with
 | bad=>rw[hf] at q;exact q
 | ex c p=>rw[hf] at q;exact q
 | ok d=>
  walk_at"1"
  cases d with
  | tup ds=>
   walk_at","
   intro v H1 e1 w
   have w':Rep X.K C (er H1 (zB z A)) (.tup ds) v:=by
    unfold zB
    cases z with
    | true=>exact w.le r e1 (κ':=.old) (l rfl)
    | false=>rw[if_neg (by decide),lT];exact w.rep
   rw[Rep] at w'
   refine b8 w' fun a xs aV h2 h3=>?_
   clear w'
   walk_at"#"
   have sq:∀{F F':Hp},aG F F'->kT X.K F a xs->kT X.K F' a xs:=fun e h=>aG.tup e h
   refine⟨a,rfl,⟨xs,sq (aH _ _) h2⟩,q _ _ e1 fun i H3 A3 e3 _=>⟨fun d hd=>?_,fun hd=>?_⟩⟩
   ·refine aN (h3.get' hd) fun v hv rv=>?_
    have s3:kT X.K H3 a xs:=sq (e3.trans (aH _ _)) h2
    refine⟨⟨xs,v,s3,hv⟩,fun x H' iz=>?_⟩
    obtain ⟨hH,hx⟩:=iz
    subst hH
    have:=hx xs s3
    rw[hv] at this;cases this
    exact⟨.refl _,rv.same e3 _⟩
   ·exact⟨xs,sq (e3.trans (aH _ _)) h2,by rw[h3.len];exact List.getElem?_eq_none_iff.mp hd⟩
  | _=>exact q.elim
end
end Dm
end ad9
section ae0
namespace Dm
open PySem PySem.Spec PyProof.Rows L2
def cellsOf:List D->Option (List (Int×Int))
 | []=>some []
 | .tup [.int r,.int c]::ds=>(cellsOf ds).map ((r,c) :: ·)
 | _=>none
def intsOf:List D->Option (List Int)
 | []=>some []
 | .int i::ds=>(intsOf ds).map (i :: ·)
 | _=>none
section
variable {K:PySem.W.Frag}{C:Cfg}{H:Hp}
theorem yq:∀{ds:List D} {cs:List Int},intsOf ds=some cs->ds=cs.map D.int
 | [],cs,h=>by cases h;rfl
 | .int r::ds,cs,h=>by
  rw[intsOf] at h
  refine aN (Option.map_eq_some_iff.mp h) fun cs' h1 aV=>?_
  walk_at"#"
  rw[yq h1];rfl
theorem yr:∀{ns:List Int} {vs:List V},aM K C H (ns.map D.int) vs->vs=ns.map V.int
 | [],_,h=>by rw[List.map_nil,aM] at h;exact h
 | n::ns,_,h=>by
  rw[List.map_cons,aM] at h
  refine b8 h fun v r aV q t=>?_
  clear h
  walk_at"#"
  rw[Rep] at q
  subst q
  rw[yr t];rfl
end
section
variable {X:Cx}{Cb:Addr}{G0:Hp}{Γ:List SK}{E:L2.St->XK}{a b:Expr}{fa fb:DF}{aA bC:Kd}{pos ad1 p1 p2:Pos}
end
end Dm
end ae0
section Vf
namespace Dm
open PySem PySem.Spec PyProof.Rows L2
def Ba:D->Option (List Int) | .tup ds=>intsOf ds | _=>none
def k6:List D->Option (List (List Int))
 | []=>some []
 | d::ds=>match Ba d,k6 ds with | some a,some r=>some (a::r) | _,_=>none
def t9:D->Option (List (List Int)) | .tup ds=>k6 ds | _=>none
def eu:List D->Option (List (List (List Int)×D×D))
 | []=>some []
 | k::v::r=>match t9 k,eu r with | some a,some l=>some ((a,k,v)::l) | _,_=>none
 | _=>none
section
variable {K:PySem.W.Frag}{C:Cfg}{H:Hp}
theorem Bb{d:D}{a:List Int}(h:Ba d=some a):d = .tup (a.map D.int):=by
 cases d with
 | tup ds=>rw[Ba] at h;rw[yq h]
 | _=>cases h
theorem uc:∀{ds:List D} {ks:List (List Int)} {xs:List V},k6 ds=some ks->aM K C H ds xs->∃cs:List Addr,xs=cs.map V.ref/\cs.length=ks.length/\∀z∈ks.zip cs,kT K H z.2 (z.1.map V.int)
 | [],ks,xs,h,q=>by cases h;rw[aM] at q;subst q;exact⟨[],rfl,rfl,fun z m=>nomatch m⟩
 | d::ds,ks,xs,h,q=>by
  rw[k6] at h
  cases ha:Ba d with
  | none=>rw[ha] at h;cases h
  | some a=>
   cases hr:k6 ds with
   | none=>rw[ha,hr] at h;cases h
   | some r=>
    rw[ha,hr] at h
    cases h
    rw[aM] at q
    obtain ⟨v,vs,rfl,q1,q2⟩:=q
    obtain ⟨cs,rfl,hl,hz⟩:=uc hr q2
    rw[Bb ha,Rep] at q1
    obtain ⟨c,ys,rfl,sq,rs⟩:=q1
    have e:=yr rs
    subst e
    exact⟨c::cs,rfl,by simp[hl],fun z m=>by
     rcases List.mem_cons.mp (show z∈(a,c)::r.zip cs from m) with rfl | m
     ·exact sq
     ·exact hz z m⟩
theorem m6{d:D}{v:V}{ks:List (List Int)}(h:Rep K C H d v)(hk:t9 d=some ks):∃b,v = .ref b/\jo K H ks b:=by
 cases d with
 | tup ds=>
  rw[Rep] at h
  obtain ⟨a,xs,rfl,sq,rs⟩:=h
  obtain ⟨cs,rfl,hl,hz⟩:=uc hk rs
  exact⟨a,rfl,cs,sq,hl,hz⟩
 | _=>cases hk
theorem Fq(p:SP)(ps:List SP)(v:V)(vs:List V):l7 (p::ps) (v::vs) = .ref p.2.1::v::l7 ps vs:=rfl
theorem rP{vs:List V}{us:List Value}(h:Vals vs us):vs.length=us.length:=h.length
theorem nZ:∀{ps:List SP} {vs:List V} {ds:List D} {l:List (List (List Int)×D×D)},vs.length=ps.length->aM K C H ds (l7 ps vs)->eu ds=some l->
  ds=l.flatMap (fun z=>[z.2.1,z.2.2])/\KL K H ps (l.map (·.1))/\aM K C H (l.map (·.2.2)) vs/\aM K C H (l.map (·.2.1)) (ps.map fun p=>.ref p.2.1)
 | [],[],ds,l,_,q,h=>by
  have:l7 [] []=[]:=rfl
  rw[this] at q
  cases ds with
  | nil=>cases h;exact⟨rfl,⟨rfl,fun z m=>nomatch m⟩,by rw[List.map_nil,aM],by rw[List.map_nil,aM];rfl⟩
  | cons d ds=>rw[aM] at q;obtain ⟨_,_,z,_⟩:=q;cases z
 | [],_::_,_,_,e,_,_=>by cases e
 | _::_,[],_,_,e,_,_=>by cases e
 | p::ps,v::vs,ds,l,e,q,h=>by
  rw[Fq] at q
  cases ds with
  | nil=>rw[aM] at q;cases q
  | cons k ds=>
   cases ds with
   | nil=>rw[aM] at q;obtain ⟨_,_,z,_,q⟩:=q;cases z;rw[aM] at q;cases q
   | cons w ds=>
    rw[eu] at h
    cases ha:t9 k with
    | none=>rw[ha] at h;cases h
    | some a=>
     cases hr:eu ds with
     | none=>rw[ha,hr] at h;cases h
     | some r=>
      rw[ha,hr] at h
      cases h
      rw[aM] at q
      obtain ⟨_,_,z,q1,q⟩:=q
      cases z
      rw[aM] at q
      obtain ⟨_,_,z,q2,q⟩:=q
      cases z
      obtain ⟨i1,i2,i3,i4⟩:=nZ (by simpa using e) q hr
      obtain ⟨b,z,hb⟩:=m6 q1 ha
      cases z
      refine⟨by rw[List.flatMap_cons,<- i1];rfl,⟨by simpa using i2.1,fun z m=>?_⟩,?_,?_⟩
      ·rcases List.mem_cons.mp (show z∈(p,a)::ps.zip (r.map (·.1)) from m) with rfl | m
       ·exact hb
       ·exact i2.2 z m
      ·rw[List.map_cons];exact .cons q2 i3
      ·rw[List.map_cons,List.map_cons];exact .cons q1 i4
theorem oh{Cb:Addr}{ds:List D}{v:V}{l:List (List (List Int)×D×D)}(h:Rep K (aU Cb) H (.bU 2 ds) v)(hp:eu ds=some l):∃a o ps vs,v = .ref a/\Vals vs (ps.map (·.2.2))/\H a=some (.ext (DY a o ps))/\(∀p∈ps,jo K H p.1 p.2.1)/\(∀l,V.ref l∈vs->∃ys,H l=some (.lst ys))/\
  KL K H ps (l.map (·.1))/\aM K (aU Cb) H (l.map (·.2.2)) vs/\aM K (aU Cb) H (l.map (·.2.1)) (ps.map fun p=>.ref p.2.1):=by
 rw[Rep] at h
 obtain ⟨a,xs,rfl,ob,rs⟩:=h
 rcases ob with (⟨z,_⟩ | ⟨c,z,_⟩) | ⟨z,_⟩ | ⟨_,o,ps,vs,rfl,h2,h3,h4,h5⟩
 ·cases z
 ·unfold Le at z;lia
 ·cases z
 ·obtain ⟨_,i2,i3,i4⟩:=nZ (by rw[rP h2,List.length_map]) rs hp
  exact⟨a,o,ps,vs,rfl,h2,h3,h4,h5,i2,i3,i4⟩
end
theorem IC{ps:List SP}{t7:List (List (List Int))}(h:ps.map (·.1)=t7)(ks:List (List Int)):(atKey ps ks).isSome=t7.any (fun k=>decide (k=ks)):=by
 subst h
 unfold atKey
 rw[Option.isSome_map]
 induction ps with
 | nil=>rfl
 | cons p ps ih=>
  rw[List.find?_cons,List.map_cons,List.any_cons]
  cases decide (p.1=ks) with
  | true=>rfl
  | false=>rw[Bool.false_or];exact ih
def rQ(neg:Bool):D->D->R D:=fun a b=>match t9 a,b with
 | some ks,.bU 2 ds=>(match eu ds with | some l=>.ok (.bl (if neg then !(l.map (·.1)).any (fun k=>decide (k=ks)) else (l.map (·.1)).any (fun k=>decide (k=ks)))) | none=>.bad)
 | _,_=>.bad
theorem Lr{neg:Bool}{a b d:D}(h:rQ neg a b = .ok d):∃ks ds l,t9 a=some ks/\b = .bU 2 ds/\eu ds=some l/\d = .bl (if neg then !(l.map (·.1)).any (fun k=>decide (k=ks)) else (l.map (·.1)).any (fun k=>decide (k=ks))):=by
 unfold rQ at h
 split at h
 ·rename_i ks ds hk
  split at h
  ·rename_i l hl;cases h;exact⟨ks,ds,l,hk,rfl,hl,rfl⟩
  ·cases h
 ·cases h
theorem Ls{neg:Bool}{a b:D}{c:Addr}{p:Option Int}:rQ neg a b≠ .ex c p:=by
 unfold rQ
 split
 ·split <;> exact fun h=>(by cases h)
 ·exact fun h=>(by cases h)
section
variable {X:Cx}{Cb:Addr}{G0:Hp}{Γ:List SK}{E:L2.St->XK}{fL:Bool}{a b e:Expr}{f fa fb:DF}{κ κ' aA bC:Kd}{pos:Pos}
theorem DO{K:PySem.W.Frag}{neg:Bool}:uC K (aU Cb) (Pf K neg) (rQ neg) .new:=fun G0 Γ E σ A st H a b x y Q r qa qb q=>by
 cases hg:rQ neg a b with
 | bad=>rw[hg] at q;exact q.elim
 | ex c p=>exact absurd hg Ls
 | ok d=>
  rw[hg] at q
  obtain ⟨ks,ds,l,hk,rfl,hl,rfl⟩:=Lr hg
  obtain ⟨p,o,ps,vs,rfl,h1,h2,h3,_,h4,_⟩:=oh (show Rep K (aU Cb) H (.bU 2 ds) y from qb) hl
  obtain ⟨b',rfl,hb⟩:=m6 qa hk
  refine⟨p,b',o,ps,ks,_,rfl,rfl,h2,h3,h4,hb,fun z=>?_⟩
  rw[IC z]
  exact q _ H (.refl _) (.flat r (.refl _) (by rw[eX] <;> simp) (by rw[Rep]) _)
end
end Dm
end Vf
section Vg
namespace Dm
open PySem PySem.Spec PyProof.Rows L2
section
variable {K:PySem.W.Frag}{Cb:Addr}{G0:Hp}{Γ:List SK}{σ:L2.St}{H H':Hp}{A:List Addr}{st:dh}{κ:Kd}
theorem Val.fq(r:RS K (aU Cb) G0 Γ σ H A st)(e:aG H H'){p:Addr}{o:Obj}{ps:List SP}{vs:List V}{ds:List D}(h:H' p=none)(rel:Vals vs (ps.map (·.2.2)))(hk:∀q∈ps,jo K (κ.hp G0 A H H') q.1 q.2.1)
  (hl:∀l,V.ref l∈vs->∃ys,κ.hp G0 A H H' l=some (.lst ys)) (q:aM K (aU Cb) (κ.hp G0 A H H') ds (l7 ps vs)):Val K (aU Cb) κ G0 A H (upd H' p (.ext (DY p o ps))) (.bU 2 ds) (.ref p):=by
 have h0:H p=none:=e.free h
 have S:aG (κ.hp G0 A H H') (er (κ.hp G0 A H (upd H' p (.ext (DY p o ps)))) [p]):=fun b u z=>by
  have nb:b≠p:=fun w=>by
   have:=Kd.vK _ _ z
   rw[w,h] at this;cases this
  rw[aW (by simpa using nb)]
  exact Kd.rq (c6 h) _ _ z
 have at_:κ.hp G0 A H (upd H' p (.ext (DY p o ps))) p=some (.ext (DY p o ps)):=AS r e h
 have own:jW K (aU Cb) (er (κ.hp G0 A H (upd H' p (.ext (DY p o ps)))) [p]) (κ.hp G0 A H (upd H' p (.ext (DY p o ps)))) p (.bU 2 ds):=
  ⟨rfl,l7 ps vs,⟨o,ps,vs,rfl,rel,at_,fun x m=>(hk x m).mono S,fun l m=>let ⟨ys,z⟩:=hl l m;⟨ys,S _ _ z⟩⟩,q.same S _⟩
 have R:Rep K (aU Cb) (κ.hp G0 A H (upd H' p (.ext (DY p o ps)))) (.bU 2 ds) (.ref p):=own.rep (.refl _) rfl
 have T:∀G,G p=none->lR K (aU Cb) G (κ.hp G0 A H (upd H' p (.ext (DY p o ps)))) (.bU 2 ds) (.ref p):=fun G g=>⟨fun _=>⟨p,rfl,g,own⟩,.not rfl⟩
 cases κ with
 | new=>exact⟨R,T _ h0⟩
 | uB=>exact⟨R,T _ h0⟩
 | loc=>exact⟨R,T _ (r.g0.free h0)⟩
 | old=>exact R
 | kQ=>exact⟨R,T _ (r.g0.free h0)⟩
 | aF=>exact R
end
section
variable {X:Cx}{Cb:Addr}{G0:Hp}{Γ:List SK}{E:L2.St->XK}{fL:Bool}{a b e:Expr}{f fa fb:DF}{κ κ' aA bC:Kd}{pos:Pos}
theorem DQ:PE X (.Dict [] [] pos) (tD X.K (aU Cb) G0 Γ E (dC (.bU 2 [])) .new):=Lk.imp fun σ H Q zz=>by
 obtain ⟨A,st,r,q⟩:=zz
 intro p o hp
 exact q _ _ (c6 hp) (Val.fq (ps:=[]) (vs:=[]) r (.refl _) hp .nil (fun _ m=>nomatch m) (fun _ m=>nomatch m) (by rw[aM];rfl))
def gQ(o:Option (Option D)):Option (List D×List (List (List Int)×D×D)):=match o with
 | some (some (.bU 2 ds))=>(eu ds).map fun l=>(ds,l)
 | _=>none
theorem pO{o:Option (Option D)}{z:List D×List (List (List Int)×D×D)}(h:gQ o=some z):o=some (some (.bU 2 z.1))/\eu z.1=some z.2:=by
 unfold gQ at h
 split at h
 ·rename_i ds
  cases hp:eu ds with
  | none=>rw[hp] at h;cases h
  | some l=>rw[hp] at h;cases h;exact⟨rfl,hp⟩
 ·cases h
theorem w5{o:Option (Option D)}{ds:List D}{l:List (List (List Int)×D×D)}(h:o=some (some (.bU 2 ds)))(hp:eu ds=some l):gQ o=some (ds,l):=by
 subst h;show (eu ds).map _=_;rw[hp];rfl
def R9:D->Bool
 | .lst _=>true
 | .int _=>true
 | _=>false
def Lu(i:Nat)(st:dh)(z:List D×List (List (List Int)×D×D))(kd d:D):Out:=match t9 kd with
 | some ks=>if z.2.length<=1000/\(z.2.map (·.1)).any (fun k=>decide (k=ks))=false/\R9 d=true then .nx (st.set i (some (.bU 2 (z.1++[kd,d])))) else .bad
 | none=>.bad
def CO(i:Nat)(fk f:DF):DS:=fun st=>match f st with
 | .ok d=>(match gQ st[i]? with
  | some z=>(match fk st with
   | .ok kd=>Lu i st z kd d
   | .ex c p=>.ex c p st
   | .bad=>.bad)
  | none=>.bad)
 | .ex c p=>.ex c p st
 | .bad=>.bad
theorem zF{kd:D}{ks:List (List Int)}(h:t9 kd=some ks):eX kd=true:=by
 cases kd with
 | tup es=>
  rw[eX]
  refine eZ ?_
  replace h:k6 es=some ks:=h
  induction es generalizing ks with
  | nil=>intro x m;cases m
  | cons y es ih=>
   intro x m
   rw[k6] at h
   cases h1:Ba y with
   | none=>rw[h1] at h;cases h
   | some a=>
    cases h2:k6 es with
    | none=>rw[h1,h2] at h;cases h
    | some r=>
     walk_at"J"
     ·rw[Bb h1,eX]
      exact eZ fun z hz=>by obtain ⟨w,_,rfl⟩:=List.mem_map.mp hz;rw[eX] <;> simp
     ·exact ih h2 x m
 | _=>cases h
theorem aM.Ft{K:PySem.W.Frag}{C:Cfg}{H:Hp}:∀{ds es:List D} {xs ys:List V},aM K C H ds xs->aM K C H es ys->aM K C H (ds++es) (xs++ys)
 | [],es,xs,ys,h,h'=>by rw[aM] at h;subst h;exact h'
 | d::ds,es,xs,ys,h,h'=>by
  rw[aM] at h
  obtain ⟨v,r,rfl,q,t⟩:=h
  exact .cons q (aM.Ft t h')
theorem Fv{ps:List SP}{vs:List V}{p:SP}{v:V}(h:vs.length=ps.length):l7 (ps++[p]) (vs++[v])=l7 ps vs++[.ref p.2.1,v]:=by
 unfold l7
 rw[List.zip_append h.symm,List.flatMap_append]
 rfl
theorem Vals.snoc:∀{vs:List V} {us:List Value} {v:V} {u:Value},Vals vs us->RelV v u->Vals (vs++[v]) (us++[u])
 | _,_,v,u,.nil,h=>.cons h .nil
 | _,_,v,u,.cons r t,h=>.cons r (Vals.snoc t h)
theorem Pq{i:Nat}{n:Bool}{x:Str}{p1 p2:Pos}{ix:Expr}{fi:DF}(hu:X.A.units+2 < cLine)(hx:PE X (.Name x p1) (lI i))(hi:PE X ix (tD X.K (aU Cb) G0 Γ E fi κ'))(he:PE X e (tD X.K (aU Cb) G0 Γ E f κ))(na:rE Γ=true)(hk:Γ[i]?=some (.own n):=by rfl)(hl:κ = .new:=by rfl)
  (ha:∀v,assign (.Subscript (.Name x p1) ix p2) X.env v=(do
   let ov <- holding [v] (eval (.Name x p1) X.env)
   let iv <- holding [v,ov] (eval ix X.env)
   standAt p2
   holding [v,ov,iv] (setItem ov iv v)
   release [v,ov,iv] []):=by intro _;rfl)
  (hs:swapsWithSole [Expr.Subscript (.Name x p1) ix p2] e pos.line X.env=pure false:=by rfl) (hw:swappedStores [Expr.Subscript (.Name x p1) ix p2] e X.env=pure none:=by rfl)
  (h1:(assignEach [Expr.Subscript (.Name x p1) ix p2] X.env).map (·.2)=[assign (.Subscript (.Name x p1) ix p2) X.env]:=by rfl) :
  PS X (.Assign [.Subscript (.Name x p1) ix p2] e pos) (nX X.K (aU Cb) G0 Γ E fL (CO i fi f)):=(GK he (Oc hx hi (V4 hu) ha) hs hw h1).imp fun D σ H zz=>by
 subst hl
 obtain ⟨A,st,r,q⟩:=zz
 walk_at"4"
 unfold CO at q
 cases hf:f st with
 | bad=>rw[hf] at q;exact q
 | ex c p=>rw[hf] at q;exact fun H' e'=>q σ H' A (r.mono e') (aD e')
 | ok d=>
  walk_at"1,"
  cases qV:gQ st[i]? with
  | none=>rw[qV] at q;exact q.elim
  | some z=>
   obtain ⟨qV,Ra⟩:=pO qV
   obtain ⟨ds,l⟩:=z
   rw[w5 qV Ra] at q
   dsimp only at q qV Ra
   intro v H1 e1 w1
   obtain ⟨p,h1,h2,h3,t2,xs,ow,h5⟩:=r.CH hk qV rfl
   refine⟨_,h1,A,st,r.mono e1,?_⟩
   cases hi:fi st with
   | bad=>rw[hi] at q;exact q
   | ex c p=>rw[hi] at q;exact fun H' e'=>q σ H' A (r.mono (e1.trans e')) (aD (e1.trans e'))
   | ok kd=>
    rw[hi] at q
    walk_at","
    intro vi H2 e2 w2
    unfold Lu at q
    cases Ge:t9 kd with
    | none=>rw[Ge] at q;exact q.elim
    | some ks=>
     rw[Ge] at q
     walk_at","
     by_cases hc:l.length<=1000/\(l.map (·.1)).any (fun k=>decide (k=ks))=false/\R9 d=true
     ·rw[if_pos hc] at q
      have sG:=e1.trans e2
      have r':=r.mono sG
      have S:aG (eh n G0 A H) (eh n G0 A H2):=by
       unfold eh;cases n
       ·exact aD sG
       ·exact bJ (aD sG)
      have S2:aG (eh n G0 A H2) H2:=by
       unfold eh;cases n
       ·exact aH _ _
       ·exact(cK _ _).trans (aH _ _)
      obtain ⟨ob,ps,vs,rfl,rel,hp,kp,pl⟩:=ow
      have q5:aM X.K (aU Cb) (eh n G0 A H2) ds (l7 ps vs):=h5.same S _
      have hlen:vs.length=ps.length:=by rw[rP rel,List.length_map]
      obtain ⟨_,i2,_,_⟩:=nZ hlen q5 Ra
      have Vh:∀x∈ps,jo X.K (eh n G0 A H2) x.1 x.2.1:=fun x m=>(kp x m).mono S
      obtain ⟨b,rfl,hb⟩:=m6 w2.rep Ge
      have wk:Rep X.K (aU Cb) (eh n G0 A H2) kd (.ref b):=by
       unfold eh;cases n
       ·exact Rep.part r'.DH _ (zF Ge) w2.rep
       ·exact Rep.part r'.u7 _ (zF Ge) w2.rep
      obtain ⟨b2,R1,hbk⟩:=m6 wk Ge
      cases R1
      have WX:=w1.later e2
      have wv:Rep X.K (aU Cb) (eh n G0 A H2) d v:=WX.P0 r sG (by cases n <;> rfl)
      have plv:∀l',v = .ref l'->∃ys,eh n G0 A H2 l'=some (.lst ys):=fun l' zl=>by
       cases d with
       | lst es=>
        obtain ⟨p',z,h0,ys,hy,_⟩:=WX.2.1 rfl
        rw[zl] at z;cases z
        have nA:l'∉A:=fun m=>by obtain ⟨o,w,_⟩:=r.lists l' m;rw[h0] at w;cases w
        have hy2:H2 l'=some (.lst ys):=cK _ _ _ _ hy
        refine⟨ys,?_⟩
        unfold eh;cases n
        ·show er H2 A l'=_;rw[aW nA];exact hy2
        ·show nw G0 (er H2 A) l'=_;rw[jV (r.g0.free h0),aW nA];exact hy2
       | int k=>rw[Rep] at wv;rw[wv] at zl;cases zl
       | _=>cases hc.2.2
      have hlp:l.length=ps.length:=by have:=i2.1;rw[List.length_map] at this;exact this
      refine⟨p,b,ob,ps,ks,_,rfl,rfl,sG _ _ hp,fun x m=>(Vh x m).mono S2,⟨i2.1,fun z m=>(i2.2 z m).mono S2⟩,hb,?_,fun u Kg ru zk=>?_⟩
      ·rw[sizeLine_eq];have:=hc.1;lia
      ·have hn:atKey ps ks=none:=by
        have:=IC zk ks
        rw[hc.2.1] at this
        exact Option.isSome_eq_false_iff.mp this |> Option.isNone_iff_eq_none.mp
       rw[storedH_new hn]
       have own:jW X.K (aU Cb) (eh n G0 A H2) (upd H2 p (.ext (DY p Kg (ps++[(ks,b,u)])))) p (.bU 2 (ds++[kd,d])):=by
        refine⟨rfl,l7 (ps++[(ks,b,u)]) (vs++[v]),⟨_,_,_,rfl,by rw[List.map_append];exact Vals.snoc rel ru,bM,fun x m=>?_,fun l' m=>?_⟩,?_⟩
        ·walk_at"C"
         ·exact Vh x m
         ·obtain rfl:=List.mem_singleton.mp m;exact hbk
        ·walk_at"C"
         ·obtain ⟨ys,z⟩:=pl l' m;exact⟨ys,S _ _ z⟩
         ·exact plv l' (List.mem_singleton.mp m).symm
        ·rw[Fv hlen]
         exact aM.Ft q5 (.cons wk (.cons wv (by rw[aM])))
       obtain ⟨r2,e3⟩:=r'.OZ na hk qV h1 h2 h3 rfl rfl own
       exact q _ _ A r2 ((aD sG).trans e3)
     ·rw[if_neg hc] at q;exact q.elim
end
end Dm
end Vg
section Vi
namespace Dm
open PySem PySem.Spec PyProof.Rows L2
section
variable {X:Cx}{C:Cfg}{Cb:Addr}{G0:Hp}{Γ:List SK}{E:L2.St->XK}{fL:Bool}{a b e:Expr}{f fa fb:DF}{κ κ' aA bC:Kd}{pos:Pos}
theorem Fw:nN X (.builtin "len") (fun xs H Q=>∃a o ps,xs=[V.ref a]/\H a=some (.ext (DY a o ps))/\Q (.int ps.length) H):=by
 intro pins s σ H xs us Q I r h
 obtain ⟨a,o,ps,rfl,ha,q⟩:=h
 obtain ⟨u,rfl,ru⟩:=vals1 r
 cases ru
 obtain ⟨dy,_,_⟩:=(show fT X.prog X.w H s.heap a (.ext (DY a o ps)) from I.dS a _ ha)
 obtain ⟨hd,hz,ho,hx,es,ep,pS,he,hn⟩:=dy
 have hT:s.TypeIs (.ref a) "dict":=⟨o,ho,hx.1⟩
 have hs:es.size=ps.length:=by rw[<- Array.length_toList,he X.prog X.w,List.length_map]
 rw[sizeLine_eq] at hz
 refine PySem.Calls.call_function_entry kind_len plain_len entry_len (args_len1 _) ?_
 (unfold Builtin.«len»);(refine wpAny_bind (m:=oneArg "len" _) (wpAny_pure ?_))
 refine wpAny_bind (m:=callSpecial? (.ref a) (Str.ofString "__len__")) (wpAny_callSpecial?_slot (name:=Str.ofString "__len__") hT PySem.F.slot_dict_len (wpAny_call_entry PySem.F.slot_dict_len hT PySem.F.entry_dict_len ?_ (PySem.F.args_dict_len_1 _)))
 (show wpAny _ _ (dictSize a>>=_) _ _ s);(unfold dictSize);(refine wpAny_bind (wpAny_bind (wpAny_dictEntries ho pS (wpAny_pure ?_))))
 (show wpAny _ _ (Builtin.Dict.pendingCount a>>=_) _ _ s);(refine wpAny_bind (wpAny_pendingCount_other hd (wpAny_ret_mkInt ?_)))
 rw[Nat.add_zero,hs]
 (refine wpAny_bind (wpAny_holding (wpAny_pure ?_)));(refine wpAny_bind (wpAny_letGo ?_))
 (show wpAny _ _ (if ((ps.length:Nat):Int) < 0 then _ else _) _ _ _);(rw[if_neg (by lia)])
 (show wpAny _ _ (if ((ps.length:Nat):Int) ≥ 2 ^ 63 then _ else _) _ _ _);(rw[if_neg (by lia)])
 exact wpAny_bind (wpAny_mkInt (wpAny_pure ⟨_,rfl,.int ps.length,H,(I.tok _).tok _,⟨_,rfl⟩,q⟩))
def qg:List D->R D:=fun ds=>match ds with
 | [.bU 2 xs]=>(match eu xs with | some l=>.ok (.int l.length) | none=>.bad)
 | _=>.bad
theorem ID{ds:List D}{d:D}(h:qg ds = .ok d):∃xs l,ds=[.bU 2 xs]/\eu xs=some l/\d = .int l.length:=by
 unfold qg at h
 split at h
 ·rename_i xs
  split at h
  ·rename_i l hl;cases h;exact⟨xs,l,rfl,hl,rfl⟩
  ·cases h
 ·cases h
theorem IE{ds:List D}{c:Addr}{p:Option Int}:qg ds≠ .ex c p:=by
 unfold qg
 split
 ·split <;> exact fun h=>(by cases h)
 ·exact fun h=>(by cases h)
theorem IF{K:PySem.W.Frag}:OY K (aU Cb) (fun xs H Q=>∃a o ps,xs=[V.ref a]/\H a=some (.ext (DY a o ps))/\Q (.int ps.length) H) qg .new:=fun G0 Γ E σ A st H ds xs Q r w q=>by
 cases hg:qg ds with
 | bad=>rw[hg] at q;exact q.elim
 | ex c p=>exact absurd hg IE
 | ok d=>
  rw[hg] at q
  obtain ⟨ys,l,rfl,hl,rfl⟩:=ID hg
  obtain ⟨v,rfl,w1⟩:=nW w
  obtain ⟨p,o,ps,vs,rfl,_,h2,_,_,h4,_⟩:=oh w1 hl
  refine⟨p,o,ps,rfl,h2,?_⟩
  rw[show ps.length=l.length by rw[<- h4.1,List.length_map]]
  exact q _ H (.refl _) (.flat r (.refl _) (by rw[eX] <;> simp) xC _)
def qh:D->D->R D:=fun a b=>match a,t9 b with
 | .bU 2 ds,some ks=>(match eu ds with
  | some l=>(match l.find? (fun z=>decide (z.1=ks)) with | some z=>if R9 z.2.2=true then .ok z.2.2 else .bad | none=>.bad)
  | none=>.bad)
 | _,_=>.bad
theorem IG{a b d:D}(h:qh a b = .ok d):∃ds ks l z,a = .bU 2 ds/\t9 b=some ks/\eu ds=some l/\l.find? (fun z=>decide (z.1=ks))=some z/\R9 z.2.2=true/\d=z.2.2:=by
 unfold qh at h
 split at h
 ·rename_i ds ks hk
  split at h
  ·rename_i l hl
   split at h
   ·rename_i z hz
    split at h
    ·rename_i ho;cases h;exact⟨ds,ks,l,z,rfl,hk,hl,hz,ho,rfl⟩
    ·cases h
   ·cases h
  ·cases h
 ·cases h
theorem II{a b:D}{c:Addr}{p:Option Int}:qh a b≠ .ex c p:=by
 unfold qh
 split
 ·split
  ·split
   ·split <;> exact fun h=>(by cases h)
   ·exact fun h=>(by cases h)
  ·exact fun h=>(by cases h)
 ·exact fun h=>(by cases h)
theorem DR:∀{ps:List SP} {vs:List V} {l:List (List (List Int)×D×D)} {K:PySem.W.Frag} {C:Cfg} {H:Hp} {ks:List (List Int)} {z:List (List Int)×D×D},ps.map (·.1)=l.map (·.1)->Vals vs (ps.map (·.2.2))->aM K C H (l.map (·.2.2)) vs->l.find? (fun z=>decide (z.1=ks))=some z->
  ∃p v,atKey ps ks=some p/\RelV v p.2/\Rep K C H z.2.2 v/\v∈vs
 | [],_,[],_,_,_,_,_,_,_,_,h=>by cases h
 | [],_,_::_,_,_,_,_,_,h,_,_,_=>by cases h
 | _::_,_,[],_,_,_,_,_,h,_,_,_=>by cases h
 | p::ps,vs,y::l,K,C,H,ks,z,h,rel,rs,hf=>by
  rw[List.map_cons,List.map_cons] at h
  injection h with h1 h2
  rw[List.map_cons] at rel
  rw[List.map_cons,aM] at rs
  obtain ⟨v,r,rfl,q1,q2⟩:=rs
  cases rel with
  | cons r1 t1=>
   rw[List.find?_cons] at hf
   unfold atKey
   rw[List.find?_cons,h1]
   cases hd:decide (y.1=ks) with
   | true=>
    rw[hd] at hf
    cases hf
    exact⟨p.2,v,rfl,r1,q1,.head _⟩
   | false=>
    rw[hd] at hf
    obtain ⟨p',v',e1,e2,e3,e4⟩:=DR h2 t1 q2 hf
    exact⟨p',v',e1,e2,e3,.tail _ e4⟩
theorem Lv(hu:X.A.units+2 < cLine)(ha:PE X a (tD X.K (aU Cb) G0 Γ E fa .loc))(hb:PE X b (tD X.K (aU Cb) G0 Γ E fb bC))(hs:rf b):PE X (.Subscript a b pos) (tD X.K (aU Cb) G0 Γ E (aQ qh fa fb) .loc):=(Hf (ad2 hu) ha hb hs).imp fun σ H Q zz=>by
 obtain ⟨A,st,r,q⟩:=zz
 walk_at"4"
 unfold aQ R.bind at q
 cases h1:fa st with
 | bad=>rw[h1] at q;exact q
 | ex c p=>rw[h1] at q;exact q
 | ok da=>
  rw[h1] at q
  intro x H1 e1 w1
  walk_at"@,"
  cases h2:fb st with
  | bad=>rw[h2] at q;exact q
  | ex c p=>rw[h2] at q;exact fun H' e'=>q H' (e1.trans e')
  | ok db=>
   rw[h2] at q
   intro y H2 e2 w2
   walk_at","
   cases hg:qh da db with
   | bad=>rw[hg] at q;exact q.elim
   | ex c p=>exact absurd hg II
   | ok d=>
    rw[hg] at q
    obtain ⟨ds,ks,l,z,rfl,hk,hl,hz,ho,rfl⟩:=IG hg
    have sG:=e1.trans e2
    have WX:=w1.later e2
    obtain ⟨p,o,ps,vs,rfl,h1,h2,h3,h5,h4,h6,_⟩:=oh WX.1 hl
    obtain ⟨b',rfl,hb⟩:=m6 w2.rep hk
    have S:aG (nw G0 (er H2 A)) H2:=(cK _ _).trans (aH _ _)
    refine⟨p,b',o,ps,ks,_,rfl,rfl,S _ _ h2,fun x m=>(h3 x m).mono S,⟨h4.1,fun z m=>(h4.2 z m).mono S⟩,hb,fun zk lu=>?_⟩
    obtain ⟨pv,v,g1,g2,g3,g4⟩:=DR zk h1 h6 hz
    refine⟨pv,v,g1,g2,q v H2 sG ⟨g3,?_,?_⟩⟩
    ·intro Vj
     cases hd:z.2.2 with
     | lst es=>
      rw[hd,Rep] at g3
      obtain ⟨l',xs,rfl,sq,rs⟩:=g3
      obtain ⟨ys,hy⟩:=h5 l' g4
      have g0:G0 l'=none:=by
       unfold nw at hy
       split at hy
       ·rename_i kp
        cases hg0:G0 l' with
        | none=>rfl
        | some u=>
         rw[hg0] at kp
         have:=(r.mono sG).base _ _ hg0
         rw[hy] at this
         cases this
         cases kp
       ·cases hy
      refine⟨l',rfl,g0,ys,hy,?_⟩
      have:ys=xs:=lu l' ys xs (.of (S _ _ hy)) (aG.seq S sq)
      rw[this];exact rs
     | int k=>rw[hd] at Vj;cases Vj
     | _=>rw[hd] at ho;cases ho
    ·refine nU.not ?_
     cases hd:z.2.2 with
     | tup es=>rw[hd] at ho;cases ho
     | _=>rfl
end
end Dm
end Vi
section Vk
namespace Dm
open PySem PySem.Spec PyProof.Rows L2
section
variable {X:Cx}{Cb:Addr}{G0:Hp}{Γ:List SK}{E:L2.St->XK}{fL:Bool}{o e:Expr}{es:List Expr}{f:DF}{κ:Kd}{pos:Pos}
def Nt(K:PySem.W.Frag):V->List V->Hp->VK->Prop:=fun x xs H Q=>∃a c oa oc ps qs t7 WY,x = .ref a/\xs=[.ref c]/\a≠c/\H a=some (.ext (DY a oa ps))/\H c=some (.ext (DY c oc qs))/\(∀p∈ps,jo K H p.1 p.2.1)/\(∀p∈qs,jo K H p.1 p.2.1)/\KL K H ps t7/\KL K H qs WY/\
 (∀k∈WY,k∉t7)/\(ps=[]->qs.length<=1)/\ps.length+qs.length<=sizeLine/\∀WZ,ps.map (·.1)=t7->qs.map (·.1)=WY->Q .cz (upd H a (.ext (DY a WZ (ps++qs))))
theorem Lw(hu:X.A.units+2 < cLine):ZY X "dict.update" (Nt X.K):=by
 intro pins s σ H x xs v us Q I rx rv h
 obtain ⟨a,c,oa,oc,ps,qs,t7,WY,rfl,rfl,nac,ha,hc,hka,Vb,la,lc,Rk,iy,hz,q⟩:=h
 cases rx
 obtain ⟨u,rfl,ru⟩:=vals1 rv
 cases ru
 obtain ⟨da,za,_⟩:=lY I ha hka
 obtain ⟨dc,zc,_⟩:=lY I hc Vb
 have ea:=keys_eq I hka la
 have ec:=keys_eq I Vb lc
 have hT:=da.typeIs
 have hTc:=dc.typeIs
 refine wpAny_call_entry PySem.F.slot_dict_update hT PySem.F.entry_dict_update ?_ (PySem.F.args_dict_update_2 _ _)
 (unfold Builtin.«dict.update»);(refine wpAny_bind ?_);(unfold Builtin.Dict.selfAndRest);(refine wpAny_bind (wpAny_notOrdered_dict hT ?_));(show wpAny _ _ (pure (a,[Value.ref c])) _ _ s);(refine wpAny_pure ?_)
 (show wpAny _ _ (Builtin.Dict.updateFrom "dict.update" a (.ref c) [] .none) _ _ s);(unfold Builtin.Dict.updateFrom);(refine wpAny_bind (wpAny_typeOf hTc ?_));(rw[if_neg (by decide)]);(refine wpAny_bind ?_);(unfold Builtin.Dict.merge);(refine wpAny_bind ?_)
 (unfold Builtin.Dict.readDirectly);(refine wpAny_bind (wpAny_isInstance hTc isSubtype_dict_dict ?_));(simp only[Bool.not_true,Bool.false_eq_true,if_false]);(refine wpAny_bind (wpAny_specialOf hTc PySem.F.slot_dict_iter.lookup (wpAny_pure ?_)));(simp only[beq_self_eq_true,if_true])
 refine wpAny_bind (wpAny_pure (Hk.BZ (knd:=Hk.jQ (intKind X.prog X.w)) (show X.A.units+1+1 < cLine from hu) nac zc da dc (fun y m=>?_) iy (fun y m=>?_) hz fun h' dd hs=>?_))
 ·rw[ea];exact Rk _ (by rw[<- ec];exact List.mem_map.mpr ⟨y,m,rfl⟩)
 ·exact(lX I (Vb y m)).tuple
 ·(show wpAny _ _ (Builtin.Dict.addKeywords a []>>=_) _ _ _);(refine wpAny_bind (wpAny_pure (wpAny_pure ⟨.none,rfl,?_⟩)))
  have he:∃q,h'.get? a=some q:=let ⟨q,_,_,hq,_⟩:=dd;⟨q,hq⟩
  obtain ⟨WZ,dy⟩:=DY.of za (by rw[List.length_append];exact hz) dd
  exact⟨.cz,_,I.write (t':=s.toks) (x:=a) (e:=a) (by rw[ha];trivial) (.inl rfl) (fun b w hb z=>(hs.2 b hb).trans z) he (B7 dy),rfl,q _ ea ec⟩
def Vl(r:V->List V->Hp->VK->Prop)(to:TE)(t:TA):TE:=fun σ H Q=>to σ H fun x H1=>(∃a o ps,x = .ref a/\H1 a=some (.ext (DY a o ps)))/\t σ H1 fun xs H2=>r x xs H2 Q
theorem Pr{to:TE}{t:TA}{name:Str}{apos i7:Pos}{id:String}{r:V->List V->Hp->VK->Prop}(slot:PySem.Slot "dict" name id)(hty:typeOf (.builtin id)=pure (.type "method_descriptor"))(hm:ZY X id r)(ho:PE X o to)(ha:PA X (e::es) t)
  (vq:attributeBase o name X.env (eval o X.env)=eval o X.env:=by rfl)
  (Oz:((backTo i7 (starEach (e::es) X.env)).all (fun x=>!x.1)&&(backToKw i7 (keywordEach [] X.env)).all (fun x=>x.1.isSome)
   && decide ((e::es).length+([]:List Keyword).length+(if ([]:List Keyword).isEmpty then 0 else 1) < 30))=true:=by rfl)
  (vt:(apos.endLine==i7.line)=true:=by rfl) (hs:starEach (e::es) X.env=(false,eval e X.env)::starEach es X.env:=by rfl) (vv:(backTo i7 (starEach es X.env)).any (·.1)=false:=by rfl) :
  PE X (.Call (.Attribute o name apos) (e::es) [] i7) (Vl r to t):=by
 walk_at"<"
 refine wpAny_Call_method_late vq Oz vt rfl (fH (ho pins s σ H _ I h) fun v s1 zz=>?_)
 obtain ⟨x,H1,I1,r1,⟨a,oo,ps,rfl,hx⟩,q1⟩:=zz
 cases r1
 obtain ⟨⟨_,_,hg,qS,_⟩,_,_⟩:=(show fT X.prog X.w H1 s1.heap a (.ext (DY a oo ps)) from I1.dS a _ hx)
 refine⟨"dict",id,PySem.F.plainAttrs_dict,slot,hty,⟨oo,hg,qS.1⟩,fun b e=>?_,?_⟩
 ·cases e;exact⟨oo,hg,qS.2.1⟩
 have hA:=ha i7 pins s1 σ H1 _ I1 q1
 rw[hs] at hA ⊢
 refine Calls.callWith_builtin (by show (false || (backTo i7 (starEach es X.env)).any (·.1))=false;rw[vv] <;> rfl) (Calls.evalArgs_plain ?_)
 exact fH hA fun us s2 zz=>by
  obtain ⟨vs,H2,I2,r2,q2⟩:=zz
  exact hm pins s2 σ H2 (.ref a) vs (.ref a) us Q I2 rfl r2 q2
def Fx(i:Nat)(f:DF):DS:=fun st=>match gQ st[i]? with
 | some z=>(match f st with
  | .ok d=>(match gQ (some (some d)) with
   | some y=>if z.2.length+y.2.length<=1000/\(∀k∈y.2.map (·.1),k∉z.2.map (·.1))/\(z.2=[]->y.2.length<=1) then .nx (st.set i (some (.bU 2 (z.1++y.1)))) else .bad
   | none=>.bad)
  | .ex c p=>.ex c p st
  | .bad=>.bad)
 | none=>.bad
theorem IJ{ps qs:List SP}{vs ws:List V}(h:vs.length=ps.length):l7 (ps++qs) (vs++ws)=l7 ps vs++l7 qs ws:=by
 unfold l7
 rw[List.zip_append h.symm,List.flatMap_append]
theorem Vals.Ft:∀{vs ws:List V} {us ts:List Value},Vals vs us->Vals ws ts->Vals (vs++ws) (us++ts)
 | _,_,_,_,.nil,h=>h
 | _,_,_,_,.cons r t,h=>.cons r (Vals.Ft t h)
theorem Pu{i:Nat}{n:Bool}(h:PE X e (Vl (Nt X.K) (lI i) (vp (tD X.K (aU Cb) G0 Γ E f κ) Cr)))(na:rE Γ=true)(hk:Γ[i]?=some (.own n):=by rfl)(hl:κ.le (P0 n)=true:=by rfl)(hs:swapsWith e none pos.line X.env=pure false:=by rfl) :
  PS X (.Expr e pos) (nX X.K (aU Cb) G0 Γ E fL (Fx i f)):=(r8 h hs).imp fun D σ H zz=>by
 obtain ⟨A,st,r,q⟩:=zz
 unfold Fx at q
 cases qV:gQ st[i]? with
 | none=>rw[qV] at q;exact q.elim
 | some z=>
  rw[qV] at q
  obtain ⟨qV,Ra⟩:=pO qV
  obtain ⟨ds,l⟩:=z
  dsimp only at q qV Ra
  obtain ⟨p,h1,h2,h3,t2,xs,ow,h5⟩:=r.CH hk qV rfl
  obtain ⟨ob,ps,vs,rfl,rel,hp,kp,pl⟩:=ow
  refine⟨_,h1,⟨p,ob,ps,rfl,hp⟩,A,st,r,?_⟩
  cases hf:f st with
  | bad=>rw[hf] at q;exact q
  | ex c p=>rw[hf] at q;exact fun H' e'=>q σ H' A (r.mono e') (aD e')
  | ok d=>
   walk_at"1,"
   intro v H1 e1 w1
   cases hy:gQ (some (some d)) with
   | none=>rw[hy] at q;exact q.elim
   | some y=>
    rw[hy] at q
    obtain ⟨hd,Nu⟩:=pO hy
    obtain ⟨BS,l2⟩:=y
    cases hd
    dsimp only at q Nu
    by_cases hc:l.length+l2.length<=1000/\(∀k∈l2.map (·.1),k∉l.map (·.1))/\(l=[]->l2.length<=1)
    ·rw[if_pos hc] at q
     have r':=r.mono e1
     have S:aG (eh n G0 A H) (eh n G0 A H1):=by
      unfold eh;cases n
      ·exact aD e1
      ·exact bJ (aD e1)
     have S2:aG (eh n G0 A H1) H1:=by
      unfold eh;cases n
      ·exact aH _ _
      ·exact(cK _ _).trans (aH _ _)
     have q5:aM X.K (aU Cb) (eh n G0 A H1) ds (l7 ps vs):=h5.same S _
     have hlen:vs.length=ps.length:=by rw[rP rel,List.length_map]
     obtain ⟨_,i2,_,_⟩:=nZ hlen q5 Ra
     have Vh:∀x∈ps,jo X.K (eh n G0 A H1) x.1 x.2.1:=fun x m=>(kp x m).mono S
     have wd:Rep X.K (aU Cb) (eh n G0 A H1) (.bU 2 BS) v:=w1.P0 r e1 hl
     have wd':=wd
     obtain ⟨c,oc,qs,ws,rfl,g1,g2,g3,g5,g4,g6,_⟩:=oh wd Nu
     rw[Rep] at wd'
     have q6:∃oc' X0 ws',Vals ws' (X0.map (·.2.2))/\eh n G0 A H1 c=some (.ext (DY c oc' X0))/\(∀x∈X0,jo X.K (eh n G0 A H1) x.1 x.2.1)/\(∀l,V.ref l∈ws'->∃ys,eh n G0 A H1 l=some (.lst ys))/\aM X.K (aU Cb) (eh n G0 A H1) BS (l7 X0 ws'):=by
      obtain ⟨c',ys,zc,Kg,rs⟩:=wd'
      cases zc
      rcases Kg with (⟨z,_⟩ | ⟨c,z,_⟩) | ⟨z,_⟩ | ⟨_,o',ps',MU,rfl,k2,k3,k4,k5⟩
      ·cases z
      ·unfold Le at z;lia
      ·cases z
      ·exact⟨o',ps',MU,k2,k3,k4,k5,rs⟩
     clear g1 g2 g3 g5 g4 g6
     obtain ⟨oc,qs,ws,g1,g2,g3,g5,q6⟩:=q6
     have Vm:ws.length=qs.length:=by rw[rP g1,List.length_map]
     obtain ⟨_,g4,_,_⟩:=nZ Vm q6 Nu
     have npc:p≠c:=fun z=>by
      subst z
      unfold eh at g2
      cases n with
      | true=>have:=cK _ _ _ _ g2;rw[cV h2] at this;cases this
      | false=>rw[if_neg (by decide),cV h2] at g2;cases g2
     have e1l:l.length=ps.length:=by have:=i2.1;rw[List.length_map] at this;exact this
     have e2l:l2.length=qs.length:=by have:=g4.1;rw[List.length_map] at this;exact this
     refine⟨p,c,ob,oc,ps,qs,_,_,rfl,rfl,npc,e1 _ _ hp,S2 _ _ g2,fun x m=>(Vh x m).mono S2,fun x m=>(g3 x m).mono S2,⟨i2.1,fun z m=>(i2.2 z m).mono S2⟩,⟨g4.1,fun z m=>(g4.2 z m).mono S2⟩,hc.2.1,fun z=>?_,?_,fun WZ _ _=>?_⟩
     ·rw[<- e2l];exact hc.2.2 (List.length_eq_zero_iff.mp (by rw[e1l,z];rfl))
     ·rw[sizeLine_eq];have:=hc.1;lia
     ·have own:jW X.K (aU Cb) (eh n G0 A H1) (upd H1 p (.ext (DY p WZ (ps++qs)))) p (.bU 2 (ds++BS)):=by
       refine⟨rfl,l7 (ps++qs) (vs++ws),⟨_,_,_,rfl,by rw[List.map_append];exact Vals.Ft rel g1,bM,fun x m=>?_,fun l' m=>?_⟩,?_⟩
       ·walk_at"C"
        ·exact Vh x m
        ·exact g3 x m
       ·walk_at"C"
        ·obtain ⟨ys,z⟩:=pl l' m;exact⟨ys,S _ _ z⟩
        ·exact g5 l' m
       ·rw[IJ hlen]
        exact aM.Ft q5 q6
      obtain ⟨r2,e3⟩:=r'.OZ na hk qV h1 h2 h3 rfl rfl own
      exact q _ _ A r2 ((aD e1).trans e3)
    ·rw[if_neg hc] at q;exact q.elim
end
end Dm
end Vk
section Vn
namespace Dm
open PySem PySem.Spec PyProof.Rows L2
def ItY(a:Addr)(o:Obj)(ps:List SP)(vs:List V):It:=
 ⟨fun i H=>H a=some (.ext (DY a o ps))/\i < ps.length,fun i H x H'=>∃T p y,ps[i]?=some p/\vs[i]?=some y/\H T=none/\H'=upd H T (.tup [.ref p.2.1,y])/\x = .ref T,fun i H=>H a=some (.ext (DY a o ps))/\ps.length<=i⟩
theorem CP:entryFor table "dict_itemiterator.__iter__" =some Builtin.«dict_keyiterator.__iter__» :=
 entryFor_alias (id':="dict_keyiterator.__iter__") (by kernel_rfl) (by first | rfl | decide +kernel) (by decide +kernel) (by kernel_rfl)
theorem Bc:∀{vs:List V} {us:List Value} {i:Nat} {u:Value},Vals vs us->us[i]?=some u->∃v,vs[i]?=some v/\RelV v u
 | _,_,_,_,.nil,h=>by cases h
 | _,_,0,_,.cons r t,h=>by cases h;exact⟨_,rfl,r⟩
 | _,_,i+1,_,.cons r t,h=>let ⟨v,h1,h2⟩:=Bc t (i:=i) h;⟨v,h1,h2⟩
theorem Bd{P:Program}{w:World}{K:PySem.W.Frag}{elts:List Expr}{x1}{pos:Pos}{a it:Addr}{o:Obj}{ps:List SP}{vs:List V}{es:Array DictEntry}{ep:Nat}(pS:o.data = .dict es ep)(rel:Vals vs (ps.map (·.2.2)))(FY:∀(P:Program) (w:World),es.toList=ps.map (entryOfKey (Hk.jQ (intKind P w)))) :
  Turn P w K (.Tuple elts x1 pos) (ItY a o ps vs) [it] it (fun i h=>∃ok ov,IsItemIter h it a i es.size ep ok ov) where
 mem:=by simp
 obj:=fun i h st b hb=>by
  obtain ⟨ok,ov,he⟩:=st
  obtain rfl:b=it:=by simpa using hb
  exact⟨_,he,fun v z=>by cases z⟩
 keep:=fun i h h' st k=>by
  obtain ⟨ok,ov,he⟩:=st
  exact⟨ok,ov,k it (by simp) _ he⟩
 item:=by
  walk_at"B"
  subst hP hw hK
  obtain ⟨ok,ov,he⟩:=st
  obtain ⟨ha,hi⟩:=hg
  walk_at"h"
  have FY:=FY X.prog X.w
  obtain ⟨p,hp⟩:∃p,ps[i]?=some p:=⟨ps[i],List.getElem?_eq_getElem hi⟩
  obtain ⟨y,hy,ry⟩:=Bc rel (i:=i) (u:=p.2.2) (by rw[List.getElem?_map,hp];rfl)
  have hen:es[i]?=some (entryOfKey (Hk.jQ (intKind X.prog X.w)) p):=by rw[entry_at FY,hp];rfl
  have fi:=hf it (by simp)
  have hn:H s.heap.objs.size=none:=I.dS.fresh (Nat.le_refl _)
  refine Hk.C3 he ho pS hen fun h' Pj hT hsz hk=>⟨_,rfl,?_⟩
  have kp:∀b o,b∉[it]->s.heap.get? b=some o->h'.get? b=some o:=fun b o hb q=>hk b o (fun z=>hb (by simp[z])) q
  have lt:∀b o,s.heap.get? b=some o->b≠s.heap.objs.size:=fun b o q=>Nat.ne_of_lt (Heap.lt_size q)
  have I1:L2.Inv X pins σ (upd H s.heap.objs.size (.tup [.ref p.2.1,y])) { s with heap:=h' }:=by
   refine Inv.As I (s':={ s with heap:=h' }) (ch:=[it]) rfl ⟨fun b o q n nf nx=>kp b o nx q,fun b o q n nf nx=>⟨o.slots,kp b o nx q⟩,fun b o q n nx=>?_,fun b o q nx=>⟨o,kp b o nx q⟩,fun b ys q=>?_,fun b o u' q=>?_,fun b ps q=>⟨#[],?_⟩⟩ (fun b o q=>?_) I.bare (fun b hb=>?_)
   ·rw[aY (lt b o q)];exact n
   ·rw[aY (bI q hn)];exact q
   ·rw[aY (bI q hn)];exact q
   ·rw[aY (bI q hn),q];simp
   ·by_cases hb:b=s.heap.objs.size
    ·subst hb
     rw[bM] at q;cases q
     exact⟨by simp only[List.length_cons,List.length_nil];rw[sizeLine_eq];decide,[.ref p.2.1,p.2.2],.cons rfl (.cons ry .nil),⟨_,hT,rfl,0,rfl⟩⟩
    ·rw[aY hb] at q
     refine(I.dS b o q).yQ (fun c v uy z=>kp c v ?_ z) (fun c z=>by rw[aY (bI z hn)];exact z) fun c ys z=>by rw[aY (bI z hn)];exact z
     intro hm
     obtain rfl:c=it:=by simpa using hm
     rcases uy with rfl | uy
     ·rw[fi.1] at q;cases q
     ·rw[fi.1] at uy;cases uy
   ·refine uw (hf b hb) fun f0 f1 f2 f3 f4 f5=>?_
    exact⟨f3,f1,f4,f5⟩
  have ni:it≠s.heap.objs.size:=lt it _ he
  obtain ⟨f0,f1,f2,f3,f4,f5⟩:=fi
  refine wpAny_letOwnedTupleGo_items Pj fun h2 he2 Oo=>?_
  have I2:L2.Inv X pins σ (upd H s.heap.objs.size (.tup [.ref p.2.1,y])) { s with heap:=h2 }:=I1.turned (t':=s.toks) (fun b o hb q=>(Oo.2 b hb).trans q) (by rw[aY ni];exact f0) f1 f3 f4 f5
  refine⟨.ref s.heap.objs.size,_,I2,rfl,⟨_,p,y,hp,hy,hn,rfl,rfl⟩,⟨_,_,he2⟩,fun b hb=>?_⟩
  obtain rfl:b=it:=by simpa using hb
  rw[aY ni];exact f0
 done:=by
  walk_at"B"
  subst hP hw hK
  obtain ⟨ok,ov,he⟩:=st
  obtain ⟨ha,hi⟩:=hg
  walk_at"h"
  obtain ⟨f0,f1,f2,f3,f4,f5⟩:=hf it (by simp)
  exact Hk.Ek (I.ok.hd hc) he ho pS (by rw[size_of_entries (FY X.prog X.w)];exact hi) fun h' eb=>⟨rfl,I.turned (t':=s.toks) (fun b o hb e=>eb b o hb e) f0 f1 f3 f4 f5⟩
 self:=fun A i s Q E st h=>by
  obtain ⟨ok,ov,he⟩:=st
  have hT:s.TypeIs (.ref it) "dict_itemiterator":=⟨_,he,rfl⟩
  exact wpAny_pyIter_slot hT PySem.F.slot_dict_itemiterator_iter (wpAny_call_entry PySem.F.slot_dict_itemiterator_iter hT CP (by
   show wpAny _ _ (ret (.ref it)) _ _ s
   exact wpAny_pure ⟨_,rfl,"dict_itemiterator",_,hT,PySem.F.slot_dict_itemiterator_next.lookup,h⟩) (PySem.F.args_dict_itemiterator_iter_1 _))
def ae1(to:TE):TI:=fun σ H R=>to σ H fun x H1=>∃a o ps vs,x = .ref a/\H1 a=some (.ext (DY a o ps))/\Vals vs (ps.map (·.2.2))/\R (ItY a o ps vs) H1
section
variable {X:Cx}{Cb:Addr}{G0:Hp}{Γ:List SK}{E:L2.St->XK}{o e:Expr}{f:DF}{κ:Kd}{pos:Pos}{elts:List Expr}{x1:Nat}{z:Bool}
theorem Fy{to:TE}{apos i7 tp:Pos}(ho:PE X o to)(vq:attributeBase o "items" X.env (eval o X.env)=eval o X.env:=by rfl)(vt:(apos.endLine==i7.line)=true:=by rfl):PI X (.Tuple elts x1 tp) (.Call (.Attribute o "items" apos) [] [] i7) (ae1 to):=by
 intro pins s σ H R I h
 refine wpAny_Call_method0_late vq vt (fH (ho pins s σ H _ I h) fun v s1 zz=>?_)
 obtain ⟨x,H1,I1,r1,a,oo,ps,vs,rfl,hx,rel,q1⟩:=zz
 cases r1
 obtain ⟨⟨N3,hz,hg,qS,es,ep,pS,FY,hn⟩,_,_⟩:=(show fT X.prog X.w H1 s1.heap a (.ext (DY a oo ps)) from I1.dS a _ hx)
 refine⟨"dict","dict.items",PySem.F.plainAttrs_dict,PySem.F.slot_dict_items,PySem.F.type_dict_items,⟨oo,hg,qS.1⟩,fun b e=>?_,?_⟩
 ·cases e;exact⟨oo,hg,qS.2.1⟩
 refine Calls.callWith_builtin rfl (PySem.evalArgs_none (Hk.C1 hg qS N3 ?_))
 refine Hk.C2 (d:=a) (od:=oo) (es:=es) (ep:=ep) ⟨_,Heap.get?_push_size _ rfl,rfl,rfl⟩ (Heap.get?_push_of_some _ hg) pS ?_
 have k2:∀b u,s1.heap.get? b=some u->((s1.heap.push { cls:=.type "dict_items",data:=.fields #[.ref a] }).push { cls:=.type "dict_itemiterator",data:=.fields #[.none,.bool false,.ref a,.int 0 0,.int es.size 0,.int ep 0,.none,.none] }).get? b=some u:=fun b u z=>Heap.get?_push_of_some _ (Heap.get?_push_of_some _ z)
 refine⟨_,[_],_,_,H1,rfl,I1.kept (t':=s1.toks) k2,Bd pS rel FY,⟨_,_,Heap.get?_push_size _ rfl⟩,fun b hb=>?_,q1⟩
 have xS:s1.heap.objs.size<=b:=by
  obtain rfl:b=_:=by simpa using hb
  exact Nat.le_succ _
 exact I1.GO xS (I1.dS.fresh xS)
def Fz(f:DF):DI:=fun st=>match f st with
 | .ok d=>(match gQ (some (some d)) with | some y=>.ok (y.2.map fun t=>.tup [t.2.1,t.2.2]) | none=>.bad)
 | .ex c p=>.ex c p
 | .bad=>.bad
theorem IK{apos i7 tp:Pos}(ha:PE X o (tD X.K (aU Cb) G0 Γ E f κ))(l:z=true->κ.le .old=true)(vq:attributeBase o "items" X.env (eval o X.env)=eval o X.env:=by rfl)(vt:(apos.endLine==i7.line)=true:=by rfl) :
  PI X (.Tuple elts x1 tp) (.Call (.Attribute o "items" apos) [] [] i7) (Lg X.K (aU Cb) G0 Γ E z (Fz f)):=(Fy ha vq vt).imp fun σ H Q zz=>by
 obtain ⟨A,st,r,q⟩:=zz
 walk_at"4"
 unfold Fz at q
 cases hf:f st with
 | bad=>rw[hf] at q;exact q
 | ex c p=>rw[hf] at q;exact q
 | ok d=>
  walk_at"1,"
  intro v H1 e1 w
  cases hy:gQ (some (some d)) with
  | none=>rw[hy] at q;exact q.elim
  | some y=>
   rw[hy] at q
   obtain ⟨hd,Nu⟩:=pO hy
   obtain ⟨ds,lp⟩:=y
   cases hd
   dsimp only at q Nu
   have w':Rep X.K (aU Cb) (er H1 (zB z A)) (.bU 2 ds) v:=by
    unfold zB
    cases z with
    | true=>exact w.le r e1 (κ':=.old) (l rfl)
    | false=>rw[if_neg (by decide),lT];exact w.rep
   obtain ⟨a,oo,ps,vs,rfl,g1,g2,g3,g5,g4,g6,g7⟩:=oh w' Nu
   have KR:ps.length=lp.length:=by rw[<- g4.1,List.length_map]
   refine⟨a,oo,ps,vs,rfl,aH _ _ _ _ g2,g1,q _ _ e1 fun i H3 A3 e3 nA=>⟨fun d hd=>?_,fun hd=>?_⟩⟩
   ·rw[List.getElem?_map] at hd
    cases Ab:lp[i]? with
    | none=>rw[Ab] at hd;cases hd
    | some t=>
     rw[Ab] at hd;cases hd
     have hi:i < ps.length:=by rw[KR];exact(List.getElem?_eq_some_iff.mp Ab).1
     have ga:H3 a=some (.ext (DY a oo ps)):=(e3.trans (aH _ _)) _ _ g2
     refine⟨⟨ga,hi⟩,fun x H' lO=>?_⟩
     obtain ⟨T,p,y,hp,FU,hT,hH,ex⟩:=lO
     subst hH ex
     obtain ⟨v1,Vo,rv1⟩:=g6.get' (show (lp.map (·.2.2))[i]?=some t.2.2 by rw[List.getElem?_map,Ab];rfl)
     rw[FU] at Vo;cases Vo
     obtain ⟨v2,hv2,rv2⟩:=g7.get' (show (lp.map (·.2.1))[i]?=some t.2.1 by rw[List.getElem?_map,Ab];rfl)
     rw[List.getElem?_map,hp] at hv2;cases hv2
     have nT:T∉A3:=fun m=>nA T m hT
     refine⟨c6 hT,?_⟩
     have up:aG (er H3 A3) (er (upd H3 T (.tup [.ref p.2.1,y])) A3):=aD (c6 hT)
     rw[Rep]
     refine⟨T,_,rfl,.inl (.inl (by rw[aW nT,bM])),?_⟩
     rw[aM]
     refine⟨_,[y],rfl,rv2.same (e3.trans up) _,?_⟩
     rw[aM]
     refine⟨y,[],rfl,rv1.same (e3.trans up) _,?_⟩
     rw[aM]
   ·rw[List.getElem?_map] at hd
    have hn:lp[i]?=none:=by cases Ab:lp[i]? with | none=>rfl | some t=>rw[Ab] at hd;cases hd
    exact⟨(e3.trans (aH _ _)) _ _ g2,by rw[KR];exact List.getElem?_eq_none_iff.mp hn⟩
end
end Dm
end Vn
section Vp
namespace Dm
open PySem PySem.Spec PyProof.Rows L2
section
variable {X:Cx}{Cb:Addr}{C:Cfg}{G0:Hp}{Γ:List SK}{E:L2.St->XK}{fL:Bool}{c k e:Expr}{f fk:DF}{κ:Kd}{pos:Pos}
def Be(s:Str)(f:DF):DF:=fun st=>match f st with
 | .ok d=>(match d with | .lst ds=>.ok (.tup [.str s,.lst ds]) | _=>.bad)
 | .ex c p=>.ex c p
 | .bad=>.bad
theorem Lx{s:Str}{x1:Nat}(hc:PE X c (tD X.K C G0 Γ E (dC (.str s)) .new))(he:PE X e (tD X.K C G0 Γ E f .loc))(h1:starEach [c,e] X.env=[(false,eval c X.env),(false,eval e X.env)]:=by rfl)(h2:starEach [e] X.env=[(false,eval e X.env)]:=by rfl) :
  PE X (.Tuple [c,e] x1 pos) (tD X.K C G0 Γ E (Be s f) .loc):=(GY (cZ hc (cZ he fV h2) (by rw[h1,h2]))).imp fun σ H Q zz=>by
 obtain ⟨A,st,r,q⟩:=zz
 walk_at"4"
 intro v1 H1 e1 w1
 walk_at"@"
 unfold Be at q
 cases hf:f st with
 | bad=>rw[hf] at q;exact q
 | ex c p=>rw[hf] at q;exact fun H' e'=>q H' (e1.trans e')
 | ok d=>
  walk_at"1"
  cases d with
  | lst ds=>
   walk_at","
   intro v2 H2 e2 w2
   have sG:=e1.trans e2
   refine⟨by simp only[List.length_cons,List.length_nil];rw[sizeLine_eq];decide,fun p hp=>q _ _ (sG.trans (c6 hp)) ?_⟩
   have Vo:=w1.rep
   rw[Rep] at Vo
   subst Vo
   have up:aG (nw G0 (er H2 A)) (nw G0 (er (upd H2 p (.tup [.str s,v2])) A)):=bJ (aD (c6 hp))
   have at_:nw G0 (er (upd H2 p (.tup [.str s,v2])) A) p=some (.tup [.str s,v2]):=AS (κ:=.loc) r sG hp
   obtain ⟨p',rfl,g0,xs,hx,rx⟩:=w2.2.1 rfl
   refine⟨?_,fun z=>(by cases z),fun s' F0 z=>?_⟩
   ·rw[Rep]
    exact⟨p,_,rfl,.of at_,.cons (by rw[Rep]) (.cons (w2.1.same up _) (by rw[aM]))⟩
   ·cases z
    exact⟨p,p',xs,rfl,.of at_,g0,up _ _ hx,rx.same (aD up) _⟩
  | _=>exact q.elim
def Vq(K:PySem.W.Frag)(tk tv:TE):TE:=fun σ H Q=>∀p o,H p=none->tk σ (upd H p (.ext (DY p o []))) fun x H1=>tv σ H1 fun y H2=>H2 p=some (.ext (DY p o []))/\∃b ks,x = .ref b/\jo K H2 ks b/\∀u o',RelV y u->Q (.ref p) (upd H2 p (.ext (DY p o' [(ks,b,u)])))
theorem Ly{tk tv:TE}(hu:X.A.units+1 < cLine)(hk:PE X k tk)(hv:PE X e tv):PE X (.Dict [some k] [e] pos) (Vq X.K tk tv):=by
 intro pins s σ H Q I q
 have hn:=I.dS.fresh (Nat.le_refl s.heap.objs.size)
 have N3:(s.heap.objs.size==sysModules)=false:=beq_eq_false_iff_ne.mpr (Ne.symm (Nat.ne_of_lt (Inv.V6 I)))
 have I1:=I.laid (a:=s.heap.objs.size) (o:=.ext (DY s.heap.objs.size _ [])) (h':=s.heap.push { cls:=.type "dict",data:=.dict #[] }) (t':=s.toks) (fun _ _ q=>Heap.get?_push_of_some _ q) (Nat.le_refl _) (B7 (Iu N3))
 refine wpAny_Dict_any rfl rfl (by simp) (by simp) (pairTrees_cons_walk (fH (hk pins _ σ _ _ I1 (q _ _ hn)) fun u s1 zz=>?_))
 obtain ⟨x,H1,I2,rx,q1⟩:=zz
 refine fH (hv pins s1 σ H1 _ I2 q1) fun w2 s2 zz=>?_
 obtain ⟨y,H2,I3,ry,hp,b,ks,rfl,hb,q2⟩:=zz
 cases rx
 refine pairTrees_nil_walk ?_
 obtain ⟨dd,_,hz⟩:=lY I3 hp (fun _ m=>nomatch m)
 unfold storeAll
 refine wpAny_forIn_list _ (fun rest _ s'=>(rest=[(Value.ref b,w2)]/\s'=s2)\/(rest=[]/\∃o',L2.Inv X pins σ (upd H2 s.heap.objs.size (.ext (DY s.heap.objs.size o' [(ks,b,w2)]))) s')) _ ?_ ?_ _ _ (.inl ⟨rfl,rfl⟩)
 ·rintro z rest b0 s' (⟨hr,rfl⟩ | ⟨hr,_⟩)
  ·cases hr
   refine wpAny_bind (wpAny_dictSet_heap (hsz:=hz) (show X.A.units+1 < cLine from hu) (lX I3 hb) dd fun h' V5 hs=>wpAny_pure (.inr ⟨rfl,?_⟩))
   have he:∃q,h'.get? s.heap.objs.size=some q:=let ⟨q,_,_,hq,_⟩:=V5;⟨q,hq⟩
   obtain ⟨o',dy⟩:=DY.of N3 (by rw[storedH_new rfl];simp only[List.nil_append,List.length_singleton];rw[sizeLine_eq];decide) V5
   rw[storedH_new rfl,List.nil_append] at dy
   exact⟨o',I3.write (x:=s.heap.objs.size) (e:=s.heap.objs.size) (by rw[hp];trivial) (.inl rfl) (fun c w hc z=>(hs.2 c hc).trans z) he (B7 dy)⟩
  ·cases hr
 ·rintro b0 s' (⟨hr,_⟩ | ⟨_,o',I4⟩)
  ·cases hr
  ·exact⟨.ref s.heap.objs.size,_,I4,rfl,q2 w2 o' ry⟩
def Bf(fk f:DF):DF:=fun st=>match fk st with
 | .ok kd=>(match f st with
  | .ok d=>(match t9 kd with | some _=>if R9 d=true then .ok (.bU 2 [kd,d]) else .bad | none=>.bad)
  | .ex c p=>.ex c p
  | .bad=>.bad)
 | .ex c p=>.ex c p
 | .bad=>.bad
theorem Lz{κk:Kd}(hu:X.A.units+1 < cLine)(hk:PE X k (tD X.K (aU Cb) G0 Γ E fk κk))(hv:PE X e (tD X.K (aU Cb) G0 Γ E f .new)):PE X (.Dict [some k] [e] pos) (tD X.K (aU Cb) G0 Γ E (Bf fk f) .new):=(Ly hu hk hv).imp fun σ H Q zz=>by
 obtain ⟨A,st,r,q⟩:=zz
 intro p o hp
 have e0:aG H (upd H p (.ext (DY p o []))):=c6 hp
 refine⟨A,st,r.mono e0,?_⟩
 unfold Bf at q
 cases hfk:fk st with
 | bad=>rw[hfk] at q;exact q
 | ex c p'=>rw[hfk] at q;exact fun H' e'=>q H' (e0.trans e')
 | ok kd=>
  rw[hfk] at q
  walk_at","
  intro x H1 e1 w1
  refine⟨A,st,(r.mono e0).mono e1,?_⟩
  cases hf:f st with
  | bad=>rw[hf] at q;exact q
  | ex c p'=>rw[hf] at q;exact fun H' e'=>q H' ((e0.trans e1).trans e')
  | ok d=>
   walk_at"1,"
   intro y H2 e2 w2
   cases Ge:t9 kd with
   | none=>rw[Ge] at q;exact q.elim
   | some ks=>
    rw[Ge] at q
    walk_at","
    by_cases ho:R9 d=true
    ·rw[if_pos ho] at q
     have sG:=e1.trans e2
     have e02:=e0.trans sG
     have NO:H2 p=some (.ext (DY p o [])):=sG _ _ bM
     have wk:=w1.rep.same e2 _
     obtain ⟨b,rfl,hb⟩:=m6 wk Ge
     refine⟨NO,b,ks,rfl,hb,fun u o' ru=>?_⟩
     have nz:∀b' w,nw H (upd H2 p (.ext (DY p o' [(ks,b,u)]))) b'=some w->True:=fun _ _ _=>trivial
     have S:aG (nw H1 H2) (er (nw H (upd H2 p (.ext (DY p o' [(ks,b,u)])))) [p]):=fun b' w z=>by
      unfold nw at z
      split at z
      ·rename_i kp
       have nb:b'≠p:=fun w'=>by
        subst w'
        rw[e1 _ _ bM] at kp;cases kp
       rw[aW (by simpa using nb)]
       unfold nw
       rw[if_pos (lP (e0.trans e1) kp),aY nb]
       exact z
      ·cases z
     have wv:Rep X.K (aU Cb) (er (nw H (upd H2 p (.ext (DY p o' [(ks,b,u)])))) [p]) d y:=w2.1.same S _
     have kt:ji H2 (er (nw H (upd H2 p (.ext (DY p o' [(ks,b,u)])))) [p]):=by
      refine⟨fun b' w z=>?_,fun a xs z=>?_⟩
      ·by_cases nb:b'=p
       ·rw[nb,cV (by simp)] at z;cases z
       ·rw[aW (by simpa using nb)] at z
        have:=cK _ _ _ _ z
        rwa [aY nb] at this
      ·have na:a≠p:=fun w=>by
        rcases z with z | ⟨u',z⟩
        ·rw[w,NO] at z;cases z
        ·rw[w,NO] at z;cases z
       have kn:u7 (H a)=true:=by
        cases q':H a with
        | none=>rfl
        | some o''=>
         have:=e02 a o'' q'
         rcases z with z | ⟨u',z⟩
         ·rw[z] at this;cases this;rfl
         ·rw[z] at this;cases this;rfl
       unfold Rd
       rw[aW (by simpa using na)]
       unfold nw
       rw[if_pos kn,aY na]
       exact z
     have wk2:Rep X.K (aU Cb) (er (nw H (upd H2 p (.ext (DY p o' [(ks,b,u)])))) [p]) kd (.ref b):=Rep.part kt _ (zF Ge) wk
     obtain ⟨b2,R1,hbk⟩:=m6 wk2 Ge
     cases R1
     have at_:nw H (upd H2 p (.ext (DY p o' [(ks,b,u)]))) p=some (.ext (DY p o' [(ks,b,u)])):=by rw[jV hp];exact bM
     have plv:∀l',y = .ref l'->∃ys,er (nw H (upd H2 p (.ext (DY p o' [(ks,b,u)])))) [p] l'=some (.lst ys):=fun l' zl=>by
      cases d with
      | lst es=>
       obtain ⟨p',z,h0,ys,hy,_⟩:=w2.2.1 rfl
       rw[zl] at z;cases z
       exact⟨ys,S _ _ hy⟩
      | int n=>have:=w2.1;rw[Rep] at this;rw[this] at zl;cases zl
      | _=>cases ho
     have own:jW X.K (aU Cb) (er (nw H (upd H2 p (.ext (DY p o' [(ks,b,u)])))) [p]) (nw H (upd H2 p (.ext (DY p o' [(ks,b,u)])))) p (.bU 2 [kd,d]):=
      ⟨rfl,l7 [(ks,b,u)] [y],⟨o',_,_,rfl,.cons ru .nil,at_,fun x m=>by obtain rfl:=List.mem_singleton.mp m;exact hbk,fun l' m=>plv l' (List.mem_singleton.mp m).symm⟩,.cons wk2 (.cons wv (by rw[aM];rfl))⟩
     refine q _ _ (fun b' w z=>?_) ⟨own.rep (.refl _) rfl,fun _=>⟨p,rfl,hp,own⟩,.not rfl⟩
     have nb:b'≠p:=fun w'=>by rw[w',hp] at z;cases z
     rw[aY nb];exact e02 _ _ z
    ·rw[if_neg ho] at q;exact q.elim
end
end Dm
end Vp
section ae2
namespace Dm
open PySem PySem.Spec PyProof.Rows L2
section
variable {X:Cx}{pos:Pos}
end
section
variable {X:Cx}{C:Cfg}{G0:Hp}{Γ:List SK}{E:L2.St->XK}{fL:Bool}{a b c:Expr}{fs:DA}{pos:Pos}
end
section
variable {X:Cx}{C:Cfg}
end
end Dm
namespace Dm
theorem w6{u c:Nat}(h:u+64 < c):u+2 < c:=by lia
theorem Pw{u c:Nat}(h:u+64 < c):u+1 < c:=by lia
end Dm
end ae2
section Vr
namespace Pk
open PySem PySem.Spec PyProof.Rows L2 PySem.W Dm
def top(i:Nat):Stmt:=PySem.Challenge.pw_pegleap_k09_first_rows.main.body.getD i (.Pass ⟨0,0,0,0⟩)
abbrev iH:Stmt:=top 7
abbrev l9:Stmt:=top 8
abbrev gk:Stmt:=top 9
abbrev jO:Stmt:=inClass (top 10) 0
abbrev gR:Stmt:=top 11
abbrev iI:Stmt:=top 12
abbrev lq:Stmt:=top 13
abbrev rR:Stmt:=top 14
abbrev gm:Stmt:=top 17
abbrev gn:Stmt:=top 18
abbrev oj:Stmt:=top 19
abbrev jq:Stmt:=top 20
abbrev gS:Stmt:=top 22
abbrev iJ:Stmt:=top 23
abbrev gT:Stmt:=top 24
abbrev om:Stmt:=top 26
abbrev fu:Stmt:=top 28
abbrev jr:Stmt:=top 29
abbrev eU:Stmt:=top 30
abbrev fz:Stmt:=top 31
abbrev fB:Stmt:=top 32
abbrev gU:Stmt:=top 33
abbrev iK:Stmt:=top 34
abbrev gq:Stmt:=top 35
abbrev iM:Stmt:=top 36
abbrev gW:Stmt:=top 37
abbrev gX:Stmt:=top 38
abbrev Bg:Stmt:=top 39
structure i0 where
 CQ:Addr
 dH:Addr
 di:Addr
 aC:Addr
 Px:Tok
 zG:Tok
 FA:Tok
structure Txt(K:Frag)(mg:Str->Option Value)(t:i0):Prop where
 ud:rM K mg "is_rising" "is_rising" iH ["cells"]
 yt:rM K mg "is_cell" "is_cell" l9 ["cell"]
 qi:rM K mg "check_cells" "check_cells" gk ["cells"]
 rS:rM K mg "check_pegs" "check_pegs" gR ["board","pegs"]
 uf:rM K mg "two_apart" "two_apart" iI ["cell"]
 yu:rM K mg "between" "between" lq ["cell","other"]
 DT:rM K mg "leaps" "leaps" rR ["board"]
 qj:rM K mg "can_be_done" "can_be_done" gm ["pegs","leap"]
 qk:rM K mg "pegs_behind" "pegs_behind" gn ["pegs","leap"]
 Bh:rM K mg "odd_on" "odd_on" oj ["colours","two"]
 w9:rM K mg "class_of" "class_of" jq ["board","pegs"]
 rT:rM K mg "steps_from" "steps_from" gS ["all_leaps","standing"]
 ug:rM K mg "next_rows" "next_rows" iJ ["all_leaps","layer"]
 rU:rM K mg "first_rows" "first_rows" gT ["board","pegs"]
 Bj:rM K mg "answer" "answer" om ["board","pegs","others"]
 oq:rM K mg "_law_cell_at" "_law_cell_at" fu ["script","k"]
 we:rM K mg "_law_mix" "_law_mix" jr ["cell","k","many"]
 nE:rM K mg "_law_cells_by" "_law_cells_by" eU ["script","most"]
 ou:rM K mg "_law_pegs_by" "_law_pegs_by" fz ["cell","cells"]
 oz:rM K mg "_law_between" "_law_between" fB ["leap"]
 rV:rM K mg "_law_leaps" "_law_leaps" gU ["cells"]
 uh:rM K mg "_law_open" "_law_open" iK ["cells","pegs"]
 ql:rM K mg "_law_behind" "_law_behind" gq ["pegs","leap"]
 um:rM K mg "_law_gone" "_law_gone" iM ["cells","pegs","cell","most"]
 rW:rM K mg "_law_reach" "_law_reach" gW ["cells","pegs"]
 rX:rM K mg "_law_first" "_law_first" gX ["cells","pegs","others"]
 IL:rM K mg "law" "law" Bg ["script"]
 IM:mg "abs" =none
 uo:mg "enumerate" =none
 m7:mg "isinstance" =none
 oA:mg "len" =none
 m8:mg "list" =none
 uS:mg "range" =none
 Nv:mg "set" =none
 lz:mg "sorted" =none
 pP:mg "tuple" =none
 ig:mg "COLOURS" =some (.int (3) t.FA)
 oB:mg "LAST" =some (.int (7) t.Px)
 ez:mg "MOST_CELLS" =some (.int (24) t.zG)
 jt:mg "PegError" =some (.ref t.CQ)
 fC:mg "BadBoard" =some (.ref t.dH)
 ir:mg "BadPegs" =some (.ref t.di)
 pQ:mg "Board" =some (.ref t.aC)
 fD:Nk K t.dH [.type "ValueError",.type "Exception",.type "BaseException",.type "object"] "ValueError.__new__" =true
 iu:Nk K t.di [.type "ValueError",.type "Exception",.type "BaseException",.type "object"] "ValueError.__new__" =true
 Rb:GX K t.aC
 JQ:jg K t.aC "cells"
 iB:∃a fd,Hj K "__init__" "Board.__init__" jO a fd/\Mk K t.aC a/\Binds K fd ["self","cells"] []
theorem Bk:ExcBaseFacts "ValueError" "ValueError.__new__" "ValueError.__init__" [.type "ValueError",.type "Exception",.type "BaseException",.type "object"]  :=PySem.F.excBase_ValueError
theorem k7:bootBuiltins "len" =some (.builtin "len"):=by decide +kernel
theorem m9:bootBuiltins "list" =some (.type "list"):=by decide +kernel
def ja:String->Option Bool:=fun x=>if x = "tuple" then some true else if x = "int" then some false else if x = "bool" then some false else if x = "list" then some false else if x = "str" then some false else if x = "NoneType" then some false else none
theorem zH{K:Frag}:∀x b,ja x=some b->kitOne K (.type x) (.type "tuple")=some b:=fun x b h=>by
 unfold ja at h
 repeat' (split at h)
 all_goals (first | cases h;done | (rename_i e;subst e;cases h;first | (unfold kitOne;rw[if_pos (by decide)]) | exact Po (by decide) (by decide +kernel) (by decide +kernel)))
def lB:String->Option Bool:=fun x=>if x = "list" then some true else none
theorem Bl{K:Frag}:∀x b,lB x=some b->kitOne K (.type x) (.type "list")=some b:=fun x b h=>by
 unfold lB at h
 split at h
 ·rename_i e;subst e;cases h;unfold kitOne;rw[if_pos (by decide)]
 ·cases h
def cF(t:i0):List D->R D:=bP 1 (eS (aQ (iX false) (ak 0) (rA jm (ak 0))))
def jb(t:i0):List D->R D:=bP 1 (eS (j4 (lV Nm Nm (dC (.int 0)) (aQ cQ (ak 0) (dC (.int 0))) (dC (.int (7)))) (lV Nm Nm (dC (.int 0)) (aQ cQ (ak 0) (dC (.int 1))) (dC (.int (7))))))
def bL(t:i0):List D->R D:=bP 2 (b9 (cI (qx (lV Nm Nm (dC (.int 1)) (bz jX (aa (ak 0) av)) (dC (.int (24)))))
 (gz t.dH)
 bN)
 (b9 (cI (qx (bz (cF t) (aa (ak 0) av)))
 (gz t.dH)
 bN)
 (dZ (eT (ak 0)) (bX 1)
 (cI (qx (bz (jb t) (aa (ak 1) av)))
 (gz t.dH)
 bN))))
def bZ(t:i0):List D->R D:=bP 3 (b9 (cI (qx (bz (cF t) (aa (ak 1) av)))
 (gz t.di)
 bN)
 (dZ (eT (ak 1)) (bX 2)
 (cI (aQ (j8 true) (ak 2) (rA d9 (ak 0)))
 (gz t.di)
 bN)))
def fE(t:i0):List D->R D:=bP 3 (b9 (bO 1 (aX (aQ cQ (ak 0) (dC (.int 0)))))
 (b9 (bO 2 (aX (aQ cQ (ak 0) (dC (.int 1)))))
 (eS (bY 100 (aa (bK 100 (aa (aQ jS (ak 1) (dC (.int 2))) (aa (aX (ak 2)) av))) (aa (bK 100 (aa (aX (ak 1)) (aa (aQ jS (ak 2) (dC (.int 2))) av))) (aa (bK 100 (aa (aX (ak 1)) (aa (aQ gf (ak 2) (dC (.int 2))) av))) (aa (bK 100 (aa (aQ gf (ak 1) (dC (.int 2))) (aa (aX (ak 2)) av))) av))))))))
def dj(t:i0):List D->R D:=bP 2 (eS (bK 100 (aa (aQ nV (aQ gf (aQ cQ (ak 0) (dC (.int 0))) (aQ cQ (ak 1) (dC (.int 0)))) (dC (.int 2))) (aa (aQ nV (aQ gf (aQ cQ (ak 0) (dC (.int 1))) (aQ cQ (ak 1) (dC (.int 1)))) (dC (.int 2))) av))))
def rY(t:i0):List D->R D:=bP 4 (b9 (bO 1 (bY 100 av))
 (b9 (dZ (eT (rA d9 (ak 0))) (bX 2)
 (dZ (eT (bz (fE t) (aa (ak 2) av))) (bX 3)
 (cI (j4 (aQ (j8 false) (ak 3) (rA d9 (ak 0))) (aQ (j8 false) (bz (dj t) (aa (ak 2) (aa (ak 3) av))) (rA d9 (ak 0))))
 (i9 1 (bK 100 (aa (aX (ak 2)) (aa (aX (ak 3)) av))))
 bN)))
 (eS (ak 1))))
def gr(t:i0):List D->R D:=bP 2 (eS (j4 (aQ (j8 false) (aQ cQ (ak 1) (dC (.int 0))) (ak 0)) (j4 (aQ (j8 true) (aQ cQ (ak 1) (dC (.int 1))) (ak 0)) (aQ (j8 false) (bz (dj t) (aa (aQ cQ (ak 1) (dC (.int 0))) (aa (aQ cQ (ak 1) (dC (.int 1))) av))) (ak 0)))))
def gu(t:i0):List D->R D:=bP 3 (b9 (bO 2 (bK 100 (aa (aX (aQ cQ (ak 1) (dC (.int 0)))) (aa (bz (dj t) (aa (aQ cQ (ak 1) (dC (.int 0))) (aa (aQ cQ (ak 1) (dC (.int 1))) av))) av))))
 (eS (bz eo (aa (aQ pV (iG (WW (ak 0)) 1 [2] (bX 0) (aQ (j8 true) (ak 0) (ak 1)) (aX (ak 0))) (bY 100 (aa (aX (aQ cQ (ak 1) (dC (.int 1)))) av))) av))))
def iN(t:i0):List D->R D:=bP 2 (eS (aQ i8 (bz jX (aa (iG (eT (ak 0)) 1 [1] (bX 0) (aQ (j8 false) (ak 0) (ak 1)) (aX (ak 0))) av)) (dC (.int 2))))
def iw(t:i0):List D->R D:=bP 4 (b9 (u9 (bz (bZ t) (aa (ak 0) (aa (ak 1) av))))
 (b9 (bO 2 (iG (eT (ak 1)) 1 [] (bX 0) (dC (.bl true)) (aQ i8 (aQ gf (aQ cQ (ak 0) (dC (.int 0))) (aQ cQ (ak 0) (dC (.int 1)))) (dC (.int (3))))))
 (b9 (bO 3 (iG (eT (ak 1)) 1 [] (bX 0) (dC (.bl true)) (aQ i8 (aQ jS (aQ cQ (ak 0) (dC (.int 0))) (aQ cQ (ak 0) (dC (.int 1)))) (dC (.int (3))))))
 (eS (bK 100 (aa (bz (iN t) (aa (ak 2) (aa (bK 100 (aa (dC (.int 0)) (aa (dC (.int 1)) av))) av))) (aa (bz (iN t) (aa (ak 2) (aa (bK 100 (aa (dC (.int 1)) (aa (dC (.int 2)) av))) av))) (aa (bz (iN t) (aa (ak 3) (aa (bK 100 (aa (dC (.int 0)) (aa (dC (.int 1)) av))) av))) (aa (bz (iN t) (aa (ak 3) (aa (bK 100 (aa (dC (.int 1)) (aa (dC (.int 2)) av))) av))) av)))))))))
def eE(t:i0):List D->R D:=bP 2 (eS (iG (eT (ak 0)) 1 [1] (bX 0) (bz (gr t) (aa (ak 1) (aa (ak 0) av))) (bK 100 (aa (aX (ak 0)) (aa (bz ie (aa (bz (gu t) (aa (ak 1) (aa (ak 0) av))) av)) av)))))
def gD(t:i0):List D->R D:=bP 7 (b9 (bO 2 (dC (.bU 2 [])))
 (b9 (dZ (Fz (ak 1)) (iZ 3 4)
 (dZ (eT (bz (eE t) (aa (ak 0) (aa (ak 3) av)))) (iZ 5 6)
 (cI (aQ (rQ true) (ak 6) (ak 2))
 (CO 2 (ak 6) (aQ pV (ak 4) (bY 100 (aa (aX (ak 5)) av))))
 bN)))
 (eS (ak 2))))
def gY(t:i0):List D->R D:=bP 5 (b9 (bO 2 (bz (rY t) (aa (ak 0) av)))
 (b9 (bO 3 (dC (.bU 2 [])))
 (b9 (bO 4 (Bf (bz ie (aa (ak 1) av)) (bY 100 av)))
 (b9 (jZ (aQ L4 (bz qg (aa (ak 4) av)) (dC (.int 0)))
 (b9 (Fx 3 (ak 4))
 (bO 4 (bz (gD t) (aa (ak 2) (aa (ak 4) av))))) 40)
 (eS (ak 3))))))
def ju(t:i0):List D->R D:=bP 4 (b9 (u9 (bz (bZ t) (aa (ak 0) (aa (ak 1) av))))
 (b9 (u9 (bz (bZ t) (aa (ak 0) (aa (ak 2) av))))
 (b9 (cI (aQ (iX true) (bz (iw t) (aa (ak 0) (aa (ak 1) av))) (bz (iw t) (aa (ak 0) (aa (ak 2) av))))
 Pn
 bN)
 (b9 (bO 3 (bz (gY t) (aa (ak 0) (aa (ak 1) av))))
 (b9 (cI (aQ (rQ false) (bz ie (aa (ak 2) av)) (ak 3))
 (eS (Be "leaps" (aQ qh (ak 3) (bz ie (aa (ak 2) av)))))
 bN)
 Pn)))))
def b5(t:i0):List D->R D:=bP 2 (b9 (cI (aQ UH (ak 1) (bz jX (aa (ak 0) av)))
 (eS (aX (aQ cQ (ak 0) (ak 1))))
 bN)
 (eS (dC (.int 0))))
def aT(t:i0):List D->R D:=bP 5 (b9 (bO 3 (bY 100 (aa (dC (.int 48271)) (aa (dC (.int 69621)) (aa (dC (.int 16807)) (aa (dC (.int 39373)) (aa (dC (.int 30269)) (aa (dC (.int 40014)) (aa (dC (.int 40692)) (aa (dC (.int 50021)) (aa (dC (.int 61687)) (aa (dC (.int 71993)) (aa (dC (.int 83869)) (aa (dC (.int 95561)) (aa (dC (.int 30307)) av)))))))))))))))
 (b9 (bO 4 (aQ rC (aQ gf (aQ i8 (ak 0) (dC (.int 2147483647))) (dC (.int 12345))) (aQ cQ (ak 3) (aQ i8 (ak 1) (dC (.int 13))))))
 (b9 (bO 4 (aQ gf (aQ rC (ak 4) (aQ gf (aQ rC (dC (.int 2)) (aQ nV (ak 1) (dC (.int 13)))) (dC (.int 1)))) (aQ rC (dC (.int 977)) (ak 1))))
 (eS (aQ i8 (aQ nV (aQ i8 (ak 4) (dC (.int 1000000007))) (dC (.int 7))) (ak 2))))))
def cj(t:i0):List D->R D:=bP 9 (b9 (bO 2 (bz (b5 t) (aa (ak 0) (aa (dC (.int 0)) av))))
 (b9 (AZ 3 4 (aa (aQ gf (dC (.int 1)) (bz (aT t) (aa (ak 2) (aa (dC (.int 1)) (aa (dC (.int 4)) av))))) (aa (aQ gf (dC (.int 1)) (bz (aT t) (aa (ak 2) (aa (dC (.int 2)) (aa (dC (.int 6)) av))))) av)))
 (b9 (cI (aQ (iX false) (aQ i8 (ak 2) (dC (.int 4))) (dC (.int 1)))
 (yj (iZ 3 4) (aX (aQ cQ (bY 100 (aa (bK 100 (aa (aQ gf (dC (.int 1)) (aQ i8 (ak 3) (dC (.int 3)))) (aa (dC (.int 8)) av))) (aa (bK 100 (aa (dC (.int 8)) (aa (aQ gf (dC (.int 1)) (aQ i8 (ak 4) (dC (.int 3)))) av))) av))) (aQ i8 (aQ nV (ak 2) (dC (.int 4))) (dC (.int 2))))))
 bN)
 (b9 (AZ 5 6 (aa (bz (aT t) (aa (ak 2) (aa (dC (.int 3)) (aa (aQ jS (dC (.int 9)) (ak 3)) av)))) (aa (bz (aT t) (aa (ak 2) (aa (dC (.int 4)) (aa (aQ jS (dC (.int 9)) (ak 4)) av)))) av)))
 (b9 (bO 7 (bY 100 av))
 (b9 (dZ (rG (aa (aQ rC (ak 3) (ak 4)) av)) (bX 8)
 (cI (aQ L4 (bz (aT t) (aa (bz (b5 t) (aa (ak 0) (aa (dC (.int 1)) av))) (aa (ak 8) (aa (dC (.int 7)) av)))) (dC (.int 0)))
 (i9 7 (bK 100 (aa (aQ gf (ak 5) (aQ nV (ak 8) (ak 4))) (aa (aQ gf (ak 6) (aQ i8 (ak 8) (ak 4))) av))))
 bN))
 (b9 (cI (aQ (iX false) (bz jX (aa (ak 7) av)) (dC (.int 0)))
 (bO 7 (bY 100 (aa (bK 100 (aa (aX (ak 5)) (aa (aX (ak 6)) av))) av)))
 bN)
 (eS (Gd (ak 7) none (some (ak 1)))))))))))
def dR(t:i0):List D->R D:=bP 4 (b9 (bO 2 (bz (aT t) (aa (ak 0) (aa (dC (.int 40)) (aa (dC (.int 4)) av)))))
 (b9 (cI (aQ (iX false) (ak 2) (dC (.int 0)))
 (b9 (bO 3 (bz (aT t) (aa (ak 0) (aa (dC (.int 41)) (aa (bz jX (aa (ak 1) av)) av)))))
 (eS (aQ pV (Gd (ak 1) none (some (ak 3))) (Gd (ak 1) (some (aQ gf (ak 3) (dC (.int 1)))) none))))
 bN)
 (eS (iG (Lo (ak 1)) 2 [0,2] (iZ 0 1) (aQ L4 (bz (aT t) (aa (ak 2) (aa (ak 0) (aa (aQ cQ (bY 100 (aa (dC (.int 0)) (aa (dC (.int 2)) (aa (dC (.int 3)) (aa (dC (.int 4)) av))))) (ak 3)) av)))) (dC (.int 0))) (aX (ak 1))))))
def b6(t:i0):List D->R D:=bP 1 (eS (bK 100 (aa (aQ nV (aQ gf (aQ cQ (aQ cQ (ak 0) (dC (.int 0))) (dC (.int 0))) (aQ cQ (aQ cQ (ak 0) (dC (.int 1))) (dC (.int 0)))) (dC (.int 2))) (aa (aQ nV (aQ gf (aQ cQ (aQ cQ (ak 0) (dC (.int 0))) (dC (.int 1))) (aQ cQ (aQ cQ (ak 0) (dC (.int 1))) (dC (.int 1)))) (dC (.int 2))) av))))
def fQ(t:i0):List D->R D:=bP 5 (b9 (bO 1 (bY 100 av))
 (b9 (dZ (eT (ak 0)) (bX 2)
 (dZ (eT (ak 0)) (bX 3)
 (b9 (bO 4 (bz eo (aa (bY 100 (aa (bz t8 (aa (aQ jS (aQ cQ (ak 2) (dC (.int 0))) (aQ cQ (ak 3) (dC (.int 0)))) av)) (aa (bz t8 (aa (aQ jS (aQ cQ (ak 2) (dC (.int 1))) (aQ cQ (ak 3) (dC (.int 1)))) av)) av))) av)))
 (cI (j4 (aQ (iX false) (ak 4) (bY 100 (aa (dC (.int 0)) (aa (dC (.int 2)) av)))) (aQ (j8 false) (bz (b6 t) (aa (bK 100 (aa (aX (ak 2)) (aa (aX (ak 3)) av))) av)) (ak 0)))
 (i9 1 (bK 100 (aa (aX (ak 2)) (aa (aX (ak 3)) av))))
 bN))))
 (eS (bz eo (aa (ak 1) av)))))
def bR(t:i0):List D->R D:=bP 5 (b9 (bO 2 (bY 100 av))
 (b9 (dZ (eT (bz (fQ t) (aa (ak 0) av))) (iZ 3 4)
 (cI (j4 (aQ (j8 false) (ak 3) (ak 1)) (j4 (aQ (j8 false) (bz (b6 t) (aa (bK 100 (aa (aX (ak 3)) (aa (aX (ak 4)) av))) av)) (ak 1)) (aQ (j8 true) (ak 4) (ak 1))))
 (i9 2 (bK 100 (aa (aX (ak 3)) (aa (aX (ak 4)) av))))
 bN))
 (eS (ak 2))))
def bG(t:i0):List D->R D:=bP 3 (b9 (bO 2 (iG (eT (ak 0)) 1 [1] (bX 0) (j4 (aQ (iX true) (ak 0) (aQ cQ (ak 1) (dC (.int 0)))) (aQ (iX true) (ak 0) (bz (b6 t) (aa (ak 1) av)))) (aX (ak 0))))
 (eS (bz eo (aa (aQ pV (ak 2) (bY 100 (aa (aX (aQ cQ (ak 1) (dC (.int 1)))) av))) av))))
def gE(t:i0):List D->R D:=bP 9 (b9 (bO 4 (bY 100 av))
 (b9 (bO 5 (bz iY (aa (ak 1) av)))
 (b9 (dZ (rG (aa (bz (aT t) (aa (ak 2) (aa (dC (.int 60)) (aa (aQ gf (ak 3) (dC (.int 1))) av)))) av)) (bX 6)
 (b9 (bO 7 (bz (bR t) (aa (ak 0) (aa (ak 5) av))))
 (cI (aQ L4 (bz jX (aa (ak 7) av)) (dC (.int 0)))
 (b9 (bO 8 (aX (aQ cQ (ak 7) (bz (aT t) (aa (ak 2) (aa (aQ gf (dC (.int 61)) (ak 6)) (aa (bz jX (aa (ak 7) av)) av)))))))
 (b9 (i9 4 (aX (ak 8)))
 (bO 5 (bz (bG t) (aa (ak 5) (aa (ak 8) av))))))
 bN)))
 (eS (bK 100 (aa (ak 4) (aa (ak 5) av)))))))
def eG(t:i0):List D->R D:=bP 6 (b9 (bO 2 (bY 100 (aa (bz iY (aa (ak 1) av)) av)))
 (b9 (bO 3 (dC (.int 0)))
 (b9 (jZ (aQ UH (ak 3) (bz jX (aa (ak 2) av)))
 (b9 (dZ (eT (bz (bR t) (aa (ak 0) (aa (aQ cQ (ak 2) (ak 3)) av)))) (bX 4)
 (b9 (bO 5 (bz (bG t) (aa (aQ cQ (ak 2) (ak 3)) (aa (ak 4) av))))
 (cI (aQ (j8 true) (ak 5) (ak 2))
 (i9 2 (ak 5))
 bN)))
 (bO 3 (aQ gf (ak 3) (dC (.int 1))))) 600)
 (eS (ak 2)))))
def gZ(t:i0):List D->R D:=bP 7 (b9 (bO 3 (bz iY (aa (ak 1) av)))
 (b9 (bO 4 (bY 100 av))
 (b9 (jZ (aQ (iX true) (ak 3) (ak 2))
 (dZ (eT (bz (bR t) (aa (ak 0) (aa (ak 3) av)))) (bX 5)
 (b9 (bO 6 (bz (bG t) (aa (ak 3) (aa (ak 5) av))))
 (cI (aQ (j8 false) (ak 2) (bz (eG t) (aa (ak 0) (aa (ak 6) av))))
 (b9 (i9 4 (aX (ak 5)))
 (b9 (bO 3 (ak 6))
 zw))
 bN))) 40)
 (eS (ak 4)))))
def yv(t:i0):List D->R D:=bP 9 (b9 (bO 1 (bz (cj t) (aa (ak 0) (aa (dC (.int 8)) av))))
 (b9 (bO 2 (bz (qz (bL t)) (aa (bz iY (aa (ak 1) av)) av)))
 (b9 (bO 3 (bz (dR t) (aa (bz (b5 t) (aa (ak 0) (aa (dC (.int 2)) av))) (aa (ak 1) av))))
 (b9 (bO 4 (aQ cQ (bz (gE t) (aa (ak 1) (aa (ak 3) (aa (bz (b5 t) (aa (ak 0) (aa (dC (.int 3)) av))) (aa (dC (.int 8)) av))))) (dC (.int 1))))
 (b9 (bO 5 (bz (gZ t) (aa (ak 1) (aa (ak 3) (aa (ak 4) av)))))
 (b9 (dZ (rG (aa (dC (.int 2)) av)) (bX 6)
 (b9 (bO 7 (bY 100 (aa (bz iY (aa (ak 3) av)) (aa (bz iY (aa (ak 4) av)) av))))
 (b9 (bO 8 (bz (ju t) (aa (ak 2) (aa (aQ cQ (ak 7) (dC (.int 0))) (aa (aQ cQ (ak 7) (dC (.int 1))) av)))))
 (b9 (cI (Ga (qx (rA (xE ja) (ak 8))) (Ga (aQ (iX true) (bz jX (aa (ak 8) av)) (dC (.int 2))) (Ga (aQ (iX true) (aQ cQ (ak 8) (dC (.int 0))) (dC (.str "leaps"))) (qx (rA (xE lB) (aQ cQ (ak 8) (dC (.int 1))))))))
 (eS (dC (.bl false)))
 bN)
 (b9 (cI (Ga (aQ (iX true) (aQ cQ (ak 8) (dC (.int 1))) (ak 5)) (aQ (iX true) (ak 7) (bY 100 (aa (ak 3) (aa (ak 4) av)))))
 (eS (dC (.bl false)))
 bN)
 (B4 8 (bK 100 (aa (bK 100 (aa (dC (.int 0)) (aa (dC (.int 0)) av))) (aa (bK 100 (aa (dC (.int 0)) (aa (dC (.int 2)) av))) av)))))))))
 (eS (dC (.bl true)))))))))
section
variable {P:Program}{w:World}{K:Frag}{mg:Str->Option Value}{base:Heap}{t:i0}
theorem zI:br ["cells"] ["cells"] (az iH):=⟨rfl,rfl,rfl,by decide +kernel,rfl,by decide +kernel,by decide +kernel⟩
theorem zJ(T:Txt K mg t):FD P w K mg base (aU t.aC) 1 "is_rising" ["cells"] 1 (cF t) true:=
 dQ (Γ:=[.par]) T.ud zI rfl (fun i h=>by match i,h with | 0,_=>rfl) fun f dU A outer s H E hr=>
 by
 walk_at"*9"
 refine zq (aA:=.old) (bC:=.new) (vF hr.units) ic ?_ ?_ (dX _)
 walk_at")"
 refine CI (κ:=.old) hr.hd hr.units T.lz T.Nv ?_
 walk_at")"
theorem CS:br ["cell"] ["cell"] (az l9):=⟨rfl,rfl,rfl,by decide +kernel,rfl,by decide +kernel,by decide +kernel⟩
theorem CT(T:Txt K mg t):FD P w K mg base (aU t.aC) 1 "is_cell" ["cell"] 1 (jb t) true:=
 dQ (Γ:=[.par]) T.yt CS rfl (fun i h=>by match i,h with | 0,_=>rfl) fun f dU A outer s H E hr=>
 by
 walk_at"*9"
 refine CG (aA:=.new) ?_ ?_
 refine AV (aA:=.new) (bC:=.old) (xq:=.new) xW xW sX sX ?_ ?_ ?_
 walk_at"!/)!"
 exact rB rfl T.oB
 refine HW ?_
 refine AV (aA:=.new) (bC:=.old) (xq:=.new) xW xW sX sX ?_ ?_ ?_
 walk_at"!/)!"
 exact rB rfl T.oB
theorem oE:br ["cells","cell"] ["cells"] (az gk):=⟨rfl,rfl,rfl,by decide +kernel,rfl,by decide +kernel,by decide +kernel⟩
theorem wg(T:Txt K mg t)(gF:FD P w K mg base (aU t.aC) 1 "is_rising" ["cells"] 1 (cF t) true)(tu:FD P w K mg base (aU t.aC) 1 "is_cell" ["cell"] 1 (jb t) true):FD P w K mg base (aU t.aC) 2 "check_cells" ["cells"] 1 (bL t) true:=
 dQ (Γ:=[.par,.par]) T.qi oE rfl (fun i h=>by match i,h with | 0,_=>rfl) fun f dU A outer s H E hr=>
 by
 walk_at"(:"
 refine sY ?_
 refine Ib (aA:=.new) (bC:=.new) (xq:=.new) xW xW sX sX ?_ ?_ ?_
 walk_at"!ED&)'"
 exact rB rfl T.ez
 walk_at"*"
 exact l8 Bk hr.hd T.fC T.fD (B8 (all_cons (j9 (n:=500) (by decide +kernel)) (all_cons (B0 (n:=500) T.ez (by decide) (by decide +kernel)) (all_cons (j9 (n:=500) (by decide +kernel)) all_nil))) (by decide))
 walk_at"(:"
 refine sY ?_
 refine yg (κ:=.new) ?_
 refine aJ (κ:=.aF) gF hr (by decide) ?_ (aq aO)
 walk_at"&)'*"
 exact l8 Bk hr.hd T.fC T.fD (j9 (n:=500) (by decide +kernel))
 walk_at"*"
 refine cW (κ:=.old) (bg ⟨rfl,rfl⟩) rfl ?_ rfl (bS (i:=1) (by exact oE.nd) rfl (Or.inl rfl)) (dz (i:=1) (k:=.par))   ?_
 walk_at")*:"
 refine sY ?_
 refine yg (κ:=.new) ?_
 refine aJ (κ:=.aF) tu hr (by decide) ?_ (aq aO)
 walk_at"&+'*"
 exact l8 Bk hr.hd T.fC T.fD (B8 (all_cons (j9 (n:=500) (by decide +kernel)) (all_cons (B0 (n:=500) T.oB (by decide) (by decide +kernel)) all_nil)) (by decide))
theorem qm:br ["board","pegs","cell"] ["board","pegs"] (az gR):=⟨rfl,rfl,rfl,by decide +kernel,rfl,by decide +kernel,by decide +kernel⟩
theorem xF(T:Txt K mg t)(gF:FD P w K mg base (aU t.aC) 1 "is_rising" ["cells"] 1 (cF t) true):FD P w K mg base (aU t.aC) 2 "check_pegs" ["board","pegs"] 2 (bZ t) true:=
 dQ (Γ:=[.par,.par,.par]) T.rS qm rfl (fun i h=>by match i,h with | 0,_=>rfl | 1,_=>rfl) fun f dU A outer s H E hr=>
 by
 walk_at"(:"
 refine sY ?_
 refine yg (κ:=.new) ?_
 refine aJ (κ:=.aF) gF hr (by decide) ?_ (aq aO)
 walk_at"&+'*"
 exact l8 Bk hr.hd T.ir T.iu (j9 (n:=500) (by decide +kernel))
 walk_at"*"
 refine cW (κ:=.old) (bg ⟨rfl,rfl⟩) rfl ?_ rfl (bS (i:=2) (by exact qm.nd) rfl (Or.inl rfl)) (dz (i:=2) (k:=.par))   ?_
 walk_at"+*:`3"
 refine rL (aA:=.old) T.Rb T.JQ ?_
 walk_at")*"
 exact l8 Bk hr.hd T.ir T.iu (j9 (n:=500) (by decide +kernel))
theorem mh:br ["cell","row","column"] ["cell"] (az iI):=⟨rfl,rfl,rfl,by decide +kernel,rfl,by decide +kernel,by decide +kernel⟩
theorem zK(T:Txt K mg t):FD P w K mg base (aU t.aC) 1 "two_apart" ["cell"] 1 (fE t) true:=
 dQ (Γ:=[.par,.par,.par]) T.uf mh rfl (fun i h=>by match i,h with | 0,_=>rfl) fun f dU A outer s H E hr=>
 by
 walk_at"("
 refine bD (i:=1) (k:=.par) (κ:=.new) ?_ ?_
 exact mh.nd
 walk_at"5/)!(O"
 exact mh.nd
 walk_at"5/)!*9;%7%"
 refine bA (aA:=.old) (bC:=.new) qw lS ?_ ?_
 walk_at"+!%53-%7%5+%"
 refine bA (aA:=.old) (bC:=.new) qw lS ?_ ?_
 walk_at"3!-%7%5+%H3!-%7%H+!%53--"
theorem CU:br ["cell","other"] ["cell","other"] (az lq):=⟨rfl,rfl,rfl,by decide +kernel,rfl,by decide +kernel,by decide +kernel⟩
theorem CV(T:Txt K mg t):FD P w K mg base (aU t.aC) 1 "between" ["cell","other"] 2 (dj t) true:=
 dQ (Γ:=[.par,.par]) T.yu CU rfl (fun i h=>by match i,h with | 0,_=>rfl | 1,_=>rfl) fun f dU A outer s H E hr=>
 by
 walk_at"*97%TU/)!/+!!%TU/)!/+!!-"
theorem rZ:br ["board","found","first","second"] ["board"] (az rR):=⟨rfl,rfl,rfl,by decide +kernel,rfl,by decide +kernel,by decide +kernel⟩
theorem IP(T:Txt K mg t)(oF:FD P w K mg base (aU t.aC) 1 "two_apart" ["cell"] 1 (fE t) true)(fR:FD P w K mg base (aU t.aC) 1 "between" ["cell","other"] 2 (dj t) true):FD P w K mg base (aU t.aC) 2 "leaps" ["board"] 1 (rY t) true:=
 dQ (Γ:=[.par,.own true,.par,.par]) T.DT rZ rfl (fun i h=>by match i,h with | 0,_=>rfl) fun f dU A outer s H E hr=>
 by
 walk_at"("
 refine bD (i:=1) (k:=(.own true)) (κ:=.new) ?_ ?_
 exact rZ.nd
 walk_at";-("
 refine cW (κ:=.old) (bg ⟨rfl,rfl⟩) rfl ?_ rfl (bS (i:=2) (by exact rZ.nd) rfl (Or.inl rfl)) (dz (i:=2) (k:=.par))   ?_
 refine rL (aA:=.old) T.Rb T.JQ ?_
 walk_at")*"
 refine cW (κ:=.new) (bg ⟨rfl,rfl⟩) rfl ?_ rfl (bS (i:=3) (by exact rZ.nd) rfl (Or.inl rfl)) (dz (i:=3) (k:=.par))   ?_
 refine aJ (κ:=.aF) oF hr (by decide) ?_ (aq aO)
 walk_at"&3'*:"
 refine PW.pt ?_
 refine vN ?_ ?_
 walk_at"a6"
 refine rL (aA:=.old) T.Rb T.JQ ?_
 walk_at")"
 refine uO ?_
 walk_at"b"
 refine aJ (κ:=.aF) fR hr (by decide) ?_ (aq (aq aO))
 walk_at"&3&6'"
 refine rL (aA:=.old) T.Rb T.JQ ?_
 walk_at")*"
 refine qy (i:=1) (κ:=.new) (to:=lI 1) ?_ rfl
 refine tZ PySem.F.plainAttrs_list PySem.F.slot_list_append PySem.F.type_list_append fJ (pv 1) ?_
 refine cZ ?_ fV
 walk_at"7%53%56-*"
 refine c7 (κ:=.kQ) ?_
 exact ef 1 (pv 1)
theorem wj:br ["pegs","leap"] ["pegs","leap"] (az gm):=⟨rfl,rfl,rfl,by decide +kernel,rfl,by decide +kernel,by decide +kernel⟩
theorem wm(T:Txt K mg t)(fR:FD P w K mg base (aU t.aC) 1 "between" ["cell","other"] 2 (dj t) true):FD P w K mg base (aU t.aC) 2 "can_be_done" ["pegs","leap"] 2 (gr t) true:=
 dQ (Γ:=[.par,.par]) T.qj wj rfl (fun i h=>by match i,h with | 0,_=>rfl | 1,_=>rfl) fun f dU A outer s H E hr=>
 by
 walk_at"*9"
 refine CG (aA:=.new) ?_ ?_
 refine zq (aA:=.old) (bC:=.old) (lN hr.units) gP ?_ ?_ (by with_unfolding_all rfl)
 walk_at"/+!)"
 refine CG (aA:=.new) ?_ ?_
 refine zq (aA:=.old) (bC:=.old) (kY hr.units) gP ?_ ?_ (by with_unfolding_all rfl)
 walk_at"/+!)"
 refine HW ?_
 refine zq (aA:=.new) (bC:=.old) (lN hr.units) gP ?_ ?_ (by with_unfolding_all rfl)
 refine aJ (κ:=.aF) fR hr (by decide) ?_ (aq (aq aO))
 walk_at"&/+!&/+!')"
theorem oG:br ["pegs","leap","taken"] ["pegs","leap"] (az gn):=⟨rfl,rfl,rfl,by decide +kernel,rfl,by decide +kernel,by decide +kernel⟩
theorem wo(T:Txt K mg t)(fR:FD P w K mg base (aU t.aC) 1 "between" ["cell","other"] 2 (dj t) true):FD P w K mg base (aU t.aC) 2 "pegs_behind" ["pegs","leap"] 2 (gu t) true:=
 dQ (Γ:=[.par,.par,.par]) T.qk oG rfl (fun i h=>by match i,h with | 0,_=>rfl | 1,_=>rfl) fun f dU A outer s H E hr=>
 by
 walk_at"(O"
 exact oG.nd
 walk_at"7%5/+!%"
 refine aJ (κ:=.aF) fR hr (by decide) ?_ (aq (aq aO))
 walk_at"&/+!&/+!'-*9"
 refine dP (aA:=.aF) pM ?_
 refine cu (j3 hr.units) rfl T.lz l5 ?_
 walk_at"."
 refine bA (aA:=.new) (bC:=.new) uP uQ ?_ ?_
 refine rN (n:=true) (z:=true) (fM:=["cell"]) (caps:=[(2,"taken")]) ?_ (Io.mk (ua:=.new) (n:=true) (z:=true) (fM:=["cell"]) (caps:=[(2,"taken")]) rfl rfl (by decide +kernel) ?_ ?_ (by with_unfolding_all rfl) (by decide +kernel) ?_ (fun _ p hp=>by simp only[List.mem_cons,List.not_mem_nil,or_false] at hp;rcases hp with rfl <;> first | exact Or.inl rfl | exact Or.inr rfl) (dz (i:=0) (k:=.par)) (fun fp s0 H0 L=>bS (i:=0) (by exact(show List.Nodup (["cell","taken"]:List Str) from by decide +kernel)) rfl (Or.inl rfl) (Or.inr rfl)) (fun fp s0 H0 L=>l6 ?_) (fun fp s0 H0 L=>?_) (fun _=>rfl) (fun h=>nomatch h))
 refine Pp (κ:=.old) ?_ (fun _=>rfl)
 walk_at")"
 exact qA (by intro p hp;simp only[List.mem_cons,List.not_mem_nil,or_false] at hp;rcases hp with rfl <;> rfl)
 exact lZ (by rfl)
 exact⟨⟨rfl,rfl,rfl,rfl⟩,trivial⟩
 walk_at"`)+5);%5/+!-'"
theorem FE:br ["colours","two"] ["colours","two"] (az oj):=⟨rfl,rfl,rfl,by decide +kernel,rfl,by decide +kernel,by decide +kernel⟩
theorem FF(T:Txt K mg t):FD P w K mg base (aU t.aC) 1 "odd_on" ["colours","two"] 2 (iN t) true:=
 dQ (Γ:=[.par,.par]) T.Bh FE rfl (fun i h=>by match i,h with | 0,_=>rfl | 1,_=>rfl) fun f dU A outer s H E hr=>
 by
 walk_at"*9"
 refine bA (aA:=.new) (bC:=.new) iP gy ?_ ?_
 walk_at"ED."
 refine rN (n:=true) (z:=true) (fM:=["colour"]) (caps:=[(1,"two")]) ?_ (Io.mk (ua:=.new) (n:=true) (z:=true) (fM:=["colour"]) (caps:=[(1,"two")]) rfl rfl (by decide +kernel) ?_ ?_ (by with_unfolding_all rfl) (by decide +kernel) ?_ (fun _ p hp=>by simp only[List.mem_cons,List.not_mem_nil,or_false] at hp;rcases hp with rfl <;> first | exact Or.inl rfl | exact Or.inr rfl) (dz (i:=0) (k:=.par)) (fun fp s0 H0 L=>bS (i:=0) (by exact(show List.Nodup (["colour","two"]:List Str) from by decide +kernel)) rfl (Or.inl rfl) (Or.inr rfl)) (fun fp s0 H0 L=>l6 ?_) (fun fp s0 H0 L=>?_) (fun _=>rfl) (fun h=>nomatch h))
 refine rK (κ:=.old) ?_ (fun _=>rfl)
 walk_at")"
 exact qA (by intro p hp;simp only[List.mem_cons,List.not_mem_nil,or_false] at hp;rcases hp with rfl <;> rfl)
 exact lZ (by rfl)
 exact⟨⟨rfl,rfl,rfl,rfl⟩,trivial⟩
 walk_at"a)+5)'!"
theorem oH:br ["board","pegs","by_sum","by_difference"] ["board","pegs"] (az jq):=⟨rfl,rfl,rfl,by decide +kernel,rfl,by decide +kernel,by decide +kernel⟩
theorem Bm(T:Txt K mg t)(eK:FD P w K mg base (aU t.aC) 2 "check_pegs" ["board","pegs"] 2 (bZ t) true)(lC:FD P w K mg base (aU t.aC) 1 "odd_on" ["colours","two"] 2 (iN t) true):FD P w K mg base (aU t.aC) 3 "class_of" ["board","pegs"] 2 (iw t) true:=
 dQ (Γ:=[.par,.par,.par,.par]) T.w9 oH rfl (fun i h=>by match i,h with | 0,_=>rfl | 1,_=>rfl) fun f dU A outer s H E hr=>
 by
 walk_at"("
 refine zx (κ:=.new) ?_
 refine aJ (κ:=.aF) eK hr (by decide) ?_ (aq (aq aO))
 walk_at"&)&+'("
 refine vZ (i:=2) (k:=.par) (n:=true) (z:=true) (fM:=["cell"]) (caps:=[]) ?_ ?_ (Io.mk (ua:=.new) (n:=true) (z:=true) (fM:=["cell"]) (caps:=[]) rfl rfl (by decide +kernel) ?_ ?_ (by with_unfolding_all rfl) (by decide +kernel) ?_ (fun _ p hp=>by cases hp) (dz (i:=0) (k:=.par)) (fun fp s0 H0 L=>bS (i:=0) (by exact(show List.Nodup (["cell"]:List Str) from by decide +kernel)) rfl (Or.inl rfl) (Or.inr rfl)) (fun fp s0 H0 L=>ym (ft:=dC (.bl true))) (fun fp s0 H0 L=>?_) (fun _=>rfl) (fun h=>nomatch h))
 exact oH.nd
 refine rK (κ:=.old) ?_ (fun _=>rfl)
 walk_at"+"
 exact qA (by intro p hp;cases hp)
 exact lZ (by rfl)
 exact trivial
 refine bA (aA:=.new) (bC:=.new) iP gy ?_ ?_
 walk_at"U/)!/)!"
 exact rB rfl T.ig
 walk_at"("
 refine vZ (i:=3) (k:=.par) (n:=true) (z:=true) (fM:=["cell"]) (caps:=[]) ?_ ?_ (Io.mk (ua:=.new) (n:=true) (z:=true) (fM:=["cell"]) (caps:=[]) rfl rfl (by decide +kernel) ?_ ?_ (by with_unfolding_all rfl) (by decide +kernel) ?_ (fun _ p hp=>by cases hp) (dz (i:=0) (k:=.par)) (fun fp s0 H0 L=>bS (i:=0) (by exact(show List.Nodup (["cell"]:List Str) from by decide +kernel)) rfl (Or.inl rfl) (Or.inr rfl)) (fun fp s0 H0 L=>ym (ft:=dC (.bl true))) (fun fp s0 H0 L=>?_) (fun _=>rfl) (fun h=>nomatch h))
 exact oH.nd
 refine rK (κ:=.old) ?_ (fun _=>rfl)
 walk_at"+"
 exact qA (by intro p hp;cases hp)
 exact lZ (by rfl)
 exact trivial
 refine bA (aA:=.new) (bC:=.new) iP gy ?_ ?_
 refine bA (aA:=.old) (bC:=.old) qw lS ?_ ?_
 walk_at"/)!/)!"
 exact rB rfl T.ig
 walk_at"*97%[&3.7%!%!-'%[&3.7%!%!-'%[&6.7%!%!-'%[&6.7%!%!-'-"
theorem xG:br ["all_leaps","standing"] ["all_leaps","standing"] (az gS):=⟨rfl,rfl,rfl,by decide +kernel,rfl,by decide +kernel,by decide +kernel⟩
theorem xH(T:Txt K mg t)(k8:FD P w K mg base (aU t.aC) 2 "pegs_behind" ["pegs","leap"] 2 (gu t) true)(k9:FD P w K mg base (aU t.aC) 2 "can_be_done" ["pegs","leap"] 2 (gr t) true):FD P w K mg base (aU t.aC) 3 "steps_from" ["all_leaps","standing"] 2 (eE t) true:=
 dQ (Γ:=[.par,.par]) T.rT xG rfl (fun i h=>by match i,h with | 0,_=>rfl | 1,_=>rfl) fun f dU A outer s H E hr=>
 by
 walk_at"*9"
 refine rN (n:=true) (z:=true) (fM:=["leap"]) (caps:=[(1,"standing")]) ?_ (Io.mk (ua:=.new) (n:=true) (z:=true) (fM:=["leap"]) (caps:=[(1,"standing")]) rfl rfl (by decide +kernel) ?_ ?_ (by with_unfolding_all rfl) (by decide +kernel) ?_ (fun _ p hp=>by simp only[List.mem_cons,List.not_mem_nil,or_false] at hp;rcases hp with rfl <;> first | exact Or.inl rfl | exact Or.inr rfl) (dz (i:=0) (k:=.par)) (fun fp s0 H0 L=>bS (i:=0) (by exact(show List.Nodup (["leap","standing"]:List Str) from by decide +kernel)) rfl (Or.inl rfl) (Or.inr rfl)) (fun fp s0 H0 L=>l6 ?_) (fun fp s0 H0 L=>?_) (fun _=>rfl) (fun h=>nomatch h))
 refine rK (κ:=.old) ?_ (fun _=>rfl)
 walk_at")"
 exact qA (by intro p hp;simp only[List.mem_cons,List.not_mem_nil,or_false] at hp;rcases hp with rfl <;> rfl)
 exact lZ (by rfl)
 exact⟨⟨rfl,rfl,rfl,rfl⟩,trivial⟩
 refine yg (κ:=.new) ?_
 refine aJ (κ:=.aF) k9 hr (by decide) ?_ (aq (aq aO))
 walk_at"&+&)'7%5)%"
 refine dP (aA:=.aF) pN ?_
 refine dg iC rfl T.pP rO ?_
 walk_at"."
 refine aJ (κ:=.aF) k8 hr (by decide) ?_ (aq (aq aO))
 walk_at"&+&)''-"
theorem fS:br ["all_leaps","layer","found","standing","row","leap","behind"] ["all_leaps","layer"] (az iJ):=⟨rfl,rfl,rfl,by decide +kernel,rfl,by decide +kernel,by decide +kernel⟩
theorem zL(T:Txt K mg t)(mw:FD P w K mg base (aU t.aC) 3 "steps_from" ["all_leaps","standing"] 2 (eE t) true):FD P w K mg base (aU t.aC) 4 "next_rows" ["all_leaps","layer"] 2 (gD t) true:=
 dQ (Γ:=[.par,.par,.own true,.par,.par,.par,.par]) T.ug fS rfl (fun i h=>by match i,h with | 0,_=>rfl | 1,_=>rfl) fun f dU A outer s H E hr=>
 by
 walk_at"("
 refine bD (i:=2) (k:=(.own true)) (κ:=.new) ?_ ?_
 exact fS.nd
 exact DQ
 walk_at"("
 refine Lq (bg ⟨rfl,rfl⟩) rfl ?_ (vj rfl (fY (bS (i:=3) (by exact fS.nd) rfl (Or.inl rfl)) (fY (bS (i:=4) (by exact fS.nd) rfl (Or.inl rfl)) r9))) (rF (i:=3) (j:=4) (k:=.par) (k':=.par))   ?_
 refine IK (κ:=.old) ?_ (fun _=>rfl)
 walk_at"+*"
 refine cW (κ:=.new) (bg ⟨rfl,rfl⟩) rfl ?_ rfl (vj rfl (fY (bS (i:=5) (by exact fS.nd) rfl (Or.inl rfl)) (fY (bS (i:=6) (by exact fS.nd) rfl (Or.inl rfl)) r9))) (rF (i:=5) (j:=6) (k:=.par) (k':=.par))   ?_
 refine aJ (κ:=.aF) mw hr (by decide) ?_ (aq (aq aO))
 walk_at"&)&6'*:"
 refine c5 (aA:=.old) (bC:=.kQ) (Fg (w6 hr.units)) DO ?_ ?_ (by with_unfolding_all rfl)
 exact ah 6 (pv 6)
 exact ef 2 (pv 2)
 walk_at"*"
 refine Pq (i:=2) (κ:=.new) (κ':=.old) (w6 hr.units) (pv 2) ?_ ?_ rfl
 exact ah 6 (pv 6)
 refine bA (aA:=.old) (bC:=.new) uP uQ ?_ ?_
 walk_at"=;%5"
 exact ah 5 (pv 5)
 walk_at"-*"
 refine c7 (κ:=.kQ) ?_
 exact ef 2 (pv 2)
theorem gv:br ["board","pegs","all_leaps","found","layer"] ["board","pegs"] (az gT):=⟨rfl,rfl,rfl,by decide +kernel,rfl,by decide +kernel,by decide +kernel⟩
theorem xJ(T:Txt K mg t)(zM:FD P w K mg base (aU t.aC) 2 "leaps" ["board"] 1 (rY t) true)(oJ:FD P w K mg base (aU t.aC) 4 "next_rows" ["all_leaps","layer"] 2 (gD t) true):FD P w K mg base (aU t.aC) 5 "first_rows" ["board","pegs"] 2 (gY t) true:=
 dQ (Γ:=[.par,.par,.par,.own true,.loc]) T.rU gv rfl (fun i h=>by match i,h with | 0,_=>rfl | 1,_=>rfl) fun f dU A outer s H E hr=>
 by
 walk_at"(O"
 exact gv.nd
 refine aJ (κ:=.aF) zM hr (by decide) ?_ (aq aO)
 walk_at"&)'("
 refine bD (i:=3) (k:=(.own true)) (κ:=.new) ?_ ?_
 exact gv.nd
 exact DQ
 walk_at"("
 refine bD (i:=4) (k:=.loc) (κ:=.new) ?_ ?_
 exact gv.nd
 refine Lz (κk:=.new) (Pw hr.units) ?_ ?_
 refine dP (aA:=.aF) pN ?_
 refine dg iC rfl T.pP rO ?_
 walk_at"&+';-("
 refine vO 40 (bg ⟨rfl,rfl⟩) ?_   ?_
 refine c5 (aA:=.new) (bC:=.new) Dw zv ?_ ?_ (dX _)
 refine dP (aA:=.aF) IF ?_
 refine cu Fw rfl T.oA k7 ?_
 walk_at"L"
 exact d7 4 (pv 4)
 walk_at"'!("
 refine Pu (i:=3) (κ:=.loc) ?_ rfl
 refine Pr PySem.F.slot_dict_update PySem.F.type_dict_update (Lw (w6 hr.units)) (pv 3) ?_
 refine cZ ?_ fV
 exact d7 4 (pv 4)
 walk_at"*"
 refine bD (i:=4) (k:=.loc) (κ:=.new) ?_ ?_
 exact gv.nd
 refine aJ (κ:=.aF) oJ hr (by decide) ?_ (aq (aq aO))
 walk_at"&3L"
 exact d7 4 (pv 4)
 walk_at"'*"
 refine c7 (κ:=.kQ) ?_
 exact ef 3 (pv 3)
theorem yw:br ["board","pegs","others","rows"] ["board","pegs","others"] (az om):=⟨rfl,rfl,rfl,by decide +kernel,rfl,by decide +kernel,by decide +kernel⟩
theorem FG(T:Txt K mg t)(eK:FD P w K mg base (aU t.aC) 2 "check_pegs" ["board","pegs"] 2 (bZ t) true)(mz:FD P w K mg base (aU t.aC) 3 "class_of" ["board","pegs"] 2 (iw t) true)(mC:FD P w K mg base (aU t.aC) 5 "first_rows" ["board","pegs"] 2 (gY t) true):FD P w K mg base (aU t.aC) 6 "answer" ["board","pegs","others"] 3 (ju t) true:=
 dQ (Γ:=[.par,.par,.par,.loc]) T.Bj yw rfl (fun i h=>by match i,h with | 0,_=>rfl | 1,_=>rfl | 2,_=>rfl) fun f dU A outer s H E hr=>
 by
 walk_at"("
 refine zx (κ:=.new) ?_
 refine aJ (κ:=.aF) eK hr (by decide) ?_ (aq (aq aO))
 walk_at"&)&+'("
 refine zx (κ:=.new) ?_
 refine aJ (κ:=.aF) eK hr (by decide) ?_ (aq (aq aO))
 walk_at"&)&3'(:"
 refine c5 (aA:=.new) (bC:=.new) (nS hr.units) ic ?_ ?_ (dX _)
 refine aJ (κ:=.aF) mz hr (by decide) ?_ (aq (aq aO))
 walk_at"&)&+'"
 refine aJ (κ:=.aF) mz hr (by decide) ?_ (aq (aq aO))
 walk_at"&)&3'"
 exact DM
 walk_at"("
 refine bD (i:=3) (k:=.loc) (κ:=.new) ?_ ?_
 exact yw.nd
 refine aJ (κ:=.aF) mC hr (by decide) ?_ (aq (aq aO))
 walk_at"&)&+'(:"
 refine c5 (aA:=.new) (bC:=.loc) (Pg (w6 hr.units)) DO ?_ ?_ (by with_unfolding_all rfl)
 refine dP (aA:=.aF) pN ?_
 refine dg iC rfl T.pP rO ?_
 walk_at"&3'"
 exact d7 3 (pv 3)
 walk_at"*"
 refine c7 (κ:=.loc) ?_
 refine Lx ?_ ?_
 exact HP
 refine Lv (bC:=.new) (w6 hr.units) ?_ ?_ (fun _ _=>rfl)
 exact d7 3 (pv 3)
 refine dP (aA:=.aF) pN ?_
 refine dg iC rfl T.pP rO ?_
 walk_at"&3'"
 exact DM
theorem uD:br ["script","k"] ["script","k"] (az fu):=⟨rfl,rfl,rfl,by decide +kernel,rfl,by decide +kernel,by decide +kernel⟩
theorem uE(T:Txt K mg t):FD P w K mg base (aU t.aC) 1 "_law_cell_at" ["script","k"] 2 (b5 t) true:=
 dQ (Γ:=[.par,.par]) T.oq uD rfl (fun i h=>by match i,h with | 0,_=>rfl | 1,_=>rfl) fun f dU A outer s H E hr=>
 by
 walk_at"(:"
 refine c5 (aA:=.old) (bC:=.new) N9 HS ?_ ?_ (dX _)
 walk_at"+ED&)'*95"
 refine bw (aA:=.old) (bC:=.old) ?_ ?_ (fun _ _=>rfl)
 walk_at")+*9!"
theorem jP:br ["cell","k","many","some","number"] ["cell","k","many"] (az jr):=⟨rfl,rfl,rfl,by decide +kernel,rfl,by decide +kernel,by decide +kernel⟩
theorem Bo(T:Txt K mg t):FD P w K mg base (aU t.aC) 1 "_law_mix" ["cell","k","many"] 3 (aT t) true:=
 dQ (Γ:=[.par,.par,.par,.par,.par]) T.we jP rfl (fun i h=>by match i,h with | 0,_=>rfl | 1,_=>rfl | 2,_=>rfl) fun f dU A outer s H E hr=>
 by
 walk_at"(V"
 exact jP.nd
 walk_at";%!%!%!%!%!%!%!%!%!%!%!%!%!-("
 refine bD (i:=4) (k:=.par) (κ:=.new) ?_ ?_
 exact jP.nd
 refine bA (aA:=.new) (bC:=.old) vo rD ?_ ?_
 walk_at"IP)!!/6P+!("
 refine bD (i:=4) (k:=.par) (κ:=.new) ?_ ?_
 exact jP.nd
 walk_at"I"
 refine bA (aA:=.old) (bC:=.new) vo rD ?_ ?_
 walk_at"=I"
 refine bA (aA:=.new) (bC:=.new) vo rD ?_ ?_
 exact au
 refine bA (aA:=.old) (bC:=.new) jK jN ?_ ?_
 walk_at"+!!"
 refine bA (aA:=.new) (bC:=.old) vo rD ?_ ?_
 walk_at"!+*9"
 refine bA (aA:=.new) (bC:=.old) iP gy ?_ ?_
 walk_at"TP=!!3"
theorem bT:br ["script","most","cell","height","width","down","across","some","k"] ["script","most"] (az eU):=⟨rfl,rfl,rfl,by decide +kernel,rfl,by decide +kernel,by decide +kernel⟩
theorem tw(T:Txt K mg t)(cG:FD P w K mg base (aU t.aC) 1 "_law_cell_at" ["script","k"] 2 (b5 t) true)(bV:FD P w K mg base (aU t.aC) 1 "_law_mix" ["cell","k","many"] 3 (aT t) true):FD P w K mg base (aU t.aC) 2 "_law_cells_by" ["script","most"] 2 (cj t) true:=
 dQ (Γ:=[.par,.par,.par,.par,.par,.par,.par,.own true,.par]) T.nE bT rfl (fun i h=>by match i,h with | 0,_=>rfl | 1,_=>rfl) fun f dU A outer s H E hr=>
 by
 walk_at"(O"
 exact bT.nd
 walk_at"]&).!'("
 refine Ij (i:=3) (j:=4) (k:=.par) (k':=.par) rfl ?_ ?_ (by decide)
 exact bT.nd
 walk_at"%I!A&3.!.!'%I!A&3.!.!'-(:"
 refine c5 (aA:=.new) (bC:=.new) (vF hr.units) ic ?_ ?_ (dX _)
 walk_at"P3!!*"
 refine Lc (κ:=.new) ?_ rfl (vj rfl (fY (bS (i:=3) (by exact bT.nd) rfl (Or.inl rfl)) (fY (bS (i:=4) (by exact bT.nd) rfl (Or.inl rfl)) r9))) (rF (i:=3) (j:=4) (k:=.par) (k':=.par))
 walk_at"5"
 refine bw (aA:=.new) (bC:=.new) ?_ ?_ (fun _ _=>rfl)
 walk_at";%7%I!P6!%!-%7%!%I!P=!--"
 refine bA (aA:=.new) (bC:=.new) iP gy ?_ ?_
 refine bA (aA:=.old) (bC:=.new) jK jN ?_ ?_
 walk_at"3!!("
 refine Ij (i:=5) (j:=6) (k:=.par) (k':=.par) rfl ?_ ?_ (by decide)
 exact bT.nd
 walk_at"%A&3.!."
 refine bA (aA:=.new) (bC:=.old) qw lS ?_ ?_
 walk_at"!6'%A&3.!."
 refine bA (aA:=.new) (bC:=.old) qw lS ?_ ?_
 walk_at"!='-("
 refine bD (i:=7) (k:=(.own true)) (κ:=.new) ?_ ?_
 exact bT.nd
 walk_at";-("
 refine lU (κ:=.aF) (bg ⟨rfl,rfl⟩) rfl T.uS ?_ (bS (i:=8) (by exact bT.nd) rfl (Or.inl rfl)) (dz (i:=8) (k:=.par))   ?_
 walk_at"."
 refine bA (aA:=.old) (bC:=.old) vo rD ?_ ?_
 walk_at"6='*:"
 refine c5 (aA:=.new) (bC:=.new) Dw zv ?_ ?_ (dX _)
 walk_at"A.]&).!'&"
 exact ah 8 (pv 8)
 walk_at".!'!*"
 refine qy (i:=7) (κ:=.new) (to:=lI 7) ?_ rfl
 refine tZ PySem.F.plainAttrs_list PySem.F.slot_list_append PySem.F.type_list_append fJ (pv 7) ?_
 refine cZ ?_ fV
 walk_at"7%H"
 exact ah 5 (pv 5)
 refine bA (aA:=.old) (bC:=.old) jK jN ?_ ?_
 exact ah 8 (pv 8)
 walk_at"=%H"
 exact ah 6 (pv 6)
 refine bA (aA:=.old) (bC:=.old) iP gy ?_ ?_
 exact ah 8 (pv 8)
 walk_at"=-(:"
 refine c5 (aA:=.new) (bC:=.new) (vF hr.units) ic ?_ ?_ (dX _)
 walk_at"ED"
 refine af (κ:=.aF) (aA:=.kQ) ?_ ?_
 exact ef 7 (pv 7)
 walk_at"'!*"
 refine bD (i:=7) (k:=(.own true)) (κ:=.new) ?_ ?_
 exact bT.nd
 walk_at";%7%5"
 exact ah 5 (pv 5)
 walk_at"%5"
 exact ah 6 (pv 6)
 walk_at"--*9"
 refine vP (aA:=.kQ) ?_ zy ?_
 exact ef 7 (pv 7)
 refine zA (κ:=.old) ?_
 walk_at"+"
theorem iR:br ["cell","cells","way","gone"] ["cell","cells"] (az fz):=⟨rfl,rfl,rfl,by decide +kernel,rfl,by decide +kernel,by decide +kernel⟩
theorem uF(T:Txt K mg t)(bV:FD P w K mg base (aU t.aC) 1 "_law_mix" ["cell","k","many"] 3 (aT t) true):FD P w K mg base (aU t.aC) 2 "_law_pegs_by" ["cell","cells"] 2 (dR t) true:=
 dQ (Γ:=[.par,.par,.par,.par]) T.ou iR rfl (fun i h=>by match i,h with | 0,_=>rfl | 1,_=>rfl) fun f dU A outer s H E hr=>
 by
 walk_at"(O"
 exact iR.nd
 walk_at"A&).!.!'(:"
 refine c5 (aA:=.old) (bC:=.new) (vF hr.units) ic ?_ ?_ (dX _)
 walk_at"3!(V"
 exact iR.nd
 walk_at"A&).!.ED&+''*9"
 refine bA (aA:=.new) (bC:=.new) uP uQ ?_ ?_
 refine vP (aA:=.old) ?_ zy ?_
 walk_at"+"
 refine zA (κ:=.old) ?_
 walk_at"6"
 refine vP (aA:=.old) ?_ ?_ zy
 walk_at"+"
 refine zA (κ:=.new) ?_
 walk_at"H6!*9"
 refine rN (n:=true) (z:=true) (fM:=["k","one"]) (caps:=[(0,"cell"),(2,"way")]) ?_ (Io.mk (ua:=.new) (n:=true) (z:=true) (fM:=["k","one"]) (caps:=[(0,"cell"),(2,"way")]) rfl rfl (by decide +kernel) ?_ ?_ (by with_unfolding_all rfl) (by decide +kernel) ?_ (fun _ p hp=>by simp only[List.mem_cons,List.not_mem_nil,or_false] at hp;rcases hp with rfl | rfl <;> first | exact Or.inl rfl | exact Or.inr rfl) (rF (i:=0) (j:=1) (k:=.par) (k':=.par)) (fun fp s0 H0 L=>vj rfl (fY (bS (i:=0) (by exact(show List.Nodup (["k","one","cell","way"]:List Str) from by decide +kernel)) rfl (Or.inl rfl) (Or.inr rfl)) (fY (bS (i:=1) (by exact(show List.Nodup (["k","one","cell","way"]:List Str) from by decide +kernel)) rfl (Or.inl rfl) (Or.inr rfl)) r9))) (fun fp s0 H0 L=>l6 ?_) (fun fp s0 H0 L=>?_) (fun _=>rfl) (fun h=>nomatch h))
 refine Lp (κ:=.old) T.uo ?_ (fun _=>rfl)
 walk_at"+"
 exact qA (by intro p hp;simp only[List.mem_cons,List.not_mem_nil,or_false] at hp;rcases hp with rfl | rfl <;> rfl)
 exact lZ (by rfl)
 exact⟨⟨rfl,rfl,rfl,rfl⟩,⟨⟨rfl,rfl,rfl,rfl⟩,trivial⟩⟩
 refine c5 (aA:=.new) (bC:=.new) Dw zv ?_ ?_ (dX _)
 walk_at"A&3&)&"
 refine bw (aA:=.new) (bC:=.old) ?_ ?_ (fun _ _=>rfl)
 walk_at";%!%!%!%!-6'!5+"
theorem uG:br ["leap"] ["leap"] (az fB):=⟨rfl,rfl,rfl,by decide +kernel,rfl,by decide +kernel,by decide +kernel⟩
theorem uH(T:Txt K mg t):FD P w K mg base (aU t.aC) 1 "_law_between" ["leap"] 1 (b6 t) true:=
 dQ (Γ:=[.par]) T.oz uG rfl (fun i h=>by match i,h with | 0,_=>rfl) fun f dU A outer s H E hr=>
 by
 walk_at"*97%TU//)!!//)!!!%TU//)!!//)!!!-"
theorem gw:br ["cells","found","one","two","apart"] ["cells"] (az gU):=⟨rfl,rfl,rfl,by decide +kernel,rfl,by decide +kernel,by decide +kernel⟩
theorem xK(T:Txt K mg t)(c8:FD P w K mg base (aU t.aC) 1 "_law_between" ["leap"] 1 (b6 t) true):FD P w K mg base (aU t.aC) 2 "_law_leaps" ["cells"] 1 (fQ t) true:=
 dQ (Γ:=[.par,.own true,.par,.par,.par]) T.rV gw rfl (fun i h=>by match i,h with | 0,_=>rfl) fun f dU A outer s H E hr=>
 by
 walk_at"("
 refine bD (i:=1) (k:=(.own true)) (κ:=.new) ?_ ?_
 exact gw.nd
 walk_at";-("
 refine cW (κ:=.old) (bg ⟨rfl,rfl⟩) rfl ?_ rfl (bS (i:=2) (by exact gw.nd) rfl (Or.inl rfl)) (dz (i:=2) (k:=.par))   ?_
 walk_at")*"
 refine cW (κ:=.old) (bg ⟨rfl,rfl⟩) rfl ?_ rfl (bS (i:=3) (by exact gw.nd) rfl (Or.inl rfl)) (dz (i:=3) (k:=.par))   ?_
 walk_at")("
 refine bD (i:=4) (k:=.par) (κ:=.new) ?_ ?_
 exact gw.nd
 refine dP (aA:=.aF) pM ?_
 refine cu (j3 hr.units) rfl T.lz l5 ?_
 walk_at".;%"
 refine dP (aA:=.aF) DN ?_
 refine cu Ay rfl T.IM IA ?_
 walk_at"."
 refine bA (aA:=.old) (bC:=.old) qw lS ?_ ?_
 walk_at"/3!/6!'%"
 refine dP (aA:=.aF) DN ?_
 refine cu Ay rfl T.IM IA ?_
 walk_at"."
 refine bA (aA:=.old) (bC:=.old) qw lS ?_ ?_
 walk_at"/3!/6!'-'*:"
 refine PW.pt ?_
 refine vN ?_ ?_
 refine c5 (aA:=.old) (bC:=.new) (vF hr.units) ic ?_ ?_ (dX _)
 walk_at"=;%!%!-"
 refine uO ?_
 walk_at"b"
 refine aJ (κ:=.aF) c8 hr (by decide) ?_ (aq aO)
 walk_at".7%53%56-')*"
 refine qy (i:=1) (κ:=.new) (to:=lI 1) ?_ rfl
 refine tZ PySem.F.plainAttrs_list PySem.F.slot_list_append PySem.F.type_list_append fJ (pv 1) ?_
 refine cZ ?_ fV
 walk_at"7%53%56-*9"
 refine dP (aA:=.aF) pM ?_
 refine cu (j3 hr.units) rfl T.lz l5 ?_
 refine af (κ:=.aF) (aA:=.kQ) ?_ ?_
 exact ef 1 (pv 1)
 walk_at"'"
theorem j6:br ["cells","pegs","found","one","two"] ["cells","pegs"] (az iK):=⟨rfl,rfl,rfl,by decide +kernel,rfl,by decide +kernel,by decide +kernel⟩
theorem zN(T:Txt K mg t)(mD:FD P w K mg base (aU t.aC) 2 "_law_leaps" ["cells"] 1 (fQ t) true)(c8:FD P w K mg base (aU t.aC) 1 "_law_between" ["leap"] 1 (b6 t) true):FD P w K mg base (aU t.aC) 3 "_law_open" ["cells","pegs"] 2 (bR t) true:=
 dQ (Γ:=[.par,.par,.own true,.par,.par]) T.uh j6 rfl (fun i h=>by match i,h with | 0,_=>rfl | 1,_=>rfl) fun f dU A outer s H E hr=>
 by
 walk_at"("
 refine bD (i:=2) (k:=(.own true)) (κ:=.new) ?_ ?_
 exact j6.nd
 walk_at";-("
 refine cW (κ:=.new) (bg ⟨rfl,rfl⟩) rfl ?_ rfl (vj rfl (fY (bS (i:=3) (by exact j6.nd) rfl (Or.inl rfl)) (fY (bS (i:=4) (by exact j6.nd) rfl (Or.inl rfl)) r9))) (rF (i:=3) (j:=4) (k:=.par) (k':=.par))   ?_
 refine aJ (κ:=.aF) mD hr (by decide) ?_ (aq aO)
 walk_at"&)'*:"
 refine PW.pt ?_
 refine vN ?_ ?_
 walk_at"a6+"
 refine vN ?_ ?_
 walk_at"b"
 refine aJ (κ:=.aF) c8 hr (by decide) ?_ (aq aO)
 walk_at".7%56%5=-'+"
 refine uO ?_
 walk_at"`=+*"
 refine qy (i:=2) (κ:=.new) (to:=lI 2) ?_ rfl
 refine tZ PySem.F.plainAttrs_list PySem.F.slot_list_append PySem.F.type_list_append fJ (pv 2) ?_
 refine cZ ?_ fV
 walk_at"7%56%5=-*"
 refine c7 (κ:=.kQ) ?_
 exact ef 2 (pv 2)
theorem oK:br ["pegs","leap","left"] ["pegs","leap"] (az gq):=⟨rfl,rfl,rfl,by decide +kernel,rfl,by decide +kernel,by decide +kernel⟩
theorem wu(T:Txt K mg t)(c8:FD P w K mg base (aU t.aC) 1 "_law_between" ["leap"] 1 (b6 t) true):FD P w K mg base (aU t.aC) 2 "_law_behind" ["pegs","leap"] 2 (bG t) true:=
 dQ (Γ:=[.par,.par,.par]) T.ql oK rfl (fun i h=>by match i,h with | 0,_=>rfl | 1,_=>rfl) fun f dU A outer s H E hr=>
 by
 walk_at"("
 refine vZ (i:=2) (k:=.par) (n:=true) (z:=true) (fM:=["one"]) (caps:=[(1,"leap")]) ?_ ?_ (Io.mk (ua:=.new) (n:=true) (z:=true) (fM:=["one"]) (caps:=[(1,"leap")]) rfl rfl (by decide +kernel) ?_ ?_ (by with_unfolding_all rfl) (by decide +kernel) ?_ (fun _ p hp=>by simp only[List.mem_cons,List.not_mem_nil,or_false] at hp;rcases hp with rfl <;> first | exact Or.inl rfl | exact Or.inr rfl) (dz (i:=0) (k:=.par)) (fun fp s0 H0 L=>bS (i:=0) (by exact(show List.Nodup (["one","leap"]:List Str) from by decide +kernel)) rfl (Or.inl rfl) (Or.inr rfl)) (fun fp s0 H0 L=>l6 ?_) (fun fp s0 H0 L=>?_) (fun _=>rfl) (fun h=>nomatch h))
 exact oK.nd
 refine rK (κ:=.old) ?_ (fun _=>rfl)
 walk_at")"
 exact qA (by intro p hp;simp only[List.mem_cons,List.not_mem_nil,or_false] at hp;rcases hp with rfl <;> rfl)
 exact lZ (by rfl)
 exact⟨⟨rfl,rfl,rfl,rfl⟩,trivial⟩
 refine PW.pt ?_
 refine vN ?_ ?_
 refine c5 (aA:=.old) (bC:=.old) (nS hr.units) ic ?_ ?_ (dX _)
 walk_at")/+!"
 refine uO ?_
 refine c5 (aA:=.old) (bC:=.new) (nS hr.units) ic ?_ ?_ (dX _)
 walk_at")"
 refine aJ (κ:=.aF) c8 hr (by decide) ?_ (aq aO)
 walk_at"&+'5)*9"
 refine dP (aA:=.aF) pM ?_
 refine cu (j3 hr.units) rfl T.lz l5 ?_
 walk_at"."
 refine bA (aA:=.old) (bC:=.new) uP uQ ?_ ?_
 walk_at"3;%5/+!-'"
theorem eL:br ["cells","pegs","cell","most","row","here","k","some","leap"] ["cells","pegs","cell","most"] (az iM):=⟨rfl,rfl,rfl,by decide +kernel,rfl,by decide +kernel,by decide +kernel⟩
theorem zO(T:Txt K mg t)(bV:FD P w K mg base (aU t.aC) 1 "_law_mix" ["cell","k","many"] 3 (aT t) true)(dB:FD P w K mg base (aU t.aC) 3 "_law_open" ["cells","pegs"] 2 (bR t) true)(cB:FD P w K mg base (aU t.aC) 2 "_law_behind" ["pegs","leap"] 2 (bG t) true):FD P w K mg base (aU t.aC) 4 "_law_gone" ["cells","pegs","cell","most"] 4 (gE t) true:=
 dQ (Γ:=[.par,.par,.par,.par,.own true,.loc,.par,.par,.par]) T.um eL rfl (fun i h=>by match i,h with | 0,_=>rfl | 1,_=>rfl | 2,_=>rfl | 3,_=>rfl) fun f dU A outer s H E hr=>
 by
 walk_at"("
 refine bD (i:=4) (k:=(.own true)) (κ:=.new) ?_ ?_
 exact eL.nd
 walk_at";-("
 refine bD (i:=5) (k:=.loc) (κ:=.new) ?_ ?_
 exact eL.nd
 refine dP (aA:=.aF) jl ?_
 refine dg dY rfl T.m8 m9 ?_
 walk_at"&+'("
 refine lU (κ:=.aF) (bg ⟨rfl,rfl⟩) rfl T.uS ?_ (bS (i:=6) (by exact eL.nd) rfl (Or.inl rfl)) (dz (i:=6) (k:=.par))   ?_
 walk_at".A&3.!.H6!''("
 refine bD (i:=7) (k:=.par) (κ:=.new) ?_ ?_
 exact eL.nd
 refine aJ (κ:=.aF) dB hr (by decide) ?_ (aq (aq aO))
 walk_at"&)L"
 exact d7 5 (pv 5)
 walk_at"'*:"
 refine c5 (aA:=.new) (bC:=.new) Dw zv ?_ ?_ (dX _)
 walk_at"ED&"
 exact ah 7 (pv 7)
 walk_at"'!("
 refine bD (i:=8) (k:=.par) (κ:=.new) ?_ ?_
 exact eL.nd
 walk_at"5/"
 exact ah 7 (pv 7)
 walk_at"A&3."
 refine bA (aA:=.new) (bC:=.old) dM cM ?_ ?_
 exact au
 exact ah 6 (pv 6)
 walk_at".ED&"
 exact ah 7 (pv 7)
 walk_at"''("
 refine qy (i:=4) (κ:=.new) (to:=lI 4) ?_ rfl
 refine tZ PySem.F.plainAttrs_list PySem.F.slot_list_append PySem.F.type_list_append fJ (pv 4) ?_
 refine cZ ?_ fV
 walk_at"5"
 exact ah 8 (pv 8)
 walk_at"*"
 refine bD (i:=5) (k:=.loc) (κ:=.new) ?_ ?_
 exact eL.nd
 refine aJ (κ:=.aF) cB hr (by decide) ?_ (aq (aq aO))
 walk_at"L"
 exact d7 5 (pv 5)
 walk_at"&"
 exact ah 8 (pv 8)
 walk_at"'*"
 refine c7 (κ:=.kQ) ?_
 walk_at"7"
 refine af (κ:=.kQ) (aA:=.kQ) ?_ ?_
 exact ef 4 (pv 4)
 refine af (κ:=.kQ) (aA:=.loc) ?_ ?_
 exact d7 5 (pv 5)
 exact ay (κ:=.kQ)
theorem eV:br ["cells","pegs","found","at","leap","behind"] ["cells","pegs"] (az gW):=⟨rfl,rfl,rfl,by decide +kernel,rfl,by decide +kernel,by decide +kernel⟩
theorem xM(T:Txt K mg t)(dB:FD P w K mg base (aU t.aC) 3 "_law_open" ["cells","pegs"] 2 (bR t) true)(cB:FD P w K mg base (aU t.aC) 2 "_law_behind" ["pegs","leap"] 2 (bG t) true):FD P w K mg base (aU t.aC) 4 "_law_reach" ["cells","pegs"] 2 (eG t) true:=
 dQ (Γ:=[.par,.par,.own true,.par,.par,.loc]) T.rW eV rfl (fun i h=>by match i,h with | 0,_=>rfl | 1,_=>rfl) fun f dU A outer s H E hr=>
 by
 walk_at"("
 refine bD (i:=2) (k:=(.own true)) (κ:=.new) ?_ ?_
 exact eV.nd
 walk_at";%"
 refine dP (aA:=.aF) jl ?_
 refine dg dY rfl T.m8 m9 ?_
 walk_at"&+'-(V"
 exact eV.nd
 walk_at"!("
 refine vO 600 (bg ⟨rfl,rfl⟩) ?_   ?_
 refine c5 (aA:=.old) (bC:=.new) N9 HS ?_ ?_ (dX _)
 walk_at"6ED"
 refine af (κ:=.aF) (aA:=.kQ) ?_ ?_
 exact ef 2 (pv 2)
 walk_at"'("
 refine cW (κ:=.new) (bg ⟨rfl,rfl⟩) rfl ?_ rfl (bS (i:=4) (by exact eV.nd) rfl (Or.inl rfl)) (dz (i:=4) (k:=.par))   ?_
 refine aJ (κ:=.aF) dB hr (by decide) ?_ (aq (aq aO))
 walk_at"&)"
 refine af (κ:=.aF) (aA:=.aF) ?_ ?_
 refine vY (aA:=.kQ) (bC:=.old) ?_ ?_ (fun _ _=>rfl)
 exact ef 2 (pv 2)
 walk_at"6'("
 refine bD (i:=5) (k:=.loc) (κ:=.new) ?_ ?_
 exact eV.nd
 refine aJ (κ:=.aF) cB hr (by decide) ?_ (aq (aq aO))
 refine af (κ:=.aF) (aA:=.aF) ?_ ?_
 refine vY (aA:=.kQ) (bC:=.old) ?_ ?_ (fun _ _=>rfl)
 exact ef 2 (pv 2)
 walk_at"6&='*:"
 refine c5 (aA:=.loc) (bC:=.kQ) (kY hr.units) gP ?_ ?_ (by with_unfolding_all rfl)
 exact d7 5 (pv 5)
 exact ef 2 (pv 2)
 walk_at"*"
 refine qy (i:=2) (κ:=.loc) (to:=lI 2) ?_ rfl
 refine tZ PySem.F.plainAttrs_list PySem.F.slot_list_append PySem.F.type_list_append fJ (pv 2) ?_
 refine cZ ?_ fV
 exact d7 5 (pv 5)
 walk_at"*V"
 exact eV.nd
 walk_at"H6!*"
 refine c7 (κ:=.kQ) ?_
 exact ef 2 (pv 2)
theorem eW:br ["cells","pegs","others","here","row","leap","behind"] ["cells","pegs","others"] (az gX):=⟨rfl,rfl,rfl,by decide +kernel,rfl,by decide +kernel,by decide +kernel⟩
theorem xN(T:Txt K mg t)(dB:FD P w K mg base (aU t.aC) 3 "_law_open" ["cells","pegs"] 2 (bR t) true)(cB:FD P w K mg base (aU t.aC) 2 "_law_behind" ["pegs","leap"] 2 (bG t) true)(mE:FD P w K mg base (aU t.aC) 4 "_law_reach" ["cells","pegs"] 2 (eG t) true):FD P w K mg base (aU t.aC) 5 "_law_first" ["cells","pegs","others"] 3 (gZ t) true:=
 dQ (Γ:=[.par,.par,.par,.loc,.own true,.par,.loc]) T.rX eW rfl (fun i h=>by match i,h with | 0,_=>rfl | 1,_=>rfl | 2,_=>rfl) fun f dU A outer s H E hr=>
 by
 walk_at"("
 refine bD (i:=3) (k:=.loc) (κ:=.new) ?_ ?_
 exact eW.nd
 refine dP (aA:=.aF) jl ?_
 refine dg dY rfl T.m8 m9 ?_
 walk_at"&+'("
 refine bD (i:=4) (k:=(.own true)) (κ:=.new) ?_ ?_
 exact eW.nd
 walk_at";-("
 refine vO 40 (bg ⟨rfl,rfl⟩) ?_   ?_
 refine c5 (aA:=.loc) (bC:=.old) (nS hr.units) ic ?_ ?_ (dX _)
 exact d7 3 (pv 3)
 walk_at"3*"
 refine cW (κ:=.new) (bg ⟨rfl,rfl⟩) rfl ?_ rfl (bS (i:=5) (by exact eW.nd) rfl (Or.inl rfl)) (dz (i:=5) (k:=.par))   ?_
 refine aJ (κ:=.aF) dB hr (by decide) ?_ (aq (aq aO))
 walk_at"&)L"
 exact d7 3 (pv 3)
 walk_at"'("
 refine bD (i:=6) (k:=.loc) (κ:=.new) ?_ ?_
 exact eW.nd
 refine aJ (κ:=.aF) cB hr (by decide) ?_ (aq (aq aO))
 walk_at"L"
 exact d7 3 (pv 3)
 walk_at"&"
 exact ah 5 (pv 5)
 walk_at"'*:"
 refine c5 (aA:=.old) (bC:=.new) (lN hr.units) gP ?_ ?_ (by with_unfolding_all rfl)
 walk_at"3"
 refine aJ (κ:=.aF) mE hr (by decide) ?_ (aq (aq aO))
 walk_at"&)L"
 exact d7 6 (pv 6)
 walk_at"'("
 refine qy (i:=4) (κ:=.new) (to:=lI 4) ?_ rfl
 refine tZ PySem.F.plainAttrs_list PySem.F.slot_list_append PySem.F.type_list_append fJ (pv 4) ?_
 refine cZ ?_ fV
 walk_at"5"
 exact ah 5 (pv 5)
 walk_at"("
 refine bD (i:=3) (k:=.loc) (κ:=.loc) ?_ ?_
 exact eW.nd
 exact d7 6 (pv 6)
 walk_at"*"
 exact HX
 walk_at"*"
 refine c7 (κ:=.kQ) ?_
 exact ef 4 (pv 4)
theorem mF:br ["script","cells","board","pegs","others","due","lap","handed","found"] ["script"] (az Bg):=⟨rfl,rfl,rfl,by decide +kernel,rfl,by decide +kernel,by decide +kernel⟩
theorem Py(T:Txt K mg t)(iS:FD P w K mg base (aU t.aC) 2 "_law_cells_by" ["script","most"] 2 (cj t) true){fiB:Addr}{fdB:FuncData}(Pz:Mk K t.aC fiB)(bB:Binds K fdB ["self","cells"] [])(zP:iQ P w K mg base (pK P w) 3 fiB fdB ["self","cells"] (zE K t.aC (bL t)))(cG:FD P w K mg base (aU t.aC) 1 "_law_cell_at" ["script","k"] 2 (b5 t) true)(jv:FD P w K mg base (aU t.aC) 2 "_law_pegs_by" ["cell","cells"] 2 (dR t) true)(oM:FD P w K mg base (aU t.aC) 4 "_law_gone" ["cells","pegs","cell","most"] 4 (gE t) true)(mG:FD P w K mg base (aU t.aC) 5 "_law_first" ["cells","pegs","others"] 3 (gZ t) true)(wz:FD P w K mg base (aU t.aC) 6 "answer" ["board","pegs","others"] 3 (ju t) true):FD P w K mg base (aU t.aC) 7 "law" ["script"] 1 (yv t) true:=
 dQ (Γ:=[.par,.par,.par,.par,.par,.par,.par,.loc,.pr]) T.IL mF rfl (fun i h=>by match i,h with | 0,_=>rfl) fun f dU A outer s H E hr=>
 by
 walk_at"("
 refine bD (i:=1) (k:=.par) (κ:=.new) ?_ ?_
 exact mF.nd
 refine aJ (κ:=.aF) iS hr (by decide) ?_ (aq (aq aO))
 walk_at"&).!'(O"
 exact mF.nd
 refine Iw (κ:=.aF) Pz zP (hr.mono (by decide)) T.pQ bB ?_
 walk_at"."
 refine dP (aA:=.aF) jl ?_
 refine dg dY rfl T.m8 m9 ?_
 walk_at"&+''(V"
 exact mF.nd
 refine aJ (κ:=.aF) jv hr (by decide) ?_ (aq (aq aO))
 walk_at".]&).!'&+'("
 refine bD (i:=4) (k:=.par) (κ:=.old) ?_ ?_
 exact mF.nd
 refine bw (aA:=.new) (bC:=.new) ?_ ?_ (fun _ _=>rfl)
 refine aJ (κ:=.aF) oM hr (by decide) ?_ (aq (aq (aq (aq aO))))
 walk_at"&+&6.]&).!'.!'!("
 refine bD (i:=5) (k:=.par) (κ:=.new) ?_ ?_
 exact mF.nd
 refine aJ (κ:=.aF) mG hr (by decide) ?_ (aq (aq (aq aO)))
 walk_at"&+&6&='("
 refine lU (κ:=.aF) (bg ⟨rfl,rfl⟩) rfl T.uS ?_ (bS (i:=6) (by exact mF.nd) rfl (Or.inl rfl)) (dz (i:=6) (k:=.par))   ?_
 walk_at".!'("
 refine bD (i:=7) (k:=.loc) (κ:=.new) ?_ ?_
 exact mF.nd
 walk_at";%"
 refine dP (aA:=.aF) jl ?_
 refine dg dY rfl T.m8 m9 ?_
 walk_at"&6'%"
 refine dP (aA:=.aF) jl ?_
 refine dg dY rfl T.m8 m9 ?_
 walk_at"&='-("
 refine bD (i:=8) (k:=.pr) (κ:=.new) ?_ ?_
 exact mF.nd
 refine aJ (κ:=.aF) wz hr (by decide) ?_ (aq (aq (aq aO)))
 walk_at"&3&"
 refine bw (aA:=.loc) (bC:=.new) ?_ ?_ (fun _ _=>rfl)
 exact d7 7 (pv 7)
 walk_at"!&"
 refine bw (aA:=.loc) (bC:=.new) ?_ ?_ (fun _ _=>rfl)
 exact d7 7 (pv 7)
 walk_at"!'(:"
 refine PW.pt ?_
 refine DK ?_ ?_
 refine sY ?_
 refine yg (κ:=.new) ?_
 refine Iz (aA:=.aF) (T:="tuple") zH T.m7 T.pP (by decide +kernel) ?_
 exact rJ 8 (pv 8)
 refine DK ?_ ?_
 refine c5 (aA:=.new) (bC:=.new) (nS hr.units) ic ?_ ?_ (dX _)
 walk_at"ED"
 refine af (κ:=.aF) (aA:=.aF) ?_ ?_
 exact rJ 8 (pv 8)
 walk_at"'!"
 refine DK ?_ ?_
 refine c5 (aA:=.aF) (bC:=.new) (nS hr.units) ic ?_ ?_ (dX _)
 refine vY (aA:=.aF) (bC:=.new) ?_ ?_ (fun _ _=>rfl)
 exact rJ 8 (pv 8)
 exact au
 exact HP
 refine HV ?_
 refine sY ?_
 refine yg (κ:=.new) ?_
 refine Iz (aA:=.aF) (T:="list") Bl T.m7 T.m8 (by decide +kernel) ?_
 refine vY (aA:=.aF) (bC:=.new) ?_ ?_ (fun _ _=>rfl)
 exact rJ 8 (pv 8)
 walk_at"!*9"
 exact HN
 walk_at"(:"
 refine PW.pt ?_
 refine DK ?_ ?_
 refine c5 (aA:=.aF) (bC:=.old) (nS hr.units) ic ?_ ?_ (dX _)
 refine vY (aA:=.aF) (bC:=.new) ?_ ?_ (fun _ _=>rfl)
 exact rJ 8 (pv 8)
 exact au
 exact ah 5 (pv 5)
 refine HV ?_
 refine c5 (aA:=.loc) (bC:=.old) (nS hr.units) ic ?_ ?_ (dX _)
 exact d7 7 (pv 7)
 walk_at";"
 refine af (κ:=.old) (aA:=.old) ?_ ?_
 walk_at"6"
 refine af (κ:=.old) (aA:=.old) ?_ ?_
 walk_at"="
 exact ay (κ:=.old)
 walk_at"*9"
 exact HN
 walk_at"*"
 refine Ld (i:=8) (κ:=.new) ?_ rfl
 refine tZ PySem.F.plainAttrs_list PySem.F.slot_list_append PySem.F.type_list_append fJ (Hf Hh (pv 8) GG (fun _ _=>rfl)) ?_
 refine cZ ?_ fV
 walk_at"7%7%!%!-%7%!%!--*9"
 exact HN
theorem IQ:br ["self","cells"] ["self","cells"] (az jO):=⟨rfl,rfl,rfl,by decide +kernel,rfl,by decide +kernel,by decide +kernel⟩
theorem IS(T:Txt K mg t){fi:Addr}{fd:FuncData}(F:Hj K "__init__" "Board.__init__" jO fi fd)(kj:FD P w K mg base (aU t.aC) 2 "check_cells" ["cells"] 1 (bL t) true):iQ P w K mg base (pK P w) 3 fi fd ["self","cells"] (zE K t.aC (bL t)):=
 Ll (κ:=.new) F IQ T.Rb T.JQ fun dU A outer s H E hr=>by
 refine Av ?_ ?_
 ·refine r8 ?_
  refine aJ (κ:=.aF) kj hr (by decide) ?_ (aq aO)
  walk_at"&"
  ·walk_at"+"
  ·walk_at"'"
 ·refine Du ?_
  refine Ot (pv 0) ?_ rfl
  refine dP (aA:=.aF) jl ?_
  refine dg dY rfl T.m8 m9 ?_
  walk_at"&"
  ·walk_at"+"
  ·walk_at"'"
theorem PB(T:Txt K mg t):FD P w K mg base (aU t.aC) 7 "law" ["script"] 1 (yv t) true:=by
 obtain ⟨fiB,fdB,FuB,Pz,bB⟩:=T.iB
 have gF:=zJ (P:=P) (w:=w) (base:=base) T
 have tu:=CT (P:=P) (w:=w) (base:=base) T
 have kj:=wg (P:=P) (w:=w) (base:=base) T gF tu
 have zP:=IS (P:=P) (w:=w) (base:=base) T FuB kj
 have eK:=xF (P:=P) (w:=w) (base:=base) T gF
 have oF:=zK (P:=P) (w:=w) (base:=base) T
 have fR:=CV (P:=P) (w:=w) (base:=base) T
 have zM:=IP (P:=P) (w:=w) (base:=base) T oF fR
 have k9:=wm (P:=P) (w:=w) (base:=base) T fR
 have k8:=wo (P:=P) (w:=w) (base:=base) T fR
 have lC:=FF (P:=P) (w:=w) (base:=base) T
 have mz:=Bm (P:=P) (w:=w) (base:=base) T eK lC
 have mw:=xH (P:=P) (w:=w) (base:=base) T k8 k9
 have oJ:=zL (P:=P) (w:=w) (base:=base) T mw
 have mC:=xJ (P:=P) (w:=w) (base:=base) T zM oJ
 have wz:=FG (P:=P) (w:=w) (base:=base) T eK mz mC
 have cG:=uE (P:=P) (w:=w) (base:=base) T
 have bV:=Bo (P:=P) (w:=w) (base:=base) T
 have iS:=tw (P:=P) (w:=w) (base:=base) T cG bV
 have jv:=uF (P:=P) (w:=w) (base:=base) T bV
 have c8:=uH (P:=P) (w:=w) (base:=base) T
 have mD:=xK (P:=P) (w:=w) (base:=base) T c8
 have dB:=zN (P:=P) (w:=w) (base:=base) T mD c8
 have cB:=wu (P:=P) (w:=w) (base:=base) T c8
 have oM:=zO (P:=P) (w:=w) (base:=base) T bV dB cB
 have mE:=xM (P:=P) (w:=w) (base:=base) T dB cB
 have mG:=xN (P:=P) (w:=w) (base:=base) T dB cB mE
 have Vs:=Py (P:=P) (w:=w) (base:=base) T iS Pz bB zP cG jv oM mG wz
 exact Vs
def Bp(K:Frag):Sp:=fun vs H Q _=>∃(a:Addr) (ns:List Int),vs=[.ref a]/\jJ K H a (ns.map V.int)/\ns.length<=63/\∀H',Q (.bl true) H'
theorem PC(T:Txt K mg t)(IT:∀ns:List Int,ns.length<=63->yv t [.lst (ns.map D.int)] = .ok (.bl true)):∃a fd,iQ P w K mg base (pK P w) 40 a fd ["script"] (Bp K)/\mg "law" =some (.ref a)/\∃o,K.lookup a=some o/\o.data = .func fd:=by
 obtain ⟨a,fd,h1,h2,_,_,h4⟩:=(PB (P:=P) (w:=w) (base:=base) T).ex
 refine⟨a,fd,(h1.mono (by decide)).imp fun vs H Q E iz=>?_,h2,h4⟩
 obtain ⟨p,ns,e,hs,hl,q⟩:=iz
 subst e
 refine⟨[.lst (ns.map D.int)],rfl,.cons (by rw[Rep];exact⟨p,_,rfl,hs,aM.ints ns⟩) .nil,?_⟩
 rw[IT ns hl]
 intro v H' _ r
 have r':=r.1
 rw[Rep] at r'
 subst r'
 exact q H'
end
theorem PD{K:Frag}{h:Heap}{mg:Str->Option Value}(X:K.In h)(G:h.Ns mainGlobals mg)
  {a0:Addr} {od0 an0:Option Addr} {sl0:Array (Option Value)} {oc0 kV0 dc0 pm0 cd0 ct0:Value} {a1:Addr} {od1 an1:Option Addr} {sl1:Array (Option Value)} {oc1 kV1 dc1 pm1 cd1 ct1:Value} {a2:Addr} {od2 an2:Option Addr} {OD:Array (Option Value)} {oc2 kV2 dc2 pm2 cd2 ct2:Value} {a3:Addr} {od3 an3:Option Addr} {sl3:Array (Option Value)} {oc3 kV3 dc3 pm3 cd3 ct3:Value} {a4:Addr} {od4 an4:Option Addr} {sl4:Array (Option Value)} {oc4 kV4 dc4 pm4 cd4 ct4:Value} {a5:Addr} {od5 an5:Option Addr} {sl5:Array (Option Value)} {oc5 kV5 dc5 pm5 cd5 ct5:Value} {a6:Addr} {od6 an6:Option Addr} {sl6:Array (Option Value)} {oc6 kV6 dc6 pm6 cd6 ct6:Value} {a7:Addr} {od7 an7:Option Addr} {sl7:Array (Option Value)} {oc7 kV7 dc7 pm7 cd7 ct7:Value} {a8:Addr} {od8 an8:Option Addr} {sl8:Array (Option Value)} {oc8 kV8 dc8 pm8 cd8 ct8:Value} {a9:Addr} {od9 an9:Option Addr} {sl9:Array (Option Value)} {oc9 kV9 dc9 pm9 cd9 ct9:Value} {a10:Addr} {ae3 ae4:Option Addr} {ae5:Array (Option Value)} {ae6 ae7 ae8 ae9 Vt af0:Value} {a11:Addr} {af1 af2:Option Addr} {af3:Array (Option Value)} {af4 af5 af6 af7 Vu af8:Value} {a12:Addr} {af9 ag0:Option Addr} {ag1:Array (Option Value)} {ag2 ag3 ag4 ag5 Vv ag6:Value} {a13:Addr} {ag7 ag8:Option Addr} {ag9:Array (Option Value)} {ah0 ah1 ah2 ah3 Vx ah4:Value} {a14:Addr} {ah5 ah6:Option Addr} {ah7:Array (Option Value)} {ah8 ah9 ai0 ai1 Vy ai2:Value} {a15:Addr} {ai3 ai4:Option Addr} {ai5:Array (Option Value)} {ai6 ai7 ai8 ai9 Vz aj0:Value} {a16:Addr} {aj1 aj2:Option Addr} {aj3:Array (Option Value)} {aj4 aj5 aj6 aj7 VA aj8:Value} {a17:Addr} {aj9 ak0:Option Addr} {ak1:Array (Option Value)} {ak2 ak3 ak4 ak5 VB ak6:Value} {a18:Addr} {ak7 ak8:Option Addr} {ak9:Array (Option Value)} {al0 al1 al2 al3 VC al4:Value} {a19:Addr} {al5 al6:Option Addr} {al7:Array (Option Value)} {al8 al9 am0 am1 VD am2:Value} {a20:Addr} {am3 am4:Option Addr} {am5:Array (Option Value)} {am6 am7 am8 am9 VE ao0:Value} {a21:Addr} {ao1 ao2:Option Addr} {ao3:Array (Option Value)} {ao4 ao5 ao6 ao7 VF ao8:Value} {a22:Addr} {ao9 ap0:Option Addr} {ap1:Array (Option Value)} {ap2 ap3 ap4 ap5 VG ap6:Value} {a23:Addr} {ap7 ap8:Option Addr} {ap9:Array (Option Value)} {aq0 aq1 aq2 aq3 VH aq4:Value} {a24:Addr} {aq5 aq6:Option Addr} {aq7:Array (Option Value)} {aq8 aq9 ar0 ar1 VI ar2:Value} {a25:Addr} {ar3 ar4:Option Addr} {ar5:Array (Option Value)} {ar6 ar7 ar8 ar9 VJ as1:Value} {a26:Addr} {as2 as3:Option Addr} {as4:Array (Option Value)} {as5 as6 as7 as8 VL as9:Value} {wA qB tE iD:Addr} {yx:Tok} {IU:Tok} {s8:Tok} {aI:Addr} {odI anI:Option Addr} {slI:Array (Option Value)} {ocI kVI dcI pmI cdI ctI:Value}
  (oN:nsIn K mainGlobals "is_rising" =some (some (.ref a0)))
  (oO:K.lookup a0=some ⟨oc0,od0,.func (fnOf "is_rising" "is_rising" (bq iH) (bf iH) (az iH) .none kV0 dc0 pm0 an0 cd0 ct0),sl0⟩)
  (oQ:codeIn K cd0 "is_rising" =true)
  (oR:keepIn K (.ref a0)=true)
  (tF:nsIn K mainGlobals "is_cell" =some (some (.ref a1)))
  (tG:K.lookup a1=some ⟨oc1,od1,.func (fnOf "is_cell" "is_cell" (bq l9) (bf l9) (az l9) .none kV1 dc1 pm1 an1 cd1 ct1),sl1⟩)
  (tH:codeIn K cd1 "is_cell" =true)
  (tK:keepIn K (.ref a1)=true)
  (ko:nsIn K mainGlobals "check_cells" =some (some (.ref a2)))
  (kq:K.lookup a2=some ⟨oc2,od2,.func (fnOf "check_cells" "check_cells" (bq gk) (bf gk) (az gk) .none kV2 dc2 pm2 an2 cd2 ct2),OD⟩)
  (kr:codeIn K cd2 "check_cells" =true)
  (ku:keepIn K (.ref a2)=true)
  (mH:nsIn K mainGlobals "check_pegs" =some (some (.ref a3)))
  (mJ:K.lookup a3=some ⟨oc3,od3,.func (fnOf "check_pegs" "check_pegs" (bq gR) (bf gR) (az gR) .none kV3 dc3 pm3 an3 cd3 ct3),sl3⟩)
  (mK:codeIn K cd3 "check_pegs" =true)
  (mL:keepIn K (.ref a3)=true)
  (oS:nsIn K mainGlobals "two_apart" =some (some (.ref a4)))
  (oU:K.lookup a4=some ⟨oc4,od4,.func (fnOf "two_apart" "two_apart" (bq iI) (bf iI) (az iI) .none kV4 dc4 pm4 an4 cd4 ct4),sl4⟩)
  (oV:codeIn K cd4 "two_apart" =true)
  (oW:keepIn K (.ref a4)=true)
  (tL:nsIn K mainGlobals "between" =some (some (.ref a5)))
  (tM:K.lookup a5=some ⟨oc5,od5,.func (fnOf "between" "between" (bq lq) (bf lq) (az lq) .none kV5 dc5 pm5 an5 cd5 ct5),sl5⟩)
  (tN:codeIn K cd5 "between" =true)
  (tO:keepIn K (.ref a5)=true)
  (zQ:nsIn K mainGlobals "leaps" =some (some (.ref a6)))
  (zR:K.lookup a6=some ⟨oc6,od6,.func (fnOf "leaps" "leaps" (bq rR) (bf rR) (az rR) .none kV6 dc6 pm6 an6 cd6 ct6),sl6⟩)
  (zS:codeIn K cd6 "leaps" =true)
  (zT:keepIn K (.ref a6)=true)
  (kB:nsIn K mainGlobals "can_be_done" =some (some (.ref a7)))
  (kC:K.lookup a7=some ⟨oc7,od7,.func (fnOf "can_be_done" "can_be_done" (bq gm) (bf gm) (az gm) .none kV7 dc7 pm7 an7 cd7 ct7),sl7⟩)
  (kE:codeIn K cd7 "can_be_done" =true)
  (kF:keepIn K (.ref a7)=true)
  (kG:nsIn K mainGlobals "pegs_behind" =some (some (.ref a8)))
  (kH:K.lookup a8=some ⟨oc8,od8,.func (fnOf "pegs_behind" "pegs_behind" (bq gn) (bf gn) (az gn) .none kV8 dc8 pm8 an8 cd8 ct8),sl8⟩)
  (kI:codeIn K cd8 "pegs_behind" =true)
  (kJ:keepIn K (.ref a8)=true)
  (wB:nsIn K mainGlobals "odd_on" =some (some (.ref a9)))
  (wC:K.lookup a9=some ⟨oc9,od9,.func (fnOf "odd_on" "odd_on" (bq oj) (bf oj) (az oj) .none kV9 dc9 pm9 an9 cd9 ct9),sl9⟩)
  (wD:codeIn K cd9 "odd_on" =true)
  (wF:keepIn K (.ref a9)=true)
  (qC:nsIn K mainGlobals "class_of" =some (some (.ref a10)))
  (qD:K.lookup a10=some ⟨ae6,ae3,.func (fnOf "class_of" "class_of" (bq jq) (bf jq) (az jq) .none ae7 ae8 ae9 ae4 Vt af0),ae5⟩)
  (qE:codeIn K Vt "class_of" =true)
  (qF:keepIn K (.ref a10)=true)
  (mO:nsIn K mainGlobals "steps_from" =some (some (.ref a11)))
  (mP:K.lookup a11=some ⟨af4,af1,.func (fnOf "steps_from" "steps_from" (bq gS) (bf gS) (az gS) .none af5 af6 af7 af2 Vu af8),af3⟩)
  (mQ:codeIn K Vu "steps_from" =true)
  (mR:keepIn K (.ref a11)=true)
  (oX:nsIn K mainGlobals "next_rows" =some (some (.ref a12)))
  (oY:K.lookup a12=some ⟨ag2,af9,.func (fnOf "next_rows" "next_rows" (bq iJ) (bf iJ) (az iJ) .none ag3 ag4 ag5 ag0 Vv ag6),ag1⟩)
  (oZ:codeIn K Vv "next_rows" =true)
  (p7:keepIn K (.ref a12)=true)
  (mS:nsIn K mainGlobals "first_rows" =some (some (.ref a13)))
  (mT:K.lookup a13=some ⟨ah0,ag7,.func (fnOf "first_rows" "first_rows" (bq gT) (bf gT) (az gT) .none ah1 ah2 ah3 ag8 Vx ah4),ag9⟩)
  (mU:codeIn K Vx "first_rows" =true)
  (mV:keepIn K (.ref a13)=true)
  (wG:nsIn K mainGlobals "answer" =some (some (.ref a14)))
  (wH:K.lookup a14=some ⟨ah8,ah5,.func (fnOf "answer" "answer" (bq om) (bf om) (az om) .none ah9 ai0 ai1 ah6 Vy ai2),ah7⟩)
  (wI:codeIn K Vy "answer" =true)
  (wJ:keepIn K (.ref a14)=true)
  (jw:nsIn K mainGlobals "_law_cell_at" =some (some (.ref a15)))
  (jx:K.lookup a15=some ⟨ai6,ai3,.func (fnOf "_law_cell_at" "_law_cell_at" (bq fu) (bf fu) (az fu) .none ai7 ai8 ai9 ai4 Vz aj0),ai5⟩)
  (jy:codeIn K Vz "_law_cell_at" =true)
  (jz:keepIn K (.ref a15)=true)
  (qG:nsIn K mainGlobals "_law_mix" =some (some (.ref a16)))
  (qH:K.lookup a16=some ⟨aj4,aj1,.func (fnOf "_law_mix" "_law_mix" (bq jr) (bf jr) (az jr) .none aj5 aj6 aj7 aj2 VA aj8),aj3⟩)
  (qI:codeIn K VA "_law_mix" =true)
  (qJ:keepIn K (.ref a16)=true)
  (iT:nsIn K mainGlobals "_law_cells_by" =some (some (.ref a17)))
  (iU:K.lookup a17=some ⟨ak2,aj9,.func (fnOf "_law_cells_by" "_law_cells_by" (bq eU) (bf eU) (az eU) .none ak3 ak4 ak5 ak0 VB ak6),ak1⟩)
  (iV:codeIn K VB "_law_cells_by" =true)
  (iW:keepIn K (.ref a17)=true)
  (jA:nsIn K mainGlobals "_law_pegs_by" =some (some (.ref a18)))
  (jB:K.lookup a18=some ⟨al0,ak7,.func (fnOf "_law_pegs_by" "_law_pegs_by" (bq fz) (bf fz) (az fz) .none al1 al2 al3 ak8 VC al4),ak9⟩)
  (jC:codeIn K VC "_law_pegs_by" =true)
  (jD:keepIn K (.ref a18)=true)
  (jE:nsIn K mainGlobals "_law_between" =some (some (.ref a19)))
  (jF:K.lookup a19=some ⟨al8,al5,.func (fnOf "_law_between" "_law_between" (bq fB) (bf fB) (az fB) .none al9 am0 am1 al6 VD am2),al7⟩)
  (jG:codeIn K VD "_law_between" =true)
  (jH:keepIn K (.ref a19)=true)
  (mW:nsIn K mainGlobals "_law_leaps" =some (some (.ref a20)))
  (mX:K.lookup a20=some ⟨am6,am3,.func (fnOf "_law_leaps" "_law_leaps" (bq gU) (bf gU) (az gU) .none am7 am8 am9 am4 VE ao0),am5⟩)
  (mY:codeIn K VE "_law_leaps" =true)
  (mZ:keepIn K (.ref a20)=true)
  (p8:nsIn K mainGlobals "_law_open" =some (some (.ref a21)))
  (p9:K.lookup a21=some ⟨ao4,ao1,.func (fnOf "_law_open" "_law_open" (bq iK) (bf iK) (az iK) .none ao5 ao6 ao7 ao2 VF ao8),ao3⟩)
  (pe:codeIn K VF "_law_open" =true)
  (pB:keepIn K (.ref a21)=true)
  (kK:nsIn K mainGlobals "_law_behind" =some (some (.ref a22)))
  (kL:K.lookup a22=some ⟨ap2,ao9,.func (fnOf "_law_behind" "_law_behind" (bq gq) (bf gq) (az gq) .none ap3 ap4 ap5 ap0 VG ap6),ap1⟩)
  (kM:codeIn K VG "_law_behind" =true)
  (kN:keepIn K (.ref a22)=true)
  (pC:nsIn K mainGlobals "_law_gone" =some (some (.ref a23)))
  (pD:K.lookup a23=some ⟨aq0,ap7,.func (fnOf "_law_gone" "_law_gone" (bq iM) (bf iM) (az iM) .none aq1 aq2 aq3 ap8 VH aq4),ap9⟩)
  (pF:codeIn K VH "_law_gone" =true)
  (pG:keepIn K (.ref a23)=true)
  (n5:nsIn K mainGlobals "_law_reach" =some (some (.ref a24)))
  (n6:K.lookup a24=some ⟨aq8,aq5,.func (fnOf "_law_reach" "_law_reach" (bq gW) (bf gW) (az gW) .none aq9 ar0 ar1 aq6 VI ar2),aq7⟩)
  (n8:codeIn K VI "_law_reach" =true)
  (n9:keepIn K (.ref a24)=true)
  (nc:nsIn K mainGlobals "_law_first" =some (some (.ref a25)))
  (ng:K.lookup a25=some ⟨ar6,ar3,.func (fnOf "_law_first" "_law_first" (bq gX) (bf gX) (az gX) .none ar7 ar8 ar9 ar4 VJ as1),ar5⟩)
  (nh:codeIn K VJ "_law_first" =true)
  (nj:keepIn K (.ref a25)=true)
  (IV:nsIn K mainGlobals "law" =some (some (.ref a26)))
  (IW:K.lookup a26=some ⟨as5,as2,.func (fnOf "law" "law" (bq Bg) (bf Bg) (az Bg) .none as6 as7 as8 as3 VL as9),as4⟩)
  (IX:codeIn K VL "law" =true)
  (IY:keepIn K (.ref a26)=true)
  (jt:nsIn K mainGlobals "PegError" =some (some (.ref wA)))
  (fC:nsIn K mainGlobals "BadBoard" =some (some (.ref qB)))
  (ir:nsIn K mainGlobals "BadPegs" =some (some (.ref tE)))
  (pQ:nsIn K mainGlobals "Board" =some (some (.ref iD)))
  (fD:Nk K qB [.type "ValueError",.type "Exception",.type "BaseException",.type "object"] "ValueError.__new__" =true)
  (iu:Nk K tE [.type "ValueError",.type "Exception",.type "BaseException",.type "object"] "ValueError.__new__" =true)
  (IZ:nsIn K mainGlobals "abs" =some none)
  (pH:nsIn K mainGlobals "enumerate" =some none)
  (nt:nsIn K mainGlobals "isinstance" =some none)
  (J0:nsIn K mainGlobals "len" =some none)
  (CW:nsIn K mainGlobals "list" =some none)
  (zU:nsIn K mainGlobals "range" =some none)
  (J1:nsIn K mainGlobals "set" =some none)
  (wK:nsIn K mainGlobals "sorted" =some none)
  (zV:nsIn K mainGlobals "tuple" =some none)
  (ig:nsIn K mainGlobals "COLOURS" =some (some (.int (3) yx)))
  (oB:nsIn K mainGlobals "LAST" =some (some (.int (7) IU)))
  (ez:nsIn K mainGlobals "MOST_CELLS" =some (some (.int (24) s8)))
  (aI_:findIn K (.ref iD) "__init__" =some (some (.ref aI)))
  (iI_:isFn K (.ref aI)=true)
  (X3:K.lookup aI=some ⟨ocI,odI,.func (fnOf "__init__" "Board.__init__" (bq jO) (bf jO) (az jO) .none kVI dcI pmI anI cdI ctI),slI⟩)
  (X4:codeIn K cdI "Board.__init__" =true)
  (X5:keepIn K (.ref aI)=true)
  (pgB:plainGet K iD Str.empty=true)
  (hdB:hasDictIn K iD=true)
  (poB:plainOver K iD=true)
  (saB:findIn K (.ref iD) "__setattr__" =some (some (.builtin "object.__setattr__")))
  (Pz:makesIn K iD=true)
  (kcB:keepIn K (.ref iD)=true)
  (JQ:findIn K (.ref iD) "cells" =some none) :
  ∃t,Txt K mg t:=by
 let t:i0:=⟨wA,qB,tE,iD,IU,s8,yx⟩
 refine⟨t,?_⟩
 exact {
  ud:=cA X G oN oO oQ oR fun _ _ _ _ _ _ _=>rfl
  yt:=cA X G tF tG tH tK fun _ _ _ _ _ _ _=>rfl
  qi:=cA X G ko kq kr ku fun _ _ _ _ _ _ _=>rfl
  rS:=cA X G mH mJ mK mL fun _ _ _ _ _ _ _ _=>rfl
  uf:=cA X G oS oU oV oW fun _ _ _ _ _ _ _=>rfl
  yu:=cA X G tL tM tN tO fun _ _ _ _ _ _ _ _=>rfl
  DT:=cA X G zQ zR zS zT fun _ _ _ _ _ _ _=>rfl
  qj:=cA X G kB kC kE kF fun _ _ _ _ _ _ _ _=>rfl
  qk:=cA X G kG kH kI kJ fun _ _ _ _ _ _ _ _=>rfl
  Bh:=cA X G wB wC wD wF fun _ _ _ _ _ _ _ _=>rfl
  w9:=cA X G qC qD qE qF fun _ _ _ _ _ _ _ _=>rfl
  rT:=cA X G mO mP mQ mR fun _ _ _ _ _ _ _ _=>rfl
  ug:=cA X G oX oY oZ p7 fun _ _ _ _ _ _ _ _=>rfl
  rU:=cA X G mS mT mU mV fun _ _ _ _ _ _ _ _=>rfl
  Bj:=cA X G wG wH wI wJ fun _ _ _ _ _ _ _ _ _=>rfl
  oq:=cA X G jw jx jy jz fun _ _ _ _ _ _ _ _=>rfl
  we:=cA X G qG qH qI qJ fun _ _ _ _ _ _ _ _ _=>rfl
  nE:=cA X G iT iU iV iW fun _ _ _ _ _ _ _ _=>rfl
  ou:=cA X G jA jB jC jD fun _ _ _ _ _ _ _ _=>rfl
  oz:=cA X G jE jF jG jH fun _ _ _ _ _ _ _=>rfl
  rV:=cA X G mW mX mY mZ fun _ _ _ _ _ _ _=>rfl
  uh:=cA X G p8 p9 pe pB fun _ _ _ _ _ _ _ _=>rfl
  ql:=cA X G kK kL kM kN fun _ _ _ _ _ _ _ _=>rfl
  um:=cA X G pC pD pF pG fun _ _ _ _ _ _ _ _ _ _=>rfl
  rW:=cA X G n5 n6 n8 n9 fun _ _ _ _ _ _ _ _=>rfl
  rX:=cA X G nc ng nh nj fun _ _ _ _ _ _ _ _ _=>rfl
  IL:=cA X G IV IW IX IY fun _ _ _ _ _ _ _=>rfl
  IM:=mg_none_of X G IZ
  uo:=mg_none_of X G pH
  m7:=mg_none_of X G nt
  oA:=mg_none_of X G J0
  m8:=mg_none_of X G CW
  uS:=mg_none_of X G zU
  Nv:=mg_none_of X G J1
  lz:=mg_none_of X G wK
  pP:=mg_none_of X G zV
  ig:=mg_of X G ig
  oB:=mg_of X G oB
  ez:=mg_of X G ez
  jt:=mg_of X G jt
  fC:=mg_of X G fC
  ir:=mg_of X G ir
  pQ:=mg_of X G pQ
  fD:=fD
  iu:=iu
  Rb:=⟨pgB,hdB,poB,saB⟩
  JQ:=JQ
  iB:=⟨_,_,yZ (st:=jO) X3 X4 X5,⟨Pz,aI_,iI_,kcB⟩,yp (yZ (st:=jO) X3 X4 X5) fun _ _ _ _ _ _ _ _=>rfl⟩ }
theorem VM{l:OpenLaw}{w:World}{K:Frag}{h:Heap}{mg:Str->Option Value}{fa:Addr}(hfa:mg "law" =some (.ref fa))(T:∃t,Txt K mg t)(IT:∀(t:i0) (ns:List Int),ns.length<=63->yv t [.lst (ns.map D.int)] = .ok (.bl true)) :
  ∃fd:FuncData,(∀(s:Shared) (v:Value),BindsTo s fd ⟨[v],[]⟩ [("script",v)])/\∀base:Heap,K.In base->base.Ns mainGlobals mg->iQ l.prog w K mg base (pK l.prog w) 40 fa fd ["script"] (Bp K):=by
 obtain ⟨t,T⟩:=T
 obtain ⟨a,fd,Fu,hm,hb⟩:=T.IL
 obtain rfl:a=fa:=by rw[hm] at hfa;cases hfa;rfl
 refine⟨fd,fun s v=>?_,fun base hk hn=>?_⟩
 ·obtain ⟨oc,od,kV,doc,pm,an,dU,ct,G4,rfl,lk,C0⟩:=Fu.ex
  exact .of_eq rfl
 ·obtain ⟨a',fd',h1,h2,h3⟩:=PC (P:=l.prog) (w:=w) (base:=base) T (IT t)
  rw[hm] at h2
  cases h2
  obtain ⟨o,l1,d1⟩:=h3
  obtain ⟨o',l2,d2⟩:=B9 Fu
  rw[l1] at l2
  cases l2
  rw[d1] at d2
  cases d2
  exact h1
theorem walk{l:OpenLaw}{q:Program}{loose:List Str}{XP:(Str->Option Value)->Heap->Prop}{YP:World->Heap->Prop}{d:DefRec}{K:Params->Frag}(hn:l.most=some 63)(OA:d.params.defaults=[])
  (hY:∀(w:World) (h:Heap),YP w h->(K w.params).In h)
  (F:∀(w:World) (mg:Str->Option Value) (fa:Addr) (h:Heap),(K w.params).In h->h.Ns mainGlobals mg->mg d.name=some (.ref fa)->
   ∃fd:FuncData,(∀(s:Shared) (u:Value),BindsTo s fd ⟨[u],[]⟩ [("script",u)])/\∀base:Heap,(K w.params).In base->base.Ns mainGlobals mg->iQ l.prog w (K w.params) mg base (pK l.prog w) 40 fa fd ["script"] (Bp (K w.params))) :
  WalkO q loose XP YP l.row.toRowW d [] (fun f vs=>PySem.call f vs):=
 L2.KN (n:=63) (k:=40) (x:="script") (CX:=fun w=>pK l.prog w) (sp:=fun w=>Bp (K w.params)) hn (by decide) OA ⟨rfl,by decide,by decide⟩ hY F (fun _ _ a ns hl _ hS=>⟨a,ns,rfl,hS,hl,fun _=>rfl⟩) fun w H s e s' lO=>lO.elim fun _ qQ=>qQ.elim fun _ DG=>DG.elim fun _ EY=>EY.elim fun _ G7=>G7.elim fun _ Au=>Au.elim fun _ BU=>BU.elim fun _ BV=>BV.elim fun _ yT=>yT.elim fun _ CC=>CC.elim fun _ CD=>CD.elim fun _ CF=>CF.elim fun _ HG=>HG.elim fun z _=>z
theorem VN{l:OpenLaw}{q:Program}{loose:List Str}{XP:(Str->Option Value)->Heap->Prop}{d:DefRec}{K:Params->Frag}{as:List Addr}(hn:l.most=some 63)(OA:d.params.defaults=[])(e:∀P,as=(K P).map (·.1))
  (F:∀(w:World) (mg:Str->Option Value) (fa:Addr) (h:Heap),(K w.params).In h->h.Ns mainGlobals mg->mg d.name=some (.ref fa)->
   ∃fd:FuncData,(∀(s:Shared) (u:Value),BindsTo s fd ⟨[u],[]⟩ [("script",u)])/\∀base:Heap,(K w.params).In base->base.Ns mainGlobals mg->iQ l.prog w (K w.params) mg base (pK l.prog w) 40 fa fd ["script"] (Bp (K w.params))) :
  WalkX q loose XP (fun s:Shared=>as.map s.heap.get?) (fun w=>(K w.params).map fun p=>some p.2) l.row.toRowW d [] (fun f vs=>PySem.call f vs):=
 fun w gK cR mg mb G y a o pm cd doc dV kV h1 h2 h3 h4 h5 h6 args vals as' L h7 h8 h9 h10 h11=>walk (YP:=fun w h=>(K w.params).In h) hn OA (fun _ _ h=>h) F w gK cR mg mb G (InK.keeps w gK.heap cR.heap (InK.of e w gK y) L.keeps) a o pm cd doc dV kV h1 h2 h3 h4 h5 h6 args vals as' h7 h8 h9 h10 h11
end Pk
end Vr
section VO
namespace Dm
open L2 HT
section
variable {f fa fb fc g:DF}{fs:DA}{F G:DS}{st st':dh}{d a b:D}{ds:List D}{i j:Nat}
@[simp] theorem X6 {α β:Type} (a:α) (f:α->R β):R.bind (.ok a) f=f a:=rfl
@[simp] theorem VP {α β:Type} (f:α->R β):R.bind (.bad:R α) f = .bad:=rfl
@[simp] theorem X7 {α β:Type} (c:PySem.Addr) (p:Option Int) (f:α->R β):R.bind (.ex c p:R α) f = .ex c p:=rfl
@[simp] theorem av3 (st:dh):b9 F G st=match F st with | .nx st'=>G st' | o=>o:=rfl
@[simp] theorem at0 (st:dh):bN st = .nx st:=rfl
@[simp] theorem X8 (st:dh):zw st = .bk st:=rfl
@[simp] theorem av4 (st:dh):bO i f st=match f st with | .ok d=>.nx (st.set i (some d)) | .ex c p=>.ex c p st | .bad=>.bad:=rfl
@[simp] theorem at1 (st:dh):u9 f st=match f st with | .ok _=>.nx st | .ex c p=>.ex c p st | .bad=>.bad:=rfl
@[simp] theorem av5 (st:dh):eS f st=match f st with | .ok d=>.rt d | .ex c p=>.ex c p st | .bad=>.bad:=rfl
@[simp] theorem av6 (st:dh):Dm.cI fc F G st=match fc st with | .ok (.bl true)=>F st | .ok (.bl false)=>G st | .ok _=>.bad | .ex c p=>.ex c p st | .bad=>.bad:=rfl
@[simp] theorem VQ {c:PySem.Addr} (st:dh):gz c st = .ex c none st:=rfl
@[simp] theorem av7 (st:dh):ak i st=match st[i]? with | some (some d)=>.ok d | _=>.bad:=rfl
@[simp] theorem dC_ (st:dh):dC d st = .ok d:=rfl
@[simp] theorem at3 (st:dh):aX f st=(f st).bind fun d=>if eX d=true then .ok d else .bad:=rfl
@[simp] theorem ax7 {g:D->D->R D} (st:dh):aQ g fa fb st=(fa st).bind fun a=>(fb st).bind fun b=>g a b:=rfl
@[simp] theorem ax8 {g:D->R D} (st:dh):rA g fa st=(fa st).bind g:=rfl
@[simp] theorem av8 (st:dh):av st = .ok []:=rfl
@[simp] theorem at4 (st:dh):aa f fs st=(f st).bind fun d=>(fs st).bind fun ds=>.ok (d::ds):=rfl
@[simp] theorem at5 (i:Int) (ds:List D):pU (.tup (.int i::ds))=true:=rfl
@[simp] theorem at6 (es ds:List D):pU (.tup (.tup es::ds))=true:=rfl
@[simp] theorem at7 (es ds:List D):pU (.tup (.lst es::ds))=true:=rfl
@[simp] theorem at8 (b:Bool) (ds:List D):pU (.tup (.bl b::ds))=true:=rfl
@[simp] theorem av9 {n:Nat} (st:dh):bK n fs st=(fs st).bind fun ds=>if ds.length<=n/\pU (.tup ds)=true then .ok (.tup ds) else .bad:=rfl
@[simp] theorem aw0 {n:Nat} (st:dh):bY n fs st=(fs st).bind fun ds=>if ds.length<=n then .ok (.lst ds) else .bad:=rfl
@[simp] theorem ax9 {g:List D->R D} (st:dh):bz g fs st=(fs st).bind g:=rfl
@[simp] theorem aw1 (st:dh):j4 fa fb st=(fa st).bind fun a=>match a with | .bl true=>fb st | .bl false=>.ok (.bl false) | _=>.bad:=rfl
@[simp] theorem ay0 (st:dh):Ga fa fb st=(fa st).bind fun a=>match a with | .bl true=>.ok (.bl true) | .bl false=>fb st | _=>.bad:=rfl
@[simp] theorem aw2 (st:dh):qx fa st=(fa st).bind fun a=>match a with | .bl b=>.ok (.bl (!b)) | _=>.bad:=rfl
@[simp] theorem X9 {g g':D->D->R D} (st:dh):lV g g' fa fb fc st=(fa st).bind fun a=>(fb st).bind fun b=>(g a b).bind fun z=>match z with
 | .bl true=>(fc st).bind fun c=>g' b c
 | .bl false=>.ok (.bl false)
 | _=>.bad:=rfl
@[simp] theorem aw3 (i j:Int):gf (.int i) (.int j) = .ok (.int (i+j)):=rfl
@[simp] theorem aw4 (i j:Int):jS (.int i) (.int j) = .ok (.int (i - j)):=rfl
@[simp] theorem at9 (i j:Int):UH (.int i) (.int j) = .ok (.bl (decide (i < j))):=rfl
@[simp] theorem ay1 (i j:Int):Nm (.int i) (.int j) = .ok (.bl (decide (i<=j))):=rfl
@[simp] theorem au0 (i j:Int):L4 (.int i) (.int j) = .ok (.bl (decide (j < i))):=rfl
@[simp] theorem aw5 (i:Int):ac3 (.int i) = .ok (.int (-i)):=rfl
@[simp] theorem PF (ds:List D):jX [.lst ds] = .ok (.int ds.length):=rfl
@[simp] theorem au1 (ds:List D):jX [.tup ds] = .ok (.int ds.length):=rfl
@[simp] theorem Xa (i:Int):eX (.int i)=true:=by rw[eX] <;> simp
@[simp] theorem au2 (i:Bool):eX (.bl i)=true:=by rw[eX] <;> simp
@[simp] theorem Bq {gi:DI} {bind:DB} (st:dh):dZ gi bind F st=match gi st with | .ok ds=>cY bind F ds st | .ex c p=>.ex c p st | .bad=>.bad:=rfl
@[simp] theorem aw6 (st:dh):eT f st=match f st with | .ok (.lst ds)=>.ok ds | .ok _=>.bad | .ex c p=>.ex c p | .bad=>.bad:=rfl
theorem nF{i j:Int}(h:0 < j):i8 (.int i) (.int j) = .ok (.int (i % j)):=by
 show (if decide (0 < j)=true then _ else _)=_
 rw[if_pos (decide_eq_true h)]
theorem Br{i j:Int}(h:0 < j)(h2:j < 1073741824):nV (.int i) (.int j) = .ok (.int (i / j)):=by
 show (if (decide (0 < j)&&decide (j < 1073741824))=true then _ else _)=_
 rw[if_pos (by rw[decide_eq_true h,decide_eq_true h2];rfl)]
theorem wL{i j:Int}(h : -(2 ^ 64) < i/\i < 2 ^ 64):rC (.int i) (.int j) = .ok (.int (i * j)):=by
 show (if (sm i || sm j)=true then _ else _)=_
 rw[if_pos]
 unfold sm
 rw[decide_eq_true h.1,decide_eq_true h.2];rfl
end
abbrev Cell:=Int×Int
def cD(c:Cell):D:=.tup [.int c.1,.int c.2]
@[simp] theorem au3 (c:Cell) (ds:List D):pU (.tup (cD c::ds))=true:=rfl
abbrev aB(l:List Cell):D:=.lst (l.map cD)
def row(c:Cell):List Int:=[c.1,c.2]
theorem LA{a b:Cell}(h:row a=row b):a=b:=by
 obtain ⟨a1,a2⟩:=a;obtain ⟨b1,b2⟩:=b
 simp[row] at h;simp[h]
@[simp] theorem PJ (c:Cell):eX (cD c)=true:=by unfold cD;simp[eX,cT]
@[simp] theorem LB (l:List Cell):cT (l.map cD)=true:=eZ fun d hd=>by obtain ⟨c,_,rfl⟩:=List.mem_map.mp hd;exact PJ c
@[simp] theorem LC (c:Cell):flat (cD c)=true:=by unfold cD;simp[flat,bW]
@[simp] theorem VR (l:List Cell):bW (l.map cD)=true:=f9 fun d hd=>by obtain ⟨c,_,rfl⟩:=List.mem_map.mp hd;exact LC c
@[simp] theorem J2 (c:Cell):dep (cD c)=1:=by unfold cD;simp[dep,jT]
theorem sd(l:List Cell):jT (l.map cD)<=1:=lK fun d hd=>by obtain ⟨c,_,rfl⟩:=List.mem_map.mp hd;rw[J2];exact Nat.le_refl _
@[simp] theorem CY (a b:Cell):fU (cD a) (cD b)=decide (a=b):=by
 obtain ⟨a1,a2⟩:=a;obtain ⟨b1,b2⟩:=b
 unfold cD
 simp only[fU,cP,Bool.and_true]
 by_cases h:a1=b1 <;> by_cases h':a2=b2 <;> simp[h,h']
@[simp] theorem LD:∀(a b:List Cell),cP (a.map cD) (b.map cD)=decide (a=b)
 | [],[]=>by simp[cP]
 | [],_::_=>by simp[cP]
 | _::_,[]=>by simp[cP]
 | x::a,y::b=>by
  rw[List.map_cons,List.map_cons,cP,CY,LD a b]
  by_cases h:x=y <;> by_cases h':a=b <;> simp[h,h']
theorem zW(neg:Bool)(a b:List Cell):iX neg (aB a) (aB b) = .ok (.bl (if neg then !decide (a=b) else decide (a=b))):=by
 unfold iX
 have h:=sd a
 rw[if_pos]
 ·simp[fU]
 ·simp[flat,dep];lia
theorem nu(neg:Bool)(i j:Int):iX neg (.int i) (.int j) = .ok (.bl (if neg then !decide (i=j) else decide (i=j))):=by
 unfold iX
 rw[if_pos (by simp[flat,dep])]
 have e:fU (.int i) (.int j)=decide (i=j):=by
  rw[fU]
  by_cases h:i=j
  ·simp[h]
  ·rw[decide_eq_false h];exact beq_eq_false_iff_ne.mpr h
 rw[e]
theorem eN(neg:Bool)(c:Cell)(l:List Cell):j8 neg (cD c) (aB l) = .ok (.bl (if neg then !decide (c∈l) else decide (c∈l))):=by
 unfold j8
 have h:=sd l
 dsimp only
 rw[if_pos (by simp;lia)]
 have e:(l.map cD).any (fun e=>fU e (cD c))=decide (c∈l):=by
  induction l with
  | nil=>rfl
  | cons x l ih=>
   rw[List.map_cons,List.any_cons,CY,ih (sd l)]
   by_cases hx:x=c
   ·simp[hx]
   ·have:¬ c=x:=fun z=>hx z.symm
    simp[hx,this]
 rw[e]
theorem LF(c:Cell):F4 (cD c)=some (row c):=rfl
theorem Bs:∀l:List Cell,yi (l.map cD)=some (l.map row)
 | []=>rfl
 | c::l=>by
  have ih:=Bs l
  unfold yi at ih ⊢
  rw[List.map_cons,List.mapM_cons,LF,ih]
  rfl
theorem LG:∀l:List Cell,l0 (l.map row)=true
 | []=>rfl
 | c::l=>by
  unfold l0
  rw[List.map_cons]
  simp[row]
def uq(a b:Cell):Prop:=a.1 < b.1\/(a.1=b.1/\a.2 < b.2)
instance (a b:Cell):Decidable (uq a b):=inferInstanceAs (Decidable (_\/_))
def bx(l:List Cell):Prop:=l.Pairwise uq
theorem VS(a b:Cell):lexLt (row a) (row b)=decide (uq a b):=by
 obtain ⟨a1,a2⟩:=a;obtain ⟨b1,b2⟩:=b
 unfold row uq
 rw[cX]
 by_cases h2:a1=b1
 ·subst h2
  rw[if_pos rfl,cX]
  by_cases h3:a2=b2
  ·subst h3;rw[if_pos rfl];simp[uM]
  ·rw[if_neg h3];simp
 ·rw[if_neg h2];simp[h2]
theorem J3(c:Cell):fl (cD c)=row c:=by unfold cD row;simp[fl,nR]
theorem J4(a b:Cell):sF (fl (cD a)) (fl (cD b)) = !decide (uq b a):=by rw[J3,J3];unfold sF;rw[VS]
theorem DU(a b:Cell):uq a b\/a=b\/uq b a:=by
 obtain ⟨a1,a2⟩:=a;obtain ⟨b1,b2⟩:=b
 unfold uq
 by_cases h1:a1 < b1
 ·exact .inl (.inl h1)
 ·by_cases h2:b1 < a1
  ·exact .inr (.inr (.inl h2))
  ·have:a1=b1:=by lia
   subst this
   by_cases h3:a2 < b2
   ·exact .inl (.inr ⟨rfl,h3⟩)
   ·by_cases h4:b2 < a2
    ·exact .inr (.inr (.inr ⟨rfl,h4⟩))
    ·have:a2=b2:=by lia
     subst this;exact .inr (.inl rfl)
theorem nv(a:Cell):¬ uq a a:=by unfold uq;lia
theorem yy{a b c:Cell}(h:uq a b)(h':uq b c):uq a c:=by unfold uq at *;lia
theorem sf{a b:Cell}(h:uq a b):¬ uq b a:=fun h'=>nv a (yy h h')
theorem bx.nodup{l:List Cell}(h:bx l):l.Nodup:=h.imp fun {a b} sS e=>by subst e;exact nv _ sS
def toC:D->Cell
 | .tup [.int a,.int b]=>(a,b)
 | _=>(0,0)
theorem toC_cD(c:Cell):toC (cD c)=c:=rfl
theorem Nx{α:Type}[DecidableEq α]:∀{l:List α},l.Nodup->dd l=l
 | [],_=>rfl
 | x::l,h=>by
  rw[List.nodup_cons] at h
  rw[dd,if_neg h.1,Nx h.2]
theorem FH{l:List Cell}(h:l.Nodup):(l.map row).Nodup:=by
 rw[List.nodup_iff_pairwise_ne] at h ⊢
 exact List.Pairwise.map row (fun a b sS e=>sS (LA e)) h
theorem LH{l:List Cell}(h:bx l):eY (l.map cD)=l.map cD:=by
 symm
 refine fK (fun a ha b hb=>?_) (.refl _) ?_
 ·refine aN (List.mem_map.mp ha) fun x _ aV=>?_
  walk_at"#"
  refine aN (List.mem_map.mp hb) fun y _ aV=>?_
  walk_at"#"
  unfold cD;simp[f7,fm]
 ·refine List.Pairwise.map cD (fun a b sS=>?_) h
  rw[J4,decide_eq_false (sf sS)];rfl
theorem LI(l:List Cell):(l.map row).map pW=l.map cD:=by rw[List.map_map];rfl
theorem CZ(l:List Cell)(hl:l.length<=50):∃m:List Cell,jm (aB l) = .ok (aB m)/\(l=m↔bx l):=by
 let ys:=eY ((dd (l.map row)).map pW)
 have hp:ys.Perm ((dd (l.map row)).map pW):=dD _
 have hy:∀y∈ys,∃c∈l,y=cD c:=fun y h=>by
  refine aN (List.mem_map.mp (hp.mem_iff.mp h)) fun r hr aV=>?_
  walk_at"#"
  refine aN (List.mem_map.mp (t6.mp hr)) fun c hc aV=>?_
  walk_at"#"
  exact⟨c,hc,rfl⟩
 have hm:ys=(ys.map toC).map cD:=by
  rw[List.map_map]
  conv=>lhs;rw[<- List.map_id ys]
  refine List.map_congr_left fun y h=>?_
  refine aN (hy y h) fun c _ aV=>?_
  walk_at"#"
  rfl
 refine⟨ys.map toC,?_,?_⟩
 ·unfold jm
  dsimp only
  rw[Bs]
  dsimp only
  rw[if_pos (by rw[LG,Bool.true_and,List.length_map];exact decide_eq_true hl)]
  show R.ok (D.lst ys)=_
  exact congrArg (fun z=>R.ok (D.lst z)) hm
 ·constructor
  ·intro e
   have Nu:ys=l.map cD:=by rw[hm,<- e]
   have Rm:ys.Nodup:=by
    refine hp.nodup_iff.mpr ?_
    have:=rH (l.map row)
    rw[List.nodup_iff_pairwise_ne] at this ⊢
    refine List.Pairwise.map pW (fun a b sS e=>sS ?_) this
    unfold pW at e
    have e':a.map D.int=b.map D.int:=by injection e
    exact List.map_inj_right (fun x y h=>by injection h) |>.mp e'
   have Xb:=rm ((dd (l.map row)).map pW)
   change List.Pairwise _ ys at Xb
   rw[Nu] at Rm Xb
   rw[List.nodup_iff_pairwise_ne] at Rm
   rw[List.pairwise_map] at Rm Xb
   refine(Rm.and Xb).imp fun {a b} iz=>?_
   obtain ⟨h1,h2⟩:=iz
   rw[J4] at h2
   rcases DU a b with h | h | h
   ·exact h
   ·subst h;exact absurd rfl h1
   ·rw[decide_eq_true h] at h2;cases h2
  ·intro h
   have e1:dd (l.map row)=l.map row:=Nx (FH h.nodup)
   have e2:ys=l.map cD:=by
    show eY _=_
    rw[e1,LI,LH h]
   rw[e2,List.map_map]
   conv=>lhs;rw[<- List.map_id l]
   exact List.map_congr_left fun c _=>(toC_cD c).symm
end Dm
end VO
section PK
namespace Dm
open L2 HT
theorem aP{F G:DS}{st st':dh}(h:F st = .nx st'):b9 F G st=G st':=by simp[h]
theorem PM{F G:DS}{st:dh}{d:D}(h:F st = .rt d):b9 F G st = .rt d:=by simp[h]
theorem PN{F G:DS}{st s:dh}{c:PySem.Addr}{p:Option Int}(h:F st = .ex c p s):b9 F G st = .ex c p s:=by simp[h]
theorem cU{f:DF}{st:dh}{i:Nat}{d:D}(h:f st = .ok d):bO i f st = .nx (st.set i (some d)):=by simp[h]
theorem gB{f:DF}{st:dh}{d:D}(h:f st = .ok d):eS f st = .rt d:=by simp[h]
theorem xO{fc:DF}{F G:DS}{st:dh}(h:fc st = .ok (.bl true)):Dm.cI fc F G st=F st:=by simp[h]
theorem pX{fc:DF}{F G:DS}{st:dh}(h:fc st = .ok (.bl false)):Dm.cI fc F G st=G st:=by simp[h]
theorem d8{n:Nat}{F:DS}{ds:List D}{d:D}(st:dh)(h:F st = .rt d)(e:ds.map some++List.replicate (n - ds.length) none=st:=by rfl):bP n F ds = .ok d:=by
 subst e;unfold bP;rw[h]
theorem LJ{g:List D->R D}{f1:DF}{st:dh}{a:D}{r:R D}(h1:f1 st = .ok a)(h:g [a]=r):bz g (aa f1 av) st=r:=by simp[h1,h]
theorem FI{g:List D->R D}{f1 f2:DF}{st:dh}{a b:D}{r:R D}(h1:f1 st = .ok a)(h2:f2 st = .ok b)(h:g [a,b]=r):bz g (aa f1 (aa f2 av)) st=r:=by simp[h1,h2,h]
theorem WR{g:List D->R D}{f1 f2 f3:DF}{st:dh}{a b c:D}{r:R D}(h1:f1 st = .ok a)(h2:f2 st = .ok b)(h3:f3 st = .ok c)(h:g [a,b,c]=r):bz g (aa f1 (aa f2 (aa f3 av))) st=r:=by simp[h1,h2,h3,h]
theorem iE{g:D->D->R D}{f1 f2:DF}{st:dh}{a b:D}{r:R D}(h1:f1 st = .ok a)(h2:f2 st = .ok b)(h:g a b=r):aQ g f1 f2 st=r:=by simp[h1,h2,h]
theorem un1{g:D->R D}{f1:DF}{st:dh}{a:D}{r:R D}(h1:f1 st = .ok a)(h:g a=r):rA g f1 st=r:=by simp[h1,h]
theorem Ny{f:DF}{st:dh}{d:D}(h:f st = .ok d)(n:eX d=true):aX f st = .ok d:=by simp[h,n]
theorem kO{f g:DF}{st:dh}{r:R D}(h:f st = .ok (.bl true))(h2:g st=r):j4 f g st=r:=by simp[h,h2]
theorem wM{f g:DF}{st:dh}(h:f st = .ok (.bl false)):j4 f g st = .ok (.bl false):=by simp[h]
theorem DV{f g:DF}{st:dh}{r:R D}(h:f st = .ok (.bl false))(h2:g st=r):Ga f g st=r:=by simp[h,h2]
theorem Nz{f:DF}{st:dh}{b:Bool}(h:f st = .ok (.bl b)):qx f st = .ok (.bl (!b)):=by simp[h]
theorem jI{α:Type}{bind:DB}{ft fe:DF}{f:α->D}{p:α->Bool}{g:α->D}{S:α->dh}{P:dh->Prop}:∀(xs:List α) (hS:∀x∈xs,P (S x)) (hb:∀x∈xs,∀st,P st->bind (f x) st=some (S x)) (ht:∀x∈xs,ft (S x) = .ok (.bl (p x))) (he:∀x∈xs,p x=true->fe (S x) = .ok (g x)) (st:dh),P st->gA bind ft fe (xs.map f) st = .ok ((xs.filter p).map g)
 | [],_,_,_,_,_,_=>rfl
 | x::xs,hS,hb,ht,he,st,h=>by
  have ih:=jI xs (fun y hy=>hS y (.tail _ hy)) (fun y hy=>hb y (.tail _ hy)) (fun y hy=>ht y (.tail _ hy)) (fun y hy=>he y (.tail _ hy)) (S x) (hS x (.head _))
  rw[List.map_cons,gA,hb x (.head _) st h]
  dsimp only
  rw[ht x (.head _)]
  cases hp:p x with
  | true=>
   dsimp only
   rw[he x (.head _) hp,List.filter_cons_of_pos hp,List.map_cons,ih]
  | false=>
   dsimp only
   rw[List.filter_cons_of_neg (by rw[hp];exact Bool.false_ne_true),ih]
theorem ny{gi:DI}{k:Nat}{fr:List Nat}{bind:DB}{ft fe:DF}{st:dh}{ds es:List D}(h1:gi st = .ok ds)(hl:ds.length<=1000)(h2:gA bind ft fe ds (nY k fr st) = .ok es):iG gi k fr bind ft fe st = .ok (.lst es):=by
 unfold iG
 rw[h1]
 dsimp only
 rw[if_pos hl,h2]
theorem kP{α:Type}{bind:DB}{F:DS}{f:α->D}{Q:List α->dh->Prop}:∀(xs pre:List α) (st:dh),(∀p x r,pre++xs=p++x::r->∀st,Q p st->∃jY sE,bind (f x) st=some jY/\F jY = .nx sE/\Q (p++[x]) sE)->Q pre st->∃st',cY bind F (xs.map f) st = .nx st'/\Q (pre++xs) st'
 | [],pre,st,_,q=>⟨st,rfl,by simpa using q⟩
 | x::xs,pre,st,h,q=>by
  refine b8 (h pre x xs rfl st q) fun jY sE h1 h2 q2=>?_
  refine aN (kP xs (pre++[x]) sE (fun p y r e=>h p y r (by simpa using e)) q2) fun st' h3 q3=>?_
  refine⟨st',?_,by simpa using q3⟩
  rw[List.map_cons,cY,h1]
  dsimp only
  rw[h2]
  exact h3
def Stop(o:Out):Prop:=match o with | .rt _=>True | .ex _ _ _=>True | _=>False
theorem DW{α:Type}{bind:DB}{F:DS}{f:α->D}{Q:dh->Prop}{p:α->Prop}{S:Out->Prop}(hS:∀o,S o->Stop o):∀(xs:List α) (st:dh),(∀x∈xs,∀st,Q st->∃jY,bind (f x) st=some jY/\(p x->∃sE,F jY = .nx sE/\Q sE)/\(¬ p x->S (F jY)))->Q st->
  ((∀x∈xs,p x)->∃st',cY bind F (xs.map f) st = .nx st'/\Q st')/\(¬ (∀x∈xs,p x)->S (cY bind F (xs.map f) st))
 | [],st,_,q=>⟨fun _=>⟨st,rfl,q⟩,fun h=>absurd (fun x hx=>by cases hx) h⟩
 | x::xs,st,h,q=>by
  refine bQ (h x (.head _) st q) fun jY h1 h2 h3=>?_
  rw[List.map_cons,cY,h1]
  dsimp only
  by_cases hp:p x
  ·refine aN (h2 hp) fun sE e2 q2=>?_
   obtain ⟨i1,i2⟩:=DW hS xs sE (fun y hy=>h y (.tail _ hy)) q2
   rw[e2]
   dsimp only
   refine⟨fun z=>i1 fun y hy=>z y (.tail _ hy),fun z=>i2 fun z'=>z fun y hy=>?_⟩
   rcases List.mem_cons.mp hy with rfl | hy
   ·exact hp
   ·exact z' y hy
  ·have s:=h3 hp
   refine⟨fun z=>absurd (z x (.head _)) hp,fun _=>?_⟩
   cases hf:F jY with
   | rt d=>rw[hf] at s;exact s
   | ex c p st=>rw[hf] at s;exact s
   | _=>rw[hf] at s;exact absurd (hS _ s) (by simp[Stop])
theorem LK{α:Type}(f:α->D)(l:List α):Vc (l.map f)=l.zipIdx.map fun p=>.tup [.int (p.2:Nat),f p.1]:=by
 unfold Vc
 refine List.ext_getElem? fun i=>?_
 rw[List.getElem?_mapIdx,List.getElem?_map,List.getElem?_map,List.getElem?_zipIdx]
 cases l[i]? <;> simp
theorem uT{ds:List D}{n:Nat}{d:D}(h:ds[n]?=some d):cQ (.lst ds) (.int n) = .ok d:=by
 have hl:=(List.getElem?_eq_some_iff.mp h).1
 have e:yW ds (n:Int)=some d:=by
  unfold yW G5
  rw[if_pos (Int.natCast_nonneg n),if_pos (by lia)]
  simpa using h
 unfold cQ
 dsimp only
 rw[e]
theorem wN(ds:List D)(m:Nat):cutD ds none (some (m:Int))=ds.take m:=by
 unfold cutD HT.ya
 simp only[List.drop_zero,Nat.sub_zero]
 rw[if_neg (by lia)]
 simp only[Int.toNat_natCast]
 by_cases h:m<=ds.length
 ·rw[Nat.min_eq_left h]
 ·rw[Nat.min_eq_right (by lia),List.take_length,List.take_of_length_le (by lia)]
theorem J5(ds:List D)(m:Nat):cutD ds (some (m:Int)) none=ds.drop m:=by
 unfold cutD HT.ya
 dsimp only
 rw[if_neg (by lia)]
 simp only[Int.toNat_natCast]
 by_cases h:m<=ds.length
 ·rw[Nat.min_eq_left h,List.take_of_length_le (by simp)]
 ·rw[Nat.min_eq_right (by lia),List.drop_length,List.drop_of_length_le (by lia)];simp
theorem VT{f g:DF}{st:dh}{l:List Cell}{a:Nat}(h1:f st = .ok (aB l))(h2:g st = .ok (.int (a:Int))):Gd f none (some g) st = .ok (aB (l.take a)):=by
 simp[Gd,qd,h1,h2,wN]
theorem LL{f g:DF}{st:dh}{l:List Cell}{a:Nat}(h1:f st = .ok (aB l))(h2:g st = .ok (.int (a:Int))):Gd f (some g) none st = .ok (aB (l.drop a)):=by
 simp[Gd,qd,h1,h2,J5]
theorem D0{l m:List Cell}(h:l.length+m.length<=1000):pV (aB l) (aB m) = .ok (aB (l++m)):=by
 unfold pV
 dsimp only
 rw[if_pos (by simp;lia)]
 simp
theorem J6(a b:Cell):f7 (cD a) (cD b)=true:=by unfold cD;simp[f7,fm]
theorem NB(a:Cell):nl (cD a)=true:=by unfold cD;simp[nl,KS]
theorem J7{l:List Cell}(h:l.length < 64):qf (l.map cD)=true:=by
 unfold qf
 simp only[Bool.and_eq_true,Bool.or_eq_true,decide_eq_true_eq,List.all_eq_true,List.length_map]
 refine⟨⟨⟨⟨h,LB l⟩,fun d hd=>?_⟩,fun a ha b hb=>?_⟩,.inl (.inr fun d hd=>?_)⟩
 ·refine aN (List.mem_map.mp hd) fun c _ aV=>?_
  walk_at"#"
  exact⟨NB c,by rw[J2];decide⟩
 ·refine aN (List.mem_map.mp ha) fun c _ aV=>?_
  walk_at"#"
  refine aN (List.mem_map.mp hb) fun c' _ aV=>?_
  walk_at"#"
  exact J6 c c'
 ·refine aN (List.mem_map.mp hd) fun c _ aV=>?_
  walk_at"#"
  rfl
theorem tP{l m:List Cell}(hp:m.Perm l)(hs:m.Pairwise (fun a b=>¬ uq b a))(hn:l.Nodup):bx m:=by
 have yK:m.Nodup:=hp.nodup_iff.mpr hn
 rw[List.nodup_iff_pairwise_ne] at yK
 refine(yK.and hs).imp fun {a b} iz=>?_
 obtain ⟨h1,h2⟩:=iz
 rcases DU a b with h | h | h
 ·exact h
 ·exact absurd h h1
 ·exact absurd h h2
theorem D3{l m:List Cell}(hl:bx l)(hm:bx m)(h:∀c,c∈l↔c∈m):l=m:=by
 have hp:l.Perm m:=(List.perm_ext_iff_of_nodup hl.nodup hm.nodup).mpr h
 exact hp.eq_of_pairwise (fun a b _ _ h1 h2=>absurd h2 (sf h1)) hl hm
@[simp] theorem Xc (l:List Cell):d9 (.bU 0 (l.map cD)) = .ok (aB l):=by simp[d9]
@[simp] theorem VU (l:List Cell):iY [aB l] = .ok (aB l):=by simp[iY]
end Dm
end PK
section PR
namespace Dm
open L2 HT
abbrev b7:=Cell×Cell
def lD(p:b7):D:=.tup [cD p.1,cD p.2]
abbrev bH(l:List b7):D:=.lst (l.map lD)
def mid(a b:Cell):Cell:=((a.1+b.1) / 2,(a.2+b.2) / 2)
def four(c:Cell):List Cell:=[(c.1 - 2,c.2),(c.1,c.2 - 2),(c.1,c.2+2),(c.1+2,c.2)]
def BX(cells:List Cell)(a:Cell):List Cell:=(four a).filter fun b=>decide (b∈cells)&&decide (mid a b∈cells)
def aS(cells:List Cell):List b7:=cells.flatMap fun a=>(BX cells a).map fun b=>(a,b)
theorem qK{cells:List Cell}{p:b7}:p∈aS cells↔p.1∈cells/\p.2∈four p.1/\p.2∈cells/\mid p.1 p.2∈cells:=by
 unfold aS BX
 simp only[List.mem_flatMap,List.mem_map,List.mem_filter,Bool.and_eq_true,decide_eq_true_eq]
 constructor
 ·rintro ⟨a,h1,b,⟨h2,h3,h4⟩,rfl⟩;exact⟨h1,h2,h3,h4⟩
 ·rintro ⟨h1,h2,h3,h4⟩;exact⟨p.1,h1,p.2,⟨h2,h3,h4⟩,rfl⟩
@[simp] theorem J8 (p:b7):eX (lD p)=true:=by unfold lD;simp[eX,cT]
@[simp] theorem LM (l:List b7):cT (l.map lD)=true:=eZ fun d hd=>by obtain ⟨c,_,rfl⟩:=List.mem_map.mp hd;exact J8 c
@[simp] theorem LN (p:b7):flat (lD p)=true:=by unfold lD;simp[flat,bW]
@[simp] theorem VV (l:List b7):bW (l.map lD)=true:=f9 fun d hd=>by obtain ⟨c,_,rfl⟩:=List.mem_map.mp hd;exact LN c
@[simp] theorem J9 (p:b7):dep (lD p)=2:=by unfold lD;simp[dep,jT]
theorem LO(l:List b7):jT (l.map lD)<=2:=lK fun d hd=>by obtain ⟨c,_,rfl⟩:=List.mem_map.mp hd;rw[J9];exact Nat.le_refl _
@[simp] theorem PU (a b:b7):fU (lD a) (lD b)=decide (a=b):=by
 obtain ⟨a1,a2⟩:=a;obtain ⟨b1,b2⟩:=b
 unfold lD
 simp only[fU,cP,Bool.and_true,CY]
 by_cases h:a1=b1 <;> by_cases h':a2=b2 <;> simp[h,h']
@[simp] theorem LP:∀(a b:List b7),cP (a.map lD) (b.map lD)=decide (a=b)
 | [],[]=>by simp[cP]
 | [],_::_=>by simp[cP]
 | _::_,[]=>by simp[cP]
 | x::a,y::b=>by
  rw[List.map_cons,List.map_cons,cP,PU,LP a b]
  by_cases h:x=y <;> by_cases h':a=b <;> simp[h,h']
theorem PV(neg:Bool)(a b:List b7):iX neg (bH a) (bH b) = .ok (.bl (if neg then !decide (a=b) else decide (a=b))):=by
 unfold iX
 have h:=LO a
 rw[if_pos]
 ·simp[fU]
 ·simp[flat,dep];lia
@[simp] theorem lx0 (p:b7):cQ (lD p) (.int 0) = .ok (cD p.1):=rfl
@[simp] theorem lx1 (p:b7):cQ (lD p) (.int 1) = .ok (cD p.2):=rfl
def NC(p q:b7):Prop:=uq p.1 q.1\/(p.1=q.1/\uq p.2 q.2)
theorem ND(p:b7):fl (lD p)=row p.1++row p.2:=by unfold lD;simp[fl,nR,J3]
theorem Ja(a b:Cell)(u v:List Int):lexLt (row a++u) (row b++v)=if a=b then lexLt u v else decide (uq a b):=by
 obtain ⟨a1,a2⟩:=a;obtain ⟨b1,b2⟩:=b
 unfold row uq
 simp only[List.cons_append,List.nil_append]
 rw[cX]
 by_cases h2:a1=b1
 ·subst h2
  rw[if_pos rfl,cX]
  by_cases h3:a2=b2
  ·subst h3;rw[if_pos rfl,if_pos rfl]
  ·rw[if_neg h3,if_neg (by simpa using h3)];simp
 ·rw[if_neg h2,if_neg (by simp[h2])];simp[h2]
theorem VW(p q:b7):sF (fl (lD p)) (fl (lD q))=true↔¬ NC q p:=by
 rw[ND,ND]
 unfold sF NC
 rw[Ja]
 by_cases h:q.1=p.1
 ·rw[if_pos h,VS]
  have:=nv p.1
  rw[h]
  simp[this]
 ·rw[if_neg h];simp[h]
theorem Bt{p q:b7}(h:NC p q):¬ NC q p:=by
 unfold NC at *
 rintro (h' | ⟨e,h'⟩)
 ·rcases h with h | ⟨e,h⟩
  ·exact sf h h'
  ·rw[e] at h';exact nv _ h'
 ·rcases h with h | ⟨e',h⟩
  ·rw[e] at h;exact nv _ h
  ·exact sf h h'
theorem Jb(a b:b7):f7 (lD a) (lD b)=true:=by unfold lD;simp[f7,fm,J6]
theorem VX(a:b7):nl (lD a)=true:=by unfold lD;simp[nl,KS,NB]
theorem LQ{l:List b7}(h:l.Pairwise NC):eY (l.map lD)=l.map lD:=by
 symm
 refine fK (fun a ha b hb=>?_) (.refl _) ?_
 ·refine aN (List.mem_map.mp ha) fun x _ aV=>?_
  walk_at"#"
  refine aN (List.mem_map.mp hb) fun y _ aV=>?_
  walk_at"#"
  exact Jb x y
 ·refine List.Pairwise.map lD (fun a b sS=>?_) h
  rw[VW];exact Bt sS
theorem Jc{l:List b7}(h:l.length < 64):qf (l.map lD)=true:=by
 unfold qf
 simp only[Bool.and_eq_true,Bool.or_eq_true,decide_eq_true_eq,List.all_eq_true,List.length_map]
 refine⟨⟨⟨⟨h,LM l⟩,fun d hd=>?_⟩,fun a ha b hb=>?_⟩,.inr fun d hd=>?_⟩
 ·refine aN (List.mem_map.mp hd) fun c _ aV=>?_
  walk_at"#"
  exact⟨VX c,by rw[J9];decide⟩
 ·refine aN (List.mem_map.mp ha) fun c _ aV=>?_
  walk_at"#"
  refine aN (List.mem_map.mp hb) fun c' _ aV=>?_
  walk_at"#"
  exact Jb c c'
 ·refine aN (List.mem_map.mp hd) fun c _ aV=>?_
  walk_at"#"
  rfl
theorem Jd{l:List b7}(h:l.Pairwise NC)(hl:l.length < 64):eo [bH l] = .ok (bH l):=by
 unfold eo
 dsimp only
 rw[if_pos (Jc hl),LQ h]
theorem ur(a:Cell):bx (four a):=by
 unfold four bx uq
 walk_at"_"
 refine⟨?_,?_,?_,?_⟩ <;> intro b hb
 ·rcases hb with rfl | rfl | rfl <;> first | (simp;done) | (simp;lia)
 ·rcases hb with rfl | rfl <;> first | (simp;done) | (simp;lia)
 ·obtain rfl:=hb;first | (simp;done) | (simp;lia)
 ·exact hb.elim
theorem Bu{cells:List Cell}(up:bx cells):(aS cells).Pairwise NC:=by
 unfold aS
 rw[List.pairwise_flatMap]
 refine⟨fun a _=>?_,up.imp fun {a b} sS x hx y hy=>?_⟩
 ·refine List.Pairwise.map (R:=uq) _ (fun x y h=>.inr ⟨rfl,h⟩) ?_
  exact(ur a).sublist List.filter_sublist
 ·refine aN (List.mem_map.mp hx) fun _ _ aV=>?_
  walk_at"#"
  refine aN (List.mem_map.mp hy) fun _ _ aV=>?_
  walk_at"#"
  exact .inl sS
theorem Bv{cells:List Cell}(up:bx cells):(aS cells).Nodup:=(Bu up).imp fun {a b} h e=>by subst e;exact Bt h h
theorem yz{α:Type}[DecidableEq α]:∀{l m:List α},l.Nodup->(∀x∈l,x∈m)->l.length<=m.length
 | [],_,_,_=>Nat.zero_le _
 | x::l,m,hn,h=>by
  rw[List.nodup_cons] at hn
  have hx:=h x (.head _)
  have ih:=yz (m:=m.erase x) hn.2 fun y hy=>(List.mem_erase_of_ne (fun e=>hn.1 (by rw[<- e];exact hy))).mpr (h y (.tail _ hy))
  have:=List.length_erase_of_mem hx
  have:=List.length_pos_of_mem hx
  rw[List.length_cons];lia
def wO(h w:Nat):List Cell:=(List.range (h * w)).map fun k=>(((k / w:Nat):Int),((k % w:Nat):Int))
theorem Je{h w:Nat}{c:Cell}(h1:0<=c.1)(h2:c.1 < h)(h3:0<=c.2)(h4:c.2 < w):c∈wO h w:=by
 obtain ⟨a,ha⟩:=Int.eq_ofNat_of_zero_le h1
 obtain ⟨b,hb⟩:=Int.eq_ofNat_of_zero_le h3
 have xS:b < w:=by lia
 have ha':a < h:=by lia
 have hw:0 < w:=by lia
 have e1:(a * w+b) / w=a:=by rw[Nat.add_comm,Nat.add_mul_div_right _ _ hw,Nat.div_eq_of_lt xS];lia
 have e2:(a * w+b) % w=b:=by rw[Nat.add_comm,Nat.add_mul_mod_self_right,Nat.mod_eq_of_lt xS]
 refine List.mem_map.mpr ⟨a * w+b,List.mem_range.mpr ?_,?_⟩
 ·calc a * w+b < a * w+w:=by lia
   _=(a+1) * w:=by rw[Nat.succ_mul]
   _<=h * w:=Nat.mul_le_mul_right w ha'
 ·show ((((a * w+b) / w:Nat):Int),(((a * w+b) % w:Nat):Int))=c
  rw[e1,e2]
  exact Prod.ext ha.symm hb.symm
def Box(l:List Cell)(h w:Nat):Prop:=∃dn ac:Int,∀c∈l,dn<=c.1/\c.1 < dn+h/\ac<=c.2/\c.2 < ac+w
theorem LR(a b:Cell)(x y:Int)(h:b∈four a):(b.1 - x,b.2 - y)∈four (a.1 - x,a.2 - y):=by
 unfold four at *
 simp only[List.mem_cons,List.not_mem_nil,or_false] at *
 rcases h with rfl | rfl | rfl | rfl
 ·exact .inl (Prod.ext (by simp only;lia) rfl)
 ·exact .inr (.inl (Prod.ext rfl (by simp only;lia)))
 ·exact .inr (.inr (.inl (Prod.ext rfl (by simp only;lia))))
 ·exact .inr (.inr (.inr (Prod.ext (by simp only;lia) rfl)))
theorem FJ{l:List Cell}{h w:Nat}(up:bx l)(b:Box l h w):(aS l).length<=(aS (wO h w)).length:=by
 refine qq b fun dn ac hb=>?_
 clear b
 have key:∀c∈l,(c.1 - dn,c.2 - ac)∈wO h w:=fun c hc=>by
  refine Ad (hb c hc) fun h1 h2 h3 h4=>?_
  exact Je (by simp only;lia) (by simp only;lia) (by simp only;lia) (by simp only;lia)
 have:=yz (l:=(aS l).map fun p=>(((p.1.1 - dn,p.1.2 - ac),(p.2.1 - dn,p.2.2 - ac)):b7)) (m:=aS (wO h w)) (by
  have hn:=Bv up
  rw[List.nodup_iff_pairwise_ne] at hn ⊢
  refine List.Pairwise.map _ (fun p q RH e=>RH ?_) hn
  simp only[Prod.mk.injEq] at e
  refine qT e fun KJ e3 e4=>?_
  clear e
  obtain ⟨e1,e2⟩:=KJ
  exact Prod.ext (Prod.ext (by lia) (by lia)) (Prod.ext (by lia) (by lia))) (fun p hp=>by
  refine aN (List.mem_map.mp hp) fun q hq aV=>?_
  walk_at"#"
  refine Ad (qK.mp hq) fun h1 h2 h3 h4=>?_
  refine qK.mpr ⟨key _ h1,LR _ _ _ _ h2,key _ h3,?_⟩
  have e:mid (q.1.1 - dn,q.1.2 - ac) (q.2.1 - dn,q.2.2 - ac)=((mid q.1 q.2).1 - dn,(mid q.1 q.2).2 - ac):=by
   unfold mid
   exact Prod.ext (by simp only;lia) (by simp only;lia)
  show mid (q.1.1 - dn,q.1.2 - ac) (q.2.1 - dn,q.2.2 - ac)∈wO h w
  rw[e];exact key _ h4)
 rwa [List.length_map] at this
def small(h w:Nat):Prop:=(h<=4/\w<=6)\/(h<=3/\w=8)\/(h=8/\w<=3)
theorem wQ:(∀h,h<=4->∀w,w<=6->(aS (wO h w)).length<=56)/\(∀h,h<=3->(aS (wO h 8)).length<=56)/\(∀w,w<=3->(aS (wO 8 w)).length<=56):=by
 refine⟨fun h hh w hw=>?_,fun h hh=>?_,fun w hw=>?_⟩
 ·have a:∀h:Fin 5,∀w:Fin 7,(aS (wO h.1 w.1)).length<=56:=by decide +kernel
  exact a ⟨h,by lia⟩ ⟨w,by lia⟩
 ·have a:∀h:Fin 4,(aS (wO h.1 8)).length<=56:=by decide +kernel
  exact a ⟨h,by lia⟩
 ·have a:∀w:Fin 4,(aS (wO 8 w.1)).length<=56:=by decide +kernel
  exact a ⟨w,by lia⟩
theorem FL{l:List Cell}{h w:Nat}(up:bx l)(b:Box l h w)(s:small h w):(aS l).length<=56:=by
 refine Nat.le_trans (FJ up b) ?_
 rcases s with ⟨h1,h2⟩ | ⟨h1,rfl⟩ | ⟨rfl,h2⟩
 ·exact wQ.1 h h1 w h2
 ·exact wQ.2.1 h h1
 ·exact wQ.2.2 w h2
theorem Jf(x y:Int):∃u v:Int,eo [.lst [.int x,.int y]] = .ok (.lst [.int u,.int v])/\((u=0/\v=2)↔(x=0/\y=2\/x=2/\y=0)):=by
 have hb:qf [.int x,.int y]=true:=by
  unfold qf;simp[cT,nl,dep,f7,isI]
 have g:eo [.lst [.int x,.int y]] = .ok (.lst (eY [.int x,.int y])):=by
  unfold eo;dsimp only;rw[if_pos hb]
 have fi:∀i:Int,fl (.int i)=[i]:=fun i=>by simp[fl]
 have le:∀i j:Int,i<=j->sF (fl (.int i)) (fl (.int j))=true:=fun i j h=>by
  rw[fi,fi];unfold sF;rw[zg];simp;lia
 by_cases h:x<=y
 ·refine⟨x,y,?_,by lia⟩
  rw[g]
  congr 2
  symm
  refine fK (fun a ha b hb=>?_) (.refl _) ?_
  ·simp only[List.mem_cons,List.not_mem_nil,or_false] at ha hb
   rcases ha with rfl | rfl <;> rcases hb with rfl | rfl <;> simp[f7]
  ·walk_at"_"
   exact⟨fun b hb=>by subst hb;exact le _ _ h,fun b hb=>hb.elim⟩
 ·refine⟨y,x,?_,by lia⟩
  rw[g]
  congr 2
  symm
  refine fK (fun a ha b hb=>?_) (.swap _ _ _) ?_
  ·simp only[List.mem_cons,List.not_mem_nil,or_false] at ha hb
   rcases ha with rfl | rfl <;> rcases hb with rfl | rfl <;> simp[f7]
  ·walk_at"_"
   exact⟨fun b hb=>by subst hb;exact le _ _ (by lia),fun b hb=>hb.elim⟩
def Jg(i:Int):Int:=if i < 0 then -i else i
def ap(a b:Cell):Bool:=(decide (Jg (a.1 - b.1)=0)&&decide (Jg (a.2 - b.2)=2)) || (decide (Jg (a.1 - b.1)=2)&&decide (Jg (a.2 - b.2)=0))
theorem au4{i:Int}:Jg i=0↔i=0:=by unfold Jg;split <;> lia
theorem au5{i:Int}:Jg i=2↔i=2\/i = -2:=by unfold Jg;split <;> lia
theorem LS(a b:Cell):ap a b=true↔b∈four a:=by
 unfold ap four
 obtain ⟨a1,a2⟩:=a;obtain ⟨b1,b2⟩:=b
 simp only[Bool.or_eq_true,Bool.and_eq_true,decide_eq_true_eq,List.mem_cons,List.not_mem_nil,or_false,Prod.mk.injEq,au4,au5]
 constructor
 ·rintro (⟨h1,h2 | h2⟩ | ⟨h1 | h1,h2⟩)
  ·exact .inr (.inl (by lia))
  ·exact .inr (.inr (.inl (by lia)))
  ·exact .inl (by lia)
  ·exact .inr (.inr (.inr (by lia)))
 ·rintro (⟨h1,h2⟩ | ⟨h1,h2⟩ | ⟨h1,h2⟩ | ⟨h1,h2⟩)
  ·exact .inr ⟨.inl (by lia),by lia⟩
  ·exact .inl ⟨by lia,.inl (by lia)⟩
  ·exact .inl ⟨by lia,.inr (by lia)⟩
  ·exact .inr ⟨.inr (by lia),by lia⟩
theorem LU{cells:List Cell}(up:bx cells)(a:Cell):(cells.filter fun b=>ap a b&&decide (mid a b∈cells))=BX cells a:=by
 unfold BX
 refine D3 (up.sublist List.filter_sublist) ((ur a).sublist List.filter_sublist) fun b=>?_
 simp only[List.mem_filter,Bool.and_eq_true,decide_eq_true_eq,LS]
 constructor
 ·rintro ⟨h1,h2,h3⟩;exact⟨h2,h1,h3⟩
 ·rintro ⟨h1,h2,h3⟩;exact⟨h2,h1,h3⟩
def pI(ao:List Cell)(p:b7):Bool:=decide (p.1∈ao)&&(!decide (p.2∈ao)&&decide (mid p.1 p.2∈ao))
def sj(cells ao:List Cell):List b7:=(aS cells).filter (pI ao)
end Dm
end PR
section PX
namespace Dm
open L2 HT
def wR(l:List Cell):List Cell:=(eY (l.map cD)).map toC
theorem Bw(l:List Cell):eY (l.map cD)=(wR l).map cD:=by
 have hp:=dD (l.map cD)
 unfold wR
 rw[List.map_map]
 conv=>lhs;rw[<- List.map_id (eY (l.map cD))]
 refine List.map_congr_left fun y hy=>?_
 refine aN (List.mem_map.mp (hp.mem_iff.mp hy)) fun c _ aV=>?_
 walk_at"#"
 rfl
theorem nB(l:List Cell):(wR l).Perm l:=by
 have:=(dD (l.map cD)).map toC
 rw[List.map_map] at this
 have e:l.map (toC∘cD)=l:=by
  conv=>rhs;rw[<- List.map_id l]
  exact List.map_congr_left fun c _=>toC_cD c
 rw[e] at this
 exact this
theorem Jh(l:List Cell):(wR l).Pairwise (fun a b=>¬ uq b a):=by
 have pw:=rm (l.map cD)
 rw[Bw,List.pairwise_map] at pw
 refine pw.imp fun {a b} h=>?_
 rw[J4] at h
 simpa using h
theorem DZ{l:List Cell}(h:l.length < 64):eo [aB l] = .ok (aB (wR l)):=by
 unfold eo
 dsimp only
 rw[if_pos (J7 h),Bw]
theorem Ji(neg:Bool)(a b:Cell):iX neg (cD a) (cD b) = .ok (.bl (if neg then !decide (a=b) else decide (a=b))):=by
 unfold iX;rw[if_pos (by simp)];simp
theorem Jj{l:List Cell}(h:l.Nodup):bx (wR l):=tP (nB l) (Jh l) h
def left(ao:List Cell)(p:b7):List Cell:=ao.filter fun c=>!decide (c=p.1) && !decide (c=mid p.1 p.2)
def aK(ao:List Cell)(p:b7):List Cell:=wR (left ao p++[p.2])
theorem pJ{ao:List Cell}{p:b7}{c:Cell}:c∈left ao p↔c∈ao/\c≠p.1/\c≠mid p.1 p.2:=by
 unfold left;simp
theorem D4{ao:List Cell}{p:b7}{c:Cell}:c∈aK ao p↔(c∈ao/\c≠p.1/\c≠mid p.1 p.2)\/c=p.2:=by
 unfold aK
 rw[(nB _).mem_iff,List.mem_append,pJ];simp
theorem Bx{ao:List Cell}{p:b7}:pI ao p=true↔p.1∈ao/\p.2∉ao/\mid p.1 p.2∈ao:=by
 unfold pI;simp
theorem FN{ao:List Cell}{p:b7}(up:bx ao)(h:p.2∉ao):bx (aK ao p):=by
 refine Jj ?_
 rw[List.nodup_append]
 refine⟨up.nodup.sublist List.filter_sublist,by simp,fun a ha b hb e=>?_⟩
 rw[List.mem_singleton] at hb
 subst hb;subst e
 exact h (pJ.mp ha).1
theorem PY{p:b7}(h:p.2∈four p.1):mid p.1 p.2≠p.1:=by
 obtain ⟨⟨a1,a2⟩,b1,b2⟩:=p
 unfold four at h;unfold mid
 simp only[List.mem_cons,List.not_mem_nil,or_false,Prod.mk.injEq] at h
 intro e
 simp only[Prod.mk.injEq] at e
 lia
theorem wU{ao:List Cell}{p:b7}(nd:ao.Nodup)(h:pI ao p=true)(hf:p.2∈four p.1):ao.Perm (p.1::mid p.1 p.2::left ao p):=by
 refine qT (Bx.mp h) fun h1 h2 h3=>?_
 have MV:=PY hf
 refine(List.perm_ext_iff_of_nodup nd ?_).mpr fun c=>?_
 ·rw[List.nodup_cons,List.nodup_cons]
  refine⟨?_,?_,nd.sublist List.filter_sublist⟩
  ·rw[List.mem_cons,pJ]
   rintro (e | e)
   ·exact MV e.symm
   ·exact e.2.1 rfl
  ·rw[pJ];exact fun e=>e.2.2 rfl
 ·rw[List.mem_cons,List.mem_cons,pJ]
  by_cases e1:c=p.1
  ·subst e1;simp[h1]
  ·by_cases e2:c=mid p.1 p.2
   ·subst e2;simp[h3]
   ·simp[e1,e2]
theorem D5{ao:List Cell}{p:b7}(nd:ao.Nodup)(h:pI ao p=true)(hf:p.2∈four p.1):(aK ao p).length+1=ao.length:=by
 have:=(wU nd h hf).length_eq
 have:=(nB (left ao p++[p.2])).length_eq
 unfold aK
 simp at *
 lia
theorem LV{cells ao:List Cell}{p:b7}(h:p∈sj cells ao):p.1∈cells/\p.2∈four p.1/\p.2∈cells/\mid p.1 p.2∈cells/\pI ao p=true:=by
 unfold sj at h
 rw[List.mem_filter,qK] at h
 exact⟨h.1.1,h.1.2.1,h.1.2.2.1,h.1.2.2.2,h.2⟩
def nG(cells:List Cell):List Cell->List b7->Prop
 | _,[]=>True
 | ao,p::r=>p∈sj cells ao/\nG cells (aK ao p) r
def cy(ao:List Cell)(row:List b7):List Cell:=row.foldl aK ao
theorem yC(ao:List Cell)(row:List b7)(p:b7):cy ao (row++[p])=aK (cy ao row) p:=by
 unfold cy;rw[List.foldl_append];rfl
theorem zX{cells:List Cell}:∀{ao:List Cell} {row:List b7} {p:b7},nG cells ao row->p∈sj cells (cy ao row)->nG cells ao (row++[p])
 | ao,[],p,_,h=>⟨h,trivial⟩
 | ao,q::r,p,h,hp=>⟨h.1,zX h.2 hp⟩
def kS(c:Cell):Int:=(c.1+c.2) % 3
def kD(c:Cell):Int:=(c.1 - c.2) % 3
def par(f:Cell->Bool)(l:List Cell):Int:=((l.filter f).length:Int) % 2
def f1(c:Cell):Bool:=decide (kS c < 2)
def f2(c:Cell):Bool:=decide (0 < kS c)
def f3(c:Cell):Bool:=decide (kD c < 2)
def f4(c:Cell):Bool:=decide (0 < kD c)
def wV(l:List Cell):List Int:=[par f1 l,par f2 l,par f3 l,par f4 l]
def bi(b:Bool):Nat:=if b then 1 else 0
theorem E1(f:Cell->Bool)(l:List Cell):par f l=((l.countP f:Nat):Int) % 2:=by unfold par;rw[List.countP_eq_length_filter]
theorem nC{f:Cell->Bool}{ao:List Cell}{p:b7}(nd:ao.Nodup)(h:pI ao p=true)(hf:p.2∈four p.1)(he:(bi (f p.1)+bi (f (mid p.1 p.2))+bi (f p.2))=2):par f (aK ao p)=par f ao:=by
 have e1:=(wU nd h hf).countP_eq f
 have e2:=(nB (left ao p++[p.2])).countP_eq f
 rw[E1,E1]
 unfold aK
 simp only[e2,e1,List.countP_append,List.countP_cons,List.countP_nil]
 unfold bi at he
 lia
theorem LW(P:Prop)[Decidable P]:bi (decide P)=if P then 1 else 0:=by unfold bi;simp
theorem Jk(c:Cell):bi (f1 c)=if (c.1+c.2) % 3 < 2 then 1 else 0:=LW _
theorem Jl(c:Cell):bi (f2 c)=if 0 < (c.1+c.2) % 3 then 1 else 0:=LW _
theorem Jm(c:Cell):bi (f3 c)=if (c.1 - c.2) % 3 < 2 then 1 else 0:=LW _
theorem Jo(c:Cell):bi (f4 c)=if 0 < (c.1 - c.2) % 3 then 1 else 0:=LW _
theorem Jp(s e:Int)(h:e=1\/e = -1):(if s % 3 < 2 then 1 else 0)+(if (s+e) % 3 < 2 then 1 else 0)+(if (s+2 * e) % 3 < 2 then 1 else 0)=2:=by
 have h3:s % 3=0\/s % 3=1\/s % 3=2:=by lia
 rcases h with rfl | rfl <;> rcases h3 with h | h | h
 ·walk_at"X"
 ·walk_at"Y"
 ·walk_at"Z"
 ·walk_at"Y"
 ·walk_at"X"
 ·walk_at"Z"
theorem Jq(s e:Int)(h:e=1\/e = -1):(if 0 < s % 3 then 1 else 0)+(if 0 < (s+e) % 3 then 1 else 0)+(if 0 < (s+2 * e) % 3 then 1 else 0)=2:=by
 have h3:s % 3=0\/s % 3=1\/s % 3=2:=by lia
 rcases h with rfl | rfl <;> rcases h3 with h | h | h
 ·walk_at"Z"
 ·walk_at"X"
 ·walk_at"Y"
 ·walk_at"Z"
 ·walk_at"Y"
 ·walk_at"X"
theorem Jr{p:b7}(hf:p.2∈four p.1):∃e f:Int,(e=1\/e = -1)/\(f=1\/f = -1)/\(mid p.1 p.2).1+(mid p.1 p.2).2=p.1.1+p.1.2+e/\p.2.1+p.2.2=p.1.1+p.1.2+2 * e/\(mid p.1 p.2).1 - (mid p.1 p.2).2=p.1.1 - p.1.2+f/\p.2.1 - p.2.2=p.1.1 - p.1.2+2 * f:=by
 obtain ⟨⟨a1,a2⟩,b1,b2⟩:=p
 unfold four at hf;unfold mid
 simp only[List.mem_cons,List.not_mem_nil,or_false,Prod.mk.injEq] at hf ⊢
 rcases hf with ⟨rfl,rfl⟩ | ⟨rfl,rfl⟩ | ⟨rfl,rfl⟩ | ⟨rfl,rfl⟩
 ·exact⟨-1,-1,.inr rfl,.inr rfl,by lia,by lia,by lia,by lia⟩
 ·exact⟨-1,1,.inr rfl,.inl rfl,by lia,by lia,by lia,by lia⟩
 ·exact⟨1,-1,.inl rfl,.inr rfl,by lia,by lia,by lia,by lia⟩
 ·exact⟨1,1,.inl rfl,.inl rfl,by lia,by lia,by lia,by lia⟩
theorem D6{ao:List Cell}{p:b7}(nd:ao.Nodup)(h:pI ao p=true)(hf:p.2∈four p.1):wV (aK ao p)=wV ao:=by
 refine NG (Jr hf) fun e f he hf' s1 s2 d1 d2=>?_
 unfold wV
 rw[nC nd h hf (f:=f1) (by rw[Jk,Jk,Jk,s1,s2];exact Jp _ e he),nC nd h hf (f:=f2) (by rw[Jl,Jl,Jl,s1,s2];exact Jq _ e he),
  nC nd h hf (f:=f3) (by rw[Jm,Jm,Jm,d1,d2];exact Jp _ f hf'),nC nd h hf (f:=f4) (by rw[Jo,Jo,Jo,d1,d2];exact Jq _ f hf')]
theorem fG{cells:List Cell}:∀{row:List b7} {ao:List Cell},bx ao->(∀c∈ao,c∈cells)->nG cells ao row->bx (cy ao row)/\(∀c∈cy ao row,c∈cells)/\wV (cy ao row)=wV ao/\(cy ao row).length+row.length=ao.length
 | [],ao,u,s,_=>⟨u,s,rfl,rfl⟩
 | p::r,ao,u,s,h=>by
  refine El (LV h.1) fun m1 m2 m3 m4 m5=>?_
  have c1:=D6 u.nodup m5 m2
  have l1:=D5 u.nodup m5 m2
  obtain ⟨i1,i2,i3,i4⟩:=fG (row:=r) (ao:=aK ao p) (FN u (Bx.mp m5).2.1) (fun c hc=>by
   rcases D4.mp hc with h | h
   ·exact s c h.1
   ·rw[h];exact m3) h.2
  refine⟨i1,i2,i3.trans c1,?_⟩
  rw[List.length_cons,<- l1,<- i4]
  show (cy (aK ao p) r).length+(r.length+1)=(cy (aK ao p) r).length+r.length+1
  lia
def tI(l:List Int):D:=.tup (l.map D.int)
def FO(l:List Cell):D:=tI (wV l)
theorem By:∀a b:List Int,cP (a.map D.int) (b.map D.int)=decide (a=b)
 | [],[]=>by simp[cP]
 | [],_::_=>by simp[cP]
 | _::_,[]=>by simp[cP]
 | x::a,y::b=>by
  rw[List.map_cons,List.map_cons,cP,By a b,fU]
  by_cases h:x=y <;> by_cases h':a=b <;> simp[h,h']
theorem yD:∀a:List Int,bW (a.map D.int)=true:=fun a=>f9 fun d hd=>by obtain ⟨c,_,rfl⟩:=List.mem_map.mp hd;simp[flat]
theorem BA:∀a:List Int,jT (a.map D.int)<=0:=fun a=>lK fun d hd=>by obtain ⟨c,_,rfl⟩:=List.mem_map.mp hd;simp[dep]
theorem PZ(neg:Bool)(a b:List Int):iX neg (tI a) (tI b) = .ok (.bl (if neg then !decide (a=b) else decide (a=b))):=by
 unfold iX tI
 have h:=BA a
 rw[if_pos]
 ·simp[fU,By]
 ·simp[flat,dep,yD];lia
theorem Q0(neg:Bool)(x:Int)(l:List Int):j8 neg (.int x) (tI l) = .ok (.bl (if neg then !decide (x∈l) else decide (x∈l))):=by
 unfold j8 tI
 have h:=BA l
 dsimp only
 rw[if_pos (by simp[flat,yD];lia)]
 have e:(l.map D.int).any (fun e=>fU e (.int x))=decide (x∈l):=by
  clear h
  induction l with
  | nil=>rfl
  | cons y l ih=>
   rw[List.map_cons,List.any_cons,ih,fU]
   by_cases hx:y=x
   ·simp[hx]
   ·have:¬ x=y:=fun z=>hx z.symm
    simp[hx,this]
 rw[e]
theorem Js(neg:Bool)(a b:List Cell):iX neg (FO a) (FO b) = .ok (.bl (if neg then !decide (wV a=wV b) else decide (wV a=wV b))):=PZ neg _ _
theorem comp_map{α:Type}{bind:DB}{ft fe:DF}{f:α->D}{g:α->D}{S:α->dh}{P:dh->Prop}(xs:List α)(hS:∀x∈xs,P (S x))(hb:∀x∈xs,∀st,P st->bind (f x) st=some (S x))(ht:∀x∈xs,ft (S x) = .ok (.bl true))(he:∀x∈xs,fe (S x) = .ok (g x))(st:dh)(h:P st):gA bind ft fe (xs.map f) st = .ok (xs.map g):=by
 have:=jI (p:=fun _=>true) xs hS hb ht (fun x hx _=>he x hx) st h
 rw[List.filter_eq_self.mpr fun _ _=>rfl] at this
 exact this
theorem Q2{bind:DB}{F:DS}{a b:D}{st jY sE GR R4:dh}(h1:bind a st=some jY)(h2:F jY = .nx sE)(h3:bind b sE=some GR)(h4:F GR = .nx R4):cY bind F [a,b] st = .nx R4:=by
 rw[cY,h1];dsimp only;rw[h2];dsimp only;rw[cY,h3];dsimp only;rw[h4];rfl
end Dm
end PX
section au6
namespace Fr
variable {S L:Type}[BEq S][LawfulBEq S]
def ins(d:List (S×List L))(k:S)(v:List L):List (S×List L):=if d.any (·.1==k) then d else d++[(k,v)]
def dI(d:List (S×List L))(X:List (S×List L)):List (S×List L):=X.foldl (fun d p=>ins d p.1 p.2) d
def ext(step:S->List (L×S))(p:S×List L):List (S×List L):=(step p.1).map fun q=>(q.2,p.2++[q.1])
theorem LX{d:List (S×List L)}{k t:S}{v:List L}:(ins d k v).any (·.1==t)=(d.any (·.1==t) || k==t):=by
 unfold ins
 split
 ·rename_i h
  by_cases e:k=t
  ·subst e;rw[h];rfl
  ·simp[e]
 ·simp
theorem E2:∀(X d:List (S×List L)) (t:S),(dI d X).any (·.1==t)=(d.any (·.1==t) || X.any (·.1==t))
 | [],d,t=>by simp[dI]
 | p::X,d,t=>by
  show (dI (ins d p.1 p.2) X).any _=_
  rw[E2 X,LX,List.any_cons,Bool.or_assoc]
theorem su(d X Y:List (S×List L)):dI d (X++Y)=dI (dI d X) Y:=by unfold dI;rw[List.foldl_append]
theorem BB:∀(X d:List (S×List L)),(∀p∈X,d.any (·.1==p.1)=true)->dI d X=d
 | [],d,_=>rfl
 | p::X,d,h=>by
  show dI (ins d p.1 p.2) X=d
  rw[ins,if_pos (h p (.head _))]
  exact BB X d fun q m=>h q (.tail _ m)
theorem zY{step:S->List (L×S)}:∀(X d e:List (S×List L)),(∀p∈d,(ext step p).all (fun q=>e.any (·.1==q.1))=true)->
  ∃d',dI d X=d++d'/\dI e (d'.flatMap (ext step))=dI e (X.flatMap (ext step))
 | [],d,e,_=>⟨[],by simp[dI],rfl⟩
 | p::X,d,e,h=>by
  show ∃d',dI (ins d p.1 p.2) X=d++d'/\_
  rw[List.flatMap_cons,su]
  by_cases k:d.any (·.1==p.1)=true
  ·rw[ins,if_pos k]
   obtain ⟨q,m,hq⟩:=List.any_eq_true.mp k
   have hq:=eq_of_beq hq
   have hh:=h q m
   rw[BB (ext step p) e]
   ·exact zY X d e h
   ·intro r mr
    unfold ext at hh mr
    rw[hq] at hh
    rw[List.all_map] at hh
    obtain ⟨x,mx,rfl⟩:=List.mem_map.mp mr
    exact(List.all_eq_true.mp hh) x mx
  ·rw[ins,if_neg k]
   have h':∀q∈d++[(p.1,p.2)],(ext step q).all (fun r=>(dI e (ext step p)).any (·.1==r.1))=true:=by
    intro q m
    rw[List.all_eq_true]
    intro r mr
    rw[E2]
    walk_at"C"
    ·rw[(List.all_eq_true.mp (h q m)) r mr];rfl
    ·obtain rfl:=List.mem_singleton.mp m
     rw[Bool.or_eq_true]
     exact .inr (List.any_eq_true.mpr ⟨r,mr,beq_self_eq_true _⟩)
   obtain ⟨d',e1,e2⟩:=zY X (d++[(p.1,p.2)]) (dI e (ext step p)) h'
   refine⟨(p.1,p.2)::d',by rw[e1,List.append_assoc];rfl,?_⟩
   rw[List.flatMap_cons,su]
   exact e2
theorem Jt{step:S->List (L×S)}(X:List (S×List L)):dI [] ((dI [] X).flatMap (ext step))=dI [] (X.flatMap (ext step)):=by
 obtain ⟨d',e1,e2⟩:=zY X [] [] (step:=step) (fun _ m=>nomatch m)
 rw[e1];exact e2
theorem Ju{d:List (S×List L)}{k t:S}{v:List L}:(ins d k v).lookup t=(d.lookup t <|> if t==k then some v else none):=by
 unfold ins
 split
 ·rename_i h
  by_cases e:t=k
  ·subst e
   obtain ⟨q,m,hq⟩:=List.any_eq_true.mp h
   have:∃x,d.lookup t=some x:=by
    clear h
    induction d with
    | nil=>cases m
    | cons a d ih=>
     rw[List.lookup_cons]
     by_cases c:t==a.1
     ·rw[c];exact⟨_,rfl⟩
     ·rw[Bool.eq_false_iff.mpr c]
      walk_at"J"
      ·exact absurd (by rw[eq_of_beq hq];exact beq_self_eq_true _) c
      ·exact ih m
   obtain ⟨x,hx⟩:=this
   rw[hx];rfl
  ·have:(t==k)=false:=by simpa using e
   rw[this];cases d.lookup t <;> rfl
 ·rename_i h
  rw[List.lookup_append]
  have e:List.lookup t [(k,v)]=if t==k then some v else none:=by
   rw[List.lookup_cons];cases t==k <;> rfl
  rw[e]
  cases d.lookup t <;> rfl
theorem BC:∀(X d:List (S×List L)) (t:S),(dI d X).lookup t=(d.lookup t <|> X.lookup t)
 | [],d,t=>by simp[dI]
 | p::X,d,t=>by
  show (dI (ins d p.1 p.2) X).lookup t=_
  rw[BC X,Ju,List.lookup_cons]
  cases d.lookup t <;> cases t==p.1 <;> rfl
def rows(step:S->List (L×S)):Nat->S->List (S×List L)
 | 0,s=>[(s,[])]
 | n+1,s=>(step s).flatMap fun q=>(rows step n q.2).map fun r=>(r.1,q.1::r.2)
def iter(step:S->List (L×S)):Nat->List (S×List L)->List (S×List L)
 | 0,X=>X
 | n+1,X=>iter step n (X.flatMap (ext step))
theorem BD{step:S->List (L×S)}:∀(n:Nat) (X Y:List (S×List L)),iter step n (X++Y)=iter step n X++iter step n Y
 | 0,_,_=>rfl
 | n+1,X,Y=>by rw[iter,iter,iter,List.flatMap_append,BD n]
theorem yE{step:S->List (L×S)}{α:Type}(n:Nat)(f:α->List (S×List L)):∀(l:List α),iter step n (l.flatMap f)=l.flatMap fun a=>iter step n (f a)
 | []=>by
  show iter step n []=[]
  induction n with
  | zero=>rfl
  | succ n ih=>rw[iter];exact ih
 | a::l=>by rw[List.flatMap_cons,BD,yE n f l,List.flatMap_cons]
theorem BE{α β:Type}(f:α->β):∀(l:List α),l.map f=l.flatMap fun a=>[f a]
 | []=>rfl
 | a::l=>by rw[List.map_cons,List.flatMap_cons,<- BE f l];rfl
theorem yF{step:S->List (L×S)}:∀(n:Nat) (s:S) (pre:List L),iter step n [(s,pre)]=(rows step n s).map fun r=>(r.1,pre++r.2)
 | 0,s,pre=>by simp[iter,rows]
 | n+1,s,pre=>by
  rw[iter,rows,List.flatMap_singleton,ext]
  rw[BE,yE,List.map_flatMap]
  congr 1
  funext q
  rw[yF n]
  simp
def cg(step:S->List (L×S))(s:S):Nat->List (S×List L)
 | 0=>[(s,[])]
 | n+1=>dI [] ((cg step s n).flatMap (ext step))
theorem BF{step:S->List (L×S)}:∀(n:Nat) (X:List (S×List L)),iter step (n+1) X=(iter step n X).flatMap (ext step)
 | 0,X=>rfl
 | n+1,X=>by rw[iter,BF n];rfl
theorem wW{step:S->List (L×S)}(s:S):∀n,cg step s n=dI [] (rows step n s)
 | 0=>rfl
 | n+1=>by
  have e:∀m,rows step m s=iter step m [(s,[])]:=fun m=>by rw[yF];simp
  rw[cg,wW s n,Jt,e n,<- BF,<- e]
theorem D7{step:S->List (L×S)}(s t:S)(n:Nat):(cg step s n).lookup t=(rows step n s).lookup t:=by
 rw[wW,BC];rfl
def first(step:S->List (L×S))(t:S):Nat->S->List L
 | 0,_=>[]
 | n+1,s=>match (step s).find? fun q=>(rows step n q.2).any (·.1==t) with
  | some q=>q.1::first step t n q.2
  | none=>[]
theorem BG{α β:Type}(f:List L->List L)(t:S):∀(X:List (S×List L)),(X.map fun r=>(r.1,f r.2)).lookup t=(X.lookup t).map f
 | []=>rfl
 | p::X=>by
  rw[List.map_cons,List.lookup_cons,List.lookup_cons,BG (α:=α) (β:=β) f t X]
  cases t==p.1 <;> rfl
theorem lE(t:S):∀(X:List (S×List L)),X.any (·.1==t)=false->X.lookup t=none
 | [],_=>rfl
 | p::X,h=>by
  rw[List.any_cons,Bool.or_eq_false_iff] at h
  rw[List.lookup_cons,show (t==p.1)=false by have:=h.1;rw[beq_eq_false_iff_ne] at this ⊢;exact Ne.symm this]
  exact lE t X h.2
theorem sy(step:S->List (L×S))(t:S)(n:Nat)(s:S):(rows step (n+1) s).any (·.1==t)=(step s).any fun q=>(rows step n q.2).any (·.1==t):=by
 rw[rows,List.any_flatMap]
 congr 1
 funext q
 rw[List.any_map];rfl
theorem wX(step:S->List (L×S))(t:S):∀(n:Nat) (s:S),(rows step n s).any (·.1==t)=true->(rows step n s).lookup t=some (first step t n s)
 | 0,s,h=>by
  rw[rows] at h ⊢
  have:s=t:=by simpa using h
  rw[List.lookup_cons,this,beq_self_eq_true];rfl
 | n+1,s,h=>by
  rw[sy] at h
  rw[rows,first]
  generalize step s=l at h ⊢
  induction l with
  | nil=>cases h
  | cons q l ih=>
   rw[List.flatMap_cons,List.lookup_append,BG (α:=Unit) (β:=Unit)]
   cases c:(rows step n q.2).any (·.1==t) with
   | true=>
    rw[List.find?_cons_of_pos (by exact c),wX step t n q.2 c];rfl
   | false=>
    rw[List.any_cons,c,Bool.false_or] at h
    rw[List.find?_cons_of_neg (by rw[c];decide),lE t _ c]
    exact ih h
end Fr
end au6
section Q3
namespace Pk
open L2 Dm
variable (t:i0)
theorem BH{l:List Cell}(hl:l.length<=50):(bx l->cF t [aB l] = .ok (.bl true))/\(¬ bx l->cF t [aB l] = .ok (.bl false)):=by
 obtain ⟨m,h1,h2⟩:=CZ l hl
 constructor
 ·intro h
  have e:=h2.mpr h
  subst e
  simp[cF,bP,h1,zW]
 ·intro h
  have:¬ l=m:=fun z=>h (h2.mp z)
  simp[cF,bP,h1,zW,this]
def inR(c:Cell):Prop:=0<=c.1/\c.1<=7/\0<=c.2/\c.2<=7
instance (c:Cell):Decidable (inR c):=inferInstanceAs (Decidable (_/\_))
@[simp] theorem ix0 (c:Cell):cQ (cD c) (.int 0) = .ok (.int c.1):=rfl
@[simp] theorem ix1 (c:Cell):cQ (cD c) (.int 1) = .ok (.int c.2):=rfl
theorem Q4(c:Cell):jb t [cD c] = .ok (.bl (decide (inR c))):=by
 unfold inR
 by_cases h1:0<=c.1 <;> by_cases h2:c.1<=7 <;> by_cases h3:0<=c.2 <;> by_cases h4:c.2<=7 <;> simp[jb,bP,h1,h2,h3,h4]
def Valid(l:List Cell):Prop:=(1<=l.length/\l.length<=24)/\bx l/\∀c∈l,inR c
theorem wY{F:DS}(hF:∀(x:D) (c:Cell),F [some x,some (cD c)]=if inR c then .nx [some x,some (cD c)] else .ex t.dH none [some x,some (cD c)])(x:D):∀(l:List Cell) (y:Option D),((∀c∈l,inR c)->∃y',cY (bX 1) F (l.map cD) [some x,y] = .nx [some x,y'])/\(¬ (∀c∈l,inR c)->∃s,cY (bX 1) F (l.map cD) [some x,y] = .ex t.dH none s)
 | [],y=>⟨fun _=>⟨y,rfl⟩,fun h=>absurd (fun c hc=>by cases hc) h⟩
 | c::l,y=>by
  obtain ⟨i1,i2⟩:=wY hF x l (some (cD c))
  have e:bX 1 (cD c) [some x,y]=some [some x,some (cD c)]:=rfl
  by_cases hc:inR c
  ·constructor
   ·intro h
    obtain ⟨y',h'⟩:=i1 fun d hd=>h d (.tail _ hd)
    refine⟨y',?_⟩
    rw[List.map_cons,cY,e]
    dsimp only
    rw[hF,if_pos hc]
    exact h'
   ·intro h
    obtain ⟨s,h'⟩:=i2 fun z=>h fun d hd=>by
     rcases List.mem_cons.mp hd with rfl | hd
     ·exact hc
     ·exact z d hd
    refine⟨s,?_⟩
    rw[List.map_cons,cY,e]
    dsimp only
    rw[hF,if_pos hc]
    exact h'
  ·constructor
   ·intro h;exact absurd (h c (.head _)) hc
   ·intro h
    refine⟨[some x,some (cD c)],?_⟩
    rw[List.map_cons,cY,e]
    dsimp only
    rw[hF,if_neg hc]
theorem LY{l:List Cell}(hl:l.length<=50):(Valid l->bL t [aB l] = .ok .cz)/\(¬ Valid l->bL t [aB l] = .ex t.dH none):=by
 have hF:∀(x:D) (c:Cell),Dm.cI (qx (bz (jb t) (aa (ak 1) av))) (gz t.dH) bN [some x,some (cD c)]=if inR c then .nx [some x,some (cD c)] else .ex t.dH none [some x,some (cD c)]:=fun x c=>by
  by_cases h:inR c <;> simp[Q4,h]
 obtain ⟨i1,i2⟩:=wY t hF (aB l) l none
 obtain ⟨r1,r2⟩:=BH t hl
 have c1:((l.map cD).length:Int)=l.length:=by simp
 by_cases h0:1<=l.length
 ·by_cases h1:l.length<=24
  ·by_cases h2:bx l
   ·by_cases h3:∀c∈l,inR c
    ·obtain ⟨y,h4⟩:=i1 h3
     refine⟨fun _=>?_,fun h=>absurd ⟨⟨h0,h1⟩,h2,h3⟩ h⟩
     have a1:(1:Int)<=l.length:=by lia
     have a2:(l.length:Int)<=24:=by lia
     simp[bL,bP,a1,a2,r1 h2,h4]
    ·obtain ⟨y,h4⟩:=i2 h3
     refine⟨fun h=>absurd h.2.2 h3,fun _=>?_⟩
     have a1:(1:Int)<=l.length:=by lia
     have a2:(l.length:Int)<=24:=by lia
     simp[bL,bP,a1,a2,r1 h2,h4]
   ·refine⟨fun h=>absurd h.2.1 h2,fun _=>?_⟩
    have a1:(1:Int)<=l.length:=by lia
    have a2:(l.length:Int)<=24:=by lia
    simp[bL,bP,a1,a2,r2 h2]
  ·refine⟨fun h=>absurd h.1.2 h1,fun _=>?_⟩
   have a1:(1:Int)<=l.length:=by lia
   have a2:¬ (l.length:Int)<=24:=by lia
   simp[bL,bP,a1,a2]
 ·refine⟨fun h=>absurd h.1.1 h0,fun _=>?_⟩
  have a1:¬ (1:Int)<=l.length:=by lia
  simp[bL,bP,a1]
def Jv(ns:List Int)(n:Nat):Int:=(ns[n]?).getD 0
abbrev iL(ns:List Int):D:=.lst (ns.map D.int)
theorem LZ(ns:List Int)(n:Nat):b5 t [iL ns,.int n] = .ok (.int (Jv ns n)):=by
 unfold Jv
 by_cases h:n < ns.length
 ·have e:cQ (iL ns) (.int n) = .ok (.int ((ns[n]?).getD 0)):=uT (by rw[List.getElem?_map,List.getElem?_eq_getElem h];simp)
  have h':(n:Int) < ns.length:=by lia
  simp[b5,bP,h',e]
 ·have h':¬ (n:Int) < ns.length:=by lia
  rw[List.getElem?_eq_none (Nat.le_of_not_lt h)]
  simp[b5,bP,h']
abbrev M0:List Int:=[48271,69621,16807,39373,30269,40014,40692,50021,61687,71993,83869,95561,30307]
theorem Q5(k:Int):∃v:Int,0<=v/\v<=95561/\cQ (.lst [.int 48271,.int 69621,.int 16807,.int 39373,.int 30269,.int 40014,.int 40692,.int 50021,.int 61687,.int 71993,.int 83869,.int 95561,.int 30307]) (.int (k % 13)) = .ok (.int v):=by
 obtain ⟨n,hn,e⟩:∃n:Nat,n < M0.length/\k % 13=n:=⟨(k % 13).toNat,by show _ < 13;lia,by lia⟩
 rw[e]
 have hL:∀x∈M0,0<=x/\x<=95561:=by decide
 exact⟨M0[n],(hL _ (List.getElem_mem hn)).1,(hL _ (List.getElem_mem hn)).2,uT (ds:=M0.map D.int) (by rw[List.getElem?_map,List.getElem?_eq_getElem hn];rfl)⟩
theorem qp(c k m:Int)(hm:0 < m):∃r:Int,0<=r/\r < m/\aT t [.int c,.int k,.int m] = .ok (.int r):=by
 obtain ⟨v,v0,v1,hv⟩:=Q5 k
 have e1:i8 (.int c) (.int 2147483647) = .ok (.int (c % 2147483647)):=nF (by decide)
 have e2:i8 (.int k) (.int 13) = .ok (.int (k % 13)):=nF (by decide)
 have e3:nV (.int k) (.int 13) = .ok (.int (k / 13)):=Br (by decide) (by decide)
 have b0:0<=c % 2147483647+12345:=by lia
 have b1:c % 2147483647+12345<=2147495991:=by lia
 have b2:0<=(c % 2147483647+12345) * v:=Int.mul_nonneg b0 v0
 have b3:(c % 2147483647+12345) * v<=2147495991 * 95561:=Int.mul_le_mul b1 v1 v0 (by decide)
 have e4:rC (.int (c % 2147483647+12345)) (.int v) = .ok (.int ((c % 2147483647+12345) * v)):=wL (by constructor <;> lia)
 have e5:rC (.int 2) (.int (k / 13)) = .ok (.int (2 * (k / 13))):=wL (by decide)
 have e6:rC (.int ((c % 2147483647+12345) * v)) (.int (2 * (k / 13)+1)) = .ok (.int ((c % 2147483647+12345) * v * (2 * (k / 13)+1))):=wL (by constructor <;> lia)
 have e7:rC (.int 977) (.int k) = .ok (.int (977 * k)):=wL (by decide)
 have e8:∀x:Int,i8 (.int x) (.int 1000000007) = .ok (.int (x % 1000000007)):=fun x=>nF (by decide)
 have e9:∀x:Int,nV (.int x) (.int 7) = .ok (.int (x / 7)):=fun x=>Br (by decide) (by decide)
 have e10:∀x:Int,i8 (.int x) (.int m) = .ok (.int (x % m)):=fun x=>nF hm
 refine⟨(((c % 2147483647+12345) * v * (2 * (k / 13)+1)+977 * k) % 1000000007 / 7) % m,Int.emod_nonneg _ (by lia),Int.emod_lt_of_pos _ hm,?_⟩
 simp[aT,bP,e1,e2,e3,hv,e4,e5,e6,e7,e8,e9,e10]
def pk(c:Int)(k:Nat):Bool:=match aT t [.int c,.int k,.int 7] with | .ok (.int r)=>decide (0 < r) | _=>false
def tQ(dn ac w:Int)(k:Nat):Cell:=(dn+k / w,ac+k % w)
abbrev E3:DS:=Dm.cI (aQ L4 (bz (aT t) (aa (bz (b5 t) (aa (ak 0) (aa (dC (.int 1)) av))) (aa (ak 8) (aa (dC (.int 7)) av)))) (dC (.int 0)))
 (i9 7 (bK 100 (aa (aQ gf (ak 5) (aQ nV (ak 8) (ak 4))) (aa (aQ gf (ak 6) (aQ i8 (ak 8) (ak 4))) av))))
 bN
theorem qL(ns:List Int)(most c h w dn ac:Int)(hw:0 < w)(hw2:w < 100):∀(ks:List Nat) (acc:List Cell) (y:Option D),acc.length+ks.length<=1000->
  ∃y',cY (bX 8) (E3 t) (ks.map fun i=>.int (i:Nat)) [some (iL ns),some (.int most),some (.int c),some (.int h),some (.int w),some (.int dn),some (.int ac),some (aB acc),y]=
   .nx [some (iL ns),some (.int most),some (.int c),some (.int h),some (.int w),some (.int dn),some (.int ac),some (aB (acc++(ks.filter (pk t (Jv ns 1))).map (tQ dn ac w))),y']
 | [],acc,y,_=>⟨y,by simp[cY]⟩
 | k::ks,acc,y,hl=>by
  obtain ⟨r,r0,r1,hr⟩:=qp t (Jv ns 1) k 7 (by decide)
  have Rc:=LZ t ns 1
  have hp:pk t (Jv ns 1) k=decide (0 < r):=by unfold pk;rw[hr]
  have e1:nV (.int (k:Int)) (.int w) = .ok (.int ((k:Int) / w)):=Br hw (by lia)
  have e2:i8 (.int (k:Int)) (.int w) = .ok (.int ((k:Int) % w)):=nF hw
  have hb:bX 8 (.int (k:Int)) [some (iL ns),some (.int most),some (.int c),some (.int h),some (.int w),some (.int dn),some (.int ac),some (aB acc),y]=some [some (iL ns),some (.int most),some (.int c),some (.int h),some (.int w),some (.int dn),some (.int ac),some (aB acc),some (.int (k:Int))]:=rfl
  rw[List.length_cons] at hl
  rw[List.map_cons,cY,hb]
  dsimp only
  by_cases hc:0 < r
  ·have hF:E3 t [some (iL ns),some (.int most),some (.int c),some (.int h),some (.int w),some (.int dn),some (.int ac),some (aB acc),some (.int (k:Int))] = .nx [some (iL ns),some (.int most),some (.int c),some (.int h),some (.int w),some (.int dn),some (.int ac),some (aB (acc++[tQ dn ac w k])),some (.int (k:Int))]:=by
    have CK:acc.length<=1000:=by lia
    have Q6:b5 t [iL ns,.int 1] = .ok (.int (Jv ns 1)):=Rc
    have Gf:aT t [.int (Jv ns 1),.int (k:Int),.int 7] = .ok (.int r):=hr
    simp[Q6,Gf,hc,i9,e1,e2,tQ,cD,CK]
   rw[hF]
   dsimp only
   obtain ⟨y',ih⟩:=qL ns most c h w dn ac hw hw2 ks (acc++[tQ dn ac w k]) (some (.int (k:Int))) (by simp;lia)
   refine⟨y',ih.trans ?_⟩
   rw[List.filter_cons_of_pos (by rw[hp];exact decide_eq_true hc),List.map_cons,List.append_assoc]
   rfl
  ·have hF:E3 t [some (iL ns),some (.int most),some (.int c),some (.int h),some (.int w),some (.int dn),some (.int ac),some (aB acc),some (.int (k:Int))] = .nx [some (iL ns),some (.int most),some (.int c),some (.int h),some (.int w),some (.int dn),some (.int ac),some (aB acc),some (.int (k:Int))]:=by
    have Q6:b5 t [iL ns,.int 1] = .ok (.int (Jv ns 1)):=Rc
    have Gf:aT t [.int (Jv ns 1),.int (k:Int),.int 7] = .ok (.int r):=hr
    simp[Q6,Gf,hc]
   rw[hF]
   dsimp only
   obtain ⟨y',ih⟩:=qL ns most c h w dn ac hw hw2 ks acc (some (.int (k:Int))) (by lia)
   refine⟨y',ih.trans ?_⟩
   rw[List.filter_cons_of_neg (by rw[hp,decide_eq_false hc];decide)]
theorem M1{dn ac w:Int}(hw:0 < w){j k:Nat}(h:j < k):uq (tQ dn ac w j) (tQ dn ac w k):=by
 unfold uq tQ
 dsimp only
 have h1:(j:Int) / w<=(k:Int) / w:=Int.ediv_le_ediv hw (by lia)
 rcases Int.lt_or_eq_of_le h1 with h2 | h2
 ·exact .inl (by lia)
 ·refine .inr ⟨by lia,?_⟩
  have e1:=Int.mul_ediv_add_emod (j:Int) w
  have e2:=Int.mul_ediv_add_emod (k:Int) w
  rw[h2] at e1
  lia
theorem M3{dn ac w h:Int}(hw:0 < w)(hh:0 < h)(d0:0<=dn)(d1:dn<=8 - h)(a0:0<=ac)(a1:ac<=8 - w){k:Nat}(hk:(k:Int) < h * w):inR (tQ dn ac w k):=by
 unfold inR tQ
 dsimp only
 have h1:0<=(k:Int) / w:=Int.ediv_nonneg (by lia) (by lia)
 have h2:(k:Int) / w < h:=Int.ediv_lt_of_lt_mul hw hk
 have h3:0<=(k:Int) % w:=Int.emod_nonneg _ (by lia)
 have h4:(k:Int) % w < w:=Int.emod_lt_of_pos _ hw
 lia
theorem zZ{dn ac w:Int}(hw:0 < w)(p:Nat->Bool)(n:Nat):bx (((List.range n).filter p).map (tQ dn ac w)):=by
 unfold bx
 refine List.Pairwise.map (R:=fun a b=>a < b) (tQ dn ac w) (fun a b h=>M1 hw h) ?_
 exact List.Pairwise.sublist List.filter_sublist List.pairwise_lt_range
structure Drawn(l:List Cell)(most:Nat):Prop where
 pos:1<=l.length
 le:l.length<=most
 up:bx l
 inr:∀c∈l,inR c
 box:∃h w,Box l h w/\small h w
theorem M4(ns:List Int)(most:Nat)(hm:1<=most):∃l,cj t [iL ns,.int most] = .ok (aB l)/\Drawn l most:=by
 obtain ⟨c,Rc⟩:∃c:Int,b5 t [iL ns,.int 0] = .ok (.int c):=⟨_,LZ t ns 0⟩
 obtain ⟨r1,p1,q1,h1⟩:=qp t c 1 4 (by decide)
 obtain ⟨r2,p2,q2,h2⟩:=qp t c 2 6 (by decide)
 have e4:i8 (.int c) (.int 4) = .ok (.int (c % 4)):=nF (by decide)
 obtain ⟨h,w,a1,a2,b1,b2,hw,sm,e3⟩:∃h w:Int,1<=h/\h<=8/\1<=w/\w<=8/\h * w<=64/\((h<=4/\w<=6)\/(h<=3/\w=8)\/(h=8/\w<=3))/\Dm.cI (aQ (iX false) (aQ i8 (ak 2) (dC (.int 4))) (dC (.int 1)))
   (yj (iZ 3 4) (aX (aQ cQ (bY 100 (aa (bK 100 (aa (aQ gf (dC (.int 1)) (aQ i8 (ak 3) (dC (.int 3)))) (aa (dC (.int 8)) av))) (aa (bK 100 (aa (dC (.int 8)) (aa (aQ gf (dC (.int 1)) (aQ i8 (ak 4) (dC (.int 3)))) av))) av))) (aQ i8 (aQ nV (ak 2) (dC (.int 4))) (dC (.int 2))))))
   bN [some (iL ns),some (.int most),some (.int c),some (.int (1+r1)),some (.int (1+r2)),none,none,none,none] = .nx [some (iL ns),some (.int most),some (.int c),some (.int h),some (.int w),none,none,none,none]:=by
  by_cases hc:c % 4=1
  ·have m1:i8 (.int (1+r1)) (.int 3) = .ok (.int ((1+r1) % 3)):=nF (by decide)
   have m2:i8 (.int (1+r2)) (.int 3) = .ok (.int ((1+r2) % 3)):=nF (by decide)
   have m3:nV (.int c) (.int 4) = .ok (.int (c / 4)):=Br (by decide) (by decide)
   have m4:i8 (.int (c / 4)) (.int 2) = .ok (.int (c / 4 % 2)):=nF (by decide)
   have hz:c / 4 % 2=0\/c / 4 % 2=1:=by lia
   rcases hz with hz | hz
   ·refine⟨1+(1+r1) % 3,8,by lia,by lia,by lia,by lia,by lia,by lia,?_⟩
    have ix:cQ (.lst [.tup [.int (1+(1+r1) % 3),.int 8],.tup [.int 8,.int (1+(1+r2) % 3)]]) (.int 0) = .ok (.tup [.int (1+(1+r1) % 3),.int 8]):=rfl
    simp[e4,nu,hc,m1,m2,m3,m4,hz,ix,yj,eX,cT,iZ]
   ·refine⟨8,1+(1+r2) % 3,by lia,by lia,by lia,by lia,by lia,by lia,?_⟩
    have ix:cQ (.lst [.tup [.int (1+(1+r1) % 3),.int 8],.tup [.int 8,.int (1+(1+r2) % 3)]]) (.int 1) = .ok (.tup [.int 8,.int (1+(1+r2) % 3)]):=rfl
    simp[e4,nu,hc,m1,m2,m3,m4,hz,ix,yj,eX,cT,iZ]
  ·have hb:(1+r1) * (1+r2)<=4 * 6:=Int.mul_le_mul (by lia) (by lia) (by lia) (by lia)
   refine⟨1+r1,1+r2,by lia,by lia,by lia,by lia,by lia,by lia,?_⟩
   simp[e4,nu,hc]
 obtain ⟨dn,d0,d1,hd⟩:=qp t c 3 (9 - h) (by lia)
 obtain ⟨ac,s0,s1,hs⟩:=qp t c 4 (9 - w) (by lia)
 have em:rC (.int h) (.int w) = .ok (.int (h * w)):=wL (by constructor <;> lia)
 have hn0:0<=h * w:=Int.mul_nonneg (by lia) (by lia)
 obtain ⟨y',hl⟩:=qL t ns most c h w dn ac (by lia) (by lia) (List.range (h * w).toNat) [] none (by simp;lia)
 rw[List.nil_append] at hl
 have up:=zZ (dn:=dn) (ac:=ac) (w:=w) (by lia) (pk t (Jv ns 1)) (h * w).toNat
 have NX:rG (aa (aQ rC (ak 3) (ak 4)) av) [some (iL ns),some (.int most),some (.int c),some (.int h),some (.int w),some (.int dn),some (.int ac),some (.lst []),none] = .ok ((List.range (h * w).toNat).map fun i=>.int (i:Nat)):=by
  unfold rG
  simp[em]
  lia
 obtain ⟨L,hLd⟩:∃L,L=((List.range (h * w).toNat).filter (pk t (Jv ns 1))).map (tQ dn ac w):=⟨_,rfl⟩
 rw[<- hLd] at hl up
 have JL:∀x∈L,inR x:=fun x hx=>by
  rw[hLd] at hx
  obtain ⟨k,hk,rfl⟩:=List.mem_map.mp hx
  have:=List.mem_range.mp (List.mem_filter.mp hk).1
  exact M3 (h:=h) (by lia) (by lia) d0 (by lia) s0 (by lia) (by lia)
 have hbx:∀x∈L,dn<=x.1/\x.1 < dn+(h.toNat:Int)/\ac<=x.2/\x.2 < ac+(w.toNat:Int):=fun x hx=>by
  rw[hLd] at hx
  obtain ⟨k,hk,rfl⟩:=List.mem_map.mp hx
  have hk':=List.mem_range.mp (List.mem_filter.mp hk).1
  have q1:0<=(k:Int) / w:=Int.ediv_nonneg (by lia) (by lia)
  have q2:(k:Int) / w < h:=Int.ediv_lt_of_lt_mul (by lia) (by lia)
  have q3:0<=(k:Int) % w:=Int.emod_nonneg _ (by lia)
  have q4:(k:Int) % w < w:=Int.emod_lt_of_pos _ (by lia)
  unfold tQ
  dsimp only
  lia
 have sm':small h.toNat w.toNat:=by unfold small;lia
 have f1:bO 2 (bz (b5 t) (aa (ak 0) (aa (dC (.int 0)) av))) [some (iL ns),some (.int most),none,none,none,none,none,none,none] = .nx [some (iL ns),some (.int most),some (.int c),none,none,none,none,none,none]:=by simp[Rc]
 have f2:AZ 3 4 (aa (aQ gf (dC (.int 1)) (bz (aT t) (aa (ak 2) (aa (dC (.int 1)) (aa (dC (.int 4)) av))))) (aa (aQ gf (dC (.int 1)) (bz (aT t) (aa (ak 2) (aa (dC (.int 2)) (aa (dC (.int 6)) av))))) av)) [some (iL ns),some (.int most),some (.int c),none,none,none,none,none,none] = .nx [some (iL ns),some (.int most),some (.int c),some (.int (1+r1)),some (.int (1+r2)),none,none,none,none]:=by simp[AZ,h1,h2]
 have f4:AZ 5 6 (aa (bz (aT t) (aa (ak 2) (aa (dC (.int 3)) (aa (aQ jS (dC (.int 9)) (ak 3)) av)))) (aa (bz (aT t) (aa (ak 2) (aa (dC (.int 4)) (aa (aQ jS (dC (.int 9)) (ak 4)) av)))) av)) [some (iL ns),some (.int most),some (.int c),some (.int h),some (.int w),none,none,none,none] = .nx [some (iL ns),some (.int most),some (.int c),some (.int h),some (.int w),some (.int dn),some (.int ac),none,none]:=by simp[AZ,hd,hs]
 have f5:bO 7 (bY 100 av) [some (iL ns),some (.int most),some (.int c),some (.int h),some (.int w),some (.int dn),some (.int ac),none,none] = .nx [some (iL ns),some (.int most),some (.int c),some (.int h),some (.int w),some (.int dn),some (.int ac),some (.lst []),none]:=by simp
 have f6:dZ (rG (aa (aQ rC (ak 3) (ak 4)) av)) (bX 8) (E3 t) [some (iL ns),some (.int most),some (.int c),some (.int h),some (.int w),some (.int dn),some (.int ac),some (.lst []),none] = .nx [some (iL ns),some (.int most),some (.int c),some (.int h),some (.int w),some (.int dn),some (.int ac),some (aB L),y']:=by
  rw[Bq,NX]
  exact hl
 have fin:∀l:List Cell,Drawn l most->(b9 (Dm.cI (aQ (iX false) (bz jX (aa (ak 7) av)) (dC (.int 0)))
   (bO 7 (bY 100 (aa (bK 100 (aa (aX (ak 5)) (aa (aX (ak 6)) av))) av)))
   bN)
   (eS (Gd (ak 7) none (some (ak 1))))) [some (iL ns),some (.int most),some (.int c),some (.int h),some (.int w),some (.int dn),some (.int ac),some (aB L),y'] = .rt (aB l)->∃l,cj t [iL ns,.int most] = .ok (aB l)/\Drawn l most:=fun l dl e=>by
  refine⟨l,?_,dl⟩
  have e0:cj t [iL ns,.int most]=match (.rt (aB l):Out) with | .rt d=>.ok d | .nx _=>.ok .cz | .ex c p _=>.ex c p | _=>.bad:=by
   unfold cj bP
   show (match (b9 _ _ [some (iL ns),some (.int most),none,none,none,none,none,none,none]) with | .rt d=>R.ok d | .nx _=>.ok .cz | .ex c p _=>.ex c p | _=>.bad)=_
   rw[aP f1,aP f2,aP e3,aP f4,aP f5,aP f6,e]
  rw[e0]
 by_cases hL:L=[]
 ·refine fin [(dn,ac)] ⟨by simp,by simpa using hm,by simp[bx],fun x hx=>?_,?_⟩ ?_
  ·obtain rfl:x=(dn,ac):=by simpa using hx
   unfold inR;dsimp only;lia
  ·refine⟨h.toNat,w.toNat,⟨dn,ac,fun x hx=>?_⟩,sm'⟩
   obtain rfl:x=(dn,ac):=by simpa using hx
   dsimp only
   lia
  ·subst hL
   have g1:Dm.cI (aQ (iX false) (bz jX (aa (ak 7) av)) (dC (.int 0)))
    (bO 7 (bY 100 (aa (bK 100 (aa (aX (ak 5)) (aa (aX (ak 6)) av))) av)))
    bN [some (iL ns),some (.int most),some (.int c),some (.int h),some (.int w),some (.int dn),some (.int ac),some (aB []),y'] = .nx [some (iL ns),some (.int most),some (.int c),some (.int h),some (.int w),some (.int dn),some (.int ac),some (aB [(dn,ac)]),y']:=by simp[nu,cD]
   rw[aP g1]
   have:(([(dn,ac)]:List Cell).map cD).take most=([(dn,ac)]:List Cell).map cD:=List.take_of_length_le (by simpa using hm)
   simp[Gd,qd,wN,this]
   simp[cD,eX,cT]
   exact this
 ·refine fin (L.take most) ⟨?_,by simp;lia,up.sublist (List.take_sublist _ _),fun x hx=>JL x (List.mem_of_mem_take hx),⟨h.toNat,w.toNat,⟨dn,ac,fun x hx=>hbx x (List.mem_of_mem_take hx)⟩,sm'⟩⟩ ?_
  ·cases hc:L with
   | nil=>exact absurd hc hL
   | cons x r=>simp;lia
  ·have hL0:¬ (L.length:Int)=0:=by
    intro z
    exact hL (List.length_eq_zero_iff.mp (by lia))
   have g1:Dm.cI (aQ (iX false) (bz jX (aa (ak 7) av)) (dC (.int 0)))
    (bO 7 (bY 100 (aa (bK 100 (aa (aX (ak 5)) (aa (aX (ak 6)) av))) av)))
    bN [some (iL ns),some (.int most),some (.int c),some (.int h),some (.int w),some (.int dn),some (.int ac),some (aB L),y'] = .nx [some (iL ns),some (.int most),some (.int c),some (.int h),some (.int w),some (.int dn),some (.int ac),some (aB L),y']:=by simp[nu,hL]
   rw[aP g1]
   simp[Gd,qd,wN]
end Pk
end Q3
section Q7
namespace Pk
open L2 Dm
variable (t:i0)
def M5(c m:Int)(k:Nat):Bool:=match aT t [.int c,.int k,.int m] with | .ok (.int r)=>decide (0 < r) | _=>false
theorem Q8(c:Int){l:List Cell}(h1:1<=l.length)(h2:l.length<=500):∃p,dR t [.int c,aB l] = .ok (aB p)/\p.Sublist l:=by
 obtain ⟨r,r0,r1,hr⟩:=qp t c 40 4 (by decide)
 have f1:bO 2 (bz (aT t) (aa (ak 0) (aa (dC (.int 40)) (aa (dC (.int 4)) av)))) [some (.int c),some (aB l),none,none] = .nx [some (.int c),some (aB l),some (.int r),none]:=by simp[hr]
 by_cases hz:r=0
 ·subst hz
  obtain ⟨g,g0,g1,hg⟩:=qp t c 41 l.length (by lia)
  obtain ⟨n,rfl⟩:=Int.eq_ofNat_of_zero_le g0
  have hn:n < l.length:=by lia
  refine⟨l.take n++l.drop (n+1),?_,by rw[<- List.eraseIdx_eq_take_drop_succ];exact List.eraseIdx_sublist l n⟩
  unfold dR
  refine d8 [some (.int c),some (aB l),none,none] ?_
  rw[aP f1]
  refine PM ?_
  rw[xO (by simp[nu])]
  have f2:bO 3 (bz (aT t) (aa (ak 0) (aa (dC (.int 41)) (aa (bz jX (aa (ak 1) av)) av)))) [some (.int c),some (aB l),some (.int 0),none] = .nx [some (.int c),some (aB l),some (.int 0),some (.int (n:Int))]:=by simp[hg]
  rw[aP f2]
  refine gB (iE (a:=aB (l.take n)) (b:=aB (l.drop (n+1))) (VT rfl rfl) (LL rfl rfl) (D0 ?_))
  simp;lia
 ·obtain ⟨m,hm,hix⟩:∃m:Int,0 < m/\cQ (.lst [.int 0,.int 2,.int 3,.int 4]) (.int r) = .ok (.int m):=by
   have:r=1\/r=2\/r=3:=by lia
   rcases this with rfl | rfl | rfl
   ·exact⟨2,by decide,rfl⟩
   ·exact⟨3,by decide,rfl⟩
   ·exact⟨4,by decide,rfl⟩
  refine⟨(l.zipIdx.filter fun x=>M5 t c m x.2).map (·.1),?_,?_⟩
  ·unfold dR
   refine d8 [some (.int c),some (aB l),none,none] ?_
   rw[aP f1,aP (st':=[some (.int c),some (aB l),some (.int r),none]) (by rw[pX (by simp[nu,hz])];rfl)]
   refine gB ?_
   show _=R.ok (D.lst (List.map cD (List.map _ _)))
   rw[List.map_map]
   refine ny (ds:=l.zipIdx.map fun p=>.tup [.int (p.2:Nat),cD p.1]) ?_ (by simp;lia) ?_
   ·simp[Lo,LK]
   ·refine jI (S:=fun x=>[some (.int (x.2:Nat)),some (cD x.1),some (.int c),some (.int r)]) (P:=fun st=>∃y z,st=[y,z,some (.int c),some (.int r)]) l.zipIdx (fun x _=>⟨_,_,rfl⟩) (fun x _ st iz=>by obtain ⟨y,z,e⟩:=iz;subst e;rfl) (fun x _=>?_) (fun x _ _=>by simp) _ ⟨none,none,rfl⟩
    obtain ⟨v,v0,v1,hv⟩:=qp t c x.2 m hm
    have e:M5 t c m x.2=decide (0 < v):=by unfold M5;rw[hv]
    simp[hix,hv,e]
  ·have:=(List.filter_sublist (p:=fun x:Cell×Nat=>M5 t c m x.2) (l:=l.zipIdx)).map Prod.fst
   rwa [List.zipIdx_map_fst] at this
def ck(cells ao:List Cell):Prop:=bx ao/\∀c∈ao,c∈cells
theorem wZ{cells ao:List Cell}(hl:ao.length<=50):(ck cells ao->bZ t [.bU 0 (cells.map cD),aB ao] = .ok .cz)/\(¬ ck cells ao->bZ t [.bU 0 (cells.map cD),aB ao] = .ex t.di none):=by
 obtain ⟨r1,r2⟩:=BH t hl
 have loop:=DW (bind:=bX 2) (F:=Dm.cI (aQ (j8 true) (ak 2) (rA d9 (ak 0))) (gz t.di) bN) (f:=cD) (Q:=fun st=>∃y,st=[some (.bU 0 (cells.map cD)),some (aB ao),y]) (p:=fun c=>c∈cells) (S:=fun o=>∃s,o = .ex t.di none s) (fun o lO=>by obtain ⟨s,e⟩:=lO;subst e;trivial) ao [some (.bU 0 (cells.map cD)),some (aB ao),none] (fun c _ st qQ=>by
  obtain ⟨y,e⟩:=qQ
  subst e
  refine⟨[some (.bU 0 (cells.map cD)),some (aB ao),some (cD c)],rfl,fun h=>⟨_,?_,some (cD c),rfl⟩,fun h=>⟨[some (.bU 0 (cells.map cD)),some (aB ao),some (cD c)],?_⟩⟩
  ·rw[pX (by simp[eN,h])];rfl
  ·rw[xO (by simp[eN,h])];rfl) ⟨none,rfl⟩
 have key:∀o:Out,(b9 (Dm.cI (qx (bz (cF t) (aa (ak 1) av))) (gz t.di) bN) (dZ (eT (ak 1)) (bX 2) (Dm.cI (aQ (j8 true) (ak 2) (rA d9 (ak 0))) (gz t.di) bN))) [some (.bU 0 (cells.map cD)),some (aB ao),none]=o->bZ t [.bU 0 (cells.map cD),aB ao]=match o with | .rt d=>.ok d | .nx _=>.ok .cz | .ex c p _=>.ex c p | _=>.bad:=fun o h=>by
  unfold bZ bP
  subst h;rfl
 by_cases hr:bx ao
 ·have s1:Dm.cI (qx (bz (cF t) (aa (ak 1) av))) (gz t.di) bN [some (.bU 0 (cells.map cD)),some (aB ao),none] = .nx [some (.bU 0 (cells.map cD)),some (aB ao),none]:=by simp[r1 hr]
  rw[aP s1] at key
  refine⟨fun h=>?_,fun h=>?_⟩
  ·obtain ⟨st',h1,_⟩:=loop.1 h.2
   exact key (.nx st') (by simp[h1])
  ·obtain ⟨s,h1⟩:=loop.2 fun z=>h ⟨hr,z⟩
   exact key (.ex t.di none s) (by simp[h1])
 ·refine⟨fun h=>absurd h.1 hr,fun _=>key (.ex t.di none [some (.bU 0 (cells.map cD)),some (aB ao),none]) (PN ?_)⟩
  simp[r2 hr]
theorem ck.sub{cells ao:List Cell}(h:bx cells)(hs:ao.Sublist cells):ck cells ao:=⟨h.sublist hs,fun c hc=>hs.subset hc⟩
theorem M6{l:List Cell}(d:Drawn l 24):qz (bL t) [aB l] = .ok (.bU 0 (l.map cD)):=by
 have h:=(LY t (l:=l) (by have:=d.le;lia)).1 ⟨⟨d.pos,d.le⟩,d.up,d.inr⟩
 simp[qz,h]
theorem Drawn.mono{l:List Cell}{m n:Nat}(d:Drawn l m)(h:m<=n):Drawn l n:=⟨d.pos,Nat.le_trans d.le h,d.up,d.inr,d.box⟩
end Pk
end Q7
section Q9
namespace Pk
open L2 Dm
abbrev bB(cells:List Cell):D:=.bU 0 (cells.map cD)
variable (t:i0)
@[simp] theorem ay2 (x:Int):nV (.int x) (.int 2) = .ok (.int (x / 2)):=Br (by decide) (by decide)
theorem uU(f:Cell->List b7)(k:Nat):∀l:List Cell,(∀a∈l,(f a).length<=k)->(l.flatMap f).length<=l.length * k
 | [],_=>by simp
 | a::l,h=>by
  rw[List.flatMap_cons,List.length_append,List.length_cons,Nat.succ_mul]
  have:=uU f k l fun x hx=>h x (.tail _ hx)
  have:=h a (.head _)
  lia
theorem Jw{bind:DB}{F:DS}{S:List b7->Option D->dh}{a:Cell}{p:Cell->Bool}(xs:List Cell)(acc:List b7)(y:Option D)(hl:acc.length+xs.length<=1000)
  (hb:∀acc y b,bind (cD b) (S acc y)=some (S acc (some (cD b)))) (hF:∀acc b,b∈xs->acc.length<=1000->∃y,F (S acc (some (cD b))) = .nx (S (acc++if p b=true then [(a,b)] else []) y)) :
  ∃y',cY bind F (xs.map cD) (S acc y) = .nx (S (acc++(xs.filter p).map fun b=>(a,b)) y'):=by
 obtain ⟨st',h1,y',h2,_⟩:=kP (bind:=bind) (F:=F) (f:=cD) (Q:=fun pre st=>∃y,st=S (acc++(pre.filter p).map fun b=>(a,b)) y/\pre.length<=xs.length) xs [] (S acc y) (fun q x r e st iz=>by
  obtain ⟨y,hy,hq⟩:=iz
  subst hy
  walk_at"F"
  have hlen:q.length+1<=xs.length:=by rw[e];simp
  have hf:(q.filter p).length<=q.length:=List.length_filter_le ..
  obtain ⟨y2,h2⟩:=hF (acc++(q.filter p).map fun b=>(a,b)) x (by rw[e];simp) (by simp;lia)
  refine⟨_,_,hb _ _ _,h2,y2,?_,by simpa using hlen⟩
  rw[List.filter_append,List.map_append,<- List.append_assoc]
  cases hp:p x <;> simp[hp]) ⟨y,by simp,by simp⟩
 exact⟨y',by rw[h1,h2,List.nil_append]⟩
theorem D8(p:b7):b6 t [lD p] = .ok (cD (mid p.1 p.2)):=by
 simp[b6,bP,mid,cD,lD,cQ,yW,G5]
theorem VY(i:Int):t8 [.int i] = .ok (.int (Jg i)):=rfl
theorem Jx{cells:List Cell}(up:bx cells)(hl:cells.length<=30)(iy:(aS cells).length < 64):fQ t [aB cells] = .ok (bH (aS cells)):=by
 have inner:∀(acc:List b7) (a:Cell) (y z:Option D),acc.length<=900->∃y' z',(dZ (eT (ak 0)) (bX 3)
   (b9 (bO 4 (bz eo (aa (bY 100 (aa (bz t8 (aa (aQ jS (aQ cQ (ak 2) (dC (.int 0))) (aQ cQ (ak 3) (dC (.int 0)))) av)) (aa (bz t8 (aa (aQ jS (aQ cQ (ak 2) (dC (.int 1))) (aQ cQ (ak 3) (dC (.int 1)))) av)) av))) av)))
   (Dm.cI (j4 (aQ (iX false) (ak 4) (bY 100 (aa (dC (.int 0)) (aa (dC (.int 2)) av)))) (aQ (j8 false) (bz (b6 t) (aa (bK 100 (aa (aX (ak 2)) (aa (aX (ak 3)) av))) av)) (ak 0)))
   (i9 1 (bK 100 (aa (aX (ak 2)) (aa (aX (ak 3)) av))))
   bN))) [some (aB cells),some (bH acc),some (cD a),y,z] = .nx [some (aB cells),some (bH (acc++(BX cells a).map fun b=>(a,b))),some (cD a),y',z']:=fun acc a y z ha=>by
  obtain ⟨st',h1,y',z',h2,_⟩:=kP (bind:=bX 3) (F:=b9 (bO 4 (bz eo (aa (bY 100 (aa (bz t8 (aa (aQ jS (aQ cQ (ak 2) (dC (.int 0))) (aQ cQ (ak 3) (dC (.int 0)))) av)) (aa (bz t8 (aa (aQ jS (aQ cQ (ak 2) (dC (.int 1))) (aQ cQ (ak 3) (dC (.int 1)))) av)) av))) av)))
   (Dm.cI (j4 (aQ (iX false) (ak 4) (bY 100 (aa (dC (.int 0)) (aa (dC (.int 2)) av)))) (aQ (j8 false) (bz (b6 t) (aa (bK 100 (aa (aX (ak 2)) (aa (aX (ak 3)) av))) av)) (ak 0)))
   (i9 1 (bK 100 (aa (aX (ak 2)) (aa (aX (ak 3)) av))))
   bN)) (f:=cD) (Q:=fun pre st=>∃y z,st=[some (aB cells),some (bH (acc++(pre.filter fun b=>ap a b&&decide (mid a b∈cells)).map fun b=>(a,b))),some (cD a),y,z]/\pre.length<=cells.length) cells [] [some (aB cells),some (bH acc),some (cD a),y,z] (fun q b r e st lO=>by
   obtain ⟨y,z,hy,hq⟩:=lO
   subst hy
   walk_at"F"
   have hlen:q.length+1<=cells.length:=by rw[e];simp
   have hf:(q.filter fun b=>ap a b&&decide (mid a b∈cells)).length<=q.length:=List.length_filter_le ..
   obtain ⟨u,v,hs,huv⟩:=Jf (Jg (a.1 - b.1)) (Jg (a.2 - b.2))
   have hap:ap a b=decide (u=0/\v=2):=by
    unfold ap
    rw[Bool.eq_iff_iff]
    simp only[Bool.or_eq_true,Bool.and_eq_true,decide_eq_true_eq]
    exact huv.symm
   generalize hA:acc++(q.filter fun b=>ap a b&&decide (mid a b∈cells)).map (fun b=>(a,b))=A
   have lA:A.length<=1000:=by rw[<- hA];simp;lia
   have s1:bO 4 (bz eo (aa (bY 100 (aa (bz t8 (aa (aQ jS (aQ cQ (ak 2) (dC (.int 0))) (aQ cQ (ak 3) (dC (.int 0)))) av)) (aa (bz t8 (aa (aQ jS (aQ cQ (ak 2) (dC (.int 1))) (aQ cQ (ak 3) (dC (.int 1)))) av)) av))) av)) [some (aB cells),some (bH A),some (cD a),some (cD b),z] = .nx [some (aB cells),some (bH A),some (cD a),some (cD b),some (.lst [.int u,.int v])]:=by
    simp[VY,hs]
   have ge:iX false (.lst [.int u,.int v]) (.lst [.int 0,.int 2]) = .ok (.bl (decide (u=0/\v=2))):=by
    unfold iX
    rw[if_pos (by simp[flat,bW,dep,jT])]
    simp only[fU,cP,Bool.and_true,Bool.false_eq_true,if_false]
    by_cases h:u=0 <;> by_cases h':v=2 <;> simp[h,h']
   have gb:(bz (b6 t) (aa (bK 100 (aa (aX (ak 2)) (aa (aX (ak 3)) av))) av)) [some (aB cells),some (bH A),some (cD a),some (cD b),some (.lst [.int u,.int v])] = .ok (cD (mid a b)):=by
    have:=D8 t (a,b)
    unfold lD at this
    simp[this]
   refine⟨[some (aB cells),some (bH A),some (cD a),some (cD b),z],[some (aB cells),some (bH (A++if (ap a b&&decide (mid a b∈cells))=true then [(a,b)] else [])),some (cD a),some (cD b),some (.lst [.int u,.int v])],rfl,?_,some (cD b),some (.lst [.int u,.int v]),?_,by simpa using hlen⟩
   ·rw[aP s1]
    by_cases h1:u=0/\v=2
    ·by_cases h2:mid a b∈cells
     ·rw[xO (kO (iE (a:=.lst [.int u,.int v]) (b:=.lst [.int 0,.int 2]) rfl (by simp) (by rw[ge];simp[h1])) (iE gb rfl (by rw[eN];simp[h2])))]
      rw[hap]
      simp[i9,lA,h1,h2,lD]
     ·rw[pX (kO (iE (a:=.lst [.int u,.int v]) (b:=.lst [.int 0,.int 2]) rfl (by simp) (by rw[ge];simp[h1])) (iE gb rfl (by rw[eN];simp[h2])))]
      simp[h2]
    ·rw[pX (wM (iE (a:=.lst [.int u,.int v]) (b:=.lst [.int 0,.int 2]) rfl (by simp) (by rw[ge];simp[h1])))]
     rw[hap]
     simp[h1]
   ·rw[<- hA,List.filter_append,List.map_append,<- List.append_assoc]
    cases hp:(ap a b&&decide (mid a b∈cells)) <;> simp[hp]) ⟨y,z,by simp,by simp⟩
  refine⟨y',z',?_⟩
  rw[List.nil_append,LU up] at h2
  subst h2
  simp
  exact h1
 obtain ⟨st',h1,y,z,x,h2⟩:=kP (bind:=bX 2) (F:=dZ (eT (ak 0)) (bX 3)
   (b9 (bO 4 (bz eo (aa (bY 100 (aa (bz t8 (aa (aQ jS (aQ cQ (ak 2) (dC (.int 0))) (aQ cQ (ak 3) (dC (.int 0)))) av)) (aa (bz t8 (aa (aQ jS (aQ cQ (ak 2) (dC (.int 1))) (aQ cQ (ak 3) (dC (.int 1)))) av)) av))) av)))
   (Dm.cI (j4 (aQ (iX false) (ak 4) (bY 100 (aa (dC (.int 0)) (aa (dC (.int 2)) av)))) (aQ (j8 false) (bz (b6 t) (aa (bK 100 (aa (aX (ak 2)) (aa (aX (ak 3)) av))) av)) (ak 0)))
   (i9 1 (bK 100 (aa (aX (ak 2)) (aa (aX (ak 3)) av))))
   bN))) (f:=cD) (Q:=fun pre st=>∃y z x,st=[some (aB cells),some (bH (pre.flatMap fun a=>(BX cells a).map fun b=>(a,b))),y,z,x]) cells [] [some (aB cells),some (bH []),none,none,none] (fun q a r e st qQ=>by
  obtain ⟨y,z,x,hy⟩:=qQ
  subst hy
  walk_at"F"
  have hq:q.length<=30:=by rw[e] at hl;simp at hl;lia
  have h4:∀a,((BX cells a).map fun b=>(a,b)).length<=4:=fun a=>by
   rw[List.length_map];exact Nat.le_trans (List.length_filter_le ..) (by simp[four])
  have:=uU (fun a=>(BX cells a).map fun b=>(a,b)) 4 q fun a _=>h4 a
  obtain ⟨z',x',h⟩:=inner (q.flatMap fun a=>(BX cells a).map fun b=>(a,b)) a z x (by lia)
  exact⟨_,_,rfl,h,some (cD a),z',x',by rw[List.flatMap_append];simp⟩) ⟨none,none,none,rfl⟩
 subst h2
 unfold fQ
 refine d8 [some (aB cells),none,none,none,none] ?_
 rw[aP (st':=[some (aB cells),some (bH []),none,none,none]) (by simp),aP (st':=[some (aB cells),some (bH (aS cells)),y,z,x]) ?_]
 ·exact gB (LJ (a:=bH (aS cells)) rfl (Jd (Bu up) iy))
 ·rw[Bq]
  have:eT (ak 0) [some (aB cells),some (bH []),none,none,none] = .ok (cells.map cD):=by simp
  rw[this]
  exact h1
theorem Drawn.iy{l:List Cell}{m:Nat}(d:Drawn l m):(aS l).length < 64:=by
 obtain ⟨h,w,b,s⟩:=d.box
 have:=FL d.up b s
 lia
end Pk
end Q9
section Qa
namespace Pk
open L2 Dm
variable (t:i0)
theorem E4(ao:List Cell)(k:Cell->Int)(two:List Int)(f:Cell->Bool)(h:∀c,decide (k c∈two)=f c)(hl:ao.length<=1000):iN t [.lst (ao.map fun c=>.int (k c)),tI two] = .ok (.int (par f ao)):=by
 unfold iN
 refine d8 [some (.lst (ao.map fun c=>.int (k c))),some (tI two)] (gB (iE (a:=.int ((ao.filter f).length:Nat)) (b:=.int 2) ?_ rfl (by unfold par;exact nF (by decide))))
 refine LJ (a:=.lst ((ao.filter f).map fun c=>.int (k c))) (ny (ds:=ao.map fun c=>.int (k c)) rfl (by simpa using hl) (jI (S:=fun x=>[some (.int (k x)),some (tI two)]) (P:=fun st=>∃y,st=[y,some (tI two)]) ao (fun x _=>⟨_,rfl⟩) (fun x _ st iz=>by obtain ⟨y,e⟩:=iz;subst e;rfl) (fun x _=>?_) (fun x _ _=>by simp) _ ⟨none,rfl⟩)) (by simp)
 rw[<- h x];exact iE (a:=.int (k x)) (b:=tI two) rfl rfl (by rw[Q0];simp)
theorem E5{cells ao:List Cell}(lp:ao.length<=50)(S:ck cells ao):iw t [bB cells,aB ao] = .ok (FO ao):=by
 have hc:=(wZ t (cells:=cells) lp).1 S
 have o1:=E4 t ao kS [0,1] f1 (fun c=>by unfold f1 kS;rw[Bool.eq_iff_iff];simp only[List.mem_cons,List.not_mem_nil,or_false,decide_eq_true_eq];lia) (by lia)
 have o2:=E4 t ao kS [1,2] f2 (fun c=>by unfold f2 kS;rw[Bool.eq_iff_iff];simp only[List.mem_cons,List.not_mem_nil,or_false,decide_eq_true_eq];lia) (by lia)
 have o3:=E4 t ao kD [0,1] f3 (fun c=>by unfold f3 kD;rw[Bool.eq_iff_iff];simp only[List.mem_cons,List.not_mem_nil,or_false,decide_eq_true_eq];lia) (by lia)
 have o4:=E4 t ao kD [1,2] f4 (fun c=>by unfold f4 kD;rw[Bool.eq_iff_iff];simp only[List.mem_cons,List.not_mem_nil,or_false,decide_eq_true_eq];lia) (by lia)
 unfold iw
 refine d8 [some (bB cells),some (aB ao),none,none] ?_
 rw[aP (st':=[some (bB cells),some (aB ao),none,none]) (by simp[hc])]
 rw[aP (st':=[some (bB cells),some (aB ao),some (.lst (ao.map fun c=>.int (kS c))),none]) (cU (ny (ds:=ao.map cD) rfl (by simp;lia) (comp_map (S:=fun x=>[some (cD x)]) (P:=fun st=>∃y,st=[y]) ao (fun x _=>⟨_,rfl⟩) (fun x _ st lO=>by obtain ⟨y,e⟩:=lO;subst e;rfl) (fun x _=>rfl) (fun x _=>iE (a:=.int (x.1+x.2)) (b:=.int 3) (iE (a:=.int x.1) (b:=.int x.2) rfl rfl rfl) rfl (nF (by decide))) _ ⟨none,rfl⟩)))]
 rw[aP (st':=[some (bB cells),some (aB ao),some (.lst (ao.map fun c=>.int (kS c))),some (.lst (ao.map fun c=>.int (kD c)))]) (cU (ny (ds:=ao.map cD) rfl (by simp;lia) (comp_map (S:=fun x=>[some (cD x)]) (P:=fun st=>∃y,st=[y]) ao (fun x _=>⟨_,rfl⟩) (fun x _ st qQ=>by obtain ⟨y,e⟩:=qQ;subst e;rfl) (fun x _=>rfl) (fun x _=>iE (a:=.int (x.1 - x.2)) (b:=.int 3) (iE (a:=.int x.1) (b:=.int x.2) rfl rfl rfl) rfl (nF (by decide))) _ ⟨none,rfl⟩)))]
 refine gB ?_
 simp[tI] at o1 o2 o3 o4
 simp[o1,o2,o3,o4,FO,tI,wV]
end Pk
end Qa
section Qc
namespace Pk
open L2 Dm
variable (t:i0)
theorem VZ(c:Cell):fE t [cD c] = .ok (aB (four c)):=by
 simp[fE,bP,four,cD,cQ,yW,G5]
theorem E6(a b:Cell):dj t [cD a,cD b] = .ok (cD (mid a b)):=by
 simp[dj,bP,mid,cD,cQ,yW,G5]
theorem M7{cells:List Cell}(hl:cells.length<=200):rY t [bB cells] = .ok (bH (aS cells)):=by
 have inner:∀(acc:List b7) (a:Cell) (y:Option D),acc.length<=900->∃y',(dZ (eT (bz (fE t) (aa (ak 2) av))) (bX 3)
   (Dm.cI (j4 (aQ (j8 false) (ak 3) (rA d9 (ak 0))) (aQ (j8 false) (bz (dj t) (aa (ak 2) (aa (ak 3) av))) (rA d9 (ak 0))))
   (i9 1 (bK 100 (aa (aX (ak 2)) (aa (aX (ak 3)) av))))
   bN)) [some (bB cells),some (bH acc),some (cD a),y] = .nx [some (bB cells),some (bH (acc++(BX cells a).map fun b=>(a,b))),some (cD a),y']:=fun acc a y ha=>by
  obtain ⟨y',h⟩:=Jw (bind:=bX 3) (F:=Dm.cI (j4 (aQ (j8 false) (ak 3) (rA d9 (ak 0))) (aQ (j8 false) (bz (dj t) (aa (ak 2) (aa (ak 3) av))) (rA d9 (ak 0))))
   (i9 1 (bK 100 (aa (aX (ak 2)) (aa (aX (ak 3)) av))))
   bN) (S:=fun acc y=>[some (bB cells),some (bH acc),some (cD a),y]) (a:=a) (p:=fun b=>decide (b∈cells)&&decide (mid a b∈cells)) (four a) acc y (by simp[four];lia) (fun acc y b=>rfl) (fun acc b _ CK=>⟨some (cD b),by
    by_cases h1:b∈cells
    ·by_cases h2:mid a b∈cells
     ·rw[xO (kO (iE (a:=cD b) (b:=aB cells) rfl (by simp) (by rw[eN];simp[h1])) (iE (a:=cD (mid a b)) (b:=aB cells) (by simp[E6]) (by simp) (by rw[eN];simp[h2])))]
      simp[i9,CK,h1,h2,lD]
     ·rw[pX (kO (iE (a:=cD b) (b:=aB cells) rfl (by simp) (by rw[eN];simp[h1])) (iE (a:=cD (mid a b)) (b:=aB cells) (by simp[E6]) (by simp) (by rw[eN];simp[h2])))]
      simp[h2]
    ·rw[pX (wM (iE (a:=cD b) (b:=aB cells) rfl (by simp) (by rw[eN];simp[h1])))]
     simp[h1]⟩)
  exact⟨y',by simp[VZ];exact h⟩
 obtain ⟨st',h1,y,z,h2⟩:=kP (bind:=bX 2) (F:=dZ (eT (bz (fE t) (aa (ak 2) av))) (bX 3)
   (Dm.cI (j4 (aQ (j8 false) (ak 3) (rA d9 (ak 0))) (aQ (j8 false) (bz (dj t) (aa (ak 2) (aa (ak 3) av))) (rA d9 (ak 0))))
   (i9 1 (bK 100 (aa (aX (ak 2)) (aa (aX (ak 3)) av))))
   bN)) (f:=cD) (Q:=fun pre st=>∃y z,st=[some (bB cells),some (bH (pre.flatMap fun a=>(BX cells a).map fun b=>(a,b))),y,z]) cells [] [some (bB cells),some (bH []),none,none] (fun q a r e st iz=>by
  obtain ⟨y,z,hy⟩:=iz
  subst hy
  walk_at"F"
  have hq:q.length<=200:=by rw[e] at hl;simp at hl;lia
  have h4:∀a,((BX cells a).map fun b=>(a,b)).length<=4:=fun a=>by
   rw[List.length_map];exact Nat.le_trans (List.length_filter_le ..) (by simp[four])
  have:=uU (fun a=>(BX cells a).map fun b=>(a,b)) 4 q fun a _=>h4 a
  obtain ⟨z',h⟩:=inner (q.flatMap fun a=>(BX cells a).map fun b=>(a,b)) a z (by lia)
  exact⟨_,_,rfl,h,some (cD a),z',by rw[List.flatMap_append];simp⟩) ⟨none,none,rfl⟩
 subst h2
 unfold rY
 refine d8 [some (bB cells),none,none,none] ?_
 rw[aP (st':=[some (bB cells),some (bH []),none,none]) (by simp),aP (st':=[some (bB cells),some (bH (aS cells)),y,z]) ?_]
 ·rfl
 ·rw[Bq]
  have:eT (rA d9 (ak 0)) [some (bB cells),some (bH []),none,none] = .ok (cells.map cD):=by simp
  rw[this]
  exact h1
end Pk
end Qc
section Qd
namespace Pk
open L2 Dm
variable (t:i0)
theorem A0{cells ao:List Cell}(up:bx cells)(hl:cells.length<=30)(iy:(aS cells).length < 64):bR t [aB cells,aB ao] = .ok (bH (sj cells ao)):=by
 have hL:=Jx t up hl iy
 obtain ⟨st',h1,y,z,h2,_⟩:=kP (bind:=iZ 3 4) (F:=Dm.cI (j4 (aQ (j8 false) (ak 3) (ak 1)) (j4 (aQ (j8 false) (bz (b6 t) (aa (bK 100 (aa (aX (ak 3)) (aa (aX (ak 4)) av))) av)) (ak 1)) (aQ (j8 true) (ak 4) (ak 1))))
   (i9 2 (bK 100 (aa (aX (ak 3)) (aa (aX (ak 4)) av))))
   bN) (f:=lD) (Q:=fun pre st=>∃y z,st=[some (aB cells),some (aB ao),some (bH (pre.filter (pI ao))),y,z]/\pre.length<=64) (aS cells) [] [some (aB cells),some (aB ao),some (bH []),none,none] (fun q p r e st iz=>by
  obtain ⟨y,z,hy,hq⟩:=iz
  subst hy
  walk_at"F"
  have hlen:q.length+1<=64:=by rw[e] at iy;simp at iy;lia
  have hf:(q.filter (pI ao)).length<=q.length:=List.length_filter_le ..
  generalize hA:q.filter (pI ao)=A at hf
  have lA:A.length<=1000:=by lia
  have gb:(bz (b6 t) (aa (bK 100 (aa (aX (ak 3)) (aa (aX (ak 4)) av))) av)) [some (aB cells),some (aB ao),some (bH A),some (cD p.1),some (cD p.2)] = .ok (cD (mid p.1 p.2)):=by
   have:=D8 t p
   unfold lD at this
   simp[this]
  refine⟨[some (aB cells),some (aB ao),some (bH A),some (cD p.1),some (cD p.2)],[some (aB cells),some (aB ao),some (bH (A++if pI ao p=true then [p] else [])),some (cD p.1),some (cD p.2)],rfl,?_,some (cD p.1),some (cD p.2),?_,by simpa using hlen⟩
  ·unfold pI
   by_cases h1:p.1∈ao
   ·by_cases h3:mid p.1 p.2∈ao
    ·by_cases h2:p.2∈ao
     ·rw[pX (kO (iE (a:=cD p.1) (b:=aB ao) rfl rfl (by rw[eN];simp[h1])) (kO (iE gb rfl (by rw[eN];simp[h3])) (iE (a:=cD p.2) (b:=aB ao) rfl rfl (by rw[eN];simp[h2]))))]
      simp[h2]
     ·rw[xO (kO (iE (a:=cD p.1) (b:=aB ao) rfl rfl (by rw[eN];simp[h1])) (kO (iE gb rfl (by rw[eN];simp[h3])) (iE (a:=cD p.2) (b:=aB ao) rfl rfl (by rw[eN];simp[h2]))))]
      simp[i9,lA,h1,h2,h3,lD]
    ·rw[pX (kO (iE (a:=cD p.1) (b:=aB ao) rfl rfl (by rw[eN];simp[h1])) (wM (iE gb rfl (by rw[eN];simp[h3]))))]
     simp[h3]
   ·rw[pX (wM (iE (a:=cD p.1) (b:=aB ao) rfl rfl (by rw[eN];simp[h1])))]
    simp[h1]
  ·rw[<- hA,List.filter_append]
   cases hp:pI ao p <;> simp[hp]) ⟨none,none,rfl,by simp⟩
 rw[List.nil_append] at h2
 subst h2
 unfold bR
 refine d8 [some (aB cells),some (aB ao),none,none,none] ?_
 rw[aP (st':=[some (aB cells),some (aB ao),some (bH []),none,none]) (by simp),aP (st':=[some (aB cells),some (aB ao),some (bH (sj cells ao)),y,z]) ?_]
 ·rfl
 ·rw[Bq]
  have:eT (bz (fQ t) (aa (ak 0) av)) [some (aB cells),some (aB ao),some (bH []),none,none] = .ok ((aS cells).map lD):=by simp[hL]
  rw[this]
  exact h1
end Pk
end Qd
section Qe
namespace Pk
open L2 Dm
variable (t:i0)
theorem tR{ao:List Cell}(p:b7)(hl:ao.length<=60):bG t [aB ao,lD p] = .ok (aB (aK ao p)):=by
 have hb:=D8 t p
 have g1:(iG (eT (ak 0)) 1 [1] (bX 0) (j4 (aQ (iX true) (ak 0) (aQ cQ (ak 1) (dC (.int 0)))) (aQ (iX true) (ak 0) (bz (b6 t) (aa (ak 1) av)))) (aX (ak 0))) [some (aB ao),some (lD p),none] = .ok (aB (left ao p)):=by
  refine ny (ds:=ao.map cD) (by simp) (by simp;lia) ?_
  exact jI (S:=fun x=>[some (cD x),some (lD p)]) (P:=fun st=>∃y,st=[y,some (lD p)]) ao (fun x _=>⟨_,rfl⟩) (fun x _ st iz=>by obtain ⟨y,e⟩:=iz;subst e;rfl) (fun x _=>by
   by_cases h1:x=p.1
   ·exact(wM (iE (a:=cD x) (b:=cD p.1) rfl (by simp) (by rw[Ji];simp[h1]))).trans (by simp[h1])
   ·exact(kO (iE (a:=cD x) (b:=cD p.1) rfl (by simp) (by rw[Ji];simp[h1])) (iE (a:=cD x) (b:=cD (mid p.1 p.2)) rfl (by simp[hb]) (Ji ..))).trans (by simp[h1])) (fun x _ _=>by simp) _ ⟨none,rfl⟩
 have hle:(left ao p).length<=ao.length:=List.length_filter_le ..
 unfold bG
 refine d8 [some (aB ao),some (lD p),none] ?_
 rw[aP (st':=[some (aB ao),some (lD p),some (aB (left ao p))]) (cU g1)]
 refine gB (LJ (a:=aB (left ao p++[p.2])) (iE (a:=aB (left ao p)) (b:=aB [p.2]) rfl (by simp) (D0 (by simp;lia))) ?_)
 exact DZ (by simp;lia)
theorem ck.row{cells ao:List Cell}{row:List b7}(S:ck cells ao)(h:nG cells ao row):ck cells (cy ao row):=by
 obtain ⟨h1,h2,_⟩:=fG S.1 S.2 h
 exact⟨h1,h2⟩
theorem Qf{l:List b7}{a:Nat}(h:a < l.length):cQ (bH l) (.int (a:Int)) = .ok (lD l[a]):=uT (by rw[List.getElem?_map,List.getElem?_eq_getElem h];rfl)
theorem Qg{cells ao:List Cell}(c:Int){most:Nat}(hm:most<=900)(S:ck cells ao)(lp:ao.length<=50)(up:bx cells)(hl:cells.length<=30)(iy:(aS cells).length < 64) :
  ∃row,nG cells ao row/\row.length<=most/\gE t [aB cells,aB ao,.int c,.int most] = .ok (.tup [bH row,aB (cy ao row)]):=by
 obtain ⟨n,n0,n1,hn⟩:=qp t c 60 (most+1) (by lia)
 obtain ⟨n,rfl⟩:=Int.eq_ofNat_of_zero_le n0
 have NX:rG (aa (bz (aT t) (aa (ak 2) (aa (dC (.int 60)) (aa (aQ gf (ak 3) (dC (.int 1))) av)))) av) [some (aB cells),some (aB ao),some (.int c),some (.int most),some (bH []),some (aB ao),none,none,none] = .ok ((List.range n).map fun i=>.int (i:Nat)):=by
  unfold rG
  have:(aa (bz (aT t) (aa (ak 2) (aa (dC (.int 60)) (aa (aQ gf (ak 3) (dC (.int 1))) av)))) av) [some (aB cells),some (aB ao),some (.int c),some (.int most),some (bH []),some (aB ao),none,none,none] = .ok [.int n]:=by
   simp[hn]
  rw[this]
  dsimp only
  rw[if_pos (by simp;lia)]
  rfl
 obtain ⟨st',h1,row,x,y,z,ok,lr,h2⟩:=kP (bind:=bX 6) (F:=b9 (bO 7 (bz (bR t) (aa (ak 0) (aa (ak 5) av))))
  (Dm.cI (aQ L4 (bz jX (aa (ak 7) av)) (dC (.int 0)))
  (b9 (bO 8 (aX (aQ cQ (ak 7) (bz (aT t) (aa (ak 2) (aa (aQ gf (dC (.int 61)) (ak 6)) (aa (bz jX (aa (ak 7) av)) av)))))))
  (b9 (i9 4 (aX (ak 8)))
  (bO 5 (bz (bG t) (aa (ak 5) (aa (ak 8) av))))))
  bN)) (f:=fun i:Nat=>D.int (i:Nat)) (Q:=fun pre st=>∃row x y z,nG cells ao row/\row.length<=pre.length/\st=[some (aB cells),some (aB ao),some (.int c),some (.int most),some (bH row),some (aB (cy ao row)),x,y,z]) (List.range n) [] [some (aB cells),some (aB ao),some (.int c),some (.int most),some (bH []),some (aB ao),none,none,none] (fun q k r e st lO=>by
  obtain ⟨row,x,y,z,ok,lr,hy⟩:=lO
  subst hy
  walk_at"F"
  have hq:q.length<=900:=by
   have:=congrArg List.length e
   simp at this;lia
  have hw:=fG S.1 S.2 ok
  have lw:(cy ao row).length<=50:=by lia
  generalize hW:cy ao row=W at hw lw
  have ho:=A0 t (ao:=W) up hl iy
  generalize hO:sj cells W=O at ho
  have s1:bO 7 (bz (bR t) (aa (ak 0) (aa (ak 5) av))) [some (aB cells),some (aB ao),some (.int c),some (.int most),some (bH row),some (aB W),some (.int (k:Nat)),y,z] = .nx [some (aB cells),some (aB ao),some (.int c),some (.int most),some (bH row),some (aB W),some (.int (k:Nat)),some (bH O),z]:=by simp[ho]
  by_cases hO0:0 < O.length
  ·obtain ⟨m,m0,m1,hmx⟩:=qp t c (61+k) O.length (by lia)
   obtain ⟨m,rfl⟩:=Int.eq_ofNat_of_zero_le m0
   have yJ:m < O.length:=by lia
   have hix:=Qf yJ
   have yO:O[m]∈sj cells W:=by rw[hO];exact List.getElem_mem yJ
   have hbh:=tR t (ao:=W) O[m] (by lia)
   refine⟨[some (aB cells),some (aB ao),some (.int c),some (.int most),some (bH row),some (aB W),some (.int (k:Nat)),y,z],[some (aB cells),some (aB ao),some (.int c),some (.int most),some (bH (row++[O[m]])),some (aB (aK W O[m])),some (.int (k:Nat)),some (bH O),some (lD O[m])],rfl,?_,row++[O[m]],_,_,_,zX ok (by rw[hW];exact yO),by simpa using lr,by rw[yC,hW]⟩
   rw[aP s1,xO (by simp;lia)]
   rw[aP (st':=[some (aB cells),some (aB ao),some (.int c),some (.int most),some (bH row),some (aB W),some (.int (k:Nat)),some (bH O),some (lD O[m])]) (cU (Ny (iE (a:=bH O) (b:=.int (m:Int)) rfl (by simpa using hmx) hix) (J8 _)))]
   rw[aP (st':=[some (aB cells),some (aB ao),some (.int c),some (.int most),some (bH (row++[O[m]])),some (aB W),some (.int (k:Nat)),some (bH O),some (lD O[m])]) (by
    have:row.length<=1000:=by lia
    simp[i9,this])]
   exact cU (FI (a:=aB W) (b:=lD O[m]) rfl rfl hbh)
  ·refine⟨[some (aB cells),some (aB ao),some (.int c),some (.int most),some (bH row),some (aB W),some (.int (k:Nat)),y,z],[some (aB cells),some (aB ao),some (.int c),some (.int most),some (bH row),some (aB W),some (.int (k:Nat)),some (bH O),z],rfl,?_,row,_,_,_,ok,by simp;lia,by rw[hW]⟩
   rw[aP s1,pX (iE (a:=.int (O.length:Nat)) (b:=.int 0) (by simp) rfl (by rw[au0,decide_eq_false (by lia)]))];rfl) ⟨[],_,_,_,trivial,by simp,rfl⟩
 subst h2
 refine⟨row,ok,by simp at lr;lia,?_⟩
 unfold gE
 refine d8 [some (aB cells),some (aB ao),some (.int c),some (.int most),none,none,none,none,none] ?_
 rw[aP (st':=[some (aB cells),some (aB ao),some (.int c),some (.int most),some (bH []),none,none,none,none]) (by simp),
  aP (st':=[some (aB cells),some (aB ao),some (.int c),some (.int most),some (bH []),some (aB ao),none,none,none]) (by simp),
  aP (by rw[Bq,NX];exact h1)]
 simp
end Pk
end Qe
section Qh
namespace Pk
open L2 Dm
variable (t:i0)
def tS(l:List Cell):D:=.tup (l.map cD)
theorem D9(neg:Bool)(c:Cell)(l:List Cell):j8 neg (cD c) (tS l) = .ok (.bl (if neg then !decide (c∈l) else decide (c∈l))):=by
 have h:=eN neg c l
 unfold j8 aB at h
 unfold j8 tS
 exact h
theorem Qi(ao:List Cell)(p:b7):gr t [tS ao,lD p] = .ok (.bl (pI ao p)):=by
 unfold gr pI
 refine d8 [some (tS ao),some (lD p)] (gB ?_)
 have g1:=D9 false p.1 ao
 have g2:=D9 true p.2 ao
 have g3:=D9 false (mid p.1 p.2) ao
 by_cases h1:p.1∈ao <;> by_cases h2:p.2∈ao <;> simp[E6,g1,g2,g3,h1,h2]
theorem Jy(neg:Bool)(x a b:Cell):j8 neg (cD x) (.tup [cD a,cD b]) = .ok (.bl (if neg then !(decide (a=x) || decide (b=x)) else (decide (a=x) || decide (b=x)))):=by
 unfold j8
 dsimp only
 rw[if_pos (by simp[bW,jT])]
 simp
theorem FP{ao:List Cell}(p:b7)(hl:ao.length<=60):gu t [tS ao,lD p] = .ok (aB (aK ao p)):=by
 have hb:=E6 t p.1 p.2
 have g1:(iG (WW (ak 0)) 1 [2] (bX 0) (aQ (j8 true) (ak 0) (ak 1)) (aX (ak 0))) [some (tS ao),some (lD p),some (.tup [cD p.1,cD (mid p.1 p.2)])] = .ok (aB (left ao p)):=by
  refine ny (ds:=ao.map cD) rfl (by simp;lia) ?_
  refine jI (S:=fun x=>[some (cD x),some (.tup [cD p.1,cD (mid p.1 p.2)])]) (P:=fun st=>∃y,st=[y,some (.tup [cD p.1,cD (mid p.1 p.2)])]) ao (fun x _=>⟨_,rfl⟩) (fun x _ st ⟨y,e⟩=>by subst e;rfl) (fun x _=>?_) (fun x _ _=>by simp) _ ⟨none,rfl⟩
  refine iE (a:=cD x) (b:=.tup [cD p.1,cD (mid p.1 p.2)]) rfl rfl ?_
  rw[Jy]
  have e1:decide (p.1=x)=decide (x=p.1):=by rw[Bool.eq_iff_iff];simp[eq_comm]
  have e2:decide (mid p.1 p.2=x)=decide (x=mid p.1 p.2):=by rw[Bool.eq_iff_iff];simp[eq_comm]
  rw[e1,e2]
  cases decide (x=p.1) <;> cases decide (x=mid p.1 p.2) <;> rfl
 have hle:(left ao p).length<=ao.length:=List.length_filter_le ..
 unfold gu
 refine d8 [some (tS ao),some (lD p),none] ?_
 rw[aP (st':=[some (tS ao),some (lD p),some (.tup [cD p.1,cD (mid p.1 p.2)])]) (by simp[hb])]
 refine gB (LJ (a:=aB (left ao p++[p.2])) (iE (a:=aB (left ao p)) (b:=aB [p.2]) g1 (by simp) (D0 (by simp;lia))) ?_)
 exact DZ (by simp;lia)
def aZ(cells:List Cell)(s:List Cell):List (b7×List Cell):=(sj cells s).map fun p=>(p,aK s p)
theorem Jz(cells:List Cell):(aS cells).length<=4 * cells.length:=by
 have h4:∀a,((BX cells a).map fun b=>(a,b)).length<=4:=fun a=>by
  rw[List.length_map];exact Nat.le_trans (List.length_filter_le ..) (by simp[four])
 have:=uU (fun a=>(BX cells a).map fun b=>(a,b)) 4 cells fun a _=>h4 a
 unfold aS
 lia
theorem tT(l:List Cell):ie [aB l] = .ok (tS l):=by
 unfold ie aB tS
 dsimp only
 rw[if_pos (eZ fun d hd=>by obtain ⟨c,_,rfl⟩:=List.mem_map.mp hd;unfold cD;simp[eX,cT])]
theorem M8{cells s:List Cell}(hl:cells.length<=200)(ls:s.length<=60):eE t [bH (aS cells),tS s] = .ok (.lst ((aZ cells s).map fun q=>.tup [lD q.1,tS q.2])):=by
 have e:(aZ cells s).map (fun q=>D.tup [lD q.1,tS q.2])=((aS cells).filter (pI s)).map fun p=>D.tup [lD p,tS (aK s p)]:=by
  unfold aZ sj
  rw[List.map_map];rfl
 rw[e]
 unfold eE
 refine d8 [some (bH (aS cells)),some (tS s)] (gB (ny (ds:=(aS cells).map lD) rfl ?_ ?_))
 ·rw[List.length_map];have:=Jz cells;lia
 ·exact jI (S:=fun x=>[some (lD x),some (tS s)]) (P:=fun st=>∃y,st=[y,some (tS s)]) (aS cells) (fun x _=>⟨_,rfl⟩) (fun x _ st ⟨y,e⟩=>by subst e;rfl) (fun x _=>by simp[Qi]) (fun x _ _=>by
   have n1:eX (lD x)=true:=by unfold lD cD;simp[eX,cT]
   have n2:∀ds,pU (.tup (lD x::ds))=true:=fun _=>rfl
   simp[FP t x ls,tT,n1,n2]) _ ⟨none,rfl⟩
def kS(s:List Cell):List (List Int):=s.map fun c=>[c.1,c.2]
theorem A7:∀{a b:List Cell},kS a=kS b->a=b
 | [],[],_=>rfl
 | [],_::_,h=>by cases h
 | _::_,[],h=>by cases h
 | x::a,y::b,h=>by
  unfold kS at h
  rw[List.map_cons,List.map_cons] at h
  injection h with h1 h2
  injection h1 with h3 h4
  injection h4 with h5 _
  rw[A7 (a:=a) (b:=b) h2]
  obtain ⟨x1,x2⟩:=x
  obtain ⟨y1,y2⟩:=y
  dsimp only at h3 h5
  rw[h3,h5]
theorem BI:∀(s:List Cell),k6 (s.map cD)=some (kS s)
 | []=>rfl
 | c::s=>by
  rw[List.map_cons,k6,BI s]
  rfl
theorem sA(s:List Cell):t9 (tS s)=some (kS s):=BI s
def fq(L:List (List Cell×List b7)):List D:=L.flatMap fun z=>[tS z.1,bH z.2]
def sC(L:List (List Cell×List b7)):List (List (List Int)×D×D):=L.map fun z=>(kS z.1,tS z.1,bH z.2)
theorem lF:∀(L:List (List Cell×List b7)),eu (fq L)=some (sC L)
 | []=>rfl
 | z::L=>by
  show eu (tS z.1::bH z.2::fq L)=_
  rw[eu,sA,lF L]
  rfl
theorem BJ(L:List (List Cell×List b7))(b:List Cell):((sC L).map (·.1)).any (fun k=>decide (k=kS b))=L.any (·.1==b):=by
 unfold sC
 rw[List.map_map,List.any_map]
 congr 1
 funext z
 show decide (kS z.1=kS b)=(z.1==b)
 by_cases h:z.1=b
 ·rw[h];simp
 ·rw[decide_eq_false fun e=>h (A7 e)]
  exact(beq_eq_false_iff_ne.mpr h).symm
theorem BK(neg:Bool)(b:List Cell)(L:List (List Cell×List b7)):rQ neg (tS b) (.bU 2 (fq L)) = .ok (.bl (if neg then !L.any (·.1==b) else L.any (·.1==b))):=by
 simp only[rQ,sA,lF,BJ]
theorem nD(L:List (List Cell×List b7)):gQ (some (some (.bU 2 (fq L))))=some (fq L,sC L):=w5 rfl (lF L)
end Pk
end Qh
section Qj
namespace Pk
open L2 Dm
variable (t:i0)
def JA(cells:List Cell)(L:List (List Cell×List b7)):Prop:=(L.map (·.1)).Nodup/\∀z∈L,ck cells z.1
def Bound(cells:List Cell):Prop:=∀L,JA cells L->L.length<=900
theorem JA.ins{cells:List Cell}{L:List (List Cell×List b7)}(h:JA cells L){k:List Cell}{v:List b7}(S:ck cells k):JA cells (Fr.ins L k v):=by
 unfold Fr.ins
 split
 ·exact h
 ·rename_i hn
  refine⟨?_,fun z m=>?_⟩
  ·rw[List.map_append,List.nodup_append]
   refine⟨h.1,by simp,fun a ha b hb e=>hn ?_⟩
   have hb:b=k:=by simpa using hb
   obtain ⟨z,hz,rfl⟩:=List.mem_map.mp ha
   exact List.any_eq_true.mpr ⟨z,hz,by rw[e,hb];exact beq_self_eq_true _⟩
  ·walk_at"C"
   ·exact h.2 z m
   ·obtain rfl:=List.mem_singleton.mp m;exact S
theorem Qk{l m:List b7}(h:l.length+m.length<=1000):pV (bH l) (bH m) = .ok (bH (l++m)):=by
 have n:∀l:List b7,cT (l.map lD)=true:=fun l=>eZ fun d hd=>by obtain ⟨c,_,rfl⟩:=List.mem_map.mp hd;unfold lD cD;simp[eX,cT]
 unfold pV bH
 dsimp only
 simp[n,h]
theorem E7(L M:List (List Cell×List b7)):fq (L++M)=fq L++fq M:=by unfold fq;rw[List.flatMap_append]
theorem Dc{cells:List Cell}(bd:Bound cells)(a b c:D){row:List b7}(Ii:row.length<=900)(qs:List (b7×List Cell))(hq:∀q∈qs,ck cells q.2)(acc:List (List Cell×List b7))(ok:JA cells acc)(y z:Option D) :
  ∃y' z',cY (iZ 5 6) (Dm.cI (aQ (rQ true) (ak 6) (ak 2)) (CO 2 (ak 6) (aQ pV (ak 4) (bY 100 (aa (aX (ak 5)) av)))) bN) (qs.map fun q=>D.tup [lD q.1,tS q.2]) [some a,some b,some (.bU 2 (fq acc)),some c,some (bH row),y,z]=
   .nx [some a,some b,some (.bU 2 (fq (Fr.dI acc (qs.map fun q=>(q.2,row++[q.1]))))),some c,some (bH row),y',z']/\JA cells (Fr.dI acc (qs.map fun q=>(q.2,row++[q.1]))):=by
 obtain ⟨st',h1,y',z',h2,h3⟩:=kP (bind:=iZ 5 6) (F:=Dm.cI (aQ (rQ true) (ak 6) (ak 2)) (CO 2 (ak 6) (aQ pV (ak 4) (bY 100 (aa (aX (ak 5)) av)))) bN) (f:=fun q:b7×List Cell=>D.tup [lD q.1,tS q.2])
  (Q:=fun pre st=>∃y z,st=[some a,some b,some (.bU 2 (fq (Fr.dI acc (pre.map fun q=>(q.2,row++[q.1]))))),some c,some (bH row),y,z]/\JA cells (Fr.dI acc (pre.map fun q=>(q.2,row++[q.1])))) qs [] [some a,some b,some (.bU 2 (fq acc)),some c,some (bH row),y,z] (fun p x r e st ⟨y,z,hy,hk⟩=>by
  subst hy
  walk_at"F"
  have mx:x∈qs:=by rw[e];simp
  refine⟨[some a,some b,some (.bU 2 (fq (Fr.dI acc (p.map fun q=>(q.2,row++[q.1]))))),some c,some (bH row),some (lD x.1),some (tS x.2)],?_⟩
  generalize hM:Fr.dI acc (p.map fun q=>(q.2,row++[q.1]))=M at hk ⊢
  have W0:Fr.dI acc ((p++[x]).map fun q=>(q.2,row++[q.1]))=Fr.ins M x.2 (row++[x.1]):=by
   rw[List.map_append,Fr.su,hM];rfl
  rw[W0]
  have g:=BK true x.2 M
  have n1:eX (lD x.1)=true:=by unfold lD cD;simp[eX,cT]
  refine⟨[some a,some b,some (.bU 2 (fq (Fr.ins M x.2 (row++[x.1])))),some c,some (bH row),some (lD x.1),some (tS x.2)],rfl,?_,_,_,rfl,hk.ins (hq x mx)⟩
  cases BL:M.any (·.1==x.2) with
  | true=>
   rw[BL] at g
   rw[pX (iE (a:=tS x.2) (b:=.bU 2 (fq M)) rfl rfl g)]
   unfold Fr.ins
   rw[if_pos BL];rfl
  | false=>
   rw[BL] at g
   rw[xO (iE (a:=tS x.2) (b:=.bU 2 (fq M)) rfl rfl g)]
   have hv:(aQ pV (ak 4) (bY 100 (aa (aX (ak 5)) av))) [some a,some b,some (.bU 2 (fq M)),some c,some (bH row),some (lD x.1),some (tS x.2)] = .ok (bH (row++[x.1])):=
    iE (a:=bH row) (b:=bH [x.1]) rfl (by simp[n1]) (Qk (by simp;lia))
   unfold CO
   rw[hv]
   show (match gQ (some (some (.bU 2 (fq M)))) with | some z=>_ | none=>_)=_
   rw[nD]
   show Lu 2 _ (fq M,sC M) (tS x.2) (bH (row++[x.1]))=_
   unfold Lu
   rw[sA]
   dsimp only
   rw[if_pos ⟨by unfold sC;rw[List.length_map];have:=bd M hk;lia,by rw[BJ];exact BL,rfl⟩]
   unfold Fr.ins
   rw[if_neg (by rw[BL];decide),E7]
   rfl) ⟨y,z,rfl,ok⟩
 rw[List.nil_append] at h2 h3
 subst h2
 exact⟨y',z',h1,h3⟩
end Pk
end Qj
section Ql
namespace Pk
open L2 Dm
variable (t:i0)
theorem x6{cells s:List Cell}(S:ck cells s):∀q∈aZ cells s,ck cells q.2:=fun q m=>by
 unfold aZ at m
 obtain ⟨p,hp,rfl⟩:=List.mem_map.mp m
 exact S.row (row:=[p]) ⟨hp,trivial⟩
theorem JB{cells:List Cell}(hl:cells.length<=60)(bd:Bound cells)(L:List (List Cell×List b7))(hS:∀z∈L,ck cells z.1)(h60:∀z∈L,z.1.length<=60)(hr:∀z∈L,z.2.length<=900) :
  gD t [bH (aS cells),.bU 2 (fq L)] = .ok (.bU 2 (fq (Fr.dI [] (L.flatMap (Fr.ext (aZ cells))))))/\JA cells (Fr.dI [] (L.flatMap (Fr.ext (aZ cells)))):=by
 obtain ⟨st',h1,y,z,u,v,h2,h3⟩:=kP (bind:=iZ 3 4) (F:=dZ (eT (bz (eE t) (aa (ak 0) (aa (ak 3) av)))) (iZ 5 6) (Dm.cI (aQ (rQ true) (ak 6) (ak 2)) (CO 2 (ak 6) (aQ pV (ak 4) (bY 100 (aa (aX (ak 5)) av)))) bN)) (f:=fun z:List Cell×List b7=>D.tup [tS z.1,bH z.2])
  (Q:=fun pre st=>∃y z u v,st=[some (bH (aS cells)),some (.bU 2 (fq L)),some (.bU 2 (fq (Fr.dI [] (pre.flatMap (Fr.ext (aZ cells)))))),y,z,u,v]/\JA cells (Fr.dI [] (pre.flatMap (Fr.ext (aZ cells))))) L [] [some (bH (aS cells)),some (.bU 2 (fq L)),some (.bU 2 (fq [])),none,none,none,none] (fun p x r e st ⟨y,z,u,v,hy,hk⟩=>by
  subst hy
  walk_at"F"
  have mx:x∈L:=by rw[e];simp
  refine⟨[some (bH (aS cells)),some (.bU 2 (fq L)),some (.bU 2 (fq (Fr.dI [] (p.flatMap (Fr.ext (aZ cells)))))),some (tS x.1),some (bH x.2),u,v],?_⟩
  have hs:=M8 t (cells:=cells) (s:=x.1) (by lia) (h60 x mx)
  obtain ⟨y',z',g1,g2⟩:=Dc bd (bH (aS cells)) (.bU 2 (fq L)) (tS x.1) (hr x mx) (aZ cells x.1) (x6 (hS x mx)) _ hk u v
  have ee:Fr.dI [] ((p++[x]).flatMap (Fr.ext (aZ cells)))=Fr.dI (Fr.dI [] (p.flatMap (Fr.ext (aZ cells)))) ((aZ cells x.1).map fun q=>(q.2,x.2++[q.1])):=by
   rw[List.flatMap_append,Fr.su,List.flatMap_singleton];rfl
  rw[ee]
  refine⟨_,rfl,?_,some (tS x.1),some (bH x.2),y',z',rfl,g2⟩
  have hi:eT (bz (eE t) (aa (ak 0) (aa (ak 3) av))) [some (bH (aS cells)),some (.bU 2 (fq L)),some (.bU 2 (fq (Fr.dI [] (p.flatMap (Fr.ext (aZ cells)))))),some (tS x.1),some (bH x.2),u,v] = .ok ((aZ cells x.1).map fun q=>D.tup [lD q.1,tS q.2]):=by
   unfold eT
   rw[FI (a:=bH (aS cells)) (b:=tS x.1) rfl rfl hs]
  unfold dZ
  rw[hi]
  exact g1) ⟨none,none,none,none,rfl,⟨List.nodup_nil,fun z m=>nomatch m⟩⟩
 rw[List.nil_append] at h2 h3
 subst h2
 refine⟨?_,h3⟩
 unfold gD
 refine d8 [some (bH (aS cells)),some (.bU 2 (fq L)),none,none,none,none,none] ?_
 rw[aP (st':=[some (bH (aS cells)),some (.bU 2 (fq L)),some (.bU 2 (fq [])),none,none,none,none]) (cU rfl)]
 have hi:Fz (ak 1) [some (bH (aS cells)),some (.bU 2 (fq L)),some (.bU 2 (fq [])),none,none,none,none] = .ok (L.map fun z=>D.tup [tS z.1,bH z.2]):=by
  unfold Fz
  show (match gQ (some (some (.bU 2 (fq L)))) with | some y=>_ | none=>_)=_
  rw[nD]
  show R.ok ((sC L).map fun t=>D.tup [t.2.1,t.2.2])=_
  unfold sC
  rw[List.map_map];rfl
 rw[aP (F:=dZ (Fz (ak 1)) (iZ 3 4) _) (by unfold dZ;rw[hi];exact h1)]
 exact gB rfl
end Pk
end Ql
section Qm
namespace Pk
open L2 Dm
variable (t:i0)
theorem pR:∀{cells s:List Cell},bx cells->bx s->(∀c∈s,c∈cells)->s.Sublist cells
 | _,[],_,_,_=>List.nil_sublist _
 | [],a::s,_,_,h=>by cases h a (.head _)
 | x::r,a::s,hc,hs,h=>by
  have uy:=List.pairwise_cons.mp hc
  have BR:=List.pairwise_cons.mp hs
  by_cases e:a=x
  ·subst e
   refine List.Sublist.cons_cons a (pR uy.2 BR.2 fun c m=>?_)
   rcases List.mem_cons.mp (h c (.tail _ m)) with rfl | m'
   ·exact absurd (BR.1 _ m) (nv _)
   ·exact m'
  ·have ha:a∈r:=(List.mem_cons.mp (h a (.head _))).resolve_left e
   refine List.Sublist.cons x (pR uy.2 hs fun c m=>?_)
   rcases List.mem_cons.mp (h c m) with rfl | m'
   ·rcases List.mem_cons.mp m with z | m2
    ·exact absurd z.symm e
    ·exact absurd (yy (uy.1 _ ha) (BR.1 _ m2)) (nv _)
   ·exact m'
def subs:List Cell->List (List Cell)
 | []=>[[]]
 | c::l=>(subs l).map (c :: ·)++subs l
theorem x8:∀l,(subs l).length=2 ^ l.length
 | []=>rfl
 | c::l=>by rw[subs,List.length_append,List.length_map,x8 l,List.length_cons,Nat.pow_succ];lia
theorem sD:∀{l s:List Cell},s.Sublist l->s∈subs l
 | _,_,.slnil=>by simp[subs]
 | _,_,.cons c h=>by rw[subs];exact List.mem_append_right _ (sD h)
 | _,_,.cons_cons c h=>by rw[subs];exact List.mem_append_left _ (List.mem_map.mpr ⟨_,sD h,rfl⟩)
theorem len_sub:∀{l m:List (List Cell)},l.Nodup->(∀x∈l,x∈m)->l.length<=m.length
 | [],_,_,_=>Nat.zero_le _
 | a::l,m,hn,h=>by
  have yK:=List.nodup_cons.mp hn
  have ha:a∈m:=h a (.head _)
  have:=len_sub (l:=l) (m:=m.erase a) yK.2 fun x hx=>(List.mem_erase_of_ne fun e=>yK.1 (by rw[<- e];exact hx)).mpr (h x (.tail _ hx))
  rw[List.length_erase_of_mem ha] at this
  have pos:0 < m.length:=List.length_pos_of_mem ha
  rw[List.length_cons]
  lia
theorem JC{cells:List Cell}(up:bx cells)(hl:cells.length<=8):Bound cells:=fun L h=>by
 have au7:∀s∈L.map (·.1),s∈subs cells:=fun s m=>by
  obtain ⟨z,hz,rfl⟩:=List.mem_map.mp m
  exact sD (pR up (h.2 z hz).1 (h.2 z hz).2)
 have h1:=len_sub h.1 au7
 rw[List.length_map,x8] at h1
 have h2:2 ^ cells.length<=2 ^ 8:=Nat.pow_le_pow_right (by decide) hl
 have:(2:Nat) ^ 8=256:=rfl
 lia
end Pk
end Qm
section Qn
namespace Pk
open L2 Dm
variable (t:i0)
theorem E8:∀{X d:List (List Cell×List b7)} {z:List Cell×List b7},z∈Fr.dI d X->z∈d\/z∈X
 | [],d,z,h=>.inl h
 | p::X,d,z,h=>by
  have h:z∈Fr.dI (Fr.ins d p.1 p.2) X:=h
  rcases E8 h with h | h
  ·unfold Fr.ins at h
   split at h
   ·exact .inl h
   ·rcases List.mem_append.mp h with h | h
    ·exact .inl h
    ·obtain rfl:=List.mem_singleton.mp h;exact .inr (.head _)
  ·exact .inr (.tail _ h)
structure au8(cells ao:List Cell)(n:Nat)(z:List Cell×List b7):Prop where
 st:ck cells z.1
 len:z.1.length+n=ao.length
 row:z.2.length=n
theorem qM{cells ao:List Cell}(S:ck cells ao):∀n,∀z∈Fr.cg (aZ cells) ao n,au8 cells ao n z
 | 0,z,m=>by
  obtain rfl:=List.mem_singleton.mp (show z∈[(ao,[])] from m)
  exact⟨S,rfl,rfl⟩
 | n+1,z,m=>by
  rcases E8 (show z∈Fr.dI [] _ from m) with m | m
  ·cases m
  ·obtain ⟨w,hw,m⟩:=List.mem_flatMap.mp m
   have cw:=qM S n w hw
   unfold Fr.ext at m
   obtain ⟨q,hq,rfl⟩:=List.mem_map.mp m
   have Nl:=hq
   unfold aZ at Nl
   obtain ⟨p,hp,rfl⟩:=List.mem_map.mp Nl
   obtain ⟨_,_,_,o4⟩:=fG (row:=[p]) cw.st.1 cw.st.2 ⟨hp,trivial⟩
   have o4:(aK w.1 p).length+1=w.1.length:=by simpa[cy] using o4
   exact⟨x6 cw.st _ hq,by show (aK w.1 p).length+(n+1)=_;have:=cw.len;lia,by show (w.2++[p]).length=_;rw[List.length_append,cw.row];rfl⟩
theorem FQ(t:i0){cells ao:List Cell}(hl:cells.length<=60)(bd:Bound cells)(S:ck cells ao)(lp:ao.length<=60):∀n,JA cells (Fr.cg (aZ cells) ao n)
 | 0=>⟨by simp[Fr.cg],fun z m=>(qM S 0 z m).st⟩
 | n+1=>(JB t hl bd (Fr.cg (aZ cells) ao n) (fun z m=>(qM S n z m).st) (fun z m=>by have:=(qM S n z m).len;lia) (fun z m=>by have:=(qM S n z m).len;have:=(qM S n z m).row;lia)).2
def fP(cells ao:List Cell):Nat->List (List Cell×List b7)
 | 0=>[]
 | n+1=>fP cells ao n++Fr.cg (aZ cells) ao n
theorem x9{cells ao:List Cell}:∀{n:Nat} {z},z∈fP cells ao n->∃k,k < n/\z∈Fr.cg (aZ cells) ao k
 | n+1,z,m=>by
  rcases List.mem_append.mp (show z∈fP cells ao n++_ from m) with m | m
  ·obtain ⟨k,hk,h⟩:=x9 m;exact⟨k,by lia,h⟩
  ·exact⟨n,by lia,m⟩
theorem xg{cells ao:List Cell}(S:ck cells ao){n:Nat}:∀z∈Fr.cg (aZ cells) ao n,z.1∉(fP cells ao n).map (·.1):=fun z m h=>by
 obtain ⟨w,hw,e⟩:=List.mem_map.mp h
 obtain ⟨k,hk,hw⟩:=x9 hw
 have h1:=(qM S k w hw).len
 have h2:=(qM S n z m).len
 have e:w.1=z.1:=e
 rw[e] at h1
 lia
theorem E9(t:i0){cells ao:List Cell}(hl:cells.length<=60)(bd:Bound cells)(S:ck cells ao)(lp:ao.length<=60):∀n,JA cells (fP cells ao n)
 | 0=>⟨by simp[fP],fun z m=>nomatch m⟩
 | n+1=>by
  have h1:=E9 t hl bd S lp n
  have h2:=FQ t hl bd S lp n
  refine⟨?_,fun z m=>?_⟩
  ·show ((fP cells ao n++Fr.cg (aZ cells) ao n).map (·.1)).Nodup
   rw[List.map_append,List.nodup_append]
   exact⟨h1.1,h2.1,fun a ha b hb e=>by
    obtain ⟨z,hz,rfl⟩:=List.mem_map.mp hb
    exact xg S z hz (by rw[<- e];exact ha)⟩
  ·rcases List.mem_append.mp (show z∈fP cells ao n++Fr.cg (aZ cells) ao n from m) with m | m
   ·exact h1.2 z m
   ·exact h2.2 z m
end Pk
end Qn
section Qo
namespace Pk
open L2 Dm
variable (t:i0)
theorem FT(L:List (List Cell×List b7)):qg [.bU 2 (fq L)] = .ok (.int (L.length:Nat)):=by
 simp only[qg,lF,sC,List.length_map]
theorem M9{L M:List (List Cell×List b7)}{st:dh}{i:Nat}{f:DF}(hi:st[i]?=some (some (.bU 2 (fq L))))(hf:f st = .ok (.bU 2 (fq M)))(hz:L.length+M.length<=1000)(Rk:∀z∈M,z.1∉L.map (·.1))(iy:L=[]->M.length<=1) :
  Fx i f st = .nx (st.set i (some (.bU 2 (fq (L++M))))):=by
 unfold Fx
 rw[hi,nD]
 dsimp only
 rw[hf]
 dsimp only
 rw[nD]
 dsimp only
 rw[if_pos,E7]
 refine⟨by unfold sC;rw[List.length_map,List.length_map];exact hz,fun k mk hk=>?_,fun e=>?_⟩
 ·unfold sC at mk hk
  rw[List.map_map] at mk hk
  obtain ⟨z,hz,rfl⟩:=List.mem_map.mp mk
  obtain ⟨w,hw,e⟩:=List.mem_map.mp hk
  exact Rk z hz (List.mem_map.mpr ⟨w,hw,A7 e⟩)
 ·unfold sC at e ⊢
  rw[List.length_map]
  exact iy (List.map_eq_nil_iff.mp e)
theorem qN{cells ao:List Cell}{n:Nat}(h:Fr.cg (aZ cells) ao n=[]):∀k,Fr.cg (aZ cells) ao (n+k)=[]
 | 0=>h
 | k+1=>by
  show Fr.cg (aZ cells) ao (n+k+1)=[]
  rw[Fr.cg,qN h k];rfl
theorem yG{cells ao:List Cell}{n:Nat}(h:Fr.cg (aZ cells) ao n=[]):∀k,fP cells ao (n+k)=fP cells ao n
 | 0=>rfl
 | k+1=>by
  show fP cells ao (n+k)++Fr.cg (aZ cells) ao (n+k)=_
  rw[qN h k,List.append_nil,yG h k]
def JD:DF:=aQ L4 (bz qg (aa (ak 4) av)) (dC (.int 0))
def fBody(t:i0):DS:=b9 (Fx 3 (ak 4)) (bO 4 (bz (gD t) (aa (ak 2) (aa (ak 4) av))))
theorem xh(t:i0){cells ao:List Cell}(hl:cells.length<=60)(bd:Bound cells)(S:ck cells ao)(lp:ao.length<=60)(a b:D):∀(k n fuel:Nat),n+k=ao.length+1->k < fuel->
  jZ JD (fBody t) fuel [some a,some b,some (bH (aS cells)),some (.bU 2 (fq (fP cells ao n))),some (.bU 2 (fq (Fr.cg (aZ cells) ao n)))]=
   .nx [some a,some b,some (bH (aS cells)),some (.bU 2 (fq (fP cells ao (ao.length+1)))),some (.bU 2 (fq []))]
 | k,n,0,_,h=>by lia
 | k,n,fuel+1,e,h=>by
  have ht:JD [some a,some b,some (bH (aS cells)),some (.bU 2 (fq (fP cells ao n))),some (.bU 2 (fq (Fr.cg (aZ cells) ao n)))] = .ok (.bl (decide ((0:Int) < ((Fr.cg (aZ cells) ao n).length:Nat)))):=
   iE (a:=.int ((Fr.cg (aZ cells) ao n).length:Nat)) (b:=.int 0) (LJ (a:=.bU 2 (fq (Fr.cg (aZ cells) ao n))) rfl (FT _)) rfl rfl
  rw[jZ,ht]
  cases hL:Fr.cg (aZ cells) ao n with
  | nil=>
   have:=yG hL k
   rw[e] at this
   rw[this]
   rfl
  | cons z0 r0=>
   rw[<- hL]
   have UP:decide ((0:Int) < ((Fr.cg (aZ cells) ao n).length:Nat))=true:=by rw[hL];simp
   rw[UP]
   dsimp only
   have hn:n<=ao.length:=by
    have:=(qM S n z0 (by rw[hL];exact .head _)).len
    lia
   cases k with
   | zero=>lia
   | succ k=>
    have kb:=bd _ (E9 t hl bd S lp (n+1))
    have kb:(fP cells ao n++Fr.cg (aZ cells) ao n).length<=900:=kb
    rw[List.length_append] at kb
    have hnx:=(JB t hl bd (Fr.cg (aZ cells) ao n) (fun z m=>(qM S n z m).st) (fun z m=>by have:=(qM S n z m).len;lia) (fun z m=>by have:=(qM S n z m).len;have:=(qM S n z m).row;lia)).1
    have hb:fBody t [some a,some b,some (bH (aS cells)),some (.bU 2 (fq (fP cells ao n))),some (.bU 2 (fq (Fr.cg (aZ cells) ao n)))] = .nx [some a,some b,some (bH (aS cells)),some (.bU 2 (fq (fP cells ao (n+1)))),some (.bU 2 (fq (Fr.cg (aZ cells) ao (n+1))))]:=by
     unfold fBody
     rw[aP (M9 (i:=3) (f:=ak 4) rfl rfl (by lia) (xg S) (fun z=>by
      cases n with
      | zero=>simp[Fr.cg]
      | succ n=>
       exfalso
       have hnn:Fr.cg (aZ cells) ao n=[]:=by
        have:fP cells ao n++Fr.cg (aZ cells) ao n=[]:=z
        exact(List.append_eq_nil_iff.mp this).2
       have:=qN hnn 1
       rw[hL] at this;cases this))]
     exact cU (FI (a:=bH (aS cells)) (b:=.bU 2 (fq (Fr.cg (aZ cells) ao n))) rfl rfl hnx)
    rw[hb]
    dsimp only
    exact xh t hl bd S lp a b k (n+1) fuel (by lia) (by lia)
theorem JE{cells ao:List Cell}(hl:cells.length<=60)(bd:Bound cells)(S:ck cells ao)(lp:ao.length<=30):gY t [bB cells,aB ao] = .ok (.bU 2 (fq (fP cells ao (ao.length+1)))):=by
 have h:=xh t hl bd S (by lia) (bB cells) (aB ao) (ao.length+1) 0 40 (by lia) (by lia)
 have h0:Bf (bz ie (aa (ak 1) av)) (bY 100 av) [some (bB cells),some (aB ao),some (bH (aS cells)),some (.bU 2 (fq [])),none] = .ok (.bU 2 (fq [(ao,[])])):=by
  have h1:(bz ie (aa (ak 1) av)) [some (bB cells),some (aB ao),some (bH (aS cells)),some (.bU 2 (fq [])),none] = .ok (tS ao):=LJ (a:=aB ao) rfl (tT _)
  unfold Bf
  rw[h1]
  dsimp only
  rw[show (bY 100 av) [some (bB cells),some (aB ao),some (bH (aS cells)),some (.bU 2 (fq [])),none] = .ok (.lst []) from rfl]
  dsimp only
  rw[sA]
  rfl
 unfold gY
 refine d8 [some (bB cells),some (aB ao),none,none,none] ?_
 rw[aP (st':=[some (bB cells),some (aB ao),some (bH (aS cells)),none,none]) (cU (LJ (a:=bB cells) rfl (M7 t (by lia)))),
  aP (st':=[some (bB cells),some (aB ao),some (bH (aS cells)),some (.bU 2 (fq [])),none]) (cU rfl),
  aP (st':=[some (bB cells),some (aB ao),some (bH (aS cells)),some (.bU 2 (fq [])),some (.bU 2 (fq [(ao,[])]))]) (cU h0)]
 show b9 (jZ JD (fBody t) 40) (eS (ak 3)) [some (bB cells),some (aB ao),some (bH (aS cells)),some (.bU 2 (fq (fP cells ao 0))),some (.bU 2 (fq (Fr.cg (aZ cells) ao 0)))]=_
 rw[aP h]
 exact gB rfl
end Pk
end Qo
section Qp
namespace Pk
open L2 Dm
variable (t:i0)
theorem qO{cells:List Cell}:∀{row:List b7} {ao:List Cell},nG cells ao row->(Fr.rows (aZ cells) row.length ao).any (·.1==cy ao row)=true
 | [],ao,_=>by show ([(ao,[])]:List (List Cell×List b7)).any _=true;simp[cy]
 | p::row,ao,h=>by
  rw[List.length_cons,Fr.sy,List.any_eq_true]
  refine⟨(p,aK ao p),?_,?_⟩
  ·unfold aZ;exact List.mem_map.mpr ⟨p,h.1,rfl⟩
  ·exact qO h.2
theorem BN{cells ao:List Cell}(S:ck cells ao){s:List Cell}{n:Nat}(hn:s.length+n=ao.length):∀N,n < N->(fP cells ao N).lookup s=(Fr.cg (aZ cells) ao n).lookup s
 | N+1,h=>by
  show (fP cells ao N++Fr.cg (aZ cells) ao N).lookup s=_
  rw[List.lookup_append]
  have no:∀k,k≠n->(Fr.cg (aZ cells) ao k).lookup s=none:=fun k hk=>Fr.lE _ _ (by
   rw[Bool.eq_false_iff]
   intro z
   obtain ⟨w,hw,e⟩:=List.any_eq_true.mp z
   have e:=eq_of_beq e
   have:=(qM S k w hw).len
   rw[e] at this
   lia)
  by_cases e:N=n
  ·subst e
   have:(fP cells ao N).lookup s=none:=Fr.lE _ _ (by
    rw[Bool.eq_false_iff]
    intro z
    obtain ⟨w,hw,e⟩:=List.any_eq_true.mp z
    have e:=eq_of_beq e
    obtain ⟨k,hk,hw⟩:=x9 hw
    have:=(qM S k w hw).len
    rw[e] at this
    lia)
   rw[this];rfl
  ·rw[no N e,BN S hn N (by lia)]
   cases (Fr.cg (aZ cells) ao n).lookup s <;> rfl
theorem yH:∀{L:List (List Cell×List b7)} {s:List Cell} {r:List b7},L.lookup s=some r->(sC L).find? (fun z=>decide (z.1=kS s))=some (kS s,tS s,bH r)
 | z::L,s,r,h=>by
  rw[List.lookup_cons] at h
  show List.find? _ ((kS z.1,tS z.1,bH z.2)::sC L)=_
  by_cases e:s=z.1
  ·subst e
   rw[beq_self_eq_true] at h
   cases h
   rw[List.find?_cons_of_pos (by simp)]
  ·rw[show (s==z.1)=false by simpa using e] at h
   rw[List.find?_cons_of_neg (by simp;exact fun w=>e (A7 w).symm)]
   exact yH h
theorem Ma{L:List (List Cell×List b7)}{s:List Cell}{r:List b7}(h:L.lookup s=some r):qh (.bU 2 (fq L)) (tS s) = .ok (bH r):=by
 simp only[qh,sA,lF,yH h]
 rfl
theorem JF{cells ao:List Cell}{row:List b7}(hl:cells.length<=60)(bd:Bound cells)(S:ck cells ao)(lp:ao.length<=30)(ok:nG cells ao row) :
  ju t [bB cells,aB ao,aB (cy ao row)] = .ok (.tup [.str "leaps",bH (Fr.first (aZ cells) (cy ao row) row.length ao)]):=by
 obtain ⟨w1,w2,w3,w4⟩:=fG S.1 S.2 ok
 have Ii:=qO ok
 have hlk:(fP cells ao (ao.length+1)).lookup (cy ao row)=some (Fr.first (aZ cells) (cy ao row) row.length ao):=by
  rw[BN S w4 _ (by lia),Fr.D7]
  exact Fr.wX _ _ _ _ Ii
 generalize hW:cy ao row=W at *
 have SW:ck cells W:=⟨w1,w2⟩
 have lW:W.length<=30:=by lia
 have c1:=(wZ t (cells:=cells) (ao:=ao) (by lia)).1 S
 have c2:=(wZ t (cells:=cells) (ao:=W) (by lia)).1 SW
 have k1:=E5 t (cells:=cells) (ao:=ao) (by lia) S
 have k2:=E5 t (cells:=cells) (ao:=W) (by lia) SW
 have hf:=JE t hl bd S lp
 have JL:(fP cells ao (ao.length+1)).any (·.1==W)=true:=by
  cases hz:(fP cells ao (ao.length+1)).any (·.1==W) with
  | true=>rfl
  | false=>rw[Fr.lE _ _ hz] at hlk;cases hlk
 unfold ju
 refine d8 [some (bB cells),some (aB ao),some (aB W),none] ?_
 have d1:(bz (bZ t) (aa (ak 0) (aa (ak 1) av))) [some (bB cells),some (aB ao),some (aB W),none] = .ok .cz:=FI (a:=bB cells) (b:=aB ao) rfl rfl c1
 have d2:(bz (bZ t) (aa (ak 0) (aa (ak 2) av))) [some (bB cells),some (aB ao),some (aB W),none] = .ok .cz:=FI (a:=bB cells) (b:=aB W) rfl rfl c2
 rw[aP (st':=[some (bB cells),some (aB ao),some (aB W),none]) (by unfold u9;rw[d1]),aP (st':=[some (bB cells),some (aB ao),some (aB W),none]) (by unfold u9;rw[d2]),
  aP (st':=[some (bB cells),some (aB ao),some (aB W),none]) (by
   rw[pX (iE (a:=FO ao) (b:=FO W) (FI (a:=bB cells) (b:=aB ao) rfl rfl k1) (FI (a:=bB cells) (b:=aB W) rfl rfl k2) (by rw[Js];simp[w3]))];rfl),
  aP (st':=[some (bB cells),some (aB ao),some (aB W),some (.bU 2 (fq (fP cells ao (ao.length+1))))]) (cU (FI (a:=bB cells) (b:=aB ao) rfl rfl hf))]
 have hg:=BK false W (fP cells ao (ao.length+1))
 rw[JL] at hg
 have tW:(bz ie (aa (ak 2) av)) [some (bB cells),some (aB ao),some (aB W),some (.bU 2 (fq (fP cells ao (ao.length+1))))] = .ok (tS W):=LJ (a:=aB W) rfl (tT _)
 have hr:Dm.cI (aQ (rQ false) (bz ie (aa (ak 2) av)) (ak 3)) (eS (Be "leaps" (aQ qh (ak 3) (bz ie (aa (ak 2) av))))) bN [some (bB cells),some (aB ao),some (aB W),some (.bU 2 (fq (fP cells ao (ao.length+1))))] = .rt (.tup [.str "leaps",bH (Fr.first (aZ cells) W row.length ao)]):=by
  rw[xO (iE (a:=tS W) (b:=.bU 2 (fq (fP cells ao (ao.length+1)))) tW rfl hg)]
  refine gB ?_
  unfold Be
  rw[iE (a:=.bU 2 (fq (fP cells ao (ao.length+1)))) (b:=tS W) rfl tW (Ma hlk)]
 unfold b9
 rw[hr]
end Pk
end Qp
section Qq
namespace Pk
open L2 Dm
variable (t:i0)
theorem xj:∀(a b:List Cell),cP (a.map cD) (b.map cD)=decide (a=b)
 | [],[]=>by simp[cP]
 | [],_::_=>by simp[cP]
 | _::_,[]=>by simp[cP]
 | x::a,y::b=>by
  rw[List.map_cons,List.map_cons,cP,xj a b]
  have:fU (cD x) (cD y)=decide (x=y):=by
   obtain ⟨x1,x2⟩:=x
   obtain ⟨y1,y2⟩:=y
   unfold cD
   simp only[fU,cP,Bool.and_true]
   rw[Bool.eq_iff_iff]
   simp
  rw[this,Bool.eq_iff_iff]
  simp
theorem A8(a b:List Cell):fU (aB a) (aB b)=decide (a=b):=by unfold aB;rw[fU];exact xj a b
def j7(F:List (List Cell)):D:=.lst (F.map aB)
theorem Ea(neg:Bool)(s:List Cell)(F:List (List Cell)):j8 neg (aB s) (j7 F) = .ok (.bl (if neg then !decide (s∈F) else decide (s∈F))):=by
 have fl:∀a:List Cell,flat (aB a)=true:=fun a=>by
  unfold aB;rw[flat]
  exact f9 fun d hd=>by obtain ⟨c,_,rfl⟩:=List.mem_map.mp hd;unfold cD;simp[flat,bW]
 have dp:∀a:List Cell,dep (aB a)<=2:=fun a=>by
  have:=sd a
  unfold aB;rw[dep];lia
 unfold j8 j7
 dsimp only
 rw[if_pos (by
  simp only[Bool.and_eq_true,decide_eq_true_eq]
  refine⟨⟨fl s,f9 fun d hd=>by obtain ⟨c,_,rfl⟩:=List.mem_map.mp hd;exact fl c⟩,Nat.le_trans (lK (n:=2) fun d hd=>by obtain ⟨c,_,rfl⟩:=List.mem_map.mp hd;exact dp c) (by decide)⟩)]
 have e:(F.map aB).any (fun e=>fU e (aB s))=decide (s∈F):=by
  rw[List.any_map,Bool.eq_iff_iff,List.any_eq_true,decide_eq_true_iff]
  constructor
  ·rintro ⟨x,hx,h⟩
   have h:fU (aB x) (aB s)=true:=h
   rw[A8,decide_eq_true_iff] at h
   exact h▸hx
  ·intro h
   exact⟨s,h,by show fU (aB s) (aB s)=true;rw[A8];simp⟩
 rw[e]
end Pk
end Qq
section Qs
namespace Pk
open L2 Dm
variable (t:i0)
def Eb(cells s u:List Cell):Prop:=∃row,nG cells s row/\cy s row=u
theorem Eb.pY{cells s u:List Cell}(S:ck cells s)(h:Eb cells s u):ck cells u:=by
 obtain ⟨row,ok,e⟩:=h
 rw[<- e];exact S.row ok
theorem Eb.snoc{cells s u:List Cell}(h:Eb cells s u){p:b7}(hp:p∈sj cells u):Eb cells s (aK u p):=by
 obtain ⟨row,ok,e⟩:=h
 subst e
 exact⟨row++[p],zX ok hp,yC ..⟩
def W2(cells:List Cell):Prop:=∀F:List (List Cell),F.Nodup->(∀s∈F,ck cells s)->F.length<=256
theorem Ec{cells:List Cell}(up:bx cells)(hl:cells.length<=8):W2 cells:=fun F nd h=>by
 have h1:=len_sub nd fun s m=>sD (pR up (h s m).1 (h s m).2)
 rw[x8] at h1
 have h2:2 ^ cells.length<=2 ^ 8:=Nat.pow_le_pow_right (by decide) hl
 have:(2:Nat) ^ 8=256:=rfl
 lia
structure JG(cells ao:List Cell)(F:List (List Cell)):Prop where
 nd:F.Nodup
 Rf:∀s∈F,Eb cells ao s
 hd:ao∈F
def BO(t:i0):DS:=(b9 (bO 5 (bz (bG t) (aa (aQ cQ (ak 2) (ak 3)) (aa (ak 4) av))))
 (Dm.cI (aQ (j8 true) (ak 5) (ak 2))
 (i9 2 (ak 5))
 bN))
theorem Ed{F:List (List Cell)}{a:Nat}{s:List Cell}(h:F[a]?=some s):cQ (j7 F) (.int (a:Int)) = .ok (aB s):=uT (by rw[List.getElem?_map,h];rfl)
theorem BP{cells ao s:List Cell}(mn:W2 cells)(S:ck cells ao)(ls:s.length<=60){a:Nat}(ps:List b7)(hp:∀p∈ps,p∈sj cells s){F:List (List Cell)}(hs:F[a]?=some s)(I:JG cells ao F)(y z:Option D) :
  ∃F' y' z',cY (bX 4) (BO t) (ps.map lD) [some (aB cells),some (aB ao),some (j7 F),some (.int (a:Nat)),y,z]=
   .nx [some (aB cells),some (aB ao),some (j7 F'),some (.int (a:Nat)),y',z']/\JG cells ao F'/\F <+: F'/\∀p∈ps,aK s p∈F':=by
 obtain ⟨st',h1,F',y',z',h2,h3,h4,h5⟩:=kP (bind:=bX 4) (F:=BO t) (f:=lD)
  (Q:=fun pre st=>∃F' y z,st=[some (aB cells),some (aB ao),some (j7 F'),some (.int (a:Nat)),y,z]/\JG cells ao F'/\F <+: F'/\∀p∈pre,aK s p∈F') ps [] [some (aB cells),some (aB ao),some (j7 F),some (.int (a:Nat)),y,z] (fun pre x r e st ⟨M,y,z,hy,hI,AD,kR⟩=>by
  subst hy
  walk_at"F"
  have mx:x∈ps:=by rw[e];simp
  have hM:M[a]?=some s:=by
   obtain ⟨T,rfl⟩:=AD
   rw[List.getElem?_append_left (List.getElem?_eq_some_iff.mp hs).1];exact hs
  have hb:(bz (bG t) (aa (aQ cQ (ak 2) (ak 3)) (aa (ak 4) av))) [some (aB cells),some (aB ao),some (j7 M),some (.int (a:Nat)),some (lD x),z] = .ok (aB (aK s x)):=
   FI (a:=aB s) (b:=lD x) (iE (a:=j7 M) (b:=.int (a:Nat)) rfl rfl (Ed hM)) rfl (tR t x ls)
  refine⟨[some (aB cells),some (aB ao),some (j7 M),some (.int (a:Nat)),some (lD x),z],?_⟩
  have g:=Ea true (aK s x) M
  by_cases JL:aK s x∈M
  ·refine⟨[some (aB cells),some (aB ao),some (j7 M),some (.int (a:Nat)),some (lD x),some (aB (aK s x))],rfl,?_,M,_,_,rfl,hI,AD,fun p m=>?_⟩
   ·unfold BO
    rw[aP (cU hb)]
    rw[decide_eq_true JL] at g
    rw[pX (iE (a:=aB (aK s x)) (b:=j7 M) rfl rfl g)]
    rfl
   ·walk_at"C"
    ·exact kR p m
    ·obtain rfl:=List.mem_singleton.mp m;exact JL
  ·have BR:s∈M:=List.mem_of_getElem? hM
   have hR:Eb cells ao (aK s x):=(hI.Rf s BR).snoc (hp x mx)
   refine⟨[some (aB cells),some (aB ao),some (j7 (M++[aK s x])),some (.int (a:Nat)),some (lD x),some (aB (aK s x))],rfl,?_,M++[aK s x],_,_,rfl,⟨?_,fun u m=>?_,List.mem_append_left _ hI.hd⟩,?_,fun p m=>?_⟩
   ·unfold BO
    rw[aP (cU hb)]
    rw[decide_eq_false JL] at g
    rw[xO (iE (a:=aB (aK s x)) (b:=j7 M) rfl rfl g)]
    have hlen:=mn M hI.nd fun u m=>(hI.Rf u m).pY S
    unfold i9 j7
    show (if (M.map aB).length<=1000 then _ else _)=_
    rw[if_pos (by rw[List.length_map];lia),List.map_append]
    rfl
   ·rw[List.nodup_append]
    exact⟨hI.nd,by simp,fun u hu v hv e=>by obtain rfl:=List.mem_singleton.mp hv;subst e;exact JL hu⟩
   ·walk_at"C"
    ·exact hI.Rf u m
    ·obtain rfl:=List.mem_singleton.mp m;exact hR
   ·exact AD.trans (List.prefix_append ..)
   ·walk_at"C"
    ·exact List.mem_append_left _ (kR p m)
    ·obtain rfl:=List.mem_singleton.mp m;exact List.mem_append_right _ (.head _)) ⟨F,y,z,rfl,I,List.prefix_refl _,fun p m=>nomatch m⟩
 rw[List.nil_append] at h5
 subst h2
 exact⟨F',y',z',h1,h3,h4,h5⟩
def JH:DF:=aQ UH (ak 3) (bz jX (aa (ak 2) av))
def Mb(t:i0):DS:=(b9 (dZ (eT (bz (bR t) (aa (ak 0) (aa (aQ cQ (ak 2) (ak 3)) av)))) (bX 4) (BO t)) (bO 3 (aQ gf (ak 3) (dC (.int 1)))))
theorem xm{cells ao:List Cell}(up:bx cells)(hl:cells.length<=8)(iy:(aS cells).length < 64)(S:ck cells ao)(lp:ao.length<=60):∀(fuel a:Nat) (F:List (List Cell)) (y z:Option D),JG cells ao F->a<=F.length->256 < a+fuel->(∀j s,j < a->F[j]?=some s->∀p∈sj cells s,aK s p∈F)->
  ∃F' x y' z',jZ JH (Mb t) fuel [some (aB cells),some (aB ao),some (j7 F),some (.int (a:Nat)),y,z] = .nx [some (aB cells),some (aB ao),some (j7 F'),x,y',z']/\JG cells ao F'/\∀s∈F',∀p∈sj cells s,aK s p∈F'
 | 0,a,F,y,z,I,ha,hf,_=>by
  have:=Ec up hl F I.nd fun u m=>(I.Rf u m).pY S
  lia
 | fuel+1,a,F,y,z,I,ha,hf,hd=>by
  have ht:JH [some (aB cells),some (aB ao),some (j7 F),some (.int (a:Nat)),y,z] = .ok (.bl (decide (a < F.length))):=by
   refine(iE (a:=.int (a:Nat)) (b:=.int (F.length:Nat)) rfl (LJ (a:=j7 F) rfl ?_) rfl).trans ?_
   ·unfold j7;rw[PF,List.length_map]
   ·have:decide (((a:Nat):Int) < ((F.length:Nat):Int))=decide (a < F.length):=by rw[Bool.eq_iff_iff];simp
    rw[at9,this]
  rw[jZ,ht]
  by_cases gG:a < F.length
  ·rw[decide_eq_true gG]
   dsimp only
   have hs:F[a]?=some F[a]:=List.getElem?_eq_getElem gG
   generalize F[a]=s at hs
   have hR:Eb cells ao s:=I.Rf s (List.mem_of_getElem? hs)
   have Ss:=hR.pY S
   have ls:s.length<=60:=by
    obtain ⟨row,ok,e⟩:=hR
    have:=(fG S.1 S.2 ok).2.2.2
    rw[e] at this
    lia
   obtain ⟨F',y',z',h1,h2,h3,h4⟩:=BP t (Ec up hl) S ls (sj cells s) (fun p m=>m) hs I y z
   have hi:eT (bz (bR t) (aa (ak 0) (aa (aQ cQ (ak 2) (ak 3)) av))) [some (aB cells),some (aB ao),some (j7 F),some (.int (a:Nat)),y,z] = .ok ((sj cells s).map lD):=by
    unfold eT
    rw[FI (a:=aB cells) (b:=aB s) rfl (iE (a:=j7 F) (b:=.int (a:Nat)) rfl rfl (Ed hs)) (A0 t up (by lia) iy)]
   have hb:Mb t [some (aB cells),some (aB ao),some (j7 F),some (.int (a:Nat)),y,z] = .nx [some (aB cells),some (aB ao),some (j7 F'),some (.int ((a+1:Nat))),y',z']:=by
    unfold Mb
    rw[aP (F:=dZ _ _ _) (by unfold dZ;rw[hi];exact h1)]
    exact cU rfl
   rw[hb]
   dsimp only
   have v7:=h3.length_le
   refine xm up hl iy S lp fuel (a+1) F' y' z' h2 (by lia) (by lia) fun j u hj hu p hp=>?_
   have Rp:F[j]?=some u:=by
    obtain ⟨T,rfl⟩:=h3
    rw[List.getElem?_append_left (by lia)] at hu;exact hu
   by_cases e:j=a
   ·subst e
    rw[hs] at Rp;cases Rp
    exact h4 p hp
   ·exact h3.subset (hd j u (by lia) Rp p hp)
  ·rw[decide_eq_false gG]
   refine⟨F,_,_,_,rfl,I,fun s m p hp=>?_⟩
   obtain ⟨j,hj,e⟩:=List.getElem_of_mem m
   exact hd j s (by lia) (by rw[List.getElem?_eq_getElem hj,e]) p hp
theorem Ef{cells:List Cell}{F:List (List Cell)}(h:∀s∈F,∀p∈sj cells s,aK s p∈F):∀{row:List b7} {s:List Cell},s∈F->nG cells s row->cy s row∈F
 | [],s,m,_=>m
 | p::row,s,m,ok=>Ef h (row:=row) (h s m p ok.1) ok.2
theorem Mc{cells ao:List Cell}(up:bx cells)(hl:cells.length<=8)(iy:(aS cells).length < 64)(S:ck cells ao)(lp:ao.length<=60):∃F,eG t [aB cells,aB ao] = .ok (j7 F)/\∀s,s∈F↔Eb cells ao s:=by
 obtain ⟨F,x,y,z,h1,h2,h3⟩:=xm t up hl iy S lp 600 0 [ao] none none ⟨by simp,fun s m=>by obtain rfl:=List.mem_singleton.mp m;exact⟨[],trivial,rfl⟩,.head _⟩ (by simp) (by decide) (fun j s hj=>by lia)
 refine⟨F,?_,fun s=>⟨h2.Rf s,fun ⟨row,ok,e⟩=>by rw[<- e];exact Ef h3 h2.hd ok⟩⟩
 unfold eG
 refine d8 [some (aB cells),some (aB ao),none,none,none,none] ?_
 rw[aP (st':=[some (aB cells),some (aB ao),some (j7 [ao]),none,none,none]) (cU (by simp[j7])),
  aP (st':=[some (aB cells),some (aB ao),some (j7 [ao]),some (.int (0:Nat)),none,none]) (cU rfl)]
 show b9 (jZ JH (Mb t) 600) _ _=_
 rw[aP h1]
 exact gB rfl
end Pk
end Qs
section Qt
namespace Pk
open L2 Dm
variable (t:i0)
theorem uu{cells:List Cell}{u:List Cell}:∀{n:Nat} {s:List Cell},(Fr.rows (aZ cells) n s).any (·.1==u)=true->Eb cells s u
 | 0,s,h=>by
  have:s=u:=by simpa[Fr.rows] using h
  exact⟨[],trivial,this⟩
 | n+1,s,h=>by
  rw[Fr.sy,List.any_eq_true] at h
  obtain ⟨q,hq,h⟩:=h
  unfold aZ at hq
  obtain ⟨p,hp,rfl⟩:=List.mem_map.mp hq
  obtain ⟨row,ok,e⟩:=uu h
  exact⟨p::row,⟨hp,ok⟩,e⟩
theorem BQ{cells s u:List Cell}{n:Nat}(S:ck cells s)(hn:u.length+n=s.length):(Fr.rows (aZ cells) n s).any (·.1==u)=true↔Eb cells s u:=⟨uu,fun ⟨row,ok,e⟩=>by
 have:=(fG S.1 S.2 ok).2.2.2
 rw[e] at this
 have hr:row.length=n:=by lia
 rw[<- hr,<- e]
 exact qO ok⟩
theorem Qu{f:DF}{st:dh}{i:Nat}{ds:List D}{d:D}(hi:st[i]?=some (some (.lst ds)))(hf:f st = .ok d)(hl:ds.length<=1000):i9 i f st = .nx (st.set i (some (.lst (ds++[d])))):=by
 unfold i9
 rw[hi]
 dsimp only
 rw[hf]
 dsimp only
 rw[if_pos hl]
def yI(t:i0):DS:=(b9 (bO 6 (bz (bG t) (aa (ak 3) (aa (ak 5) av))))
 (Dm.cI (aQ (j8 false) (ak 2) (bz (eG t) (aa (ak 0) (aa (ak 6) av))))
 (b9 (i9 4 (aX (ak 5)))
 (b9 (bO 3 (ak 6))
 zw))
 bN))
theorem uv{b:D}{cells s u:List Cell}{acc:List b7}(up:bx cells)(hl:cells.length<=8)(iy:(aS cells).length < 64)(S:ck cells s)(ls:s.length<=60)(la:acc.length<=1000)(g:b7->Bool)(hg:∀p∈sj cells s,g p=true↔Eb cells (aK s p) u){q:b7} :
  ∀(ps:List b7),(∀p∈ps,p∈sj cells s)->ps.find? g=some q->∀(y z:Option D),∃y' z',cY (bX 5) (yI t) (ps.map lD) [some (aB cells),some b,some (aB u),some (aB s),some (bH acc),y,z] = .nx [some (aB cells),some b,some (aB u),some (aB (aK s q)),some (bH (acc++[q])),y',z']
 | [],_,h,_,_=>by cases h
 | p::ps,hp,h,y,z=>by
  have mp:p∈sj cells s:=hp p (.head _)
  have Sb:ck cells (aK s p):=S.row (row:=[p]) ⟨mp,trivial⟩
  have lb:(aK s p).length+1=s.length:=by
   have:=(fG (row:=[p]) S.1 S.2 ⟨mp,trivial⟩).2.2.2
   simpa[cy] using this
  obtain ⟨F,hF,hm⟩:=Mc t up hl iy Sb (by lia)
  have hb:(bz (bG t) (aa (ak 3) (aa (ak 5) av))) [some (aB cells),some b,some (aB u),some (aB s),some (bH acc),some (lD p),z] = .ok (aB (aK s p)):=FI (a:=aB s) (b:=lD p) rfl rfl (tR t p ls)
  have gi:=Ea false u F
  have hc:(aQ (j8 false) (ak 2) (bz (eG t) (aa (ak 0) (aa (ak 6) av)))) [some (aB cells),some b,some (aB u),some (aB s),some (bH acc),some (lD p),some (aB (aK s p))] = .ok (.bl (g p)):=by
   refine(iE (a:=aB u) (b:=j7 F) rfl (FI (a:=aB cells) (b:=aB (aK s p)) rfl rfl hF) gi).trans ?_
   have:decide (u∈F)=g p:=by rw[Bool.eq_iff_iff,decide_eq_true_iff,hm,hg p mp]
   rw[if_neg Bool.false_ne_true,this]
  rw[List.map_cons,cY]
  rw[show bX 5 (lD p) [some (aB cells),some b,some (aB u),some (aB s),some (bH acc),y,z]=some [some (aB cells),some b,some (aB u),some (aB s),some (bH acc),some (lD p),z] from rfl]
  dsimp only
  have n1:eX (lD p)=true:=by unfold lD cD;simp[eX,cT]
  cases Xd:g p with
  | true=>
   rw[List.find?_cons_of_pos Xd] at h
   rw[<- Option.some.inj h]
   have:yI t [some (aB cells),some b,some (aB u),some (aB s),some (bH acc),some (lD p),z] = .bk [some (aB cells),some b,some (aB u),some (aB (aK s p)),some (bH (acc++[p])),some (lD p),some (aB (aK s p))]:=by
    unfold yI
    rw[Xd] at hc
    rw[aP (st':=[some (aB cells),some b,some (aB u),some (aB s),some (bH acc),some (lD p),some (aB (aK s p))]) (cU hb),xO hc]
    rw[aP (st':=[some (aB cells),some b,some (aB u),some (aB s),some (bH (acc++[p])),some (lD p),some (aB (aK s p))])]
    ·rfl
    ·rw[Qu (ds:=acc.map lD) (d:=lD p) rfl (Ny rfl n1) (by rw[List.length_map];exact la)]
     unfold bH
     rw[List.map_append]
     rfl
   rw[this]
   exact⟨_,_,rfl⟩
  | false=>
   rw[List.find?_cons_of_neg (by rw[Xd];decide)] at h
   have:yI t [some (aB cells),some b,some (aB u),some (aB s),some (bH acc),some (lD p),z] = .nx [some (aB cells),some b,some (aB u),some (aB s),some (bH acc),some (lD p),some (aB (aK s p))]:=by
    unfold yI
    rw[Xd] at hc
    rw[aP (st':=[some (aB cells),some b,some (aB u),some (aB s),some (bH acc),some (lD p),some (aB (aK s p))]) (cU hb),pX hc]
    rfl
   rw[this]
   exact uv up hl iy S ls la g hg ps (fun p m=>hp p (.tail _ m)) h _ _
def Eg:DF:=aQ (iX true) (ak 3) (ak 2)
def Me(t:i0):DS:=dZ (eT (bz (bR t) (aa (ak 0) (aa (ak 3) av)))) (bX 5) (yI t)
theorem xo{b:D}{cells u:List Cell}(up:bx cells)(hl:cells.length<=8)(iy:(aS cells).length < 64):∀(n fuel:Nat) (s:List Cell) (acc:List b7) (y z:Option D),ck cells s->s.length<=60->u.length+n=s.length->Eb cells s u->n < fuel->acc.length+n<=1000->
  ∃y' z',jZ Eg (Me t) fuel [some (aB cells),some b,some (aB u),some (aB s),some (bH acc),y,z] = .nx [some (aB cells),some b,some (aB u),some (aB u),some (bH (acc++Fr.first (aZ cells) u n s)),y',z']
 | n,0,s,acc,y,z,_,_,_,_,hf,_=>by lia
 | 0,fuel+1,s,acc,y,z,S,ls,hn,hr,hf,la=>by
  obtain ⟨row,ok,e⟩:=hr
  have hlen:=(fG S.1 S.2 ok).2.2.2
  rw[e] at hlen
  have:row=[]:=List.eq_nil_of_length_eq_zero (by lia)
  subst this
  have e:s=u:=e
  subst e
  have ht:Eg [some (aB cells),some b,some (aB s),some (aB s),some (bH acc),y,z] = .ok (.bl false):=iE (a:=aB s) (b:=aB s) rfl rfl (by rw[zW];simp)
  rw[jZ,ht,Fr.first,List.append_nil]
  exact⟨_,_,rfl⟩
 | n+1,fuel+1,s,acc,y,z,S,ls,hn,hr,hf,la=>by
  have MV:s≠u:=fun e=>by rw[e] at hn;lia
  have ht:Eg [some (aB cells),some b,some (aB u),some (aB s),some (bH acc),y,z] = .ok (.bl true):=iE (a:=aB s) (b:=aB u) rfl rfl (by rw[zW];simp[MV])
  rw[jZ,ht]
  dsimp only
  have hlb:∀p∈sj cells s,(aK s p).length+1=s.length:=fun p mp=>by
   have:=(fG (row:=[p]) S.1 S.2 ⟨mp,trivial⟩).2.2.2
   simpa[cy] using this
  have hSb:∀p∈sj cells s,ck cells (aK s p):=fun p mp=>S.row (row:=[p]) ⟨mp,trivial⟩
  have hg:∀p∈sj cells s,(Fr.rows (aZ cells) n (aK s p)).any (·.1==u)=true↔Eb cells (aK s p) u:=fun p mp=>BQ (hSb p mp) (by have:=hlb p mp;lia)
  have BL:(Fr.rows (aZ cells) (n+1) s).any (·.1==u)=true:=(BQ S hn).mpr hr
  have hfd:∃q,(sj cells s).find? (fun p=>(Fr.rows (aZ cells) n (aK s p)).any (·.1==u))=some q:=by
   rw[Fr.sy,List.any_eq_true] at BL
   obtain ⟨x,hx,h⟩:=BL
   unfold aZ at hx
   obtain ⟨p,hp,rfl⟩:=List.mem_map.mp hx
   cases hc:(sj cells s).find? (fun p=>(Fr.rows (aZ cells) n (aK s p)).any (·.1==u)) with
   | some q=>exact⟨q,rfl⟩
   | none=>exact absurd h (List.find?_eq_none.mp hc p hp)
  obtain ⟨q,hq⟩:=hfd
  have mq:q∈sj cells s:=List.mem_of_find?_eq_some hq
  have Qv:Fr.first (aZ cells) u (n+1) s=q::Fr.first (aZ cells) u n (aK s q):=by
   have:(aZ cells s).find? (fun q=>(Fr.rows (aZ cells) n q.2).any (·.1==u))=some (q,aK s q):=by
    unfold aZ
    rw[List.find?_map]
    show Option.map _ ((sj cells s).find? (fun p=>(Fr.rows (aZ cells) n (aK s p)).any (·.1==u)))=_
    rw[hq];rfl
   rw[Fr.first,this]
  obtain ⟨y',z',h1⟩:=uv t (b:=b) (u:=u) up hl iy S ls (acc:=acc) (by lia) (fun p=>(Fr.rows (aZ cells) n (aK s p)).any (·.1==u)) hg (sj cells s) (fun p m=>m) hq y z
  have hi:eT (bz (bR t) (aa (ak 0) (aa (ak 3) av))) [some (aB cells),some b,some (aB u),some (aB s),some (bH acc),y,z] = .ok ((sj cells s).map lD):=by
   unfold eT
   rw[FI (a:=aB cells) (b:=aB s) rfl rfl (A0 t up (by lia) iy)]
  have hb:Me t [some (aB cells),some b,some (aB u),some (aB s),some (bH acc),y,z] = .nx [some (aB cells),some b,some (aB u),some (aB (aK s q)),some (bH (acc++[q])),y',z']:=by
   unfold Me dZ
   rw[hi]
   exact h1
  rw[hb]
  dsimp only
  have:=hlb q mq
  have hgq:=List.find?_some hq
  obtain ⟨y2,z2,h2⟩:=xo up hl iy n fuel (aK s q) (acc++[q]) y' z' (hSb q mq) (by lia) (by lia) ((hg q mq).mp hgq) (by lia) (by rw[List.length_append,List.length_singleton];lia)
  rw[h2,Qv,List.append_assoc]
  exact⟨_,_,rfl⟩
theorem JI{cells ao:List Cell}{row:List b7}(up:bx cells)(hl:cells.length<=8)(iy:(aS cells).length < 64)(S:ck cells ao)(lp:ao.length<=30)(ok:nG cells ao row) :
  gZ t [aB cells,aB ao,aB (cy ao row)] = .ok (bH (Fr.first (aZ cells) (cy ao row) row.length ao)):=by
 have w4:=(fG S.1 S.2 ok).2.2.2
 obtain ⟨y,z,h⟩:=xo t (b:=aB ao) (u:=cy ao row) up hl iy row.length 40 ao [] none none S (by lia) w4 ⟨row,ok,rfl⟩ (by lia) (by simp;lia)
 unfold gZ
 refine d8 [some (aB cells),some (aB ao),some (aB (cy ao row)),none,none,none,none] ?_
 rw[aP (st':=[some (aB cells),some (aB ao),some (aB (cy ao row)),some (aB ao),none,none,none]) (cU (by simp)),
  aP (st':=[some (aB cells),some (aB ao),some (aB (cy ao row)),some (aB ao),some (bH []),none,none]) (cU rfl)]
 show b9 (jZ Eg (Me t) 40) _ _=_
 rw[aP h]
 exact gB rfl
end Pk
end Qt
section W3
namespace Pk
open L2 Dm
variable (t:i0)
theorem Eh:∀F:List (List Cell),cP (F.map aB) (F.map aB)=true
 | []=>by simp[cP]
 | a::F=>by rw[List.map_cons,cP,A8,decide_eq_true rfl,Bool.true_and];exact Eh F
theorem Mf(neg:Bool)(F:List (List Cell)):iX neg (j7 F) (j7 F) = .ok (.bl (!neg)):=by
 have fl:∀a:List Cell,flat (aB a)=true:=fun a=>by
  unfold aB;rw[flat]
  exact f9 fun d hd=>by obtain ⟨c,_,rfl⟩:=List.mem_map.mp hd;unfold cD;simp[flat,bW]
 have dp:∀a:List Cell,dep (aB a)<=2:=fun a=>by
  have:=sd a
  unfold aB;rw[dep];lia
 have fF:flat (j7 F)=true:=by
  unfold j7;rw[flat]
  exact f9 fun d hd=>by obtain ⟨c,_,rfl⟩:=List.mem_map.mp hd;exact fl c
 have dF:dep (j7 F)<=60:=by
  have:=lK (n:=2) (ds:=F.map aB) fun d hd=>by obtain ⟨c,_,rfl⟩:=List.mem_map.mp hd;exact dp c
  unfold j7;rw[dep];lia
 have eF:fU (j7 F) (j7 F)=true:=by unfold j7;rw[fU];exact Eh F
 unfold iX
 rw[fF,if_pos (by simp[dF]),eF]
 cases neg <;> rfl
def Qw(t:i0):DS:=(b9 (bO 7 (bY 100 (aa (bz iY (aa (ak 3) av)) (aa (bz iY (aa (ak 4) av)) av))))
 (b9 (bO 8 (bz (ju t) (aa (ak 2) (aa (aQ cQ (ak 7) (dC (.int 0))) (aa (aQ cQ (ak 7) (dC (.int 1))) av)))))
 (b9 (Dm.cI (Ga (qx (rA (xE ja) (ak 8))) (Ga (aQ (iX true) (bz jX (aa (ak 8) av)) (dC (.int 2))) (Ga (aQ (iX true) (aQ cQ (ak 8) (dC (.int 0))) (dC (.str "leaps"))) (qx (rA (xE lB) (aQ cQ (ak 8) (dC (.int 1))))))))
 (eS (dC (.bl false)))
 bN)
 (b9 (Dm.cI (Ga (aQ (iX true) (aQ cQ (ak 8) (dC (.int 1))) (ak 5)) (aQ (iX true) (ak 7) (bY 100 (aa (ak 3) (aa (ak 4) av)))))
 (eS (dC (.bl false)))
 bN)
 (B4 8 (bK 100 (aa (bK 100 (aa (dC (.int 0)) (aa (dC (.int 0)) av))) (aa (bK 100 (aa (dC (.int 0)) (aa (dC (.int 2)) av))) av))))))))
theorem W4{ns:List Int}{l g W:List Cell}{uI:List b7}(hA:ju t [bB l,aB g,aB W] = .ok (.tup [.str "leaps",bH uI]))(ld:uI.length<=1000)(k y z:Option D) :
  Qw t [some (iL ns),some (aB l),some (bB l),some (aB g),some (aB W),some (bH uI),k,y,z] = .nx [some (iL ns),some (aB l),some (bB l),some (aB g),some (aB W),some (bH uI),k,some (j7 [g,W]),none]:=by
 unfold Qw
 have e1:(rA (xE ja) (ak 8)) [some (iL ns),some (aB l),some (bB l),some (aB g),some (aB W),some (bH uI),k,some (j7 [g,W]),some (.tup [.str "leaps",bH uI])] = .ok (.bl true):=un1 (a:=.tup [.str "leaps",bH uI]) rfl (by simp[xE,R7,ja])
 have e2:(rA (xE lB) (aQ cQ (ak 8) (dC (.int 1)))) [some (iL ns),some (aB l),some (bB l),some (aB g),some (aB W),some (bH uI),k,some (j7 [g,W]),some (.tup [.str "leaps",bH uI])] = .ok (.bl true):=un1 (a:=bH uI) rfl (by simp[xE,R7,lB,bH])
 have e3:iX true (.int 2) (.int 2) = .ok (.bl false):=by simp[iX,flat,dep,fU]
 have e4:iX true (.str "leaps") (.str "leaps") = .ok (.bl false):=by simp[iX,flat,dep,fU]
 rw[aP (st':=[some (iL ns),some (aB l),some (bB l),some (aB g),some (aB W),some (bH uI),k,some (j7 [g,W]),z]) (cU (by simp[j7])),
  aP (st':=[some (iL ns),some (aB l),some (bB l),some (aB g),some (aB W),some (bH uI),k,some (j7 [g,W]),some (.tup [.str "leaps",bH uI])]) (cU (WR (a:=bB l) (b:=aB g) (c:=aB W) rfl rfl rfl hA)),
  aP (st':=[some (iL ns),some (aB l),some (bB l),some (aB g),some (aB W),some (bH uI),k,some (j7 [g,W]),some (.tup [.str "leaps",bH uI])]) (by
   rw[pX (DV (Nz (b:=true) e1) (DV (iE (a:=.int 2) (b:=.int 2) rfl rfl e3) (DV (iE (a:=.str "leaps") (b:=.str "leaps") rfl rfl e4) (Nz (b:=true) e2))))];rfl),
  aP (st':=[some (iL ns),some (aB l),some (bB l),some (aB g),some (aB W),some (bH uI),k,some (j7 [g,W]),some (.tup [.str "leaps",bH uI])]) (by
   rw[pX (DV (iE (a:=bH uI) (b:=bH uI) rfl rfl (by rw[PV];simp)) (iE (a:=j7 [g,W]) (b:=j7 [g,W]) rfl rfl (by rw[Mf];rfl)))];rfl)]
 unfold B4
 have:asPair [some (iL ns),some (aB l),some (bB l),some (aB g),some (aB W),some (bH uI),k,some (j7 [g,W]),some (.tup [.str "leaps",bH uI])][8]?=some (("leaps" : PySem.Str),uI.map lD):=rfl
 rw[this]
 simp[ld]
theorem W5(ns:List Int):yv t [iL ns] = .ok (.bl true):=by
 obtain ⟨l,hl,dl⟩:=M4 t ns 8 (by decide)
 have hl:cj t [iL ns,.int 8] = .ok (aB l):=hl
 obtain ⟨c,Rc⟩:∃c:Int,b5 t [iL ns,.int 2] = .ok (.int c):=⟨_,LZ t ns 2⟩
 obtain ⟨c3,au9⟩:∃c:Int,b5 t [iL ns,.int 3] = .ok (.int c):=⟨_,LZ t ns 3⟩
 have ll:=dl.le
 obtain ⟨g,hg,sub⟩:=Q8 t c (l:=l) dl.pos (by lia)
 have Sg:ck l g:=.sub dl.up sub
 have lg:g.length<=8:=Nat.le_trans sub.length_le ll
 have hB:=M6 t (dl.mono (by decide:8<=24))
 obtain ⟨row,ok,lr,kZ⟩:=Qg t c3 (most:=8) (by decide) Sg (by lia) dl.up (by lia) dl.iy
 have kZ:gE t [aB l,aB g,.int c3,.int 8] = .ok (.tup [bH row,aB (cy g row)]):=kZ
 have hA:=JF t (by lia) (JC dl.up ll) Sg (by lia) ok
 have hF:=JI t dl.up ll dl.iy Sg (by lia) ok
 have Qx:∀n s,(Fr.first (aZ l) (cy g row) n s).length<=n:=fun n=>by
  induction n with
  | zero=>intro s;exact Nat.le_refl _
  | succ n ih=>
   intro s
   rw[Fr.first]
   split
   ·rw[List.length_cons];have:=ih (by assumption:b7×List Cell).2;lia
   ·exact Nat.zero_le _
 have ld:=Qx row.length g
 generalize hD:Fr.first (aZ l) (cy g row) row.length g=uI at hA hF ld
 generalize hW:cy g row=W at kZ hA hF
 have W6:=fun k y z=>W4 t (ns:=ns) hA (by lia) k y z
 unfold yv
 refine d8 [some (iL ns),none,none,none,none,none,none,none,none] ?_
 rw[aP (st':=[some (iL ns),some (aB l),none,none,none,none,none,none,none]) (by simp[hl]),
  aP (st':=[some (iL ns),some (aB l),some (bB l),none,none,none,none,none,none]) (by simp[hB]),
  aP (st':=[some (iL ns),some (aB l),some (bB l),some (aB g),none,none,none,none,none]) (by simp[Rc,hg]),
  aP (st':=[some (iL ns),some (aB l),some (bB l),some (aB g),some (aB W),none,none,none,none]) (cU (iE (a:=.tup [bH row,aB W]) (b:=.int 1) (by simp[au9,kZ]) rfl rfl)),
  aP (st':=[some (iL ns),some (aB l),some (bB l),some (aB g),some (aB W),some (bH uI),none,none,none]) (cU (WR (a:=aB l) (b:=aB g) (c:=aB W) rfl rfl rfl hF))]
 have hi:rG (aa (dC (.int 2)) av) [some (iL ns),some (aB l),some (bB l),some (aB g),some (aB W),some (bH uI),none,none,none] = .ok [.int 0,.int 1]:=rfl
 show b9 (dZ (rG (aa (dC (.int 2)) av)) (bX 6) (Qw t)) _ _=_
 rw[aP (F:=dZ _ _ _) (by unfold dZ;rw[hi];exact Q2 rfl (W6 _ _ _) rfl (W6 _ _ _))]
 exact gB rfl
end Pk
end W3
section Qy
noncomputable section
namespace Hd
open PySem PySem.W PySem.Calls PyProof.Rows
abbrev pq:Program:=PySem.Challenge.pw_pegleap_k09_first_rows
def nth:List Stmt → Nat → Stmt
  | [],_=> .Pass ⟨0,0,0,0⟩
  | s::_,0=>s
  | _::r,n+1=>nth r n
def tk:Nat → List Stmt → List Stmt
  | 0,_=>[]
  | _,[]=>[]
  | n+1,s::r=>s::tk n r
def dr:Nat → List Stmt → List Stmt
  | 0,l=>l
  | _,[]=>[]
  | n+1,_::r=>dr n r
def st(i:Nat):Stmt:=nth pq.main.body i
def sc(i j:Nat):Stmt:=match st i with | .ClassDef _ _ _ b _ _ _ _ _ _ _=>nth b j | s=>s
def fN:Stmt → Str | .FunctionDef n _ _ _ _ _ _ _ _ _=>n | _=>default
def fX(s:Stmt)(q:Str)(g:Addr)(cl:List (Str×Addr))(dv kv doc pm:Value)(an:Option Addr)(cd ct:Value)(bi:Addr):PySem.Data:=match s with | .FunctionDef n a b _ _ _ sc _ _ _=> .func ⟨n,q,a,.stmts b,sc,g,cl,dv,kv,doc,pm,an,cd,ct,bi⟩ | _=> .plain
def en(P:Params)(x:Str)(t:Tok)(v:Value):DictEntry:=⟨PyData.keyHash P x,.str x t,v⟩
theorem Mg{tb:String → Option Builtin}{p:Program}{w:World}{n:Nat}{a:Option Value}{N:Nat}{s r:Shared}{env:Env}{c:Code}{pos:Pos}{B:List Frame}{b b':List Stmt}(e:b=b')(k:topRun tb p w n a N s (restOf b' env c pos B)=some r):topRun tb p w n a N s (restOf b env c pos B)=some r:=e▸k
def cO(n q:Str)(t:Tok)(L a k:Int)(r:Addr)(b:Bool)(c:Addr)(x y z:Value)(u:Nat):Obj:=⟨.type "code",none,.fields #[.str n t,.str q (t+1),.str "/claim/cut.py" (t+2),.int L 0,.int a 0,.int 0 0,.int 0 0,.int k 0,.ref r,.bool b,.int 181 0,.ref c,.none,x,y,z,.int u 0,.int L 0,.str "/claim/cut.py" (u+1)],#[]⟩
def fO(s:Stmt)(g:Addr)(m:Str)(t:Tok)(c:Addr):Obj:=⟨.type "function",none,fX s (fN s) g [] .none .none .none (.str m t) none (.ref c) .none 0,#[]⟩
def fZ(s:Stmt):Obj:=⟨.none,none,fX s (fN s) 0 [] .none .none .none .none none .none .none 0,#[]⟩
abbrev nd(o:Obj)(l r:BT):BT:= .node o l r
abbrev ly(o:Obj):BT:= .node o .nil .nil
def o0:Obj:=⟨.type "tuple",none,(.seq #[] 0),#[]⟩
def o1:Obj:=⟨.none,none,(.fields #[]),#[]⟩
def o2:Obj:=cO "<module>" "<module>" 182 1 0 0 11 false 12 .none .none .none 185
def o3:Obj:=⟨.type "frame",none,.plain,#[(some (.ref 13)),(some (.ref 3)),(some (.ref 3)),none,(some (.str "__main__" 164)),none,(some (.ref 0))]⟩
def Rg:Life:={ }
def Ha(P:Params):Heap:=⟨⟨[boot_o_0 P,boot_o_1 P,boot_o_2 P,boot_o_3 P,boot_o_4 P,boot_o_5 P,boot_o_6 P,boot_o_7 P,boot_o_8 P,boot_o_9 P,boot_o_10 P,o0,o1,o2,o3]⟩,Rg⟩
def T0(P:Params):BT:=(nd (boot_o_0 P) (nd (boot_o_1 P) (nd (boot_o_3 P) (ly (boot_o_7 P)) (ly o0)) (nd (boot_o_5 P) (ly (boot_o_9 P)) (ly o2))) (nd (boot_o_2 P) (nd (boot_o_4 P) (ly (boot_o_8 P)) (ly o1)) (nd (boot_o_6 P) (ly (boot_o_10 P)) (ly o3))))
def S0(w:World)(os:OsState):SharedT:=⟨T0 w.params,15,Rg,#[],⟨0,0,0,0⟩,187,os⟩
def o4(P:Params):Obj:=⟨.type "dict",none,(.dict #[en P "__name__" 165 (.str "pegleap.boards" 239),en P "__doc__" 166 .none,en P "__package__" 167 .none,en P "__loader__" 168 (.builtin "__main__.__loader__#opaque"),en P "__spec__" 169 .none,en P "__annotations__" 170 (.ref 6),en P "__builtins__" 171 (.ref 4),en P "__file__" 173 (.str "/claim/cut.py" 172),en P "__cached__" 174 .none,en P "PegError" 206 (.ref 24),en P "BadBoard" 222 (.ref 37),en P "BadPegs" 238 (.ref 49),en P "LAST" 242 (.int 7 241),en P "MOST_CELLS" 244 (.int 24 243),en P "is_rising" 251 (.ref 58),en P "is_cell" 258 (.ref 65),en P "check_cells" 266 (.ref 72)] 17),#[]⟩
def o5:Obj:=⟨.none,none,(.fields #[.int 2 0,.int 0 0,.ref 20,.int 4 0,.int 0 0,.ref 33,.int 6 0,.int 0 0,.ref 45,.int 11 0,.int 0 0,.ref 57,.int 13 0,.int 0 0,.ref 64,.int 15 0,.int 0 0,.ref 71]),#[]⟩
def o6:Obj:=⟨.type "tuple",none,(.seq #[.type "ValueError"] 0),#[]⟩
def o7:Obj:=⟨.type "builtin_function_or_method",none,(.fields #[.builtin "type.__prepare__",.type "type"]),#[]⟩
def o8(P:Params):Obj:=⟨.type "dict",none,(.dict #[en P "__module__" 196 (.str "pegleap.errors" 187),en P "__qualname__" 198 (.str "PegError" 197),en P "__firstlineno__" 200 (.int 2 199),en P "__static_attributes__" 201 (.ref 22)] 4),#[]⟩
def o9:Obj:=cO "PegError" "PegError" 191 2 0 0 18 false 19 .none .none .none 194
def Xe:Obj:=⟨.type "frame",none,.plain,#[(some (.ref 20)),(some (.ref 3)),(some (.ref 17)),none,(some (.str "pegleap.errors" 187)),none,(some (.ref 0))]⟩
def W7(P:Params):Obj:=⟨.type "dict",none,(.dict #[en P "__module__" 196 (.str "pegleap.errors" 187),en P "__firstlineno__" 200 (.int 2 199),en P "__static_attributes__" 201 (.ref 22),en P "__weakref__" 203 (.ref 25),en P "__doc__" 204 .none] 3),#[]⟩
def W8:Obj:=⟨.type "type",none,(.cls ⟨"PegError",[.type "ValueError"],[.ref 24,.type "ValueError",.type "Exception",.type "BaseException",.type "object"],23,"PegError",true,[],[.ref 37,.ref 49],false,none,false⟩),#[(some (.ref 15)),none,(some (.str "PegError" 189)),(some (.str "PegError" 197)),(some (.builtin "ValueError.__new__")),(some (.bool true))]⟩
def W9:Obj:=⟨.type "getset_descriptor",none,(.fields #[.str "__weakref__" 202,.ref 24,.builtin "ExceptionGroup.__weakref__",.none]),#[]⟩
def Xf:Obj:=⟨.type "super",none,(.fields #[.ref 24,.ref 24,.ref 24]),#[]⟩
def Xg:Obj:=⟨.type "builtin_function_or_method",none,(.fields #[.builtin "object.__init_subclass__",.ref 24]),#[]⟩
def JR:Obj:=⟨.type "tuple",none,(.seq #[.ref 24] 0),#[]⟩
def Xh(P:Params):Obj:=⟨.type "dict",none,(.dict #[en P "__module__" 214 (.str "pegleap.errors" 187),en P "__qualname__" 216 (.str "BadBoard" 215),en P "__firstlineno__" 218 (.int 4 217),en P "__static_attributes__" 219 (.ref 35)] 4),#[]⟩
def Xi:Obj:=cO "BadBoard" "BadBoard" 209 4 0 0 31 false 32 .none .none .none 212
def Xj:Obj:=⟨.type "frame",none,.plain,#[(some (.ref 33)),(some (.ref 3)),(some (.ref 30)),none,(some (.str "pegleap.errors" 187)),none,(some (.ref 0))]⟩
def Wa(P:Params):Obj:=⟨.type "dict",none,(.dict #[en P "__module__" 214 (.str "pegleap.errors" 187),en P "__firstlineno__" 218 (.int 4 217),en P "__static_attributes__" 219 (.ref 35),en P "__doc__" 220 .none] 2),#[]⟩
def Wb:Obj:=⟨.type "type",none,(.cls ⟨"BadBoard",[.ref 24],[.ref 37,.ref 24,.type "ValueError",.type "Exception",.type "BaseException",.type "object"],36,"BadBoard",true,[],[],false,none,false⟩),#[(some (.ref 28)),none,(some (.str "BadBoard" 207)),(some (.str "BadBoard" 215)),(some (.builtin "ValueError.__new__")),(some (.bool true))]⟩
def Xk:Obj:=⟨.type "super",none,(.fields #[.ref 37,.ref 37,.ref 37]),#[]⟩
def Xl:Obj:=⟨.type "builtin_function_or_method",none,(.fields #[.builtin "object.__init_subclass__",.ref 37]),#[]⟩
def Xm(P:Params):Obj:=⟨.type "dict",none,(.dict #[en P "__module__" 230 (.str "pegleap.errors" 187),en P "__qualname__" 232 (.str "BadPegs" 231),en P "__firstlineno__" 234 (.int 6 233),en P "__static_attributes__" 235 (.ref 47)] 4),#[]⟩
def Xn:Obj:=cO "BadPegs" "BadPegs" 225 6 0 0 43 false 44 .none .none .none 228
def Xo:Obj:=⟨.type "frame",none,.plain,#[(some (.ref 45)),(some (.ref 3)),(some (.ref 42)),none,(some (.str "pegleap.errors" 187)),none,(some (.ref 0))]⟩
def Wc(P:Params):Obj:=⟨.type "dict",none,(.dict #[en P "__module__" 230 (.str "pegleap.errors" 187),en P "__firstlineno__" 234 (.int 6 233),en P "__static_attributes__" 235 (.ref 47),en P "__doc__" 236 .none] 2),#[]⟩
def Wd:Obj:=⟨.type "type",none,(.cls ⟨"BadPegs",[.ref 24],[.ref 49,.ref 24,.type "ValueError",.type "Exception",.type "BaseException",.type "object"],48,"BadPegs",true,[],[],false,none,false⟩),#[(some (.ref 40)),none,(some (.str "BadPegs" 223)),(some (.str "BadPegs" 231)),(some (.builtin "ValueError.__new__")),(some (.bool true))]⟩
def Xp:Obj:=⟨.type "super",none,(.fields #[.ref 49,.ref 49,.ref 49]),#[]⟩
def Xq:Obj:=⟨.type "builtin_function_or_method",none,(.fields #[.builtin "object.__init_subclass__",.ref 49]),#[]⟩
def We:Obj:=⟨.type "tuple",none,(.seq #[.str "cells" 248] 0),#[]⟩
def Wf:Obj:=fZ (st 7)
def Wg:Obj:=cO "is_rising" "is_rising" 245 11 1 3 52 true 53 (.ref 54) (.ref 55) (.ref 56) 249
def Wh:Obj:=fO (st 7) 3 "pegleap.boards" 239 57
def Wi:Obj:=⟨.type "tuple",none,(.seq #[.str "cell" 255] 0),#[]⟩
def Wj:Obj:=fZ (st 8)
def Wk:Obj:=cO "is_cell" "is_cell" 252 13 1 3 59 true 60 (.ref 61) (.ref 62) (.ref 63) 256
def Wl:Obj:=fO (st 8) 3 "pegleap.boards" 239 64
def Wm:Obj:=⟨.type "tuple",none,(.seq #[.str "cells" 262,.str "cell" 263] 0),#[]⟩
def Wn:Obj:=fZ (st 9)
def Wo:Obj:=cO "check_cells" "check_cells" 259 15 1 3 66 true 67 (.ref 68) (.ref 69) (.ref 70) 264
def Wq:Obj:=fO (st 9) 3 "pegleap.boards" 239 71
def T1(P:Params):BT:=(nd (boot_o_0 P) (nd (boot_o_1 P) (nd (o4 P) (nd (boot_o_7 P) (nd o6 (nd o0 (ly Wj) .nil) (ly o0)) (nd (W7 P) (nd Xl (ly Wo) .nil) (ly o0))) (nd o0 (nd o1 (nd o0 (ly o1) .nil) (ly Xq)) (nd Xg (ly o0) (ly o0)))) (nd (boot_o_5 P) (nd (boot_o_9 P) (nd (o8 P) (nd Xi (ly Wl) .nil) (ly Wd)) (nd W9 (ly o7) (ly Wg))) (nd o2 (nd Xe (nd Wb (ly o0) .nil) (ly o1)) (nd o7 (ly Xn) (ly Wi))))) (nd (boot_o_2 P) (nd (boot_o_4 P) (nd (boot_o_8 P) (nd o7 (nd o1 (ly Wk) .nil) (ly (Wc P))) (nd W8 (nd JR (ly Wq) .nil) (ly Wf))) (nd o5 (nd o9 (nd (Wa P) (ly Wm) .nil) (ly o0)) (nd JR (ly o1) (ly o1)))) (nd (boot_o_6 P) (nd (boot_o_10 P) (nd o0 (nd Xj (ly o0) .nil) (ly Xp)) (nd Xf (ly (Xm P)) (ly Wh))) (nd o3 (nd o0 (nd Xk (ly Wn) .nil) (ly We)) (nd (Xh P) (ly Xo) (ly o0))))))
def S1(w:World)(os:OsState):SharedT:=⟨T1 w.params,73,Rg,#[],⟨0,0,0,0⟩,267,os⟩
def o43(P:Params):Obj:=⟨.type "dict",none,(.dict #[en P "__name__" 165 (.str "law_pegleap_k09_first_rows" 410),en P "__doc__" 166 .none,en P "__package__" 167 .none,en P "__loader__" 168 (.builtin "__main__.__loader__#opaque"),en P "__spec__" 169 .none,en P "__annotations__" 170 (.ref 6),en P "__builtins__" 171 (.ref 4),en P "__file__" 173 (.str "/claim/cut.py" 172),en P "__cached__" 174 .none,en P "PegError" 206 (.ref 24),en P "BadBoard" 222 (.ref 37),en P "BadPegs" 238 (.ref 49),en P "LAST" 242 (.int 7 241),en P "MOST_CELLS" 244 (.int 24 243),en P "is_rising" 251 (.ref 58),en P "is_cell" 258 (.ref 65),en P "check_cells" 266 (.ref 72),en P "Board" 295 (.ref 89),en P "check_pegs" 304 (.ref 100),en P "two_apart" 313 (.ref 107),en P "between" 321 (.ref 114),en P "leaps" 331 (.ref 121),en P "COLOURS" 335 (.int 3 334),en P "can_be_done" 343 (.ref 128),en P "pegs_behind" 349 (.ref 133),en P "odd_on" 355 (.ref 138),en P "class_of" 361 (.ref 143),en P "steps_from" 369 (.ref 148),en P "next_rows" 382 (.ref 155),en P "first_rows" 393 (.ref 162),en P "in_order" 399 (.ref 167),en P "answer" 409 (.ref 174),en P "_law_cell_at" 419 (.ref 181),en P "_law_mix" 430 (.ref 188),en P "_law_cells_by" 445 (.ref 195),en P "_law_pegs_by" 451 (.ref 200),en P "_law_between" 458 (.ref 207),en P "_law_leaps" 469 (.ref 214),en P "_law_open" 480 (.ref 221),en P "_law_behind" 486 (.ref 226)] 40),#[]⟩
def o44:Obj:=⟨.none,none,(.fields #[.int 2 0,.int 0 0,.ref 20,.int 4 0,.int 0 0,.ref 33,.int 6 0,.int 0 0,.ref 45,.int 11 0,.int 0 0,.ref 57,.int 13 0,.int 0 0,.ref 64,.int 15 0,.int 0 0,.ref 71,.int 23 0,.int 0 0,.ref 78,.int 28 0,.int 0 0,.ref 99,.int 34 0,.int 0 0,.ref 106,.int 38 0,.int 0 0,.ref 113,.int 40 0,.int 0 0,.ref 120,.int 49 0,.int 0 0,.ref 127,.int 51 0,.int 0 0,.ref 132,.int 54 0,.int 0 0,.ref 137,.int 56 0,.int 0 0,.ref 142,.int 62 0,.int 0 0,.ref 147,.int 64 0,.int 0 0,.ref 154,.int 71 0,.int 0 0,.ref 161,.int 79 0,.int 0 0,.ref 166,.int 81 0,.int 0 0,.ref 173,.int 91 0,.int 0 0,.ref 180,.int 95 0,.int 0 0,.ref 187,.int 100 0,.int 0 0,.ref 194,.int 113 0,.int 0 0,.ref 199,.int 119 0,.int 0 0,.ref 206,.int 121 0,.int 0 0,.ref 213,.int 129 0,.int 0 0,.ref 220,.int 135 0,.int 0 0,.ref 225]),#[]⟩
def o45(P:Params):Obj:=⟨.type "dict",none,(.dict #[en P "__module__" 274 (.str "pegleap.boards" 239),en P "__qualname__" 276 (.str "Board" 275),en P "__firstlineno__" 278 (.int 23 277),en P "__init__" 286 (.ref 86),en P "__static_attributes__" 288 (.ref 87)] 5),#[]⟩
def o46:Obj:=⟨.none,none,(.fields #[.int 25 0,.int 4 0,.ref 85]),#[]⟩
def o47:Obj:=cO "Board" "Board" 269 23 0 0 76 false 77 .none .none .none 272
def o48:Obj:=⟨.type "frame",none,.plain,#[(some (.ref 78)),(some (.ref 3)),(some (.ref 75)),none,(some (.str "pegleap.boards" 239)),none,(some (.ref 0))]⟩
def Xr:Obj:=⟨.type "tuple",none,(.seq #[.str "self" 282,.str "cells" 283] 0),#[]⟩
def Xs:Obj:=⟨.none,none,(fX (sc 10 0) "Board.__init__" 0 [] .none .none .none .none none .none .none 0),#[]⟩
def Xu:Obj:=cO "__init__" "Board.__init__" 279 25 2 3 80 true 81 (.ref 82) (.ref 83) (.ref 84) 284
def Xv:Obj:=⟨.type "function",none,(fX (sc 10 0) "Board.__init__" 3 [] .none .none .none (.str "pegleap.boards" 239) none (.ref 85) .none 0),#[]⟩
def Xw:Obj:=⟨.type "tuple",none,(.seq #[.str "cells" 287] 0),#[]⟩
def Xx(P:Params):Obj:=⟨.type "dict",none,(.dict #[en P "__module__" 274 (.str "pegleap.boards" 239),en P "__firstlineno__" 278 (.int 23 277),en P "__init__" 286 (.ref 86),en P "__static_attributes__" 288 (.ref 87),en P "__dict__" 290 (.ref 90),en P "__weakref__" 292 (.ref 91),en P "__doc__" 293 .none] 4),#[]⟩
def Xy:Obj:=⟨.type "type",none,(.cls ⟨"Board",[.type "object"],[.ref 89,.type "object"],88,"Board",true,[],[],false,none,false⟩),#[none,none,(some (.str "Board" 267)),(some (.str "Board" 275)),(some (.builtin "object.__new__")),(some (.bool true))]⟩
def Xz:Obj:=⟨.type "getset_descriptor",none,(.fields #[.str "__dict__" 289,.ref 89,.builtin "function.__dict__",.builtin "function.__dict__#set"]),#[]⟩
def XA:Obj:=⟨.type "getset_descriptor",none,(.fields #[.str "__weakref__" 291,.ref 89,.builtin "ExceptionGroup.__weakref__",.none]),#[]⟩
def o58:Obj:=⟨.type "super",none,(.fields #[.ref 89,.ref 89,.ref 89]),#[]⟩
def o59:Obj:=⟨.type "builtin_function_or_method",none,(.fields #[.builtin "object.__init_subclass__",.ref 89]),#[]⟩
def XC:Obj:=⟨.type "tuple",none,(.seq #[.str "board" 299,.str "pegs" 300,.str "cell" 301] 0),#[]⟩
def XE:Obj:=fZ (st 11)
def XF:Obj:=cO "check_pegs" "check_pegs" 296 28 2 3 94 true 95 (.ref 96) (.ref 97) (.ref 98) 302
def XG:Obj:=fO (st 11) 3 "pegleap.boards" 239 99
def XH:Obj:=⟨.type "tuple",none,(.seq #[.str "cell" 308,.str "row" 309,.str "column" 310] 0),#[]⟩
def XI:Obj:=fZ (st 12)
def XJ:Obj:=cO "two_apart" "two_apart" 305 34 1 3 101 true 102 (.ref 103) (.ref 104) (.ref 105) 311
def XM:Obj:=fO (st 12) 3 "pegleap.boards" 239 106
def XN:Obj:=⟨.type "tuple",none,(.seq #[.str "cell" 317,.str "other" 318] 0),#[]⟩
def XO:Obj:=fZ (st 13)
def XQ:Obj:=cO "between" "between" 314 38 2 3 108 true 109 (.ref 110) (.ref 111) (.ref 112) 319
def XR:Obj:=fO (st 13) 3 "pegleap.boards" 239 113
def XS:Obj:=⟨.type "tuple",none,(.seq #[.str "board" 325,.str "found" 326,.str "first" 327,.str "second" 328] 0),#[]⟩
def XT:Obj:=fZ (st 14)
def XU:Obj:=cO "leaps" "leaps" 322 40 1 3 115 true 116 (.ref 117) (.ref 118) (.ref 119) 329
def XW:Obj:=fO (st 14) 3 "pegleap.boards" 239 120
def XX:Obj:=⟨.type "tuple",none,(.seq #[.str "pegs" 339,.str "leap" 340] 0),#[]⟩
def XY:Obj:=fZ (st 17)
def XZ:Obj:=cO "can_be_done" "can_be_done" 336 49 2 3 122 true 123 (.ref 124) (.ref 125) (.ref 126) 341
def Y0:Obj:=fO (st 17) 3 "pegleap.standings" 332 127
def Y3:Obj:=fZ (st 18)
def Y4:Obj:=cO "pegs_behind" "pegs_behind" 344 51 2 3 129 true 130 .none .none (.ref 131) 347
def Y5:Obj:=fO (st 18) 3 "pegleap.standings" 332 132
def Y6:Obj:=fZ (st 19)
def Y7:Obj:=cO "odd_on" "odd_on" 350 54 2 3 134 true 135 .none .none (.ref 136) 353
def Y8:Obj:=fO (st 19) 3 "pegleap.standings" 332 137
def Y9:Obj:=fZ (st 20)
def Yb:Obj:=cO "class_of" "class_of" 356 56 2 3 139 true 140 .none .none (.ref 141) 359
def Yc:Obj:=fO (st 20) 3 "pegleap.standings" 332 142
def Yd:Obj:=fZ (st 22)
def Ye:Obj:=cO "steps_from" "steps_from" 364 62 2 3 144 true 145 .none .none (.ref 146) 367
def Yg:Obj:=fO (st 22) 3 "pegleap.search" 362 147
def Yh:Obj:=⟨.type "tuple",none,(.seq #[.str "all_leaps" 373,.str "layer" 374,.str "found" 375,.str "standing" 376,.str "row" 377,.str "leap" 378,.str "behind" 379] 0),#[]⟩
def Yi:Obj:=fZ (st 23)
def Yj:Obj:=cO "next_rows" "next_rows" 370 64 2 3 149 true 150 (.ref 151) (.ref 152) (.ref 153) 380
def Yk:Obj:=fO (st 23) 3 "pegleap.search" 362 154
def Yl:Obj:=⟨.type "tuple",none,(.seq #[.str "board" 386,.str "pegs" 387,.str "all_leaps" 388,.str "found" 389,.str "layer" 390] 0),#[]⟩
def Ym:Obj:=fZ (st 24)
def Yn:Obj:=cO "first_rows" "first_rows" 383 71 2 3 156 true 157 (.ref 158) (.ref 159) (.ref 160) 391
def Yo:Obj:=fO (st 24) 3 "pegleap.search" 362 161
def Mh:Obj:=fZ (st 25)
def Mi:Obj:=cO "in_order" "in_order" 394 79 1 3 163 true 164 .none .none (.ref 165) 397
def Mj:Obj:=fO (st 25) 3 "pegleap.search" 362 166
def Ml:Obj:=⟨.type "tuple",none,(.seq #[.str "board" 403,.str "pegs" 404,.str "others" 405,.str "rows" 406] 0),#[]⟩
def Mm:Obj:=fZ (st 26)
def Mn:Obj:=cO "answer" "answer" 400 81 3 3 168 true 169 (.ref 170) (.ref 171) (.ref 172) 407
def Mp:Obj:=fO (st 26) 3 "pegleap.search" 362 173
def Mq:Obj:=⟨.type "tuple",none,(.seq #[.str "script" 415,.str "k" 416] 0),#[]⟩
def Mr:Obj:=fZ (st 28)
def Ms:Obj:=cO "_law_cell_at" "_law_cell_at" 412 91 2 3 175 true 176 (.ref 177) (.ref 178) (.ref 179) 417
def Mt:Obj:=fO (st 28) 3 "law_pegleap_k09_first_rows" 410 180
def Mu:Obj:=⟨.type "tuple",none,(.seq #[.str "cell" 423,.str "k" 424,.str "many" 425,.str "some" 426,.str "number" 427] 0),#[]⟩
def Mv:Obj:=fZ (st 29)
def Mw:Obj:=cO "_law_mix" "_law_mix" 420 95 3 3 182 true 183 (.ref 184) (.ref 185) (.ref 186) 428
def Mx:Obj:=fO (st 29) 3 "law_pegleap_k09_first_rows" 410 187
def My:Obj:=⟨.type "tuple",none,(.seq #[.str "script" 434,.str "most" 435,.str "cell" 436,.str "height" 437,.str "width" 438,.str "down" 439,.str "across" 440,.str "some" 441,.str "k" 442] 0),#[]⟩
def Mz:Obj:=fZ (st 30)
def MA:Obj:=cO "_law_cells_by" "_law_cells_by" 431 100 2 3 189 true 190 (.ref 191) (.ref 192) (.ref 193) 443
def MB:Obj:=fO (st 30) 3 "law_pegleap_k09_first_rows" 410 194
def MC:Obj:=fZ (st 31)
def MD:Obj:=cO "_law_pegs_by" "_law_pegs_by" 446 113 2 3 196 true 197 .none .none (.ref 198) 449
def ME:Obj:=fO (st 31) 3 "law_pegleap_k09_first_rows" 410 199
def MF:Obj:=⟨.type "tuple",none,(.seq #[.str "leap" 455] 0),#[]⟩
def MG:Obj:=fZ (st 32)
def MH:Obj:=cO "_law_between" "_law_between" 452 119 1 3 201 true 202 (.ref 203) (.ref 204) (.ref 205) 456
def MI:Obj:=fO (st 32) 3 "law_pegleap_k09_first_rows" 410 206
def MJ:Obj:=⟨.type "tuple",none,(.seq #[.str "cells" 462,.str "found" 463,.str "one" 464,.str "two" 465,.str "apart" 466] 0),#[]⟩
def MK:Obj:=fZ (st 33)
def ML:Obj:=cO "_law_leaps" "_law_leaps" 459 121 1 3 208 true 209 (.ref 210) (.ref 211) (.ref 212) 467
def MM:Obj:=fO (st 33) 3 "law_pegleap_k09_first_rows" 410 213
def MN:Obj:=⟨.type "tuple",none,(.seq #[.str "cells" 473,.str "pegs" 474,.str "found" 475,.str "one" 476,.str "two" 477] 0),#[]⟩
def MO:Obj:=fZ (st 34)
def MP:Obj:=cO "_law_open" "_law_open" 470 129 2 3 215 true 216 (.ref 217) (.ref 218) (.ref 219) 478
def MQ:Obj:=fO (st 34) 3 "law_pegleap_k09_first_rows" 410 220
def MR:Obj:=fZ (st 35)
def MS:Obj:=cO "_law_behind" "_law_behind" 481 135 2 3 222 true 223 .none .none (.ref 224) 484
def MT:Obj:=fO (st 35) 3 "law_pegleap_k09_first_rows" 410 225
def T2(P:Params):BT:=(nd (boot_o_0 P) (nd (boot_o_1 P) (nd (o43 P) (nd (boot_o_7 P) (nd o6 (nd o0 (nd Wj (ly XZ) (ly My)) (nd o1 (ly o0) (ly o1))) (nd o0 (nd o48 (ly Yc) (ly MI)) (nd o0 (ly o0) .nil))) (nd (W7 P) (nd Xl (nd Wo (ly o1) (ly MD)) (nd XH (ly Mj) .nil)) (nd o0 (nd Xw (ly Yh) (ly o0)) (nd XT (ly o1) .nil)))) (nd o0 (nd o1 (nd o0 (nd o1 (ly Y3) (ly MB)) (nd XF (ly o0) .nil)) (nd Xq (nd o0 (ly Ye) (ly o0)) (nd o0 (ly Mr) .nil))) (nd Xg (nd o0 (nd (o45 P) (ly o0) (ly MF)) (nd XM (ly o0) .nil)) (nd o0 (nd XA (ly Yk) (ly MO)) (nd o1 (ly Mw) .nil))))) (nd (boot_o_5 P) (nd (boot_o_9 P) (nd (o8 P) (nd Xi (nd Wl (ly o0) (ly Mz)) (nd o0 (ly Yn) (ly MS))) (nd Wd (nd o1 (ly o1) (ly o1)) (nd XQ (ly Mq) .nil))) (nd W9 (nd o7 (nd o0 (ly Y7) (ly o0)) (nd XI (ly o1) .nil)) (nd Wg (nd Xy (ly Yi) (ly MN)) (nd XW (ly o0) .nil)))) (nd o2 (nd Xe (nd Wb (nd o0 (ly Y5) (ly o1)) (nd o0 (ly Mh) .nil)) (nd o1 (nd Xu (ly o0) (ly ML)) (nd XS (ly Mt) .nil))) (nd o7 (nd Xn (nd o46 (ly Y9) (ly MG)) (nd o1 (ly Mn) .nil)) (nd Wi (nd o59 (ly o1) (ly MQ)) (nd o0 (ly o0) .nil)))))) (nd (boot_o_2 P) (nd (boot_o_4 P) (nd (boot_o_8 P) (nd o7 (nd o1 (nd Wk (ly Y0) (ly o0)) (nd XC (ly Ym) (ly MR))) (nd (Wc P) (nd o0 (ly o0) (ly o0)) (nd XO (ly o1) .nil))) (nd W8 (nd JR (nd Wq (ly Y6) (ly ME)) (nd o0 (ly o0) .nil)) (nd Wf (nd (Xx P) (ly o0) (ly o1)) (nd XU (ly Mu) .nil)))) (nd o44 (nd o9 (nd (Wa P) (nd Wm (ly Y4) (ly o0)) (nd XG (ly o1) .nil)) (nd o0 (nd Xs (ly Yg) (ly MK)) (nd o1 (ly Ms) .nil))) (nd JR (nd o1 (nd o0 (ly o1) (ly o0)) (nd o0 (ly Mm) .nil)) (nd o1 (nd o58 (ly o0) (ly MP)) (nd XX (ly Mx) .nil))))) (nd (boot_o_6 P) (nd (boot_o_10 P) (nd o0 (nd Xj (nd o0 (ly o1) (ly MA)) (nd XE (ly Yo) (ly MT))) (nd Xp (nd Xr (ly Yd) (ly MJ)) (nd XR (ly o0) .nil))) (nd Xf (nd (Xm P) (nd o7 (ly Y8) (ly o1)) (nd XJ (ly Ml) .nil)) (nd Wh (nd Xz (ly Yj) (ly o0)) (nd o0 (ly Mv) .nil)))) (nd o3 (nd o0 (nd Xk (nd Wn (ly o0) (ly MC)) (nd o1 (ly Mi) .nil)) (nd We (nd Xv (ly o1) (ly MM)) (nd o0 (ly o0) .nil))) (nd (Xh P) (nd Xo (nd o47 (ly Yb) (ly MH)) (nd XN (ly Mp) .nil)) (nd o0 (nd o0 (ly Yl) (ly o0)) (nd XY (ly o1) .nil)))))))
def S2(w:World)(os:OsState):SharedT:=⟨T2 w.params,227,Rg,#[],⟨0,0,0,0⟩,487,os⟩
def Qz(P:Params):Obj:=⟨.type "dict",none,(.dict #[en P "__name__" 165 (.str "law_pegleap_k09_first_rows" 410),en P "__doc__" 166 .none,en P "__package__" 167 .none,en P "__loader__" 168 (.builtin "__main__.__loader__#opaque"),en P "__spec__" 169 .none,en P "__annotations__" 170 (.ref 6),en P "__builtins__" 171 (.ref 4),en P "__file__" 173 (.str "/claim/cut.py" 172),en P "__cached__" 174 .none,en P "PegError" 206 (.ref 24),en P "BadBoard" 222 (.ref 37),en P "BadPegs" 238 (.ref 49),en P "LAST" 242 (.int 7 241),en P "MOST_CELLS" 244 (.int 24 243),en P "is_rising" 251 (.ref 58),en P "is_cell" 258 (.ref 65),en P "check_cells" 266 (.ref 72),en P "Board" 295 (.ref 89),en P "check_pegs" 304 (.ref 100),en P "two_apart" 313 (.ref 107),en P "between" 321 (.ref 114),en P "leaps" 331 (.ref 121),en P "COLOURS" 335 (.int 3 334),en P "can_be_done" 343 (.ref 128),en P "pegs_behind" 349 (.ref 133),en P "odd_on" 355 (.ref 138),en P "class_of" 361 (.ref 143),en P "steps_from" 369 (.ref 148),en P "next_rows" 382 (.ref 155),en P "first_rows" 393 (.ref 162),en P "in_order" 399 (.ref 167),en P "answer" 409 (.ref 174),en P "_law_cell_at" 419 (.ref 181),en P "_law_mix" 430 (.ref 188),en P "_law_cells_by" 445 (.ref 195),en P "_law_pegs_by" 451 (.ref 200),en P "_law_between" 458 (.ref 207),en P "_law_leaps" 469 (.ref 214),en P "_law_open" 480 (.ref 221),en P "_law_behind" 486 (.ref 226),en P "_law_gone" 501 (.ref 233),en P "_law_reach" 513 (.ref 240),en P "_law_first" 526 (.ref 247),en P "law" 541 (.ref 254)] 44),#[]⟩
def QA:Obj:=⟨.none,none,(.fields #[.int 2 0,.int 0 0,.ref 20,.int 4 0,.int 0 0,.ref 33,.int 6 0,.int 0 0,.ref 45,.int 11 0,.int 0 0,.ref 57,.int 13 0,.int 0 0,.ref 64,.int 15 0,.int 0 0,.ref 71,.int 23 0,.int 0 0,.ref 78,.int 28 0,.int 0 0,.ref 99,.int 34 0,.int 0 0,.ref 106,.int 38 0,.int 0 0,.ref 113,.int 40 0,.int 0 0,.ref 120,.int 49 0,.int 0 0,.ref 127,.int 51 0,.int 0 0,.ref 132,.int 54 0,.int 0 0,.ref 137,.int 56 0,.int 0 0,.ref 142,.int 62 0,.int 0 0,.ref 147,.int 64 0,.int 0 0,.ref 154,.int 71 0,.int 0 0,.ref 161,.int 79 0,.int 0 0,.ref 166,.int 81 0,.int 0 0,.ref 173,.int 91 0,.int 0 0,.ref 180,.int 95 0,.int 0 0,.ref 187,.int 100 0,.int 0 0,.ref 194,.int 113 0,.int 0 0,.ref 199,.int 119 0,.int 0 0,.ref 206,.int 121 0,.int 0 0,.ref 213,.int 129 0,.int 0 0,.ref 220,.int 135 0,.int 0 0,.ref 225,.int 138 0,.int 0 0,.ref 232,.int 148 0,.int 0 0,.ref 239,.int 158 0,.int 0 0,.ref 246,.int 169 0,.int 0 0,.ref 253]),#[]⟩
def QB:Obj:=⟨.type "tuple",none,(.seq #[.str "cells" 490,.str "pegs" 491,.str "cell" 492,.str "most" 493,.str "row" 494,.str "here" 495,.str "k" 496,.str "some" 497,.str "leap" 498] 0),#[]⟩
def QC:Obj:=fZ (st 36)
def QD:Obj:=cO "_law_gone" "_law_gone" 487 138 4 3 227 true 228 (.ref 229) (.ref 230) (.ref 231) 499
def QE:Obj:=fO (st 36) 3 "law_pegleap_k09_first_rows" 410 232
def QF:Obj:=⟨.type "tuple",none,(.seq #[.str "cells" 505,.str "pegs" 506,.str "found" 507,.str "at" 508,.str "leap" 509,.str "behind" 510] 0),#[]⟩
def QG:Obj:=fZ (st 37)
def QH:Obj:=cO "_law_reach" "_law_reach" 502 148 2 3 234 true 235 (.ref 236) (.ref 237) (.ref 238) 511
def QI:Obj:=fO (st 37) 3 "law_pegleap_k09_first_rows" 410 239
def QJ:Obj:=⟨.type "tuple",none,(.seq #[.str "cells" 517,.str "pegs" 518,.str "others" 519,.str "here" 520,.str "row" 521,.str "leap" 522,.str "behind" 523] 0),#[]⟩
def QK:Obj:=fZ (st 38)
def QL:Obj:=cO "_law_first" "_law_first" 514 158 3 3 241 true 242 (.ref 243) (.ref 244) (.ref 245) 524
def QM:Obj:=fO (st 38) 3 "law_pegleap_k09_first_rows" 410 246
def QN:Obj:=⟨.type "tuple",none,(.seq #[.str "script" 530,.str "cells" 531,.str "board" 532,.str "pegs" 533,.str "others" 534,.str "due" 535,.str "lap" 536,.str "handed" 537,.str "found" 538] 0),#[]⟩
def QO:Obj:=fZ (st 39)
def QS:Obj:=cO "law" "law" 527 169 1 3 248 true 249 (.ref 250) (.ref 251) (.ref 252) 539
def QT:Obj:=fO (st 39) 3 "law_pegleap_k09_first_rows" 410 253
def T3(P:Params):BT:=(nd (boot_o_0 P) (nd (boot_o_1 P) (nd (Qz P) (nd (boot_o_7 P) (nd o6 (nd o0 (nd Wj (ly XZ) (ly My)) (nd o1 (ly o0) (ly o1))) (nd o0 (nd o48 (ly Yc) (ly MI)) (nd o0 (ly o0) (ly QH)))) (nd (W7 P) (nd Xl (nd Wo (ly o1) (ly MD)) (nd XH (ly Mj) (ly QC))) (nd o0 (nd Xw (ly Yh) (ly o0)) (nd XT (ly o1) (ly QM))))) (nd o0 (nd o1 (nd o0 (nd o1 (ly Y3) (ly MB)) (nd XF (ly o0) (ly o0))) (nd Xq (nd o0 (ly Ye) (ly o0)) (nd o0 (ly Mr) (ly QJ)))) (nd Xg (nd o0 (nd (o45 P) (ly o0) (ly MF)) (nd XM (ly o0) (ly o1))) (nd o0 (nd XA (ly Yk) (ly MO)) (nd o1 (ly Mw) (ly o0)))))) (nd (boot_o_5 P) (nd (boot_o_9 P) (nd (o8 P) (nd Xi (nd Wl (ly o0) (ly Mz)) (nd o0 (ly Yn) (ly MS))) (nd Wd (nd o1 (ly o1) (ly o1)) (nd XQ (ly Mq) (ly o0)))) (nd W9 (nd o7 (nd o0 (ly Y7) (ly o0)) (nd XI (ly o1) (ly QE))) (nd Wg (nd Xy (ly Yi) (ly MN)) (nd XW (ly o0) (ly o1))))) (nd o2 (nd Xe (nd Wb (nd o0 (ly Y5) (ly o1)) (nd o0 (ly Mh) (ly QB))) (nd o1 (nd Xu (ly o0) (ly ML)) (nd XS (ly Mt) (ly QK)))) (nd o7 (nd Xn (nd o46 (ly Y9) (ly MG)) (nd o1 (ly Mn) (ly o0))) (nd Wi (nd o59 (ly o1) (ly MQ)) (nd o0 (ly o0) (ly QS))))))) (nd (boot_o_2 P) (nd (boot_o_4 P) (nd (boot_o_8 P) (nd o7 (nd o1 (nd Wk (ly Y0) (ly o0)) (nd XC (ly Ym) (ly MR))) (nd (Wc P) (nd o0 (ly o0) (ly o0)) (nd XO (ly o1) (ly QI)))) (nd W8 (nd JR (nd Wq (ly Y6) (ly ME)) (nd o0 (ly o0) (ly QD))) (nd Wf (nd (Xx P) (ly o0) (ly o1)) (nd XU (ly Mu) (ly o0))))) (nd QA (nd o9 (nd (Wa P) (nd Wm (ly Y4) (ly o0)) (nd XG (ly o1) (ly o1))) (nd o0 (nd Xs (ly Yg) (ly MK)) (nd o1 (ly Ms) (ly o0)))) (nd JR (nd o1 (nd o0 (ly o1) (ly o0)) (nd o0 (ly Mm) (ly QF))) (nd o1 (nd o58 (ly o0) (ly MP)) (nd XX (ly Mx) (ly QO)))))) (nd (boot_o_6 P) (nd (boot_o_10 P) (nd o0 (nd Xj (nd o0 (ly o1) (ly MA)) (nd XE (ly Yo) (ly MT))) (nd Xp (nd Xr (ly Yd) (ly MJ)) (nd XR (ly o0) (ly o1)))) (nd Xf (nd (Xm P) (nd o7 (ly Y8) (ly o1)) (nd XJ (ly Ml) (ly o0))) (nd Wh (nd Xz (ly Yj) (ly o0)) (nd o0 (ly Mv) (ly QN))))) (nd o3 (nd o0 (nd Xk (nd Wn (ly o0) (ly MC)) (nd o1 (ly Mi) (ly o0))) (nd We (nd Xv (ly o1) (ly MM)) (nd o0 (ly o0) (ly QL)))) (nd (Xh P) (nd Xo (nd o47 (ly Yb) (ly MH)) (nd XN (ly Mp) (ly QG))) (nd o0 (nd o0 (ly Yl) (ly o0)) (nd XY (ly o1) (ly QT))))))))
def S3(w:World)(os:OsState):SharedT:=⟨T3 w.params,255,Rg,#[],⟨0,0,0,0⟩,542,os⟩
def H1(P:Params):Heap:=⟨⟨[boot_o_0 P,boot_o_1 P,boot_o_2 P,Qz P,boot_o_4 P,boot_o_5 P,boot_o_6 P,boot_o_7 P,boot_o_8 P,boot_o_9 P,boot_o_10 P,o0,QA,o2,o3,o6,o7,o8 P,o0,o1,o9,Xe,o0,W7 P,W8,W9,Xf,Xg,JR,o7,Xh P,o0,o1,Xi,Xj,o0,Wa P,Wb,Xk,Xl,JR,o7,Xm P,o0,o1,Xn,Xo,o0,Wc P,Wd,Xp,Xq,o0,o1,We,o0,Wf,Wg,Wh,o0,o1,Wi,o0,Wj,Wk,Wl,o0,o1,Wm,o0,Wn,Wo,Wq,o0,o7,o45 P,o0,o46,o47,o48,o0,o1,Xr,o0,Xs,Xu,Xv,Xw,Xx P,Xy,Xz,XA,o58,o59,o0,o1,XC,o0,XE,XF,XG,o0,o1,XH,o0,XI,XJ,XM,o0,o1,XN,o0,XO,XQ,XR,o0,o1,XS,o0,XT,XU,XW,o0,o1,XX,o0,XY,XZ,Y0,o0,o1,Y3,Y4,Y5,o0,o1,Y6,Y7,Y8,o0,o1,Y9,Yb,Yc,o0,o1,Yd,Ye,Yg,o0,o1,Yh,o0,Yi,Yj,Yk,o0,o1,Yl,o0,Ym,Yn,Yo,o0,o1,Mh,Mi,Mj,o0,o1,Ml,o0,Mm,Mn,Mp,o0,o1,Mq,o0,Mr,Ms,Mt,o0,o1,Mu,o0,Mv,Mw,Mx,o0,o1,My,o0,Mz,MA,MB,o0,o1,MC,MD,ME,o0,o1,MF,o0,MG,MH,MI,o0,o1,MJ,o0,MK,ML,MM,o0,o1,MN,o0,MO,MP,MQ,o0,o1,MR,MS,MT,o0,o1,QB,o0,QC,QD,QE,o0,o1,QF,o0,QG,QH,QI,o0,o1,QJ,o0,QK,QL,QM,o0,o1,QN,o0,QO,QS,QT]⟩,Rg⟩
def env:Env:={ scope:=pq.main.scope,locals:=mainNs,globals:=mainNs,cells:=[],code:=(.ref 13),frame:=some 14 }
abbrev bE:List Stmt:=behindTheImports pq
def cE:Code:= .body bE env
abbrev fp:Pos:=⟨0,0,0,0⟩
abbrev B:List Frame:=[topFrame fp]
theorem pre(w:World)(os:OsState):topGo treeTable pq w 11 (some (.ref 6)) 12 ⟨boot_heap w.params,#[],boot_drawn,boot_toks,os⟩ (topStub pq)=some (⟨Ha w.params,#[],⟨0,0,0,0⟩,187,os⟩,⟨denote treeTable cE,cE,⟨0,0,0,0⟩,B⟩):=by kernel_rfl
theorem block(w:World)(os:OsState):segRun treeTable pq w 11 (some (.ref 6)) 1 1 ⟨Ha w.params,#[],⟨0,0,0,0⟩,187,os⟩ (blockOf bE env cE ⟨0,0,0,0⟩ B)=some (.next,(S0 w os).abs,cE,⟨0,0,0,0⟩):=by kernel_rfl
def g0:List Stmt:=tk 10 (dr 0 bE)
theorem r0(w:World)(os:OsState):segRunT treeTable pq w 11 (some (.ref 6)) 1 737 (S0 w os) (piecesOf g0 env cE ⟨0,0,0,0⟩ B)=some (.next,S1 w os,cE,⟨15,0,22,67⟩):=by kernel_rfl
def g1:List Stmt:=tk 26 (dr 10 bE)
theorem r1(w:World)(os:OsState):segRunT treeTable pq w 11 (some (.ref 6)) 1 890 (S1 w os) (piecesOf g1 env cE ⟨15,0,22,67⟩ B)=some (.next,S2 w os,cE,⟨135,0,137,35⟩):=by kernel_rfl
def g2:List Stmt:=tk 4 (dr 36 bE)
theorem r2(w:World)(os:OsState):segRunT treeTable pq w 11 (some (.ref 6)) 1 144 (S2 w os) (piecesOf g2 env cE ⟨135,0,137,35⟩ B)=some (.next,S3 w os,cE,⟨169,0,183,15⟩):=by kernel_rfl
theorem fin(w:World)(os:OsState):topRun treeTable pq w 11 (some (.ref 6)) 2 (S3 w os).abs ⟨doneF .next,cE,⟨169,0,183,15⟩,B⟩=some ⟨H1 w.params,#[],⟨0,0,0,0⟩,542,os⟩:=by kernel_rfl
theorem hb:bE=(g0++(g1++(g2++[]))):=by kernel_rfl
theorem run(w:World)(os:OsState):topRun treeTable pq w 11 (some (.ref 6)) (12+(1+(737+(890+(144+2))))) ⟨boot_heap w.params,#[],boot_drawn,boot_toks,os⟩ (topStub pq)=some ⟨H1 w.params,#[],⟨0,0,0,0⟩,542,os⟩:=
  go_top (pre w os) (piece_block (block w os) (Mg hb (piece_app (segRun_of (r0 w os)) (piece_app (segRun_of (r1 w os)) (piece_app (segRun_of (r2 w os)) (piece_nil (fin w os)))))))
def K(P:Params):Frag:=(nat_lit 0,boot_o_0 P)::(nat_lit 1,boot_o_1 P)::(nat_lit 2,boot_o_2 P)::(nat_lit 3,Qz P)::(nat_lit 4,boot_o_4 P)::(nat_lit 5,boot_o_5 P)::(nat_lit 6,boot_o_6 P)::(nat_lit 7,boot_o_7 P)::(nat_lit 8,boot_o_8 P)::(nat_lit 9,boot_o_9 P)::(nat_lit 10,boot_o_10 P)::(nat_lit 11,o0)::(nat_lit 12,QA)::(nat_lit 13,o2)::(nat_lit 14,o3)::(nat_lit 15,o6)::(nat_lit 22,o0)::(nat_lit 23,W7 P)::(nat_lit 24,W8)::(nat_lit 25,W9)::(nat_lit 28,JR)::(nat_lit 35,o0)::(nat_lit 36,Wa P)::(nat_lit 37,Wb)::(nat_lit 40,JR)::(nat_lit 47,o0)::(nat_lit 48,Wc P)::(nat_lit 49,Wd)::(nat_lit 52,o0)::(nat_lit 53,o1)::(nat_lit 54,We)::(nat_lit 55,o0)::(nat_lit 56,Wf)::(nat_lit 57,Wg)::(nat_lit 58,Wh)::(nat_lit 59,o0)::(nat_lit 60,o1)::(nat_lit 61,Wi)::(nat_lit 62,o0)::(nat_lit 63,Wj)::(nat_lit 64,Wk)::(nat_lit 65,Wl)::(nat_lit 66,o0)::(nat_lit 67,o1)::(nat_lit 68,Wm)::(nat_lit 69,o0)::(nat_lit 70,Wn)::(nat_lit 71,Wo)::(nat_lit 72,Wq)::(nat_lit 80,o0)::(nat_lit 81,o1)::(nat_lit 82,Xr)::(nat_lit 83,o0)::(nat_lit 84,Xs)::(nat_lit 85,Xu)::(nat_lit 86,Xv)::(nat_lit 87,Xw)::(nat_lit 88,Xx P)::(nat_lit 89,Xy)::(nat_lit 90,Xz)::(nat_lit 91,XA)::(nat_lit 94,o0)::(nat_lit 95,o1)::(nat_lit 96,XC)::(nat_lit 97,o0)::(nat_lit 98,XE)::(nat_lit 99,XF)::(nat_lit 100,XG)::(nat_lit 101,o0)::(nat_lit 102,o1)::(nat_lit 103,XH)::(nat_lit 104,o0)::(nat_lit 105,XI)::(nat_lit 106,XJ)::(nat_lit 107,XM)::(nat_lit 108,o0)::(nat_lit 109,o1)::(nat_lit 110,XN)::(nat_lit 111,o0)::(nat_lit 112,XO)::(nat_lit 113,XQ)::(nat_lit 114,XR)::(nat_lit 115,o0)::(nat_lit 116,o1)::(nat_lit 117,XS)::(nat_lit 118,o0)::(nat_lit 119,XT)::(nat_lit 120,XU)::(nat_lit 121,XW)::(nat_lit 122,o0)::(nat_lit 123,o1)::(nat_lit 124,XX)::(nat_lit 125,o0)::(nat_lit 126,XY)::(nat_lit 127,XZ)::(nat_lit 128,Y0)::(nat_lit 129,o0)::(nat_lit 130,o1)::(nat_lit 131,Y3)::(nat_lit 132,Y4)::(nat_lit 133,Y5)::(nat_lit 134,o0)::(nat_lit 135,o1)::(nat_lit 136,Y6)::(nat_lit 137,Y7)::(nat_lit 138,Y8)::(nat_lit 139,o0)::(nat_lit 140,o1)::(nat_lit 141,Y9)::(nat_lit 142,Yb)::(nat_lit 143,Yc)::(nat_lit 144,o0)::(nat_lit 145,o1)::(nat_lit 146,Yd)::(nat_lit 147,Ye)::(nat_lit 148,Yg)::(nat_lit 149,o0)::(nat_lit 150,o1)::(nat_lit 151,Yh)::(nat_lit 152,o0)::(nat_lit 153,Yi)::(nat_lit 154,Yj)::(nat_lit 155,Yk)::(nat_lit 156,o0)::(nat_lit 157,o1)::(nat_lit 158,Yl)::(nat_lit 159,o0)::(nat_lit 160,Ym)::(nat_lit 161,Yn)::(nat_lit 162,Yo)::(nat_lit 163,o0)::(nat_lit 164,o1)::(nat_lit 165,Mh)::(nat_lit 166,Mi)::(nat_lit 167,Mj)::(nat_lit 168,o0)::(nat_lit 169,o1)::(nat_lit 170,Ml)::(nat_lit 171,o0)::(nat_lit 172,Mm)::(nat_lit 173,Mn)::(nat_lit 174,Mp)::(nat_lit 175,o0)::(nat_lit 176,o1)::(nat_lit 177,Mq)::(nat_lit 178,o0)::(nat_lit 179,Mr)::(nat_lit 180,Ms)::(nat_lit 181,Mt)::(nat_lit 182,o0)::(nat_lit 183,o1)::(nat_lit 184,Mu)::(nat_lit 185,o0)::(nat_lit 186,Mv)::(nat_lit 187,Mw)::(nat_lit 188,Mx)::(nat_lit 189,o0)::(nat_lit 190,o1)::(nat_lit 191,My)::(nat_lit 192,o0)::(nat_lit 193,Mz)::(nat_lit 194,MA)::(nat_lit 195,MB)::(nat_lit 196,o0)::(nat_lit 197,o1)::(nat_lit 198,MC)::(nat_lit 199,MD)::(nat_lit 200,ME)::(nat_lit 201,o0)::(nat_lit 202,o1)::(nat_lit 203,MF)::(nat_lit 204,o0)::(nat_lit 205,MG)::(nat_lit 206,MH)::(nat_lit 207,MI)::(nat_lit 208,o0)::(nat_lit 209,o1)::(nat_lit 210,MJ)::(nat_lit 211,o0)::(nat_lit 212,MK)::(nat_lit 213,ML)::(nat_lit 214,MM)::(nat_lit 215,o0)::(nat_lit 216,o1)::(nat_lit 217,MN)::(nat_lit 218,o0)::(nat_lit 219,MO)::(nat_lit 220,MP)::(nat_lit 221,MQ)::(nat_lit 222,o0)::(nat_lit 223,o1)::(nat_lit 224,MR)::(nat_lit 225,MS)::(nat_lit 226,MT)::(nat_lit 227,o0)::(nat_lit 228,o1)::(nat_lit 229,QB)::(nat_lit 230,o0)::(nat_lit 231,QC)::(nat_lit 232,QD)::(nat_lit 233,QE)::(nat_lit 234,o0)::(nat_lit 235,o1)::(nat_lit 236,QF)::(nat_lit 237,o0)::(nat_lit 238,QG)::(nat_lit 239,QH)::(nat_lit 240,QI)::(nat_lit 241,o0)::(nat_lit 242,o1)::(nat_lit 243,QJ)::(nat_lit 244,o0)::(nat_lit 245,QK)::(nat_lit 246,QL)::(nat_lit 247,QM)::(nat_lit 248,o0)::(nat_lit 249,o1)::(nat_lit 250,QN)::(nat_lit 251,o0)::(nat_lit 252,QO)::(nat_lit 253,QS)::(nat_lit 254,QT)::[]
abbrev as:List Addr:=[0,1,2,3,4,5,6,7,8,9,10,11,12,13,14,15,22,23,24,25,28,35,36,37,40,47,48,49,52,53,54,55,56,57,58,59,60,61,62,63,64,65,66,67,68,69,70,71,72,80,81,82,83,84,85,86,87,88,89,90,91,94,95,96,97,98,99,100,101,102,103,104,105,106,107,108,109,110,111,112,113,114,115,116,117,118,119,120,121,122,123,124,125,126,127,128,129,130,131,132,133,134,135,136,137,138,139,140,141,142,143,144,145,146,147,148,149,150,151,152,153,154,155,156,157,158,159,160,161,162,163,164,165,166,167,168,169,170,171,172,173,174,175,176,177,178,179,180,181,182,183,184,185,186,187,188,189,190,191,192,193,194,195,196,197,198,199,200,201,202,203,204,205,206,207,208,209,210,211,212,213,214,215,216,217,218,219,220,221,222,223,224,225,226,227,228,229,230,231,232,233,234,235,236,237,238,239,240,241,242,243,244,245,246,247,248,249,250,251,252,253,254]
abbrev q:Program:=view PySem.Challenge.pw_pegleap_k09_first_rows [1,2,3,5,6,7,8,9,10,11,12,13,14,16,17,18,19,20,22,23,24,25,26,28,29,30,31,32,33,34,35,36,37,38,39]
abbrev loose:List Str:=[]
abbrev lv:List (Str×WData):=[]
def dL:DefRec:=match st 39 with | .FunctionDef n a b _ _ _ sc _ _ ps=>⟨n,a,b,sc,ps⟩ | _=>⟨default,default,[],default,⟨0,0,0,0⟩⟩
theorem ws:PySem.Challenge.rw_pegleap_k09_first_rows.wellSaid=true:=by kernel_rfl
theorem size(w:World):((boot_heap w.params).isNs mainGlobals&&(#[]:Array GenState).size==0,(boot_heap w.params).objs.size,(boot_heap w.params).nsMap mainGlobals "__annotations__")=(true,11,(some (.ref 6))):=by kernel_rfl
theorem Wr(w:World):(fun os=>((staticsOk (importedModules pq.main.body) (boot_heap w.params) (H1 w.params)&&namesBound pq (H1 w.params)&&gensDone ⟨H1 w.params,#[],⟨0,0,0,0⟩,542,os⟩&&laidKept (boot_heap w.params) (H1 w.params)),openSeen q loose (importedModules pq.main.body) (fun s=>xlAt q lv s&&recOk (RowW.records (OpenRow.toRowW (OpenLaw.row PySem.Challenge.rw_pegleap_k09_first_rows))) s) true ⟨H1 w.params,#[],⟨0,0,0,0⟩,542,os⟩,(fun s:Shared=>as.map s.heap.get?) ⟨H1 w.params,#[],⟨0,0,0,0⟩,542,os⟩))=fun _=>(true,openGood q loose,(fun w:World=>(K w.params).map fun p=>some p.2) w):=by kernel_rfl
theorem hl:LeftO pq q loose (fun s=>xlAt q lv s&&recOk (RowW.records (OpenRow.toRowW (OpenLaw.row PySem.Challenge.rw_pegleap_k09_first_rows))) s) (fun s:Shared=>as.map s.heap.get?) (fun w:World=>(K w.params).map fun p=>some p.2) 3662:=
  LeftO.of_pieces (boot_open (by kernel_rfl) (by kernel_rfl) (fun s=>by kernel_rfl)) size run (by kernel_rfl) Wr
end Hd
end
open PySem PySem.W PyProof.Rows
set_option maxRecDepth 100000 in
set_option maxHeartbeats 0 in
theorem PySem.Challenge.cw_pegleap_k09_first_rows_holds : PySem.Challenge.rw_pegleap_k09_first_rows.Holds := by
  refine holds_law Hd.ws fun av0=> ?_
  refine holds_openX (r:=OpenLaw.row PySem.Challenge.rw_pegleap_k09_first_rows) (d:=Hd.dL) (kwd:=[]) Hd.hl (fun s e=>xl_of s (Bool.and_eq_true_iff.mp e).1) XL.keeps (by kernel_rfl) (by kernel_rfl) (by kernel_rfl) (fun s e=>recFacts_of (Bool.and_eq_true_iff.mp e).2) (by kernel_rfl) av0 (by kernel_rfl) ⟨rfl,rfl,rfl,rfl,rfl,by kernel_rfl⟩ ?hw ?hc
  (case hw=>w_on;w_witness2)
  k_fill
  refine Pk.VN (l:=PySem.Challenge.rw_pegleap_k09_first_rows) (by kernel_rfl) (by kernel_rfl) (fun _=>by kernel_rfl) ?F
  case F=>
    intro w mg fa h KX G Uh
    refine Pk.VM (h:=h) Uh ?T (fun t ns hl=>Pk.W5 t ns)
    refine' Pk.PD KX G ?oN ?oO ?oQ ?oR ?tF ?tG ?tH ?tK ?ko ?kq ?kr ?ku ?mH ?mJ ?mK ?mL ?oS ?oU ?oV ?oW ?tL ?tM ?tN ?tO ?zQ ?zR ?zS ?zT ?kB ?kC ?kE ?kF ?kG ?kH ?kI ?kJ ?wB ?wC ?wD ?wF ?qC ?qD ?qE ?qF ?mO ?mP ?mQ ?mR ?oX ?oY ?oZ ?p7 ?mS ?mT ?mU ?mV ?wG ?wH ?wI ?wJ ?jw ?jx ?jy ?jz ?qG ?qH ?qI ?qJ ?iT ?iU ?iV ?iW ?jA ?jB ?jC ?jD ?jE ?jF ?jG ?jH ?mW ?mX ?mY ?mZ ?p8 ?p9 ?pe ?pB ?kK ?kL ?kM ?kN ?pC ?pD ?pF ?pG ?n5 ?n6 ?n8 ?n9 ?nc ?ng ?nh ?nj ?IV ?IW ?IX ?IY ?jt ?fC ?ir ?pQ ?fD ?iu ?IZ ?pH ?nt ?J0 ?CW ?zU ?J1 ?wK ?zV ?ig ?oB ?ez ?aI_ ?iI_ ?X3 ?X4 ?X5 ?pgB ?hdB ?poB ?saB ?Pz ?kcB ?JQ
    (case oN=>k_is)
    (case oO=>k_is)
    (case oQ=>k_is)
    (case oR=>k_is)
    (case tF=>k_is)
    (case tG=>k_is)
    (case tH=>k_is)
    (case tK=>k_is)
    (case ko=>k_is)
    (case kq=>k_is)
    (case kr=>k_is)
    (case ku=>k_is)
    (case mH=>k_is)
    (case mJ=>k_is)
    (case mK=>k_is)
    (case mL=>k_is)
    (case oS=>k_is)
    (case oU=>k_is)
    (case oV=>k_is)
    (case oW=>k_is)
    (case tL=>k_is)
    (case tM=>k_is)
    (case tN=>k_is)
    (case tO=>k_is)
    (case zQ=>k_is)
    (case zR=>k_is)
    (case zS=>k_is)
    (case zT=>k_is)
    (case kB=>k_is)
    (case kC=>k_is)
    (case kE=>k_is)
    (case kF=>k_is)
    (case kG=>k_is)
    (case kH=>k_is)
    (case kI=>k_is)
    (case kJ=>k_is)
    (case wB=>k_is)
    (case wC=>k_is)
    (case wD=>k_is)
    (case wF=>k_is)
    (case qC=>k_is)
    (case qD=>k_is)
    (case qE=>k_is)
    (case qF=>k_is)
    (case mO=>k_is)
    (case mP=>k_is)
    (case mQ=>k_is)
    (case mR=>k_is)
    (case oX=>k_is)
    (case oY=>k_is)
    (case oZ=>k_is)
    (case p7=>k_is)
    (case mS=>k_is)
    (case mT=>k_is)
    (case mU=>k_is)
    (case mV=>k_is)
    (case wG=>k_is)
    (case wH=>k_is)
    (case wI=>k_is)
    (case wJ=>k_is)
    (case jw=>k_is)
    (case jx=>k_is)
    (case jy=>k_is)
    (case jz=>k_is)
    (case qG=>k_is)
    (case qH=>k_is)
    (case qI=>k_is)
    (case qJ=>k_is)
    (case iT=>k_is)
    (case iU=>k_is)
    (case iV=>k_is)
    (case iW=>k_is)
    (case jA=>k_is)
    (case jB=>k_is)
    (case jC=>k_is)
    (case jD=>k_is)
    (case jE=>k_is)
    (case jF=>k_is)
    (case jG=>k_is)
    (case jH=>k_is)
    (case mW=>k_is)
    (case mX=>k_is)
    (case mY=>k_is)
    (case mZ=>k_is)
    (case p8=>k_is)
    (case p9=>k_is)
    (case pe=>k_is)
    (case pB=>k_is)
    (case kK=>k_is)
    (case kL=>k_is)
    (case kM=>k_is)
    (case kN=>k_is)
    (case pC=>k_is)
    (case pD=>k_is)
    (case pF=>k_is)
    (case pG=>k_is)
    (case n5=>k_is)
    (case n6=>k_is)
    (case n8=>k_is)
    (case n9=>k_is)
    (case nc=>k_is)
    (case ng=>k_is)
    (case nh=>k_is)
    (case nj=>k_is)
    (case IV=>k_is)
    (case IW=>k_is)
    (case IX=>k_is)
    (case IY=>k_is)
    (case jt=>k_is)
    (case fC=>k_is)
    (case ir=>k_is)
    (case pQ=>k_is)
    (case fD=>kernel_rfl)
    (case iu=>kernel_rfl)
    (case IZ=>k_is)
    (case pH=>k_is)
    (case nt=>k_is)
    (case J0=>k_is)
    (case CW=>k_is)
    (case zU=>k_is)
    (case J1=>k_is)
    (case wK=>k_is)
    (case zV=>k_is)
    (case ig=>k_is)
    (case oB=>k_is)
    (case ez=>k_is)
    (case aI_=>k_is)
    (case iI_=>k_is)
    (case X3=>k_is)
    (case X4=>k_is)
    (case X5=>k_is)
    (case pgB=>k_is)
    (case hdB=>k_is)
    (case poB=>k_is)
    (case saB=>k_is)
    (case Pz=>k_is)
    (case kcB=>k_is)
    (case JQ=>k_is)
end Qy
