import PyProof.Rows.All
import Wide.All
import OpenK.AllK
import Wide.FinOn
import PySem.Challenge.RW_pegleap_k12_rows_counted
import Lean
import PyProof.EqAt
import PyProof.EqKinds
import PyProof.TupleCall
import KE.KIsAll
import PyProof.ExcAttrAll.ValueError
import OpenK.KDescr
import PyProof.NeKinds
import PySem.SetOps
import PyProof.ZipIter
import KE.KDictOf
import PyProof.AttrMissHeap
import PyProof.FactsAll.zip_1
import PyProof.DictRoadsH
import PyProof.TupleKey
import PyProof.EnumMake
import PyProof.ConsumeWalk
import PyProof.FactsAll.list_3
import PyProof.SumWalkG
import PyProof.WalkInts
import PyProof.SeqI3
import PyProof.DictUpdate
import PyProof.DictItems
import PyProof.Rows.TupDisplay
import PyProof.Conv_int_bool
import Open.Pieces
set_option Elab.async false
set_option linter.all false
set_option maxRecDepth 100000
set_option maxHeartbeats 4000000
set_option hygiene false in
local macro_rules|`(tactic|walk_at $s:str)=>do
  let mut t:=#[]
  for c in s.getString.toList do
    t:=t.push (<-match c with
    |'!'=>`(tactic|exact av)
    |'#'=>`(tactic|obtain rfl:=aR)
    |'$'=>`(tactic|dsimp only)
    |'%'=>`(tactic|refine af (κ:=.aE) (aA:=.old) ?_ ?_)
    |'&'=>`(tactic|exact ay (κ:=.aE))
    |'\''=>`(tactic|refine af (κ:=.new) (aA:=.new) ?_ ?_)
    |'('=>`(tactic|exact ah 0 (pv 0))
    |')'=>`(tactic|refine aL ?_ ?_)
    |'*'=>`(tactic|refine aU ?_)
    |'+'=>`(tactic|exact ah 1 (pv 1))
    |','=>`(tactic|dsimp only at q)
    |'-'=>`(tactic|refine af (κ:=.aE) (aA:=.new) ?_ ?_)
    |'.'=>`(tactic|refine cP zz fun A st r q=>?_)
    |'/'=>`(tactic|exact ay (κ:=.new))
    |'0'=>`(tactic|clear zz)
    |'1'=>`(tactic|refine⟨A,st,r,?_⟩)
    |'2'=>`(tactic|rw[hf] at q)
    |'3'=>`(tactic|refine bH (aA:=.old) (bC:=.new) ?_ ?_ (fun _ _=>rfl))
    |'4'=>`(tactic|refine bI (κ:=.old) ?_)
    |'5'=>`(tactic|exact ah 2 (pv 2))
    |'6'=>`(tactic|exact ah 3 (pv 3))
    |'7'=>`(tactic|obtain rfl:=iG)
    |'8'=>`(tactic|refine cS (κ:=.new) ?_)
    |'9'=>`(tactic|intro pins s σ H Q I h)
    |':'=>`(tactic|refine eS ?_)
    |';'=>`(tactic|refine fC ?_)
    |'<'=>`(tactic|refine ji ?_   ?_   gn)
    |'='=>`(tactic|exact ah 4 (pv 4))
    |'>'=>`(tactic|intro pins s σ H D I h)
    |'?'=>`(tactic|refine aB8 (aB9 ?_))
    |'@'=>`(tactic|refine aK (κ:=.aE) bV hr (by decide) ?_ (ao (ao (ao aO))))
    |'A'=>`(tactic|intro X hP hw hK hc i pins s σ H E I hf st hg)
    |'B'=>`(tactic|refine bZ cH rfl T.oW kL ?_)
    |'C'=>`(tactic|refine dz (aA:=.aE) iT ?_)
    |'D'=>`(tactic|refine⟨A,st,r.mono e1,?_⟩)
    |'E'=>`(tactic|refine bx (aA:=.old) (bC:=.new) dG cI ?_ ?_)
    |'F'=>`(tactic|refine uR (hf it (by simp)) fun f0 f1 f2 f3 f4 f5=>?_)
    |'G'=>`(tactic|refine aK (κ:=.aE) bR hr (by decide) ?_ (ao (ao aO)))
    |'H'=>`(tactic|refine bx (aA:=.new) (bC:=.new) dG cI ?_ ?_)
    |'I'=>`(tactic|obtain rfl:xs=rX:=by injection e1)
    |'J'=>`(tactic|refine aM (ou w) fun v iG w1=>?_)
    |'K'=>`(tactic|refine bx (aA:=.new) (bC:=.new) jl jr ?_ ?_)
    |'L'=>`(tactic|refine bG (i:=3) (k:=.par) (κ:=.new) ?_ ?_)
    |'M'=>`(tactic|refine bx (aA:=.old) (bC:=.new) jF ie ?_ ?_)
    |'N'=>`(tactic|refine bG (i:=2) (k:=.par) (κ:=.new) ?_ ?_)
    |'O'=>`(tactic|rcases dU h with ⟨_,_,e1,_⟩ | ⟨rX,ys,e1,rfl,q⟩ | ⟨_,_,e1,_⟩)
    |'P'=>`(tactic|rw[h,aC2 (by decide),aC2 (by lia),aC3 (by lia)])
    |'Q'=>`(tactic|simp only[List.isEmpty_nil,Bool.not_true,aE0,if_false,bind_assoc,List.length_nil,bne_self_eq_false])
    |'R'=>`(tactic|refine dH (aA:=.old) (bC:=.old) (lZ hr.units) j8 ?_ ?_ (by with_unfolding_all rfl))
    |'S'=>`(tactic|refine dH (aA:=.new) (bC:=.old) (qZ hr.units) j8 ?_ ?_ (by with_unfolding_all rfl))
    |'T'=>`(tactic|rw[show oB f v ((k,x)::r)=(if k=f then (k,v)::r else (k,x)::oB f v r) from rfl])
    |'U'=>`(tactic|simp only[List.pairwise_cons,aC6,aF1,or_false,List.Pairwise.nil,and_true])
    |'V'=>`(tactic|rcases dU h with ⟨_,_,e1,_⟩ | ⟨_,_,e1,_⟩ | ⟨rX,ys,e1,rfl,q⟩)
    |'W'=>`(tactic|have fH:A.units < cLine:=Nat.lt_of_le_of_lt (Nat.le_add_right _ _) hr)
    |'X'=>`(tactic|rcases dU h with ⟨_,j,_,rfl⟩ | ⟨_,_,e1,_⟩ | ⟨_,_,e1,_⟩)
    |'Y'=>`(tactic|refine⟨p::A,⟨r.base.trans ee,fun a m=>?_,by simp[r.len],fun j d' h=>?_,fun a b n' m' p' E2 Gx uy g1 g2 s1 s2 o1 o2 w1 w2=>?_⟩,ee,fun _ m=>.tail _ m⟩)
    |'Z'=>`(tactic|have I1:Inv X pins σ H { s with heap:=h' }:=I.turned (t':=s.toks) (fun b o hb e=>(sb.2 b hb).trans e) f0 f1 f3 f4 f5)
    |'['=>`(tactic|obtain ⟨⟨O3,hz,ho,hx,_⟩,_,_⟩:=(show gr X.prog X.w H s.heap a (.ext (DY a o ps)) from I.eE a _ ha))
    |']'=>`(tactic|refine yj PySem.F.plainAttrs_list PySem.F.slot_list_append PySem.F.type_list_append iN (pv 1) ?_)
    |'^'=>`(tactic|refine yj PySem.F.plainAttrs_list PySem.F.slot_list_append PySem.F.type_list_append iN (pv 2) ?_)
    |_=>Lean.Macro.throwUnsupported)
  `(tactic|($[$t];*))
noncomputable section
section
open PySem PySem.Spec PySem.W PyProof.Rows
abbrev aB8:=@wpAny_bind
abbrev aB9:=@wpAny_pure
abbrev aC0:=@Heap.get?_push_of_some
abbrev aC1:=@List.map_cons
abbrev aC2:=@if_pos
abbrev aC3:=@if_neg
abbrev aC4:=@Nat.le_refl
abbrev aC5:=@List.mem_map
abbrev aC6:=@List.mem_cons
abbrev aC7:=@wpS_bind
abbrev aC8:=@List.length_map
abbrev aC9:=@Array.length_toList
abbrev aD0:=@List.length_append
abbrev aD1:=@List.length_cons
abbrev aD2:=@List.getElem?_eq_getElem
abbrev aD3:=@wpS_pure
abbrev aD4:=@Bool.and_eq_true
abbrev aD5:=@Nat.le_trans
abbrev aD6:=@decide_eq_true
abbrev aD7:=@List.getElem?_eq_some_iff
abbrev aD8:=@List.extract_eq_take_drop
abbrev aD9:=@Heap.lt_size
abbrev aE0:=@Bool.false_eq_true
abbrev aE1:=@Option.some.inj
abbrev aE2:=@Heap.get?_push_size
abbrev aE3:=@List.getElem?_map
abbrev aE4:=@decide_eq_false
abbrev aE5:=@Nat.ne_of_lt
abbrev aE6:=@List.size_toArray
abbrev aE7:=@List.nil_append
abbrev aE8:=@Nat.lt_of_lt_of_le
abbrev aE9:=@Array.getD_eq_getD_getElem?
abbrev aF0:=@beq_iff_eq
abbrev aF1:=@List.not_mem_nil
abbrev aF2:=@List.mem_singleton
abbrev aF3:=@List.append_assoc
abbrev aF4:=@List.getElem?_set_self
abbrev aF5:=@List.getElem?_set_ne
abbrev aF6:=@List.mem_iff_getElem
abbrev aF7:=@List.mem_append_right
abbrev aF8:=@Bool.false_ne_true
abbrev aF9:=@List.mem_append
abbrev aG0:=@decide_eq_true_eq
abbrev aG1:=@Nat.succ.inj
abbrev aG2:=@List.getElem?_append_right
abbrev aG3:=@List.getElem?_append_left
abbrev aG4:=@wpAny_loadPart'
abbrev aG5:=@List.mem_cons_of_mem
abbrev aG6:=@sizeLine_eq
abbrev aG7:=@List.mem_of_getElem?
abbrev aG8:=@of_decide_eq_true
abbrev aG9:=@List.map_map
abbrev aH0:=@List.exists_cons_of_length_eq_add_one
abbrev aH1:=@Array.getElem?_toList
abbrev aH2:=@Nat.le_of_lt
abbrev aH3:=@Heap.SameBut.update
abbrev aH4:=@List.nodup_cons
abbrev aH5:=@List.getD_eq_getElem?_getD
abbrev aH6:=@List.getElem?_eq_none_iff
abbrev aH7:=@Nat.not_lt_zero
abbrev aH8:=@List.map_append
abbrev aH9:=@wpAny_call_entry
abbrev aI0:=@List.all_eq_true
abbrev aI1:=@beq_eq_false_iff_ne
abbrev aI2:=@Nat.zero_le
abbrev aI3:=@wpAny_mono
abbrev aI4:=@List.take_append_drop
abbrev aI5:=@List.nodup_iff_pairwise_ne
abbrev aI6:=@wpS_forRange
abbrev aI7:=@List.map_congr_left
abbrev aI8:=@Int.toNat_natCast
abbrev aI9:=@List.length_filter_le
abbrev aJ0:=@List.append_nil
abbrev aJ1:=@List.length_take
abbrev aJ2:=@List.mem_of_mem_take
end
open PySem.W (Frag)
section Zo
theorem vD{p0 p1 p2:Prop}{G:Prop}(h:p0/\p1/\p2)(f:p0->p1->p2->G):G:=f h.1 h.2.1 h.2.2
theorem aM{kH:Sort _}{p0 p1:kH->Prop}{G:Prop}(h:∃a0,p0 a0/\p1 a0)(f:∀a0,p0 a0->p1 a0->G):G:=h.elim fun a0 h=>f a0 h.1 h.2
theorem qS{kH oA:Sort _}{p0:kH->oA->Prop}{G:Prop}(h:∃a0 a1,p0 a0 a1)(f:∀a0 a1,p0 a0 a1->G):G:=h.elim fun a0 h=>h.elim fun a1 h=>f a0 a1 h
theorem BV{p0 p1 p2 p3:Prop}{G:Prop}(h:p0/\p1/\p2/\p3)(f:p0->p1->p2->p3->G):G:=f h.1 h.2.1 h.2.2.1 h.2.2.2
theorem bM{kH:Sort _}{p0 p1 p2:kH->Prop}{G:Prop}(h:∃a0,p0 a0/\p1 a0/\p2 a0)(f:∀a0,p0 a0->p1 a0->p2 a0->G):G:=h.elim fun a0 h=>f a0 h.1 h.2.1 h.2.2
theorem cP{kH oA:Sort _}{p0 p1:kH->oA->Prop}{G:Prop}(h:∃a0 a1,p0 a0 a1/\p1 a0 a1)(f:∀a0 a1,p0 a0 a1->p1 a0 a1->G):G:=h.elim fun a0 h=>h.elim fun a1 h=>f a0 a1 h.1 h.2
theorem Kn{p0 p1 p2 p3 p4:Prop}{G:Prop}(h:p0/\p1/\p2/\p3/\p4)(f:p0->p1->p2->p3->p4->G):G:=f h.1 h.2.1 h.2.2.1 h.2.2.2.1 h.2.2.2.2
theorem Zp{kH:Sort _}{p0 p1 p2 p3:kH->Prop}{G:Prop}(h:∃a0,p0 a0/\p1 a0/\p2 a0/\p3 a0)(f:∀a0,p0 a0->p1 a0->p2 a0->p3 a0->G):G:=h.elim fun a0 h=>f a0 h.1 h.2.1 h.2.2.1 h.2.2.2
theorem b6{kH oA:Sort _}{p0 p1 p2:kH->oA->Prop}{G:Prop}(h:∃a0 a1,p0 a0 a1/\p1 a0 a1/\p2 a0 a1)(f:∀a0 a1,p0 a0 a1->p1 a0 a1->p2 a0 a1->G):G:=h.elim fun a0 h=>h.elim fun a1 h=>f a0 a1 h.1 h.2.1 h.2.2
theorem Ko{kH oA vE:Sort _}{p0 p1:kH->oA->vE->Prop}{G:Prop}(h:∃a0 a1 a2,p0 a0 a1 a2/\p1 a0 a1 a2)(f:∀a0 a1 a2,p0 a0 a1 a2->p1 a0 a1 a2->G):G:=h.elim fun a0 h=>h.elim fun a1 h=>h.elim fun a2 h=>f a0 a1 a2 h.1 h.2
theorem uR{p0 p1 p2 p3 p4 p5:Prop}{G:Prop}(h:p0/\p1/\p2/\p3/\p4/\p5)(f:p0->p1->p2->p3->p4->p5->G):G:=f h.1 h.2.1 h.2.2.1 h.2.2.2.1 h.2.2.2.2.1 h.2.2.2.2.2
theorem Kp{kH:Sort _}{p0 p1 p2 p3 p4:kH->Prop}{G:Prop}(h:∃a0,p0 a0/\p1 a0/\p2 a0/\p3 a0/\p4 a0)(f:∀a0,p0 a0->p1 a0->p2 a0->p3 a0->p4 a0->G):G:=h.elim fun a0 h=>f a0 h.1 h.2.1 h.2.2.1 h.2.2.2.1 h.2.2.2.2
theorem uS{kH oA:Sort _}{p0 p1 p2 p3:kH->oA->Prop}{G:Prop}(h:∃a0 a1,p0 a0 a1/\p1 a0 a1/\p2 a0 a1/\p3 a0 a1)(f:∀a0 a1,p0 a0 a1->p1 a0 a1->p2 a0 a1->p3 a0 a1->G):G:=h.elim fun a0 h=>h.elim fun a1 h=>f a0 a1 h.1 h.2.1 h.2.2.1 h.2.2.2
theorem Oh{kH oA vE:Sort _}{p0 p1 p2:kH->oA->vE->Prop}{G:Prop}(h:∃a0 a1 a2,p0 a0 a1 a2/\p1 a0 a1 a2/\p2 a0 a1 a2)(f:∀a0 a1 a2,p0 a0 a1 a2->p1 a0 a1 a2->p2 a0 a1 a2->G):G:=h.elim fun a0 h=>h.elim fun a1 h=>h.elim fun a2 h=>f a0 a1 a2 h.1 h.2.1 h.2.2
theorem Zq{kH oA vE EA:Sort _}{p0 p1:kH->oA->vE->EA->Prop}{G:Prop}(h:∃a0 a1 a2 a3,p0 a0 a1 a2 a3/\p1 a0 a1 a2 a3)(f:∀a0 a1 a2 a3,p0 a0 a1 a2 a3->p1 a0 a1 a2 a3->G):G:=h.elim fun a0 h=>h.elim fun a1 h=>h.elim fun a2 h=>h.elim fun a3 h=>f a0 a1 a2 a3 h.1 h.2
theorem Zr{kH oA vE EA Zs:Sort _}{p0:kH->oA->vE->EA->Zs->Prop}{G:Prop}(h:∃a0 a1 a2 a3 a4,p0 a0 a1 a2 a3 a4)(f:∀a0 a1 a2 a3 a4,p0 a0 a1 a2 a3 a4->G):G:=h.elim fun a0 h=>h.elim fun a1 h=>h.elim fun a2 h=>h.elim fun a3 h=>h.elim fun a4 h=>f a0 a1 a2 a3 a4 h
theorem aA1{p0 p1 p2 p3 p4 p5 p6:Prop}{G:Prop}(h:p0/\p1/\p2/\p3/\p4/\p5/\p6)(f:p0->p1->p2->p3->p4->p5->p6->G):G:=f h.1 h.2.1 h.2.2.1 h.2.2.2.1 h.2.2.2.2.1 h.2.2.2.2.2.1 h.2.2.2.2.2.2
theorem EB{kH oA:Sort _}{p0 p1 p2 p3 p4:kH->oA->Prop}{G:Prop}(h:∃a0 a1,p0 a0 a1/\p1 a0 a1/\p2 a0 a1/\p3 a0 a1/\p4 a0 a1)(f:∀a0 a1,p0 a0 a1->p1 a0 a1->p2 a0 a1->p3 a0 a1->p4 a0 a1->G):G:=h.elim fun a0 h=>h.elim fun a1 h=>f a0 a1 h.1 h.2.1 h.2.2.1 h.2.2.2.1 h.2.2.2.2
theorem Kq{kH oA vE:Sort _}{p0 p1 p2 p3:kH->oA->vE->Prop}{G:Prop}(h:∃a0 a1 a2,p0 a0 a1 a2/\p1 a0 a1 a2/\p2 a0 a1 a2/\p3 a0 a1 a2)(f:∀a0 a1 a2,p0 a0 a1 a2->p1 a0 a1 a2->p2 a0 a1 a2->p3 a0 a1 a2->G):G:=h.elim fun a0 h=>h.elim fun a1 h=>h.elim fun a2 h=>f a0 a1 a2 h.1 h.2.1 h.2.2.1 h.2.2.2
theorem Zt{kH oA vE EA:Sort _}{p0 p1 p2:kH->oA->vE->EA->Prop}{G:Prop}(h:∃a0 a1 a2 a3,p0 a0 a1 a2 a3/\p1 a0 a1 a2 a3/\p2 a0 a1 a2 a3)(f:∀a0 a1 a2 a3,p0 a0 a1 a2 a3->p1 a0 a1 a2 a3->p2 a0 a1 a2 a3->G):G:=h.elim fun a0 h=>h.elim fun a1 h=>h.elim fun a2 h=>h.elim fun a3 h=>f a0 a1 a2 a3 h.1 h.2.1 h.2.2
theorem Oi{kH oA:Sort _}{p0 p1 p2 p3 p4 p5:kH->oA->Prop}{G:Prop}(h:∃a0 a1,p0 a0 a1/\p1 a0 a1/\p2 a0 a1/\p3 a0 a1/\p4 a0 a1/\p5 a0 a1)(f:∀a0 a1,p0 a0 a1->p1 a0 a1->p2 a0 a1->p3 a0 a1->p4 a0 a1->p5 a0 a1->G):G:=h.elim fun a0 h=>h.elim fun a1 h=>f a0 a1 h.1 h.2.1 h.2.2.1 h.2.2.2.1 h.2.2.2.2.1 h.2.2.2.2.2
theorem Ao{kH oA vE:Sort _}{p0 p1 p2 p3 p4:kH->oA->vE->Prop}{G:Prop}(h:∃a0 a1 a2,p0 a0 a1 a2/\p1 a0 a1 a2/\p2 a0 a1 a2/\p3 a0 a1 a2/\p4 a0 a1 a2)(f:∀a0 a1 a2,p0 a0 a1 a2->p1 a0 a1 a2->p2 a0 a1 a2->p3 a0 a1 a2->p4 a0 a1 a2->G):G:=h.elim fun a0 h=>h.elim fun a1 h=>h.elim fun a2 h=>f a0 a1 a2 h.1 h.2.1 h.2.2.1 h.2.2.2.1 h.2.2.2.2
theorem S7{kH oA vE EA:Sort _}{p0 p1 p2 p3:kH->oA->vE->EA->Prop}{G:Prop}(h:∃a0 a1 a2 a3,p0 a0 a1 a2 a3/\p1 a0 a1 a2 a3/\p2 a0 a1 a2 a3/\p3 a0 a1 a2 a3)(f:∀a0 a1 a2 a3,p0 a0 a1 a2 a3->p1 a0 a1 a2 a3->p2 a0 a1 a2 a3->p3 a0 a1 a2 a3->G):G:=h.elim fun a0 h=>h.elim fun a1 h=>h.elim fun a2 h=>h.elim fun a3 h=>f a0 a1 a2 a3 h.1 h.2.1 h.2.2.1 h.2.2.2
theorem Zu{kH oA vE:Sort _}{p0 p1 p2 p3 p4 p5:kH->oA->vE->Prop}{G:Prop}(h:∃a0 a1 a2,p0 a0 a1 a2/\p1 a0 a1 a2/\p2 a0 a1 a2/\p3 a0 a1 a2/\p4 a0 a1 a2/\p5 a0 a1 a2)(f:∀a0 a1 a2,p0 a0 a1 a2->p1 a0 a1 a2->p2 a0 a1 a2->p3 a0 a1 a2->p4 a0 a1 a2->p5 a0 a1 a2->G):G:=h.elim fun a0 h=>h.elim fun a1 h=>h.elim fun a2 h=>f a0 a1 a2 h.1 h.2.1 h.2.2.1 h.2.2.2.1 h.2.2.2.2.1 h.2.2.2.2.2
theorem Oj{kH oA vE EA:Sort _}{p0 p1 p2 p3 p4:kH->oA->vE->EA->Prop}{G:Prop}(h:∃a0 a1 a2 a3,p0 a0 a1 a2 a3/\p1 a0 a1 a2 a3/\p2 a0 a1 a2 a3/\p3 a0 a1 a2 a3/\p4 a0 a1 a2 a3)(f:∀a0 a1 a2 a3,p0 a0 a1 a2 a3->p1 a0 a1 a2 a3->p2 a0 a1 a2 a3->p3 a0 a1 a2 a3->p4 a0 a1 a2 a3->G):G:=h.elim fun a0 h=>h.elim fun a1 h=>h.elim fun a2 h=>h.elim fun a3 h=>f a0 a1 a2 a3 h.1 h.2.1 h.2.2.1 h.2.2.2.1 h.2.2.2.2
theorem Zv{kH oA vE EA:Sort _}{p0 p1 p2 p3 p4 p5:kH->oA->vE->EA->Prop}{G:Prop}(h:∃a0 a1 a2 a3,p0 a0 a1 a2 a3/\p1 a0 a1 a2 a3/\p2 a0 a1 a2 a3/\p3 a0 a1 a2 a3/\p4 a0 a1 a2 a3/\p5 a0 a1 a2 a3)(f:∀a0 a1 a2 a3,p0 a0 a1 a2 a3->p1 a0 a1 a2 a3->p2 a0 a1 a2 a3->p3 a0 a1 a2 a3->p4 a0 a1 a2 a3->p5 a0 a1 a2 a3->G):G:=h.elim fun a0 h=>h.elim fun a1 h=>h.elim fun a2 h=>h.elim fun a3 h=>f a0 a1 a2 a3 h.1 h.2.1 h.2.2.1 h.2.2.2.1 h.2.2.2.2.1 h.2.2.2.2.2
theorem Ol{kH oA vE EA Zs α5 α6 α7 α8:Sort _}{p0 p1 p2:kH->oA->vE->EA->Zs->α5->α6->α7->α8->Prop}{G:Prop}(h:∃a0 a1 a2 a3 a4 a5 a6 a7 a8,p0 a0 a1 a2 a3 a4 a5 a6 a7 a8/\p1 a0 a1 a2 a3 a4 a5 a6 a7 a8/\p2 a0 a1 a2 a3 a4 a5 a6 a7 a8)(f:∀a0 a1 a2 a3 a4 a5 a6 a7 a8,p0 a0 a1 a2 a3 a4 a5 a6 a7 a8->p1 a0 a1 a2 a3 a4 a5 a6 a7 a8->p2 a0 a1 a2 a3 a4 a5 a6 a7 a8->G):G:=h.elim fun a0 h=>h.elim fun a1 h=>h.elim fun a2 h=>h.elim fun a3 h=>h.elim fun a4 h=>h.elim fun a5 h=>h.elim fun a6 h=>h.elim fun a7 h=>h.elim fun a8 h=>f a0 a1 a2 a3 a4 a5 a6 a7 a8 h.1 h.2.1 h.2.2
end Zo
section S8
namespace L2
open PySem PySem.Spec PyProof.Rows
abbrev Key:=Sum Int Str
def Nx:Key->Value->Bool
 | .inl k,v=>Value.isInt k v
 | .inr x,v=>Value.isStrOf x v
def Zw(w:World):Key->Int
 | .inl k=>hashInt k
 | .inr x=>hashStr w x
theorem di:∀{k:Key} {v:Value},Nx k v=true->(∃i t,k=Sum.inl i/\v=Value.int i t)\/(∃x t,k=Sum.inr x/\v=Value.str x t)
 | .inl i,v,h=>by
  obtain ⟨t,e⟩:=Value.isInt_shape (k:=i) (v:=v) h
  exact .inl ⟨i,t,rfl,e⟩
 | .inr x,v,h=>by
  obtain ⟨t,e⟩:=Value.isStrOf_shape (x:=x) (v:=v) h
  exact .inr ⟨x,t,rfl,e⟩
theorem Om(a b:Int):decide ((Sum.inl a:Key)=Sum.inl b)=(a==b):=by
 by_cases e:a=b
 ·subst e;simp
 ·have h:¬ (Sum.inl a:Key)=Sum.inl b:=fun q=>e (Sum.inl.inj q)
  rw[aE4 h]
  exact(aI1.mpr e).symm
theorem Oo(a b:Str):decide ((Sum.inr a:Key)=Sum.inr b)=decide (a=b):=by
 by_cases e:a=b
 ·subst e;simp
 ·have h:¬ (Sum.inr a:Key)=Sum.inr b:=fun q=>e (Sum.inr.inj q)
  rw[aE4 h,aE4 e]
theorem Oq(a:Int)(b:Str):decide ((Sum.inl a:Key)=Sum.inr b)=false:=aE4 (fun q=>nomatch q)
theorem Ot(a:Str)(b:Int):decide ((Sum.inr a:Key)=Sum.inl b)=false:=aE4 (fun q=>nomatch q)
def Dk(prog:Program)(w:World):PySem.KeyKind prog w Key where
 is:=Nx
 hash:=Zw w
 inj:=fun v a b ha hb=>by
  rcases di ha with ⟨i,t,rfl,rfl⟩ | ⟨x,t,rfl,rfl⟩
  ·rcases di hb with ⟨j,u,rfl,e⟩ | ⟨y,u,rfl,e⟩
   ·injection e with e1 _;rw[e1]
   ·exact nomatch e
  ·rcases di hb with ⟨j,u,rfl,e⟩ | ⟨y,u,rfl,e⟩
   ·exact nomatch e
   ·injection e with e1 _;rw[e1]
 byValue:=fun k v h=>by
  rcases di h with ⟨i,t,rfl,rfl⟩ | ⟨x,t,rfl,rfl⟩ <;> rfl
 pyHash:=fun hv h=>by
  rcases di hv with ⟨i,t,rfl,rfl⟩ | ⟨x,t,rfl,rfl⟩
  ·exact wpAny_pyHash_int h
  ·exact wpAny_pyHash_str h
 eqBool:=fun hu hv h=>by
  rcases di hu with ⟨i,t,rfl,rfl⟩ | ⟨x,t,rfl,rfl⟩
  ·rcases di hv with ⟨j,u,rfl,rfl⟩ | ⟨y,u,rfl,rfl⟩
   ·rw[Om] at h;exact wpAny_eqBool_int h
   ·rw[Oq] at h;exact SeqAt.EqAt.int_str i t y u _ _ _ _ h
  ·rcases di hv with ⟨j,u,rfl,rfl⟩ | ⟨y,u,rfl,rfl⟩
   ·rw[Ot] at h;exact SeqAt.EqAt.str_int x t j u _ _ _ _ h
   ·rw[Oo] at h;exact wpAny_eqBool_str h
 «strs»:=fun k x t v h=>by
  rcases di h with ⟨i,u,rfl,e⟩ | ⟨y,u,rfl,e⟩
  ·exact nomatch e
  ·injection e with e1 _
   subst e1
   cases v <;> rfl
end L2
namespace L2
open PySem PySem.Spec PyProof.Rows
inductive V where
 | cF | bl (b:Bool) | int (i:Int) | str (x:Str) | Xq (b:Array UInt8) | Xr (b:UInt64) | ref (a:Addr) | ty (n:String)
 deriving DecidableEq
def RelV:V->Value->Prop
 | .cF,u=>u=Value.none
 | .bl b,u=>u=Value.bool b
 | .int i,u=>∃t,u=Value.int i t
 | .str x,u=>∃t,u=Value.str x t
 | .Xq b,u=>∃t,u=Value.bytes b t
 | .Xr b,u=>∃t,u=Value.float b t
 | .ref a,u=>u=Value.ref a
 | .ty n,u=>u=Value.type n
abbrev Vals:List V->List Value->Prop:=Paired RelV
theorem Vals.length{xs:List V}{us:List Value}(r:Vals xs us):xs.length=us.length:=Paired.length r
theorem Vals.get:∀{xs:List V} {us:List Value} {i:Nat} {x:V},Vals xs us->xs[i]?=some x->∃u,us[i]?=some u/\RelV x u
 | _,_,_,_,.nil,e=>by simp at e
 | _,_,0,_,.cons r _,e=>by simp at e;subst e;exact⟨_,rfl,r⟩
 | _,_,i+1,x,.cons _ t,e=>by
  refine aM (Vals.get (i:=i) (x:=x) t (by simpa using e)) fun u h1 h2=>?_
  exact⟨u,by simpa using h1,h2⟩
theorem Vals.append{xs ys:List V}{us ws:List Value}(h:Vals xs us)(s:Vals ys ws):Vals (xs++ys) (us++ws):=by
 induction h with
 | nil=>exact s
 | cons r t ih=>exact .cons r ih
theorem Vals.take:∀{xs:List V} {us:List Value} (n:Nat),Vals xs us->Vals (xs.take n) (us.take n)
 | _,_,0,_=>.nil
 | _,_,_+1,.nil=>.nil
 | _,_,n+1,.cons r t=>.cons r (Vals.take n t)
theorem Vals.drop:∀{xs:List V} {us:List Value} (n:Nat),Vals xs us->Vals (xs.drop n) (us.drop n)
 | _,_,0,r=>r
 | _,_,_+1,.nil=>.nil
 | _,_,n+1,.cons _ t=>Vals.drop n t
def BW:Option V->Option Value->Prop
 | some v,some u=>RelV v u
 | none,none=>True
 | _,_=>False
def KV{κ:Type}:List (κ×V)->List (κ×Value)->Prop:=Paired fun (p:κ×V) (q:κ×Value)=>p.1=q.1/\RelV p.2 q.2
def kV:Key->V
 | .inl i=>.int i
 | .inr x=>.str x
inductive HO where
 | lst (xs:List V)
 | tup (xs:List V)
 | dK (Aq:List (Key×V)) | dT (Aq:List (List Key×V))
 | set (S:Int->Bool) (n:Nat)
 | ins (C dx:Addr) (fs:List (Str×V))
 | own (x:Addr)
 | xd (fs:List (Str×V))
 | met (f x:Addr)
 | Ou (lo hi:Int)
 | Gs (o:Obj) (u:HO)
 | Ov (ps:Array Value)
 | ext (φ:Heap->Prop)
abbrev Hp:=Addr->Option HO
def upd(H:Hp)(a:Addr)(o:HO):Hp:=fun b=>if b=a then some o else H b
theorem bN{H:Hp}{a:Addr}{o:HO}:upd H a o a=some o:=by unfold upd;rw[aC2 rfl]
theorem aX{H:Hp}{a b:Addr}{o:HO}(h:b≠a):upd H a o b=H b:=by unfold upd;rw[aC3 h]
theorem bF{H:Hp}{a b:Addr}{o:HO}(h:H a=some o)(h':H b=none):a≠b:=by
 intro e;subst e;rw[h] at h';cases h'
section
variable (P:Program)(w:World)
def gr(H:Hp)(h:Heap)(a:Addr):HO->Prop
 | .lst xs=>xs.length<=sizeLine/\∃(bf:List Value) (n:Nat),Vals xs bf/\h.get? a=some { cls:=.type "list",data:=.seq bf.toArray n }
 | .tup xs=>xs.length<=sizeLine/\∃bf:List Value,Vals xs bf/\IsTup h a bf.toArray
 | .dK Aq=>Aq.length<=sizeLine/\(a==sysModules)=false/\∃vs,KV Aq vs/\h.DictOf (Dk P w) a vs
 | .dT Aq=>Aq.length<=sizeLine/\(a==sysModules)=false/\∃xs:List (List Key×Addr×Value),
   Paired (fun (p:List Key×V) (q:List Key×Addr×Value)=>p.1=q.1/\H q.2.1=some (.tup (p.1.map kV))/\RelV p.2 q.2.2) Aq xs/\
   ∃o es ep,h.get? a=some o/\o.ExactDict/\o.data = .dict es ep/\es.toList=xs.map (entryOfKey (tupleKind (Dk P w)))/\(xs.map (·.1)).Nodup
 | .set S n=>h.SetOf (intKind P w) a S n
 | .ins C dx fs=>H dx=some (.own a)/\fs.length<=1000/\dx≠a/\h.get? a=some (PySem.W.instObj C dx)/\
   ∃mA,h.Ns1 dx mA/\(∀f,BW (fs.lookup f) (mA f))/\PySem.Within mA (fs.map (·.1))
 | .own _=>∃o,h.get? a=some o
 | .xd fs=>∃mA,h.Ns1 a mA/\∀f,BW (fs.lookup f) (mA f)
 | .Ou lo hi=>∃t u v,h.get? a=some { cls:=.type "range",data:=.fields #[.int lo t,.int hi u,.int 1 v] }
 | .Gs o u=>h.get? a=some o/\gr H h a u
 | .Ov ps=>h.get? a=some { cls:=.none,data:=.fields ps }
 | .met f x=>h.get? a=some (PySem.W.methodObj (.ref f) (.ref x))
 | .ext φ=>φ h/\(∃o,h.get? a=some o)/\∀h1 h2:Heap,φ h1->(∀o,h1.get? a=some o->h2.get? a=some o)->φ h2
def t9(H:Hp)(h:Heap):Prop:=∀a o,H a=some o->gr P w H h a o
end
section
variable {P:Program}{w:World}{H H':Hp}{h h':Heap}{a:Addr}{o:HO}
theorem gr.lt(x:gr P w H h a o):a < h.objs.size:=by
 cases o with
 | lst xs=>obtain ⟨_,_,_,_,e⟩:=x;exact aD9 e
 | tup xs=>obtain ⟨_,_,_,p⟩:=x;exact p.lt
 | dK Aq=>obtain ⟨_,_,_,_,o,_,_,e,_⟩:=x;exact aD9 e
 | dT Aq=>obtain ⟨_,_,_,_,o,_,_,e,_⟩:=x;exact aD9 e
 | set S n=>obtain ⟨o,_,_,_,e,_⟩:=x;exact aD9 e
 | ins C dx fs=>obtain ⟨_,_,_,e,_⟩:=x;exact aD9 e
 | own y=>obtain ⟨_,e⟩:=x;exact aD9 e
 | xd fs=>obtain ⟨_,⟨_,_,_,e,_⟩,_⟩:=x;exact aD9 e
 | Ou lo hi=>obtain ⟨_,_,_,e⟩:=x;exact aD9 e
 | Gs ob u=>obtain ⟨e,_⟩:=x;exact aD9 e
 | Ov ps=>exact aD9 (show h.get? a=some _ from x)
 | met f y=>exact aD9 (show h.get? a=some _ from x)
 | ext φ=>obtain ⟨_,⟨_,e⟩,_⟩:=x;exact aD9 e
theorem Paired.Zx{α β:Type}{F G:α->β->Prop}{S9:List α}{Sa:List β}(h:Paired F S9 Sa)(f:∀a b,F a b->G a b):Paired G S9 Sa:=by
 induction h with
 | nil=>exact .nil
 | cons r t ih=>exact .cons (f _ _ r) ih
theorem gr.yS(x:gr P w H h a o)(k:∀b u,(b=a\/H b=some (.own a))->h.get? b=some u->h'.get? b=some u)
  (ho:∀b,H b=some (.own a)->H' b=some (.own a)) (ht:∀b xs,H b=some (.tup xs)->H' b=some (.tup xs)):gr P w H' h' a o:=by
 induction o with
 | lst xs=>obtain ⟨z,bf,n,r,e⟩:=x;exact⟨z,bf,n,r,k _ _ (.inl rfl) e⟩
 | tup xs=>obtain ⟨z,bf,r,ob,e,c⟩:=x;exact⟨z,bf,r,ob,k _ _ (.inl rfl) e,c⟩
 | dK Aq=>obtain ⟨z,y,vs,r,ob,es,ep,e,c⟩:=x;exact⟨z,y,vs,r,ob,es,ep,k _ _ (.inl rfl) e,c⟩
 | dT Aq=>
  obtain ⟨z,y,xs,r,ob,es,ep,e,c⟩:=x
  exact⟨z,y,xs,Paired.Zx r fun p q z=>⟨z.1,ht _ _ z.2.1,z.2.2⟩,ob,es,ep,k _ _ (.inl rfl) e,c⟩
 | set S n=>obtain ⟨ob,es,ep,t,e,c⟩:=x;exact⟨ob,es,ep,t,k _ _ (.inl rfl) e,c⟩
 | ins C dx fs=>
  obtain ⟨d,z,ne,e,mA,⟨od,es,ep,e2,c⟩,r⟩:=x
  exact⟨ho _ d,z,ne,k _ _ (.inl rfl) e,mA,⟨od,es,ep,k _ _ (.inr d) e2,c⟩,r⟩
 | own y=>obtain ⟨ob,e⟩:=x;exact⟨ob,k _ _ (.inl rfl) e⟩
 | xd fs=>obtain ⟨mA,⟨od,es,ep,e,c⟩,r⟩:=x;exact⟨mA,⟨od,es,ep,k _ _ (.inl rfl) e,c⟩,r⟩
 | Ou lo hi=>obtain ⟨t,u,v,e⟩:=x;exact⟨t,u,v,k _ _ (.inl rfl) e⟩
 | Gs ob u ih=>obtain ⟨e,q⟩:=x;exact⟨k _ _ (.inl rfl) e,ih q⟩
 | Ov ps=>
  have e:h.get? a=some { cls:=.none,data:=.fields ps }:=x
  show h'.get? a=some { cls:=.none,data:=.fields ps }
  exact k a _ (.inl rfl) e
 | met f y=>
  have e:h.get? a=some (PySem.W.methodObj (.ref f) (.ref y)):=x
  show h'.get? a=some (PySem.W.methodObj (.ref f) (.ref y))
  exact k a _ (.inl rfl) e
 | ext φ=>obtain ⟨p,⟨o,e⟩,st⟩:=x;exact⟨st _ _ p fun o q=>k _ _ (.inl rfl) q,⟨o,k _ _ (.inl rfl) e⟩,st⟩
theorem t9.lt(x:t9 P w H h)(e:H a=some o):a < h.objs.size:=(x a o e).lt
theorem t9.fresh(x:t9 P w H h)(e:h.objs.size<=a):H a=none:=by
 cases q:H a with
 | none=>rfl
 | some u=>exact absurd (aE8 (x.lt q) e) (Nat.lt_irrefl _)
theorem t9.kept(x:t9 P w H h)(k:∀b u,h.get? b=some u->h'.get? b=some u):t9 P w H h':=fun a o e=>
 (x a o e).yS (fun b u _ q=>k b u q) (fun _ q=>q) fun _ _ q=>q
theorem t9.laid(x:t9 P w H h)(k:∀b u,h.get? b=some u->h'.get? b=some u)(hp:h.objs.size<=a)(new:gr P w (upd H a o) h' a o):t9 P w (upd H a o) h':=fun b u e=>by
 have hn:=x.fresh hp
 by_cases hb:b=a
 ·subst hb;rw[bN] at e;cases e;exact new
 ·rw[aX hb] at e
  exact(x b u e).yS (fun c v _ q=>k c v q) (fun c q=>by rw[aX (bF q hn)];exact q) fun c xs q=>by rw[aX (bF q hn)];exact q
end
def Rd(H:Hp)(a:Addr)(u:HO):Prop:=H a=some u\/∃o,H a=some (.Gs o u)
theorem Rd.ok{P:Program}{w:World}{H:Hp}{h:Heap}{a:Addr}{u:HO}(r:Rd H a u)(x:t9 P w H h):gr P w H h a u:=by
 rcases r with r | ⟨o,r⟩
 ·exact x a u r
 ·obtain ⟨_,q⟩:=x a _ r
  exact q
def Xs:Option HO->Prop
 | some (.lst _)=>True
 | some (.dK _)=>True
 | some (.dT _)=>True
 | some (.set _ _)=>True
 | some (.ins _ _ _)=>True
 | some (.ext _)=>True
 | _=>False
section
variable {P:Program}{w:World}{H:Hp}{h h':Heap}{x e:Addr}{o':HO}
theorem t9.write(ok:t9 P w H h)(mu:Xs (H x))(he:e=x\/H e=some (.own x))(k:∀b u,b≠e->h.get? b=some u->h'.get? b=some u)(Ry:∃u,h'.get? e=some u)
  (new:gr P w (upd H x o') h' x o'):t9 P w (upd H x o') h':=fun b u q=>by
 have Sb:∀c y,H c=some (.own y)->c≠x:=fun c y r z=>by subst z;rw[r] at mu;exact mu
 have Zy:∀c xs,H c=some (.tup xs)->c≠x:=fun c xs r z=>by subst z;rw[r] at mu;exact mu
 by_cases hb:b=x
 ·subst hb;rw[bN] at q;cases q;exact new
 ·rw[aX hb] at q
  by_cases Ow:b=e
  ·have q':H b=some (.own x):=by
    rcases he with z | z
    ·exact absurd (Ow.trans z) hb
    ·rw[Ow];exact z
   rw[q] at q';cases q'
   obtain ⟨v,hv⟩:=Ry
   exact⟨v,by rw[Ow];exact hv⟩
  ·refine(ok b u q).yS (fun c v hc r=>k c v ?_ r) (fun c r=>by rw[aX (Sb c b r)];exact r) fun c xs r=>by rw[aX (Zy c xs r)];exact r
   rcases hc with rfl | hc
   ·exact Ow
   ·rintro rfl
    rcases he with z | z
    ·exact Sb c b hc z
    ·rw[hc] at z;cases z;exact hb rfl
end
structure Un(fs ex:List Addr)(H H':Hp)(h h':Heap):Prop where
 keep:∀b o,h.get? b=some o->H b=none->b∉fs->b∉ex->h'.get? b=some o
 slot:∀b o,h.get? b=some o->H b=none->b∈fs->b∉ex->∃sl,h'.get? b=some { o with slots:=sl }
 free:∀b o,h.get? b=some o->H b=none->b∉ex->H' b=none
 there:∀b o,h.get? b=some o->b∉ex->∃o',h'.get? b=some o'
 qx:∀b xs,H b=some (.tup xs)->H' b=some (.tup xs)
 xE:∀b o u,H b=some (.Gs o u)->H' b=some (.Gs o u)
 yT:∀b ps,H b=some (.Ov ps)->∃more,H' b=some (.Ov (ps++more))
section
variable {fs ex:List Addr}{H H1:Hp}{h h1 h':Heap}{a x e:Addr}{o:HO}
theorem Un.any(u:Un fs ex H H1 h h1){b:Addr}{ob:Obj}(q:h.get? b=some ob)(n:H b=none)(hx:b∉ex):∃sl,h1.get? b=some { ob with slots:=sl }:=by
 by_cases hb:b∈fs
 ·exact u.slot b ob q n hb hx
 ·exact⟨ob.slots,u.keep b ob q n hb hx⟩
theorem Un.kept(k:∀b u,h.get? b=some u->h'.get? b=some u):Un fs ex H H h h':=
 ⟨fun b ob q _ _ _=>k b ob q,fun b ob q _ _ _=>⟨ob.slots,k b ob q⟩,fun _ _ _ n _=>n,fun b ob q _=>⟨ob,k b ob q⟩,fun _ _ q=>q,fun _ _ _ q=>q,fun _ ps q=>⟨#[],by rw[q];simp⟩⟩
theorem Un.refl:Un fs ex H H h h:=Un.kept fun _ _ q=>q
theorem Un.laid(k:∀b u,h.get? b=some u->h'.get? b=some u)(hp:h.objs.size<=a)(hn:H a=none):Un fs ex H (upd H a o) h h' where
 keep:=fun b u q _ _ _=>k b u q
 slot:=fun b u q _ _ _=>⟨u.slots,k b u q⟩
 free:=fun b u q n _=>by rw[aX (aE5 (aE8 (aD9 q) hp))];exact n
 there:=fun b u q _=>⟨u,k b u q⟩
 qx:=fun b xs q=>by rw[aX (bF q hn)];exact q
 xE:=fun b u xs q=>by rw[aX (bF q hn)];exact q
 yT:=fun b ps q=>⟨#[],by rw[aX (bF q hn),q];simp⟩
theorem Un.write(mu:Xs (H x))(he:e=x\/H e=some (.own x))(k:∀b u,b≠e->h.get? b=some u->h'.get? b=some u)(Ry:∃u,h'.get? e=some u):Un fs ex H (upd H x o) h h':=by
 have hx:∀b,H b=none->b≠x:=fun b n z=>by subst z;rw[n] at mu;exact mu
 have hb:∀b,H b=none->b≠e:=fun b n z=>by
  subst z
  rcases he with r | r
  ·exact hx b n r
  ·rw[n] at r;cases r
 have hm:∀b u,H b=some u->¬ Xs (some u)->b≠x:=fun b u q nm z=>by subst z;rw[q] at mu;exact nm mu
 refine⟨fun b u q n _ _=>k b u (hb b n) q,fun b u q n _ _=>⟨u.slots,k b u (hb b n) q⟩,fun b u q n _=>by rw[aX (hx b n)];exact n,fun b u q _=>?_,
  fun b xs q=>by rw[aX (hm b _ q fun z=>z)];exact q,fun b u xs q=>by rw[aX (hm b _ q fun z=>z)];exact q,fun b ps q=>⟨#[],by rw[aX (hm b _ q fun z=>z),q];simp⟩⟩
 by_cases Ow:b=e
 ·subst Ow;exact Ry
 ·exact⟨u,k b u Ow q⟩
end
def Xu(h:Heap)(H:Hp):List Addr:=(List.range h.objs.size).filter fun a=>(H a).isSome
def yU(h:Heap)(H:Hp):Heap:=PySem.W.hideAll h (Xu h H)
theorem EC(h:Heap)(H:Hp):(yU h H).objs.size=h.objs.size:=PySem.W.hideAll_size _ _
theorem Gu{h:Heap}{H:Hp}{b:Addr}{o:Obj}(e:h.get? b=some o)(n:H b=none):(yU h H).get? b=some o:=
 PySem.W.hideAll_get _ e fun hm=>by
  have q:(H b).isSome=true:=(List.mem_filter.mp hm).2
  rw[n] at q;simp at q
theorem Kr{h:Heap}{H:Hp}{b:Addr}{o:Obj}(e:(yU h H).get? b=some o):h.get? b=some o/\H b=none:=by
 have e':h.get? b=some o:=PySem.W.of_hideAll (Xu h H) e
 refine⟨e',?_⟩
 cases q:H b with
 | none=>rfl
 | some x=>
  have hm:b∈Xu h H:=List.mem_filter.mpr ⟨List.mem_range.mpr (aD9 e'),by simp[q]⟩
  have z:(yU h H).get? b=none:=PySem.W.hideAll_none (Xu h H) hm
  rw[z] at e;cases e
end L2
namespace L2
open PySem PySem.Spec PyProof.Rows
structure Mod(K:Frag)(mg:Str->Option Value)(base:Heap):Prop where
 Sd:K.In base
 glob:base.Ns mainGlobals mg
 blt:∃mb,base.Ns builtinsNs mb/\∀x:Str,x≠ "__name__" ->mb x=bootBuiltins x
 nolimit:base.NoLimit
structure Cx where
 prog:Program
 w:World
 K:Frag
 mg:Str->Option Value
 base:Heap
 A:Around
 N:List Str
 gW:Shared
 Gv:Hp
 env:Env
 outer:List Env
 stack:List Env
 ex:List Addr
 fn:Str->Bool
 calm:Bool
 pn:List (Addr×Obj)
 xe:Value->Shared->Prop
def vF(l:List Env):List Addr:=l.filterMap (·.frame)
abbrev Cx.fs(X:Cx):List Addr:=vF X.outer
def Zz(sc:Scope)(x:Str):Prop:=sc.names.lookup x=some .local\/sc.names.lookup x=some .cell\/sc.names.lookup x=some .free
def Loc(sc:Scope)(x:Str):Prop:=sc.names.lookup x=some .local\/sc.names.lookup x=some .cell
def Look(env:Env)(h:Heap)(m:Str->Option Value)(x:Str)(u:Value):Prop:=
 (env.kindOf x=some .local/\m x=some u)\/((env.kindOf x=some .cell\/env.kindOf x=some .free)/\∃c,env.cells.lookup x=some c/\h.IsCell c (some u))
structure Cx.Ok(X:Cx):Prop where
 mod:Mod X.K X.mg X.base
 kind:X.env.scope.kind = .function
 glob:X.env.globals=mainGlobals
 blt:X.env.builtins=builtinsNs
 above:X.gW.heap.objs.size<=X.env.locals
 inj:∀x y c,X.env.cells.lookup x=some c->X.env.cells.lookup y=some c->x=y
 has:∀x,(X.env.kindOf x=some .cell\/X.env.kindOf x=some .free)->∃c,X.env.cells.lookup x=some c
 Rz:∀x c,X.fn x=true->X.env.cells.lookup x=some c->X.gW.heap.objs.size<=c
 hd:X.calm=true->X.A.handled=none
 frames:X.A.frames=some X.stack
 Gw:X.stack=X.outer\/(X.stack=X.env::X.outer/\X.env.frame=some X.env.locals)
 Se:∀b∈X.ex,b≠X.env.locals/\∀x c,X.env.cells.lookup x=some c->c≠b
 bs:∀b o,X.base.get? b=some o->X.gW.heap.get? b=some o/\X.Gv b=none
 K6:X.base.objs.size<=X.gW.heap.objs.size
 ED:∀b o,X.base.get? b=some o->b∉X.ex
 EE:∀b∈X.ex,b∉X.fs
 tu:X.gW.heap.FunFrames X.base X.outer
 Ny:∀b∈X.fs,X.Gv b=none
structure Inv(X:Cx)(pins:List (Addr×Obj))(σ:List (Option V))(H:Hp)(s:Shared):Prop where
 ok:X.Ok
 os:s.os=X.gW.os
 bare:AllBare s.gens
 base:Un X.fs X.ex X.Gv H X.gW.heap s.heap
 loc:∃m,s.heap.Ns X.env.locals m/\∀(i:Nat) (x:Str) (v:V),X.N[i]?=some x->σ[i]?=some (some v)->Zz X.env.scope x->∃u,RelV v u/\Look X.env s.heap m x u
 cell:∀x c,X.env.cells.lookup x=some c->∃v,s.heap.IsCell c v
 free:H X.env.locals=none
 qD:∀x c,X.env.cells.lookup x=some c->H c=none
 pin:∀p∈X.pn++pins,s.heap.get? p.1=some p.2/\H p.1=none/\p.1≠X.env.locals/\p.1∉X.fs/\∀v,p.2.data≠ .cell v
 eE:t9 X.prog X.w H s.heap
 len:σ.length=X.N.length
section
variable {X:Cx}{pins:List (Addr×Obj)}{σ:List (Option V)}{H H':Hp}{s:Shared}{h':Heap}
theorem Cx.Ok.ZA(ok:X.Ok){b:Addr}{o:Obj}(e:X.base.get? b=some o):b∉X.fs:=fun hb=>by
 have:=(ok.tu.mem hb).1
 rw[e] at this;cases this
theorem Inv.bs(I:Inv X pins σ H s):∀b o,X.base.get? b=some o->s.heap.get? b=some o/\H b=none:=fun b o e=>
 ⟨I.base.keep b o (I.ok.bs b o e).1 (I.ok.bs b o e).2 (I.ok.ZA e) (I.ok.ED b o e),I.base.free b o (I.ok.bs b o e).1 (I.ok.bs b o e).2 (I.ok.ED b o e)⟩
theorem Inv.bk(I:Inv X pins σ H s):∀b o,X.base.get? b=some o->s.heap.get? b=some o:=fun b o e=>(I.bs b o e).1
theorem Inv.mod(I:Inv X pins σ H s):Mod X.K X.mg X.base:=I.ok.mod
theorem Inv.Ar(I:Inv X pins σ H s):X.K.In s.heap:=I.ok.mod.Sd.keeps I.bk
theorem Inv.lt(I:Inv X pins σ H s):X.env.locals < s.heap.objs.size:=let ⟨_,hn,_⟩:=I.loc;hn.lt
theorem Inv.sz(I:Inv X pins σ H s):X.gW.heap.objs.size<=s.heap.objs.size:=aD5 I.ok.above (aH2 I.lt)
theorem Inv.ZC(I:Inv X pins σ H s){a:Addr}(h:s.heap.objs.size<=a):a∉X.fs:=fun hb=>by
 obtain ⟨_,o,ho,_⟩:=I.ok.tu.mem hb
 exact absurd (aE8 (aD9 ho) (aD5 I.sz h)) (Nat.lt_irrefl _)
theorem Inv.Ox(I:Inv X pins σ H s):∀x c,X.env.cells.lookup x=some c->c≠X.env.locals:=fun x c e z=>by
 refine cP (I.cell x c e) fun v o ho hd=>?_
 refine aM I.loc fun m iG _=>?_
 obtain ⟨o',es,ep,As,Sf,_⟩:=iG
 rw[z,As] at ho;cases ho;rw[Sf] at hd;cases hd
theorem Inv.tu(I:Inv X pins σ H s):s.heap.FunFrames X.base X.outer:=by
 have all:∀(l:List Env),(∀b∈vF l,b∈X.fs)->X.gW.heap.FunFrames X.base l->s.heap.FunFrames X.base l:=by
  intro l
  induction l with
  | nil=>intro _ _;trivial
  | cons env r ih=>
   intro hs hl
   refine vD hl fun hk iG hr=>?_
   clear hl
   obtain ⟨L,o,hf,hn,ho,hd⟩:=iG
   have hL:L∈X.fs:=hs L (by unfold vF;rw[List.filterMap_cons,hf];exact List.mem_cons_self)
   obtain ⟨sl,e⟩:=I.base.slot L o ho (I.ok.Ny L hL) hL fun z=>I.ok.EE L z hL
   exact⟨hk,⟨L,_,hf,hn,e,hd⟩,ih (fun b hb=>hs b (by unfold vF;rw[List.filterMap_cons,hf];exact aG5 _ hb)) hr⟩
 exact all X.outer (fun _ hb=>hb) I.ok.tu
theorem Inv.stack(I:Inv X pins σ H s):s.heap.FunFrames X.base X.stack:=by
 rcases I.ok.Gw with e | ⟨e,hf⟩
 ·rw[e];exact I.tu
 ·rw[e]
  refine aM I.loc fun m hn _=>?_
  refine .cons (by rw[I.ok.kind];decide) hf hn ?_ I.tu
  exact Heap.get?_none_of_le (aD5 I.ok.K6 I.ok.above)
theorem Inv.BX(I:Inv X pins σ H s):∀b∈vF X.stack,b∈X.env.locals::X.fs:=fun b hb=>by
 rcases I.ok.Gw with e | ⟨e,hf⟩
 ·rw[e] at hb;exact aG5 _ hb
 ·rw[e] at hb
  unfold vF at hb
  rw[List.filterMap_cons,hf] at hb
  exact hb
theorem Inv.Dl(I:Inv X pins σ H s):∀b∈vF X.stack,H b=none:=fun b hb=>by
 rcases aC6.mp (I.BX b hb) with e | hb
 ·rw[e];exact I.free
 ·obtain ⟨_,o,ho,_⟩:=I.ok.tu.mem hb
  exact I.base.free b o ho (I.ok.Ny b hb) fun z=>I.ok.EE b z hb
theorem Inv.step{g':Array GenState}{t':Nat}{d':Drawn}{ch:List Addr}(I:Inv X pins σ H s)
  (K7:∀b∈ch,(b∈X.ex\/X.gW.heap.objs.size<=b)/\b≠X.env.locals/\(∀x c,X.env.cells.lookup x=some c->c≠b)/\∀p∈X.pn++pins,p.1≠b)
  (keep:∀b o,b≠X.env.locals->b∉X.fs->b∉ch->s.heap.get? b=some o->H b=none->h'.get? b=some o)
  (slot:∀b o,b≠X.env.locals->b∈X.fs->b∉ch->s.heap.get? b=some o->H b=none->∃sl,h'.get? b=some { o with slots:=sl }) (free:∀b o,b∉ch->s.heap.get? b=some o->H b=none->H' b=none)
  (there:∀b o,b∉ch->s.heap.get? b=some o->∃o',h'.get? b=some o')
  (qx:∀b xs,H b=some (.tup xs)->H' b=some (.tup xs)) (xE:∀b o u,H b=some (.Gs o u)->H' b=some (.Gs o u)) (yT:∀b ps,H b=some (.Ov ps)->∃more,H' b=some (.Ov (ps++more)))
  (ns:∀m,s.heap.Ns X.env.locals m->h'.Ns X.env.locals m) (eE:t9 X.prog X.w H' h') (hg:AllBare g') :
  Inv X pins σ H' { s with heap:=h',gens:=g',drawn:=d',toks:=t' }:=by
 have neL:∀b o,X.gW.heap.get? b=some o->b≠X.env.locals:=fun b o e=>aE5 (aE8 (aD9 e) I.ok.above)
 have Xv:∀b o,X.gW.heap.get? b=some o->b∉X.ex->b∉ch:=fun b o e hx hb=>by
  rcases (K7 b hb).1 with z | z
  ·exact hx z
  ·exact absurd (aE8 (aD9 e) z) (Nat.lt_irrefl _)
 have cellK:∀x c,X.env.cells.lookup x=some c->∀v,s.heap.IsCell c v->h'.IsCell c v:=fun x c e v jg=>by
  refine aM jg fun o ho hd=>?_
  clear jg
  have Sh:c∉ch:=fun z=>(K7 c z).2.2.1 x c e rfl
  by_cases hc:c∈X.fs
  ·obtain ⟨sl,q⟩:=slot c o (I.Ox x c e) hc Sh ho (I.qD x c e)
   exact⟨_,q,hd⟩
  ·exact⟨o,keep c o (I.Ox x c e) hc Sh ho (I.qD x c e),hd⟩
 refine⟨I.ok,I.os,hg,⟨fun b o e n hb hx=>?_,fun b o e n hb hx=>?_,fun b o e n hx=>?_,fun b o e hx=>?_,fun b xs e=>qx b xs (I.base.qx b xs e),fun b o xs e=>xE b o xs (I.base.xE b o xs e),fun b ps e=>?_⟩,?_,fun x c e=>?_,?_,fun x c e=>?_,fun p hp=>?_,eE,I.len⟩
 ·exact keep b o (neL b o e) hb (Xv b o e hx) (I.base.keep b o e n hb hx) (I.base.free b o e n hx)
 ·obtain ⟨sl,e1⟩:=I.base.slot b o e n hb hx
  obtain ⟨sl',e2⟩:=slot b _ (neL b o e) hb (Xv b o e hx) e1 (I.base.free b o e n hx)
  exact⟨sl',e2⟩
 ·obtain ⟨o',e1⟩:=I.base.there b o e hx
  exact free b o' (Xv b o e hx) e1 (I.base.free b o e n hx)
 ·obtain ⟨o',e1⟩:=I.base.there b o e hx
  exact there b o' (Xv b o e hx) e1
 ·obtain ⟨m1,e1⟩:=I.base.yT b ps e
  obtain ⟨m2,e2⟩:=yT b _ e1
  exact⟨m1++m2,by rw[e2,Array.append_assoc]⟩
 ·refine aM I.loc fun m hn hl=>?_
  refine⟨m,ns m hn,fun i x v e1 e2 e3=>?_⟩
  refine aM (hl i x v e1 e2 e3) fun u r l=>?_
  refine⟨u,r,?_⟩
  rcases l with l | ⟨k,c,e,z⟩
  ·exact .inl l
  ·exact .inr ⟨k,c,e,cellK x c e _ z⟩
 ·obtain ⟨v,z⟩:=I.cell x c e
  exact⟨v,cellK x c e v z⟩
 ·refine aM I.loc fun m iG _=>?_
  obtain ⟨o,_,_,ho,_⟩:=iG
  exact free _ o (fun z=>(K7 _ z).2.1 rfl) ho I.free
 ·refine cP (I.cell x c e) fun v o ho hd=>?_
  exact free c o (fun z=>(K7 c z).2.2.1 x c e rfl) ho (I.qD x c e)
 ·refine Kn (I.pin p hp) fun e n ne nf d=>?_
  have Sh:p.1∉ch:=fun z=>(K7 p.1 z).2.2.2 p hp rfl
  exact⟨keep p.1 p.2 ne nf Sh e n,free p.1 p.2 Sh e n,ne,nf,d⟩
theorem Inv.un{t':Nat}(I:Inv X pins σ H s)(u:Un X.fs [] H H' s.heap h')(eE:t9 X.prog X.w H' h'):Inv X pins σ H' { s with heap:=h',toks:=t' }:=by
 refine aM (id I.loc) fun m iG _=>?_
 obtain ⟨o,es,ep,ho,r⟩:=iG
 obtain ⟨sl,hL⟩:=u.any ho I.free (by simp)
 exact I.step (g':=s.gens) (d':=s.drawn) (ch:=[]) (fun _ z=>nomatch z) (fun b o _ hb _ e n=>u.keep b o e n hb (by simp)) (fun b o _ hb _ e n=>u.slot b o e n hb (by simp)) (fun b o _ e n=>u.free b o e n (by simp)) (fun b o _ e=>u.there b o e (by simp)) u.qx u.xE u.yT (fun m' hm=>by
  refine Ko hm fun o' Gx yV As r'=>?_
  clear hm
  rw[ho] at As;cases As
  exact⟨_,Gx,yV,hL,r'⟩) eE I.bare
theorem Inv.call{g':Array GenState}{t':Nat}{d':Drawn}{ch:List Addr}(I:Inv X pins σ H s)(u:Un (vF X.stack) ch H H' s.heap h')(eE:t9 X.prog X.w H' h')(hg:AllBare g')
  (K7:∀b∈ch,(b∈X.ex\/X.gW.heap.objs.size<=b)/\b≠X.env.locals/\(∀x c,X.env.cells.lookup x=some c->c≠b)/\∀p∈X.pn++pins,p.1≠b) :
  Inv X pins σ H' { s with heap:=h',gens:=g',drawn:=d',toks:=t' }:=by
 refine aM (id I.loc) fun m iG _=>?_
 obtain ⟨o,es,ep,ho,r⟩:=iG
 obtain ⟨sl,hL⟩:=u.any ho I.free fun z=>(K7 _ z).2.1 rfl
 exact I.step (ch:=ch) K7 (fun b o hL hb hc e n=>u.keep b o e n (fun z=>(aC6.mp (I.BX b z)).elim hL hb) hc) (fun b o _ _ hc e n=>u.any e n hc) (fun b o hc e n=>u.free b o e n hc) (fun b o hc e=>u.there b o e hc) u.qx u.xE u.yT (fun m' hm=>by
  refine Ko hm fun o' Gx yV As r'=>?_
  clear hm
  rw[ho] at As;cases As
  exact⟨_,Gx,yV,hL,r'⟩) eE hg
theorem Inv.turned{t':Nat}{it:Addr}(I:Inv X pins σ H s)(k:∀b o,b≠it->s.heap.get? b=some o->h'.get? b=some o)(hn:H it=none)(hL:it≠X.env.locals)
  (h1:it∈X.ex\/X.gW.heap.objs.size<=it) (h2:∀x c,X.env.cells.lookup x=some c->c≠it) (h3:∀p∈X.pn++pins,p.1≠it):Inv X pins σ H { s with heap:=h',toks:=t' }:=by
 have nit:∀b u,H b=some u->b≠it:=fun b u e z=>by rw[z,hn] at e;cases e
 refine I.step (g':=s.gens) (d':=s.drawn) (ch:=[it]) (fun b hb=>?_) (fun b o _ _ hc e _=>k b o (fun z=>hc (by simp[z])) e) (fun b o _ _ hc e _=>⟨o.slots,k b o (fun z=>hc (by simp[z])) e⟩) (fun _ _ _ _ n=>n)
  (fun b o hc e=>⟨o,k b o (fun z=>hc (by simp[z])) e⟩) (fun _ _ e=>e) (fun _ _ _ e=>e) (fun b ps e=>⟨#[],by rw[e];simp⟩) (fun m hm=>?_) (fun b u e=>?_) I.bare
 ·have e:b=it:=by simpa using hb
  subst e
  exact⟨h1,hL,h2,h3⟩
 ·refine Ko hm fun o es ep ho r=>?_
  clear hm
  exact⟨o,es,ep,k _ o (Ne.symm hL) ho,r⟩
 ·refine(I.eE b u e).yS (fun c v hc q=>k c v ?_ q) (fun _ q=>q) fun _ _ q=>q
  rcases hc with z | z
  ·rw[z];exact nit b u e
  ·exact nit c _ z
theorem Inv.tok(I:Inv X pins σ H s)(t:Nat):Inv X pins σ H { s with toks:=t }:=I.un (h':=s.heap) (t':=t) Un.refl I.eE
theorem Inv.kept{t':Nat}(I:Inv X pins σ H s)(k:∀b u,s.heap.get? b=some u->h'.get? b=some u):Inv X pins σ H { s with heap:=h',toks:=t' }:=I.un (Un.kept k) (I.eE.kept k)
theorem Inv.laid{a:Addr}{o:HO}{t':Nat}(I:Inv X pins σ H s)(k:∀b u,s.heap.get? b=some u->h'.get? b=some u)(hp:s.heap.objs.size<=a)(new:gr X.prog X.w (upd H a o) h' a o) :
  Inv X pins σ (upd H a o) { s with heap:=h',toks:=t' }:=I.un (Un.laid k hp (I.eE.fresh hp)) (I.eE.laid k hp new)
theorem Inv.write{x e:Addr}{o:HO}{t':Nat}(I:Inv X pins σ H s)(mu:Xs (H x))(he:e=x\/H e=some (.own x))(k:∀b u,b≠e->s.heap.get? b=some u->h'.get? b=some u)(Ry:∃u,h'.get? e=some u)
  (new:gr X.prog X.w (upd H x o) h' x o):Inv X pins σ (upd H x o) { s with heap:=h',toks:=t' }:=I.un (Un.write mu he k Ry) (I.eE.write mu he k Ry new)
theorem Inv.rJ{Nz:List (Addr×Obj)}(I:Inv X pins σ H s)(h:∀p∈Nz,s.heap.get? p.1=some p.2/\H p.1=none/\p.1≠X.env.locals/\p.1∉X.fs/\∀v,p.2.data≠ .cell v):Inv X Nz σ H s:=
 ⟨I.ok,I.os,I.bare,I.base,I.loc,I.cell,I.free,I.qD,fun p hp=>(aF9.mp hp).elim (fun z=>I.pin p (List.mem_append_left _ z)) (h p),I.eE,I.len⟩
theorem Au{N:List Str}(hN:N.Nodup){i j:Nat}{x:Str}(a:N[i]?=some x)(b:N[j]?=some x):i=j:=by
 obtain ⟨h1,e1⟩:=aD7.mp a
 obtain ⟨h2,e2⟩:=aD7.mp b
 exact(List.getElem_inj hN).mp (e1.trans e2.symm)
theorem yc{M:Model}{A:Around}{E:Value->Shared->Prop}{i:Nat}{x:Str}{v:V}{u:Value}{Q:Unit->Shared->Prop}(I:Inv X pins σ H s)(hN:X.N.Nodup)(hi:X.N[i]?=some x)(hx:Loc X.env.scope x)(r:RelV v u)
  (h:∀s',Inv X pins (σ.set i (some v)) H s'->(∃a,Heap.SameBut a s.heap s'.heap/\(a=X.env.locals\/X.env.cells.lookup x=some a))->Q () s') (hf:X.fn x=true\/X.env.scope.names.lookup x=some .local:=by first | exact .inl rfl | exact .inr rfl | assumption):wpAny M A (storeName X.env x u) Q E s:=by
 refine aM (id I.loc) fun m hn hl=>?_
 have ZD:(X.env.scope.kind == .class || (X.env.scope.kind == .module&&X.env.locals !=X.env.globals))=false:=by rw[I.ok.kind];rfl
 have Si:i < σ.length:=by rw[I.len];exact(aD7.mp hi).1
 have Ox:=I.Ox
 have tracked:∀{a:Addr} {h':Heap},(∃o,s.heap.get? a=some o/\H a=none)->Heap.SameBut a s.heap h'->t9 X.prog X.w H h':=fun {a h'} ha hs b ob e=>by
  refine aM ha fun _ _ Dp=>?_
  clear ha
  refine(I.eE b ob e).yS (fun c w' hc q=>(hs.2 c ?_).trans q) (fun _ q=>q) fun _ _ q=>q
  rintro rfl
  rcases hc with rfl | hc
  ·rw[Dp] at e;cases e
  ·rw[Dp] at hc;cases hc
 rcases hx with hk | hk
 ·refine wpAny_storeName_local hk hn (fun h' yW hs=>?_) ZD
  refine Ko (id hn) fun oL _ _ hoL _=>?_
  refine h _ ⟨I.ok,I.os,I.bare,⟨fun b o e n hb hx=>?_,fun b o e n hb hx=>?_,I.base.free,fun b o e hx=>?_,I.base.qx,I.base.xE,I.base.yT⟩,⟨_,yW,fun j y v' e1 e2 e3=>?_⟩,fun y c e=>?_,I.free,I.qD,fun p hp=>?_,tracked ⟨oL,hoL,I.free⟩ hs,by simpa using I.len⟩ ⟨_,hs,.inl rfl⟩
  ·exact(hs.2 b (aE5 (aE8 (aD9 e) I.ok.above))).trans (I.base.keep b o e n hb hx)
  ·obtain ⟨sl,e1⟩:=I.base.slot b o e n hb hx
   exact⟨sl,(hs.2 b (aE5 (aE8 (aD9 e) I.ok.above))).trans e1⟩
  ·obtain ⟨o',e1⟩:=I.base.there b o e hx
   exact⟨o',(hs.2 b (aE5 (aE8 (aD9 e) I.ok.above))).trans e1⟩
  ·by_cases hj:j=i
   ·subst hj
    rw[hi] at e1;cases e1
    rw[aF4 Si] at e2
    cases e2
    exact⟨u,r,.inl ⟨hk,by simp⟩⟩
   ·rw[aF5 (Ne.symm hj)] at e2
    refine aM (hl j y v' e1 e2 e3) fun u' r' q=>?_
    refine⟨u',r',?_⟩
    rcases q with ⟨k,e⟩ | ⟨k,c,e,z⟩
    ·refine .inl ⟨k,?_⟩
     have:y≠x:=fun e=>hj (Au hN e1 (e▸hi))
     simp[this,e]
    ·exact .inr ⟨k,c,e,z.sameBut hs (Ox y c e)⟩
  ·obtain ⟨w',z⟩:=I.cell y c e
   exact⟨w',z.sameBut hs (Ox y c e)⟩
  ·refine Kn (I.pin p hp) fun e n ne nf d=>?_
   exact⟨(hs.2 p.1 ne).trans e,n,ne,nf,d⟩
 ·have RA:X.fn x=true:=by
   rcases hf with z | z
   ·exact z
   ·rw[z] at hk;cases hk
  obtain ⟨c,hc⟩:=I.ok.has x (.inl hk)
  obtain ⟨w',z⟩:=I.cell x c hc
  refine wpAny_storeName_cell I.ok.kind hk hc z (fun h' uT hs=>?_)
  refine aM (id z) fun oc hoc ZE=>?_
  refine h { s with heap:=h' } ⟨I.ok,I.os,I.bare,⟨fun b o e n hb hx=>?_,fun b o e n hb hx=>?_,I.base.free,fun b o e hx=>?_,I.base.qx,I.base.xE,I.base.yT⟩,⟨m,hn.sameBut hs (Ne.symm (Ox x c hc)),fun j y v' e1 e2 e3=>?_⟩,fun y c' e=>?_,I.free,I.qD,fun p hp=>?_,tracked ⟨oc,hoc,I.qD x c hc⟩ hs,by simpa using I.len⟩ ⟨c,hs,.inr hc⟩
  ·exact(hs.2 b (aE5 (aE8 (aD9 e) (I.ok.Rz x c RA hc)))).trans (I.base.keep b o e n hb hx)
  ·obtain ⟨sl,e1⟩:=I.base.slot b o e n hb hx
   exact⟨sl,(hs.2 b (aE5 (aE8 (aD9 e) (I.ok.Rz x c RA hc)))).trans e1⟩
  ·obtain ⟨o',e1⟩:=I.base.there b o e hx
   exact⟨o',(hs.2 b (aE5 (aE8 (aD9 e) (I.ok.Rz x c RA hc)))).trans e1⟩
  ·by_cases hj:j=i
   ·subst hj
    rw[hi] at e1;cases e1
    rw[aF4 Si] at e2
    cases e2
    exact⟨u,r,.inr ⟨.inl hk,c,hc,uT⟩⟩
   ·rw[aF5 (Ne.symm hj)] at e2
    refine aM (hl j y v' e1 e2 e3) fun u' r' q=>?_
    refine⟨u',r',?_⟩
    rcases q with q | ⟨k,c',e,z'⟩
    ·exact .inl q
    ·refine .inr ⟨k,c',e,z'.sameBut hs ?_⟩
     rintro rfl
     exact hj (Au hN e1 (I.ok.inj _ _ _ e hc▸hi))
  ·by_cases hcc:c'=c
   ·subst hcc;exact⟨_,uT⟩
   ·obtain ⟨w2,z2⟩:=I.cell y c' e
    exact⟨w2,z2.sameBut hs hcc⟩
  ·refine Kn (I.pin p hp) fun e n ne nf d=>?_
   refine⟨(hs.2 p.1 ?_).trans e,n,ne,nf,d⟩
   intro q
   rw[q,hoc] at e
   have q':oc=p.2:=aE1 e
   exact d w' (by rw[<- q'];exact ZE)
theorem rK{M:Model}{A:Around}{E:Value->Shared->Prop}{i:Nat}{x:Str}{v:V}{u:Value}{Q:Unit->Shared->Prop}(I:Inv X pins σ H s)(hN:X.N.Nodup)(hi:X.N[i]?=some x)(hx:Loc X.env.scope x)(r:RelV v u)
  (h:∀s',Inv X pins (σ.set i (some v)) H s'->Q () s') (hf:X.fn x=true\/X.env.scope.names.lookup x=some .local:=by first | exact .inl rfl | exact .inr rfl | assumption):wpAny M A (storeName X.env x u) Q E s:=
 yc I hN hi hx r (fun s' I' _=>h s' I') hf
theorem Inv.Av{s':Shared}{ch:List Addr}(I:Inv X pins σ H s)(ho:s'.os=s.os)(u:Un (vF X.stack) ch H H' s.heap s'.heap)(eE:t9 X.prog X.w H' s'.heap)(hg:AllBare s'.gens)
  (K7:∀b∈ch,(b∈X.ex\/X.gW.heap.objs.size<=b)/\b≠X.env.locals/\(∀x c,X.env.cells.lookup x=some c->c≠b)/\∀p∈X.pn++pins,p.1≠b):Inv X pins σ H' s':=by
 obtain ⟨h',g',d',t',o'⟩:=s'
 have e:o'=s.os:=ho
 subst e
 exact I.call (g':=g') (t':=t') (d':=d') u eE hg K7
end
abbrev XK:=Value->Option Addr->Hp->Prop
abbrev St:=List (Option V)
abbrev VK:=V->Hp->Prop
abbrev TE:=St->Hp->VK->Prop
abbrev TT:=St->Hp->(Bool->Hp->Prop)->Prop
abbrev TA:=St->Hp->(List V->Hp->Prop)->Prop
structure Ends where
 nx:St->Hp->Prop
 rt:VK
 bk:St->Hp->Prop:=fun _ _=>False
 ct:St->Hp->Prop:=fun _ _=>False
abbrev TS:=Ends->St->Hp->Prop
def EP(X:Cx)(pins:List (Addr×Obj))(σ:St)(Q:VK)(u:Value)(s':Shared):Prop:=∃v H',Inv X pins σ H' s'/\RelV v u/\Q v H'
def TP(X:Cx)(pins:List (Addr×Obj))(σ:St)(Q:Bool->Hp->Prop)(b:Bool)(s':Shared):Prop:=∃H',Inv X pins σ H' s'/\Q b H'
def AP(X:Cx)(pins:List (Addr×Obj))(σ:St)(Q:List V->Hp->Prop)(us:List Value)(s':Shared):Prop:=∃vs H',Inv X pins σ H' s'/\Vals vs us/\Q vs H'
def SP(X:Cx)(pins:List (Addr×Obj))(D:Ends)(f:Flow)(s':Shared):Prop:=
 match f with
 | .next=>∃cN H',Inv X pins cN H' s'/\D.nx cN H'
 | .brk=>∃cN H',Inv X pins cN H' s'/\D.bk cN H'
 | .cont=>∃cN H',Inv X pins cN H' s'/\D.ct cN H'
 | .ret u=>∃v cN H',Inv X pins cN H' s'/\RelV v u/\D.rt v H'
def PE(X:Cx)(e:Expr)(t:TE):Prop:=
 ∀(pins:List (Addr×Obj)) (s:Shared) (σ:St) (H:Hp) (Q:VK),Inv X pins σ H s->t σ H Q->wpAny (model X.prog X.w) X.A (eval e X.env) (EP X pins σ Q) X.xe s
def PT(X:Cx)(e:Expr)(t:TT):Prop:=
 ∀(pins:List (Addr×Obj)) (s:Shared) (σ:St) (H:Hp) (Q:Bool->Hp->Prop),Inv X pins σ H s->t σ H Q->wpAny (model X.prog X.w) X.A (isTrue e X.env (eval e X.env)) (TP X pins σ Q) X.xe s
def PW(X:Cx)(e:Expr)(t:TT):Prop:=
 ∀(whole:Sem Value) (pins:List (Addr×Obj)) (s:Shared) (σ:St) (H:Hp) (Q:Bool->Hp->Prop),Inv X pins σ H s->t σ H Q->wpAny (model X.prog X.w) X.A (isTrue e X.env whole) (TP X pins σ Q) X.xe s
theorem PW.pt{X:Cx}{e:Expr}{t:TT}(h:PW X e t):PT X e t:=h _
def PA(X:Cx)(es:List Expr)(t:TA):Prop:=
 ∀(pos:Pos) (pins:List (Addr×Obj)) (s:Shared) (σ:St) (H:Hp) (Q:List V->Hp->Prop),Inv X pins σ H s->t σ H Q->wpAny (model X.prog X.w) X.A (spliced (backTo pos (starEach es X.env))) (AP X pins σ Q) X.xe s
def PS(X:Cx)(st:Stmt)(t:TS):Prop:=
 ∀(pins:List (Addr×Obj)) (s:Shared) (σ:St) (H:Hp) (D:Ends),Inv X pins σ H s->t D σ H->wpAny (model X.prog X.w) X.A (exec st X.env) (SP X pins D) X.xe s
def uu(X:Cx)(st:List Stmt)(t:TS):Prop:=
 ∀(pins:List (Addr×Obj)) (s:Shared) (σ:St) (H:Hp) (D:Ends),Inv X pins σ H s->t D σ H->wpAny (model X.prog X.w) X.A (execs st X.env) (SP X pins D) X.xe s
theorem fS{α:Type}{t:Sem α}{Q Q':α->Shared->Prop}{M:Model}{A:Around}{E:Value->Shared->Prop}{s:Shared}(h:wpAny M A t Q E s)(hQ:∀a s,Q a s->Q' a s):wpAny M A t Q' E s:=aI3 h hQ fun _ _ x=>x
end L2
namespace L2
open PySem PySem.Spec PyProof.Rows
section
variable {X:Cx}
def qT(i:Nat):TE:=fun σ H Q=>∃v,σ[i]?=some (some v)/\Q v H
def tC(v:V):TE:=fun _ H Q=>Q v H
theorem Oz{i:Nat}{x:Str}{pos:Pos}(hN:X.N[i]?=some x)(hv:Zz X.env.scope x)(hd:(x==("__debug__" : Str))=false:=by decide)(EF:(x==("__classdict__" : Str))=false:=by decide):PE X (.Name x pos) (qT i):=by
 walk_at"9"
 obtain ⟨v,e,h⟩:=h
 obtain ⟨m,hn,hl⟩:=I.loc
 obtain ⟨u,r,l⟩:=hl i x v hN e hv
 have fin:EP X pins σ Q u s:=⟨v,H,I,r,h⟩
 rcases l with ⟨hk,hm⟩ | ⟨hk,c,hc,vG⟩
 ·exact wpAny_Name (wpAny_loadName_local I.ok.kind hk hn hm fin) hd
 ·rcases hk with hk | hk
  ·exact wpAny_Name (wpAny_loadName_cell I.ok.kind hk hc vG fin) hd
  ·exact wpAny_Name (wpAny_loadName_free I.ok.kind hk hc vG fin EF) hd
theorem OA{i j pos}:PE X (.Constant (.int i) j pos) (tC (.int i)):=fun _ _ _ H _ I h=>wpAny_Constant_int ⟨.int i,H,I.tok _,⟨_,rfl⟩,h⟩
def Gl(X:Cx)(x:Str):Prop:=X.env.kindOf x=some .globalImplicit
theorem rL{E:Value->Shared->Prop}{pins:List (Addr×Obj)}{s:Shared}{σ:St}{H:Hp}{x:Str}{u:Value}{pos:Pos}{Q:Value->Shared->Prop}(I:Inv X pins σ H s)(hg:Gl X x)(hm:X.mg x=some u)(h:Q u s)
  (hd:(x==("__debug__" : Str))=false:=by decide):wpAny (model X.prog X.w) X.A (eval (.Name x pos) X.env) Q E s:=
 Calls.Name_function_global I.ok.kind hg (Calls.loadGlobal_global (by rw[I.ok.glob];exact I.mod.glob.keeps I.bk) hm h) hd
theorem vH{E:Value->Shared->Prop}{pins:List (Addr×Obj)}{s:Shared}{σ:St}{H:Hp}{x:Str}{u:Value}{pos:Pos}{Q:Value->Shared->Prop}(I:Inv X pins σ H s)(hg:Gl X x)(hm:X.mg x=none)(hv:bootBuiltins x=some u)(h:Q u s)
  (hn:x≠ "__name__":=by decide) (hd:(x==("__debug__" : Str))=false:=by decide):wpAny (model X.prog X.w) X.A (eval (.Name x pos) X.env) Q E s:=by
 refine aM I.mod.blt fun mb h1 h2=>?_
 exact Calls.Name_function_global I.ok.kind hg (Calls.loadGlobal_builtin (by rw[I.ok.glob];exact I.mod.glob.keeps I.bk) hm (by rw[I.ok.blt];exact h1.keeps I.bk) ((h2 x hn).trans hv) h) hd
theorem Ks{x:Str}{v:V}{u:Value}{pos:Pos}(hg:Gl X x)(hm:X.mg x=some u)(r:RelV v u)(hd:(x==("__debug__" : Str))=false:=by decide):PE X (.Name x pos) (tC v):=
 fun _ _ _ H _ I h=>rL I hg hm ⟨v,H,I,r,h⟩ hd
theorem Ku{x:Str}{v:V}{u:Value}{pos:Pos}(hg:Gl X x)(hm:X.mg x=none)(hv:bootBuiltins x=some u)(r:RelV v u)(hn:x≠ "__name__":=by decide)(hd:(x==("__debug__" : Str))=false:=by decide):PE X (.Name x pos) (tC v):=
 fun _ _ _ H _ I h=>vH I hg hm hv ⟨v,H,I,r,h⟩ hn hd
variable {a b:Expr}{ta tb:TE}{pos:Pos}
def tB(t:TE):TT:=fun σ H Q=>t σ H fun x H1=>∃c,x = .bl c/\Q c H1
theorem OB{e:Expr}{t:TE}(h:PE X e t)(he:∀whole,isTrue e X.env whole=(do let v <- whole;standAt e.pos;holding [v] (truthy v)):=by intro _;rfl):PT X e (tB t):=by
 intro pins s σ H Q I hw
 refine isTrue_plain (fS (h pins s σ H _ I hw) fun v s1 BY=>?_) (he _)
 refine b6 BY fun x H1 I1 r1 q1=>?_
 clear BY
 refine aM q1 fun d iG q=>?_
 clear q1
 walk_at"7"
 cases r1
 exact wpAny_truthy_bool ⟨H1,I1,q⟩
variable {tA tB':TT}{rest:List Expr}
def ZF(t u:TT):TT:=fun σ H Q=>t σ H fun c H1=>if c=true then u σ H1 Q else Q false H1
def ZG(t:TT):TT:=fun σ H Q=>t σ H fun c H1=>Q (!c) H1
theorem pw_and1(ha:PT X a tA):PW X (.BoolOp .And [a] pos) tA:=by
 intro wh pins s σ H Q I h
 refine isTrue_and (fS (ha pins s σ H Q I h) fun c s1 e=>?_)
 cases c with
 | true=>exact isTrue_and_nil e
 | false=>exact e
theorem pw_and(ha:PT X a tA)(hb:PW X (.BoolOp .And (b::rest) pos) tB'):PW X (.BoolOp .And (a::b::rest) pos) (ZF tA tB'):=by
 intro wh pins s σ H Q I h
 refine isTrue_and (fS (ha pins s σ H _ I h) fun c s1 Dq=>?_)
 refine aM Dq fun H1 I1 q1=>?_
 clear Dq
 cases c with
 | true=>exact hb wh pins s1 σ H1 Q I1 q1
 | false=>exact⟨H1,I1,q1⟩
theorem OC(ha:PT X a tA):PT X (.UnaryOp .Not a pos) (ZG tA):=by
 walk_at"9"
 exact isTrue_not (ha pins s σ H (fun c H1=>Q (!c) H1) I h)
def Sj(ta tb:TE):TE:=fun σ H Q=>ta σ H fun x H1=>∃c,x = .bl c/\if c=true then tb σ H1 Q else Q (.bl false) H1
def Sl(ta:TE):TE:=fun σ H Q=>ta σ H fun x H1=>∃c,x = .bl c/\Q (.bl (!c)) H1
theorem OD{op}{t:TE}(h:PE X a t):PE X (.BoolOp op [a] pos) t:=fun pins s σ H Q I hw=>BoolOp_one (h pins s σ H Q I hw)
theorem OE(ha:PE X a ta)(hb:PE X (.BoolOp .And (b::rest) pos) tb):PE X (.BoolOp .And (a::b::rest) pos) (Sj ta tb):=by
 walk_at"9"
 refine BoolOp_and (fS (ha pins s σ H _ I h) fun v s1 yX=>?_)
 obtain ⟨x,H1,I1,r1,q1⟩:=yX
 obtain ⟨c,rfl,q1⟩:=q1
 cases r1
 refine wpAny_truthy_bool ?_
 cases c with
 | true=>exact hb pins s1 σ H1 Q I1 q1
 | false=>exact⟨.bl false,H1,I1,rfl,q1⟩
theorem OF(ha:PE X a ta):PE X (.UnaryOp .Not a pos) (Sl ta):=by
 walk_at"9"
 refine UnaryOp_ (fS (ha pins s σ H _ I h) fun v s1 xF=>?_)
 refine b6 xF fun x H1 I1 r1 q1=>?_
 clear xF
 obtain ⟨c,rfl,q1⟩:=q1
 cases r1
 exact not_of (wpAny_truthy_bool ⟨.bl (!c),H1,I1,rfl,q1⟩)
end
end L2
namespace L2
open PySem PySem.Spec PyProof.Rows
def ko(K:Frag)(H:Hp)(a:Addr)(xs:List V):Prop:=
 Rd H a (.lst xs)\/
  ∃(o:Obj) (bf:Array Value) (n:Nat),K.lookup a=some o/\o.cls = .type "list" /\o.dict=none/\o.data = .seq bf n/\bf.size<=sizeLine/\Vals xs bf.toList
def lQ(K:Frag)(H:Hp)(a:Addr)(xs:List V):Prop:=
 Rd H a (.tup xs)\/
  ∃(o:Obj) (bf:Array Value) (n:Nat),K.lookup a=some o/\o.cls = .type "tuple" /\o.data = .seq bf n/\bf.size<=sizeLine/\Vals xs bf.toList
def ZH:Value->Option V
 | .none=>some .cF
 | .bool b=>some (.bl b)
 | .int i _=>some (.int i)
 | .str x _=>some (.str x)
 | .bytes b _=>some (.Xq b)
 | .float b _=>some (.Xr b)
 | .ref a=>some (.ref a)
 | .type n=>some (.ty n)
 | _=>none
theorem RelV.abs{x:V}{u:Value}(r:RelV x u):ZH u=some x:=by
 cases x with
 | cF=>cases r;rfl
 | bl _=>cases r;rfl
 | int _=>obtain ⟨t,rfl⟩:=r;rfl
 | str _=>obtain ⟨t,rfl⟩:=r;rfl
 | Xq _=>obtain ⟨t,rfl⟩:=r;rfl
 | Xr _=>obtain ⟨t,rfl⟩:=r;rfl
 | ref _=>cases r;rfl
 | ty _=>cases r;rfl
theorem RelV.inj{x y:V}{u:Value}(r:RelV x u)(q:RelV y u):x=y:=aE1 (r.abs.symm.trans q.abs)
theorem Vals.inj{xs ys:List V}{us:List Value}(h:Vals xs us)(h':Vals ys us):xs=ys:=by
 induction h generalizing ys with
 | nil=>cases h';rfl
 | cons r t ih=>
  cases h' with
  | cons r' t'=>rw[r.inj r',ih t']
section
variable {X:Cx}{pins:List (Addr×Obj)}{σ:St}{H:Hp}{s:Shared}{a:Addr}{xs ys:List V}
theorem ko.of{K:Frag}(h:H a=some (.lst xs)):ko K H a xs:=.inl (.inl h)
theorem lQ.of{K:Frag}(h:H a=some (.tup xs)):lQ K H a xs:=.inl (.inl h)
theorem Inv.list(I:Inv X pins σ H s)(h:ko X.K H a xs):∃bf:List Value,Vals xs bf/\PlainL s.heap a bf.toArray/\xs.length<=sizeLine:=by
 rcases h with h | ⟨o,bf,n,hk,hc,hd,hs,hz,r⟩
 ·obtain ⟨z,bf,n,r,e⟩:=h.ok I.eE
  exact⟨bf,r,⟨_,n,e,rfl,rfl,rfl⟩,z⟩
 ·refine⟨bf.toList,r,⟨o,n,I.Ar a o hk,hc,hd,by simpa using hs⟩,?_⟩
  have e:=r.length
  simp only[aC9] at e
  lia
theorem Inv.tuple(I:Inv X pins σ H s)(h:lQ X.K H a xs):∃bf:List Value,Vals xs bf/\IsTup s.heap a bf.toArray/\xs.length<=sizeLine:=by
 rcases h with h | ⟨o,bf,n,hk,hc,hs,hz,r⟩
 ·obtain ⟨z,bf,r,p⟩:=h.ok I.eE
  exact⟨bf,r,p,z⟩
 ·refine⟨bf.toList,r,⟨o,I.Ar a o hk,hc,n,by simpa using hs⟩,?_⟩
  have e:=r.length
  simp only[aC9] at e
  lia
theorem Inv.vI(I:Inv X pins σ H s)(h:ko X.K H a xs)(h':ko X.K H a ys):xs=ys:=by
 refine bM (I.list h) fun bf r aR _=>?_
 obtain ⟨o,n,e,_,_,d⟩:=aR
 refine bM (I.list h') fun its' r' aR _=>?_
 obtain ⟨o',n',e',_,_,d'⟩:=aR
 rw[e] at e';cases e'
 rw[d] at d'
 injection d' with d1 _
 have:bf=its':=by simpa using congrArg Array.toList d1
 subst this
 exact r.inj r'
theorem Inv.EG(I:Inv X pins σ H s)(h:lQ X.K H a xs)(h':lQ X.K H a ys):xs=ys:=by
 refine bM (I.tuple h) fun bf r aR _=>?_
 obtain ⟨o,e,_,n,d⟩:=aR
 refine bM (I.tuple h') fun its' r' aR _=>?_
 obtain ⟨o',e',_,n',d'⟩:=aR
 rw[e] at e';cases e'
 rw[d] at d'
 injection d' with d1 _
 have:bf=its':=by simpa using congrArg Array.toList d1
 subst this
 exact r.inj r'
end
abbrev Cx.dj(X:Cx)(E:Value->Shared->Prop):Cx:={ X with xe:=E }
theorem Cx.Ok.dj{X:Cx}(ok:X.Ok)(E:Value->Shared->Prop):(X.dj E).Ok:=
 ⟨ok.mod,ok.kind,ok.glob,ok.blt,ok.above,ok.inj,ok.has,ok.Rz,ok.hd,ok.frames,ok.Gw,ok.Se,ok.bs,ok.K6,ok.ED,ok.EE,ok.tu,ok.Ny⟩
theorem Cx.Ok.gZ{X:Cx}{E:Value->Shared->Prop}(ok:(X.dj E).Ok):X.Ok:=
 ⟨ok.mod,ok.kind,ok.glob,ok.blt,ok.above,ok.inj,ok.has,ok.Rz,ok.hd,ok.frames,ok.Gw,ok.Se,ok.bs,ok.K6,ok.ED,ok.EE,ok.tu,ok.Ny⟩
section
variable {X:Cx}{pins:List (Addr×Obj)}{σ:St}{H:Hp}{s:Shared}{E:Value->Shared->Prop}
theorem Inv.dj(I:Inv X pins σ H s)(E:Value->Shared->Prop):Inv (X.dj E) pins σ H s:=⟨I.ok.dj E,I.os,I.bare,I.base,I.loc,I.cell,I.free,I.qD,I.pin,I.eE,I.len⟩
theorem Inv.gZ(I:Inv (X.dj E) pins σ H s):Inv X pins σ H s:=⟨I.ok.gZ,I.os,I.bare,I.base,I.loc,I.cell,I.free,I.qD,I.pin,I.eE,I.len⟩
theorem SP.gZ{D:Ends}{f:Flow}{s':Shared}(h:SP (X.dj E) pins D f s'):SP X pins D f s':=by
 cases f with
 | next=>obtain ⟨cN,H',I,q⟩:=h;exact⟨cN,H',I.gZ,q⟩
 | brk=>obtain ⟨cN,H',I,q⟩:=h;exact⟨cN,H',I.gZ,q⟩
 | cont=>obtain ⟨cN,H',I,q⟩:=h;exact⟨cN,H',I.gZ,q⟩
 | ret u=>obtain ⟨v,cN,H',I,r,q⟩:=h;exact⟨v,cN,H',I.gZ,r,q⟩
end
section
variable {X:Cx}{st:Stmt}{rest:List Stmt}{t u:TS}{e:Expr}{te:TE}{pos:Pos}
def Sm:TS:=fun D σ H=>D.nx σ H
def Sn(t u:TS):TS:=fun D σ H=>t { D with nx:=u D } σ H
theorem Kv:uu X [] Sm:=fun _ _ σ H _ I h=>wpAny_execs_nil ⟨σ,H,I,h⟩
theorem Aw(h1:PS X st t)(h2:uu X rest u):uu X (st::rest) (Sn t u):=by
 walk_at">"
 refine wpAny_execs_cons (fS (h1 pins s σ H { D with nx:=u D } I h) fun f s1 q=>?_)
 cases f with
 | next=>
  obtain ⟨cN,H',I',q⟩:=q
  exact h2 pins s1 cN H' D I' q
 | ret v=>exact q
 | brk=>exact q
 | cont=>exact q
theorem Dr(h1:PS X st t):uu X [st] t:=by
 walk_at">"
 refine wpAny_execs_cons (fS (h1 pins s σ H D I h) fun f s1 q=>?_)
 cases f with
 | next=>exact wpAny_execs_nil q
 | ret v=>exact q
 | brk=>exact q
 | cont=>exact q
theorem Inv.quiet{pins:List (Addr×Obj)}{σ:St}{H:Hp}{s:Shared}(I:Inv X pins σ H s):interactive X.env=false:=by simp[interactive,I.ok.kind]
def NB(te:TE):TS:=fun D σ H=>te σ H fun _ H1=>D.nx σ H1
theorem yY(he:PE X e te)(hs:swapsWith e none pos.line X.env=pure false:=by rfl):PS X (.Expr e pos) (NB te):=by
 walk_at">"
 exact wpAny_Expr_any (fS (he pins s σ H _ I h) fun v s1 OG=>OG.elim fun x ZI=>ZI.elim fun H1 ZJ=>ZJ.elim fun I1 ZK=>ZK.elim fun r1 q1=>⟨σ,H1,I1,q1⟩) I.quiet hs
def ZL(te:TE):TS:=fun D σ H=>te σ H D.rt
theorem OH(he:PE X e te):PS X (.Return (some e) pos) (ZL te):=by
 walk_at">"
 exact wpAny_Return_some (fS (he pins s σ H _ I h) fun v s1 ZM=>ZM.elim fun x ZN=>ZN.elim fun H1 ZO=>ZO.elim fun I1 ZP=>ZP.elim fun r1 q1=>⟨x,σ,H1,I1,r1,q1⟩)
def ZQ(c:TT)(t u:TS):TS:=fun D σ H=>c σ H fun b H1=>if b=true then t D σ H1 else u D σ H1
theorem Sq{c:Expr}{a b:List Stmt}{tc:TT}(hc:PT X c tc)(ha:uu X a t)(hb:uu X b u):PS X (.If c a b pos) (ZQ tc t u):=by
 walk_at">"
 refine wpAny_If (fS (hc pins s σ H _ I h) fun d s1 Sv=>?_)
 refine aM Sv fun H1 I1 q1=>?_
 clear Sv
 cases d with
 | true=>exact ha pins s1 σ H1 D I1 q1
 | false=>exact hb pins s1 σ H1 D I1 q1
end
abbrev TG:=V->St->Hp->(St->Hp->Prop)->Prop
abbrev OI:=List V->St->Hp->(St->Hp->Prop)->Prop
def PG(X:Cx)(target:Expr)(t:TG):Prop:=
 ∀(pins:List (Addr×Obj)) (s:Shared) (σ:St) (H:Hp) (v:V) (u:Value) (Q:St->Hp->Prop),Inv X pins σ H s->RelV v u->t v σ H Q->
  wpAny (model X.prog X.w) X.A (assign target X.env u) (fun _ s'=>∃cN H',Inv X pins cN H' s'/\Q cN H') X.xe s
def Xw(X:Cx)(ts:List Expr)(t:OI):Prop:=
 ∀(pins:List (Addr×Obj)) (s:Shared) (σ:St) (H:Hp) (vs:List V) (us:List Value) (Q:St->Hp->Prop),Inv X pins σ H s->Vals vs us->t vs σ H Q->
  wpAny (model X.prog X.w) X.A (assignInOrder ((assignEach ts X.env).map (·.2)) us) (fun _ s'=>∃cN H',Inv X pins cN H' s'/\Q cN H') X.xe s
abbrev OJ:=V->V->V->Hp->(Hp->Prop)->Prop
def Sw(X:Cx)(t:OJ):Prop:=
 ∀(pins:List (Addr×Obj)) (s:Shared) (σ:St) (H:Hp) (o i v:V) (ov iv u:Value) (Q:Hp->Prop),Inv X pins σ H s->RelV o ov->RelV i iv->RelV v u->t o i v H Q->
  wpAny (model X.prog X.w) X.A (setItem ov iv u) (fun _ s'=>∃H',Inv X pins σ H' s'/\Q H') X.xe s
section
variable {X:Cx}{pos:Pos}
def Ax(i:Nat):TG:=fun v σ H Q=>Q (σ.set i (some v)) H
theorem bT{i:Nat}{x:Str}(hN:X.N.Nodup)(hi:X.N[i]?=some x)(hx:Loc X.env.scope x)(hf:X.fn x=true\/X.env.scope.names.lookup x=some .local:=by first | exact .inl rfl | exact .inr rfl | assumption):PG X (.Name x pos) (Ax i):=by
 intro pins s σ H v u Q I r h
 exact wpAny_assign_Name (rK I hN hi hx r (fun s' I'=>⟨_,H,I',h⟩) hf)
def Sy:OI:=fun vs σ H Q=>vs=[]/\Q σ H
def Gy(t:TG)(u:OI):OI:=fun vs σ H Q=>∃v r,vs=v::r/\t v σ H fun cN H'=>u r cN H' Q
theorem qf:Xw X [] Sy:=by
 intro pins s σ H vs us Q I r h
 obtain ⟨e,h⟩:=h
 subst e
 cases r
 exact assignInOrder_nil ⟨σ,H,I,h⟩
theorem fj{e:Expr}{es:List Expr}{t:TG}{u:OI}(h1:PG X e t)(h2:Xw X es u)
  (hs:(assignEach (e::es) X.env).map (·.2)=assign e X.env::(assignEach es X.env).map (·.2):=by rfl):Xw X (e::es) (Gy t u):=by
 intro pins s σ H vs us Q I r h
 obtain ⟨v,vr,e1,h⟩:=h
 subst e1
 cases r with
 | cons r rr=>
  rw[hs]
  refine assignInOrder_cons (fS (h1 pins s σ H _ _ _ I r h) fun _ s1 Sz=>?_)
  refine cP Sz fun Gz H1 I1 q1=>?_
  clear Sz
  exact h2 pins s1 Gz H1 _ _ Q I1 rr q1
def SA(K:Frag)(n:Nat)(t:OI):TG:=fun v σ H Q=>∃a xs,v = .ref a/\lQ K H a xs/\xs.length=n/\t xs σ H Q
theorem tw{es:List Expr}{k:Nat}{t:OI}{n:Nat}(hc:X.calm=true)(h:Xw X es t)
  (hn:(assignEach es X.env).length=n:=by rfl) (EH:(assignEach es X.env).findIdx? (·.1)=none:=by rfl):PG X (.Tuple es k pos) (SA X.K n t):=by
 intro pins s σ H v u Q I r hw
 obtain ⟨a,xs,e1,hq,hl,hw⟩:=hw
 subst e1
 cases r
 obtain ⟨bf,rv,ht,hz⟩:=I.tuple hq
 refine assign_Tuple_tuple (I.ok.hd hc) ht (by simp[hn,<- hl,rv.length]) EH fun h' hx=>?_
 have I1:Inv X pins σ H { s with heap:=h' }:=I.kept (t':=s.toks) fun b o e=>hx b o (aE5 (aD9 e)) e
 exact h pins _ σ H xs _ Q I1 (by simpa using rv) hw
def jE(to ti:TE)(t:OJ):TG:=fun v σ H Q=>to σ H fun o H1=>ti σ H1 fun i H2=>t o i v H2 fun H3=>Q σ H3
theorem OL{o i:Expr}{to ti:TE}{t:OJ}(ho:PE X o to)(hi:PE X i ti)(hs:Sw X t)
  (ha:∀v,assign (.Subscript o i pos) X.env v=(do
   let ov <- holding [v] (eval o X.env)
   let iv <- holding [v,ov] (eval i X.env)
   standAt pos
   holding [v,ov,iv] (setItem ov iv v)
   release [v,ov,iv] []):=by intro _;rfl):PG X (.Subscript o i pos) (jE to ti t):=by
 intro pins s σ H v u Q I r h
 rw[ha]
 refine aB8 (wpAny_holding (fS (ho pins s σ H _ I h) fun ov s1 SD=>?_))
 refine b6 SD fun x H1 I1 r1 q1=>?_
 clear SD
 refine aB8 (wpAny_holding (fS (hi pins s1 σ H1 _ I1 q1) fun iv s2 SE=>?_))
 refine b6 SE fun y H2 I2 r2 q2=>?_
 clear SE
 refine aB8 (wpAny_standAt (aB8 (wpAny_holding (fS (hs pins s2 σ H2 x y v ov iv u _ I2 r1 r2 r q2) fun _ s3 SH=>?_))))
 refine aM SH fun H3 I3 q3=>?_
 clear SH
 exact wpAny_release ⟨σ,H3,I3,q3⟩
def SI(te:TE)(g:TG):TS:=fun D σ H=>te σ H fun x H1=>g x σ H1 D.nx
theorem GA{tg e:Expr}{te:TE}{g:TG}(he:PE X e te)(hg:PG X tg g)(hs:swapsWithSole [tg] e pos.line X.env=pure false:=by rfl)(hw:swappedStores [tg] e X.env=pure none:=by rfl)
  (h1:(assignEach [tg] X.env).map (·.2)=[assign tg X.env]:=by rfl):PS X (.Assign [tg] e pos) (SI te g):=by
 walk_at">"
 refine wpAny_Assign_stores (fS (he pins s σ H _ I h) fun v s1 SJ=>?_) hs hw
 refine b6 SJ fun x H1 I1 r1 q1=>?_
 clear SJ
 rw[h1]
 exact fS (hg pins s1 σ H1 x v _ I1 r1 q1) fun _ s2 q=>q
theorem OM{i:Nat}{x:Str}{e:Expr}{te:TE}{pos':Pos}(hN:X.N.Nodup)(hi:X.N[i]?=some x)(hx:Loc X.env.scope x)(he:PE X e te)(hs:swapsWith e (some (.Name x pos')) pos.line X.env=pure false:=by rfl)(hf:X.fn x=true\/X.env.scope.names.lookup x=some .local:=by first | exact .inl rfl | exact .inr rfl | assumption) :
  PS X (.Assign [.Name x pos'] e pos) (SI te (Ax i)):=by
 walk_at">"
 refine wpAny_Assign_Name (fS (he pins s σ H _ I h) fun v s1 SM=>?_) hs
 refine b6 SM fun y H1 I1 r1 q1=>?_
 clear SM
 exact rK I1 hN hi hx r1 (fun s2 I2=>⟨_,H1,I2,q1⟩) hf
def ZR(i j:Nat)(ta:TA):TS:=fun D σ H=>ta σ H fun vs H1=>∃v w,vs=[v,w]/\D.nx ((σ.set i (some v)).set j (some w)) H1
theorem ON{i j:Nat}{x y:Str}{a b:Expr}{ta:TA}{px py pt:Pos}{kt k2 OO}(hc:X.calm=true)(hN:X.N.Nodup)(hi:X.N[i]?=some x)(hj:X.N[j]?=some y)(oq:i≠j)
  (hx:X.env.scope.names.lookup x=some .local) (hy:X.env.scope.names.lookup y=some .local) (ha:PA X [a,b] ta)
  (hw:swappedStores [.Tuple [.Name x px,.Name y py] kt pt] (.Tuple [a,b] k2 OO) X.env=pure (some [x,y]))
  (hs:swapsWithSole [.Tuple [.Name x px,.Name y py] kt pt] (.Tuple [a,b] k2 OO) pos.line X.env=pure false:=by rfl) :
  PS X (.Assign [.Tuple [.Name x px,.Name y py] kt pt] (.Tuple [a,b] k2 OO) pos) (ZR i j ta):=by
 walk_at">"
 rw[exec_Assign_arm]
 refine aB8 (wpAny_standAt ?_)
 rw[hs]
 walk_at"?"
 rw[aC3 (by decide)]
 refine aB8 (Tuple_ (fS (ha _ pins s σ H _ I h) fun us s1 SN=>?_))
 refine b6 SN fun vs H1 I1 r1 q1=>?_
 clear SN
 obtain ⟨v,w,e1,q1⟩:=q1
 subst e1
 obtain ⟨u1,u2,rfl,rv,GB⟩:∃u1 u2,us=[u1,u2]/\RelV v u1/\RelV w u2:=by
  cases r1 with
  | cons p q=>
   cases q with
   | cons p' q'=>
    cases q'
    exact⟨_,_,rfl,p,p'⟩
 refine wpAny_newObj_type ?_ (by show 2<=sizeLine;decide)
 have I2:Inv X pins σ H1 { s1 with heap:=s1.heap.push { cls:=.type "tuple",data:=.seq [u1,u2].toArray } }:=I1.kept (t':=s1.toks) fun b o e=>aC0 _ e
 rw[hw]
 walk_at"?"
 show wpAny (model X.prog X.w) X.A (do rule "assign.swapped-stores";let items <- unpackItems (.ref s1.heap.objs.size) 2 none;assignInOrder [fun v=>bindName X.env y v,fun v=>bindName X.env x v] items.reverse;pure Flow.next) _ _ _
 refine aB8 (wpAny_rule (aB8 (unpackItems_tuple (items:=#[u1,u2]) (I.ok.hd hc) (IsTup.new s1.heap _) fun h' tE=>?_)))
 have I3:=I2.kept (h':=h') (t':=s1.toks) fun b o e=>tE b o (aE5 (aD9 e)) e
 show wpAny _ _ (assignInOrder [fun v=>bindName X.env y v,fun v=>bindName X.env x v] [u2,u1]>>=fun _=>pure Flow.next) _ _ _
 refine aB8 (assignInOrder_cons (wpAny_bindName (rK I3 hN hj (.inl hy) GB (fun s2 I4=>?_) (.inr hy))))
 refine assignInOrder_cons (wpAny_bindName (rK I4 hN hi (.inl hx) rv (fun s3 I5=>assignInOrder_nil (aB9 ?_)) (.inr hx)))
 rw[List.set_comm _ _ (Ne.symm oq)] at I5
 exact⟨_,H1,I5,q1⟩
end
section
variable {X:Cx}{pos:Pos}
def OP(c:TT)(tb:TS):TS:=fun D σ H=>∃W:Nat->St->Hp->Prop,(∃m,W m σ H)/\∀m σ H,W m σ H->
 c σ H fun b H1=>if b=true then ∃N:St->Hp->Prop,(∀cN H',N cN H'->∃m',m' < m/\W m' cN H')/\tb { D with nx:=N,ct:=N,bk:=D.nx } σ H1 else D.nx σ H1
theorem GC{c:Expr}{body:List Stmt}{tc:TT}{tb:TS}(hp:PassesOwn (model X.prog X.w) X.A X.env X.xe)(hc:PT X c tc)(hb:uu X body tb):PS X (.While c body [] pos) (OP tc tb):=by
 walk_at">"
 refine aM h fun W iG turn=>?_
 clear h
 obtain ⟨m0,w0⟩:=iG
 refine wpAny_While (codeAny_whileLoop (fun n s'=>∃cN H',Inv X pins cN H' s'/\W n cN H') ?_ m0 ⟨σ,H,I,w0⟩)
 rintro n s1 ⟨Gz,H1,I1,w1⟩
 refine wpAny_passesOwn hp (fS (hc pins s1 Gz H1 _ I1 (turn n Gz H1 w1)) fun b s2 SO=>?_)
 refine aM SO fun H2 I2 q2=>?_
 clear SO
 cases b with
 | true=>
  obtain ⟨N,hN,q2⟩:=q2
  rw[aC2 rfl]
  refine wpAny_passesOwn hp (fS (hb pins s2 Gz H2 _ I2 q2) fun f s3 q3=>?_)
  cases f with
  | next=>
   refine cP q3 fun Ay H3 I3 n3=>?_
   clear q3
   refine aM (hN Ay H3 n3) fun m' hm w3=>?_
   exact⟨m',hm,Ay,H3,I3,w3⟩
  | cont=>
   refine cP q3 fun Ay H3 I3 n3=>?_
   clear q3
   refine aM (hN Ay H3 n3) fun m' hm w3=>?_
   exact⟨m',hm,Ay,H3,I3,w3⟩
  | brk=>exact q3
  | ret v=>exact q3
 | false=>
  rw[aC3 aF8]
  exact wpAny_execs_nil ⟨Gz,H2,I2,q2⟩
end
structure It where
 go:Nat->Hp->Prop
 Xx:Nat->Hp->V->Hp->Prop
 stop:Nat->Hp->Prop
def yZ(X:Cx)(pins:List (Addr×Obj))(H:Hp)(b:Addr):Prop:=
 H b=none/\b≠X.env.locals/\b∉X.fs/\(b∈X.ex\/X.gW.heap.objs.size<=b)/\(∀x c,X.env.cells.lookup x=some c->c≠b)/\∀p∈X.pn++pins,p.1≠b
theorem Inv.GD{X:Cx}{pins:List (Addr×Obj)}{σ:St}{H H':Hp}{s:Shared}{b:Addr}(I:Inv X pins σ H s)(hb:s.heap.objs.size<=b)(hn:H' b=none):yZ X pins H' b:=by
 refine⟨hn,Nat.ne_of_gt (aE8 I.lt hb),I.ZC hb,.inr (aD5 I.sz hb),fun x c e z=>?_,fun p hp z=>?_⟩
 ·obtain ⟨v,q⟩:=I.cell x c e
  exact absurd (aE8 q.lt (by rw[z];exact hb)) (Nat.lt_irrefl _)
 ·exact absurd (aE8 (aD9 (I.pin p hp).1) (by rw[z];exact hb)) (Nat.lt_irrefl _)
structure Turn(P:Program)(w:World)(K:Frag)(tg:Expr)(J:It)(fp:List Addr)(it:Addr)(tn:Nat->Heap->Prop):Prop where
 mem:it∈fp
 obj:∀i h,tn i h->∀b∈fp,∃o,h.get? b=some o/\∀v,o.data≠ .cell v
 keep:∀i h h',tn i h->(∀b∈fp,∀o,h.get? b=some o->h'.get? b=some o)->tn i h'
 item:∀(X:Cx),X.prog=P->X.w=w->X.K=K->X.calm=true->∀(i:Nat) (pins:List (Addr×Obj)) (s:Shared) (σ:St) (H:Hp) (E:Value->Shared->Prop),Inv X pins σ H s->(∀b∈fp,yZ X pins H b)->tn i s.heap->J.go i H->
  wpAny (model P w) X.A (pyNext (.ref it)) (fun r s1=>∃u,r=some u/\
   wpAny (model P w) X.A (letOwnedTupleGo tg (.ref it) u) (fun _ s2=>∃x H',Inv X pins σ H' s2/\RelV x u/\J.Xx i H x H'/\tn (i+1) s2.heap/\∀b∈fp,H' b=none) E s1) E s
 done:∀(X:Cx),X.prog=P->X.w=w->X.K=K->X.calm=true->∀(i:Nat) (pins:List (Addr×Obj)) (s:Shared) (σ:St) (H:Hp) (E:Value->Shared->Prop),Inv X pins σ H s->(∀b∈fp,yZ X pins H b)->tn i s.heap->J.stop i H->
  wpAny (model P w) X.A (pyNext (.ref it)) (fun r s1=>r=none/\Inv X pins σ H s1) E s
 self:∀(A:Around) (i:Nat) (s:Shared) (Q:Value->Shared->Prop) (E:Value->Shared->Prop),tn i s.heap->Q (.ref it) s->wpAny (model P w) A (pyIter (.ref it)) Q E s
abbrev TI:=St->Hp->(It->Hp->Prop)->Prop
def PIE(X:Cx)(pins:List (Addr×Obj))(σ:St)(tg:Expr)(R:It->Hp->Prop)(Xy:Value)(s2:Shared):Prop:=
 ∃(it:Addr) (fp:List Addr) (tn:Nat->Heap->Prop) (J:It) (H':Hp),Xy = .ref it/\Inv X pins σ H' s2/\Turn X.prog X.w X.K tg J fp it tn/\tn 0 s2.heap/\(∀b∈fp,yZ X pins H' b)/\R J H'
def PI(X:Cx)(tg iter:Expr)(wi:TI):Prop:=
 ∀(pins:List (Addr×Obj)) (s:Shared) (σ:St) (H:Hp) (R:It->Hp->Prop),Inv X pins σ H s->wi σ H R->
  wpAny (model X.prog X.w) X.A (eval iter X.env) (fun v s1=>wpAny (model X.prog X.w) X.A (pyIter v) (PIE X pins σ tg R) X.xe s1) X.xe s
theorem GF{M:Model}{A:Around}{E:Value->Shared->Prop}{s:Shared}{tg:Expr}{it:Addr}{u:Value}{o:Obj}{n:String}{vs:Array Value}{Q:Unit->Shared->Prop}(ho:s.heap.get? it=some o)(hc:o.cls = .type n)(hd:o.data = .fields vs)
    (hn:["enumerate","zip","dict_itemiterator","dict_reverseitemiterator","odict_iterator","itertools.zip_longest","itertools.pairwise"].contains n=false) (hQ:Q () s):wpAny M A (letOwnedTupleGo tg (.ref it) u) Q E s:=by
  unfold letOwnedTupleGo
  cases tg <;> first
    | exact aB9 hQ
    | (cases u <;> first
        | exact aB9 hQ
        | (refine aB8 (wpAny_load ho ?_)
           rw[hc,hd]
           show wpAny M A (if (["enumerate","zip","dict_itemiterator","dict_reverseitemiterator","odict_iterator","itertools.zip_longest","itertools.pairwise"].contains n&&vs[0]?==some (rawInt _))=true then _ else _) Q E s
           rw[aC3 (by intro h;rw[hn,Bool.false_and] at h;cases h)]
           exact aB9 hQ))
def Itl(K:Frag)(a:Addr):It:=
 ⟨fun i H=>∃xs x,ko K H a xs/\xs[i]?=some x,fun i H x H'=>H'=H/\∀xs,ko K H a xs->xs[i]?=some x,fun i H=>∃xs,ko K H a xs/\xs.length<=i⟩
def Itt(K:Frag)(a:Addr):It:=
 ⟨fun i H=>∃xs x,lQ K H a xs/\xs[i]?=some x,fun i H x H'=>H'=H/\∀xs,lQ K H a xs->xs[i]?=some x,fun i H=>∃xs,lQ K H a xs/\xs.length<=i⟩
def ZS(lo:Int)(n:Nat):It:=⟨fun i _=>i < n,fun i H x H'=>H'=H/\x = .int (lo+i),fun i _=>n<=i⟩
theorem EI{P:Program}{w:World}{K:Frag}{tg:Expr}(a it:Addr):Turn P w K tg (Itl K a) [it] it (fun i h=>h.IsListIter it a i) where
 mem:=by simp
 obj:=fun i h st b hb=>by
  have e:b=it:=by simpa using hb
  subst e
  refine bM st fun o e c d=>?_
  clear st
  exact⟨o,e,fun v z=>by rw[d] at z;cases z⟩
 keep:=fun i h h' st k=>st.at fun o e=>k it (by simp) o e
 item:=by
  walk_at"A"
  subst hP hw hK
  refine cP hg fun xs x hq hx=>?_
  clear hg
  refine bM (I.list hq) fun bf rv p hz=>?_
  refine aM (rv.get hx) fun u hu ru=>?_
  walk_at"F"
  refine wpAny_pyNext_list_item st p.isList (x:=u) (by simpa using hu) fun h' st' sb=>?_
  walk_at"Z"
  refine bM (id st') fun o e c d=>?_
  exact⟨u,rfl,GF (s:={ s with heap:=h' }) e c d (by decide) ⟨x,H,I1,ru,⟨rfl,fun ys hy=>by rw[I.vI hy hq];exact hx⟩,st',fun b hb=>(hf b hb).1⟩⟩
 done:=by
  walk_at"A"
  subst hP hw hK
  refine aM hg fun xs hq hx=>?_
  clear hg
  refine bM (I.list hq) fun bf rv p hz=>?_
  walk_at"F"
  have hl:=rv.length
  exact wpAny_pyNext_list_end (I.ok.hd hc) st p.isList (by simp;lia) fun h' eb=>⟨rfl,I.turned (t':=s.toks) (fun b o hb e=>eb b o hb e) f0 f1 f3 f4 f5⟩
 self:=fun _ _ _ _ _ st h=>wpAny_pyIter_listiter st h
theorem BZ{P:Program}{w:World}{K:Frag}{tg:Expr}(a it:Addr):Turn P w K tg (Itt K a) [it] it (fun i h=>h.IsTupleIter it a i) where
 mem:=by simp
 obj:=fun i h st b hb=>by
  have e:b=it:=by simpa using hb
  subst e
  refine bM st fun o e c d=>?_
  clear st
  exact⟨o,e,fun v z=>by rw[d] at z;cases z⟩
 keep:=fun i h h' st k=>st.at fun o e=>k it (by simp) o e
 item:=by
  walk_at"A"
  subst hP hw hK
  refine cP hg fun xs x hq hx=>?_
  clear hg
  refine bM (I.tuple hq) fun bf rv p hz=>?_
  refine aM (rv.get hx) fun u hu ru=>?_
  walk_at"F"
  refine wpAny_pyNext_tuple_item st (show s.heap.IsTuple a bf.toArray from p) (x:=u) (by simpa using hu) fun h' st' sb=>?_
  walk_at"Z"
  refine bM (id st') fun o e c d=>?_
  exact⟨u,rfl,GF (s:={ s with heap:=h' }) e c d (by decide) ⟨x,H,I1,ru,⟨rfl,fun ys hy=>by rw[I.EG hy hq];exact hx⟩,st',fun b hb=>(hf b hb).1⟩⟩
 done:=by
  walk_at"A"
  subst hP hw hK
  refine aM hg fun xs hq hx=>?_
  clear hg
  refine bM (I.tuple hq) fun bf rv p hz=>?_
  walk_at"F"
  have hl:=rv.length
  exact wpAny_pyNext_tuple_end (I.ok.hd hc) st (show s.heap.IsTuple a bf.toArray from p) (by simp;lia) fun h' eb=>⟨rfl,I.turned (t':=s.toks) (fun b o hb e=>eb b o hb e) f0 f1 f3 f4 f5⟩
 self:=fun _ _ _ _ _ st h=>wpAny_pyIter_tupleiter st h
theorem C0{P:Program}{w:World}{K:Frag}{tg:Expr}(it:Addr)(lo:Int)(n:Nat):Turn P w K tg (ZS lo n) [it] it (fun i h=>IsRangeIter h it (lo+(i:Nat) * 1) ((n:Int) - (i:Nat)) 1) where
 mem:=by simp
 obj:=fun i h st b hb=>by
  have e:b=it:=by simpa using hb
  subst e
  exact⟨_,st,fun v z=>by
   have z':Data.fields _=Data.cell v:=z
   cases z'⟩
 keep:=fun i h h' st k=>k it (by simp) _ st
 item:=by
  walk_at"A"
  subst hP hw hK
  walk_at"F"
  have W:=Walks.range (prog:=X.prog) (w:=X.w) (I.ok.hd hc) it lo 1 n
  refine W.item i s _ _ hg st fun v h' tk hv st' kk=>?_
  obtain ⟨t,rfl⟩:=hv
  have I1:Inv X pins σ H { s with heap:=h',toks:=tk }:=I.turned (fun b o hb e=>kk b o (by simpa using hb) e) f0 f1 f3 f4 f5
  refine⟨_,rfl,GF (s:={ s with heap:=h',toks:=tk }) (n:="range_iterator") st' rfl rfl (by decide) ⟨.int (lo+i),H,I1,⟨t,?_⟩,⟨rfl,rfl⟩,st',fun b hb=>(hf b hb).1⟩⟩
  rw[Int.mul_one]
 done:=by
  walk_at"A"
  subst hP hw hK
  walk_at"F"
  exact wpAny_pyNext_range_end (I.ok.hd hc) st (by have:n<=i:=hg;lia) fun h' eb=>⟨rfl,I.turned (t':=s.toks) (fun b o hb e=>eb b o hb e) f0 f1 f3 f4 f5⟩
 self:=fun _ _ _ _ _ st h=>wpAny_pyIter_rangeiter st h
end L2
namespace L2
open PySem PySem.Spec PyProof.Rows
section
variable {X:Cx}{tg:Expr}
def SQ(K:Frag)(tl:TE):TI:=fun σ H R=>tl σ H fun x H1=>∃a,x = .ref a/\(∃xs,ko K H1 a xs)/\R (Itl K a) H1
def ZT(K:Frag)(tl:TE):TI:=fun σ H R=>tl σ H fun x H1=>∃a,x = .ref a/\(∃xs,lQ K H1 a xs)/\R (Itt K a) H1
theorem Ds{l:Expr}{tl:TE}(hl:PE X l tl):PI X tg l (SQ X.K tl):=by
 intro pins s σ H R I h
 refine fS (hl pins s σ H _ I h) fun v s1 SR=>?_
 refine b6 SR fun x H1 I1 r1 q1=>?_
 clear SR
 refine bM q1 fun a e aR q=>?_
 clear q1
 obtain ⟨xs,hq⟩:=aR
 subst e
 cases r1
 refine bM (I1.list hq) fun bf rv p hz=>?_
 refine wpAny_pyIter_list p.isList ?_
 refine⟨s1.heap.objs.size,[s1.heap.objs.size],_,_,H1,rfl,I1.kept (t':=s1.toks) fun b o e=>aC0 _ e,EI a _,⟨_,aE2 _ rfl,rfl,rfl⟩,fun b hb=>?_,q⟩
 have e:b=s1.heap.objs.size:=by simpa using hb
 subst e
 exact I1.GD (aC4 _) (I1.eE.fresh (aC4 _))
theorem OQ{l:Expr}{tl:TE}(hl:PE X l tl):PI X tg l (ZT X.K tl):=by
 intro pins s σ H R I h
 refine fS (hl pins s σ H _ I h) fun v s1 SS=>?_
 refine b6 SS fun x H1 I1 r1 q1=>?_
 clear SS
 refine bM q1 fun a e aR q=>?_
 clear q1
 obtain ⟨xs,hq⟩:=aR
 subst e
 cases r1
 refine bM (I1.tuple hq) fun bf rv p hz=>?_
 refine wpAny_pyIter_tuple (show s1.heap.IsTuple a bf.toArray from p) ?_
 refine⟨s1.heap.objs.size,[s1.heap.objs.size],_,_,H1,rfl,I1.kept (t':=s1.toks) fun b o e=>aC0 _ e,BZ a _,⟨_,aE2 _ rfl,rfl,rfl⟩,fun b hb=>?_,q⟩
 have e:b=s1.heap.objs.size:=by simpa using hb
 subst e
 exact I1.GD (aC4 _) (I1.eE.fresh (aC4 _))
theorem GG{pins:List (Addr×Obj)}{σ:St}{H:Hp}{s:Shared}{R:It->Hp->Prop}{E:Value->Shared->Prop}{lo hi:Int}{t u v:Tok}{tk:Nat}(I:Inv X pins σ H s)(h1 : -(2 ^ 62)<=lo)(h2:lo < 2 ^ 62)(h3 : -(2 ^ 62)<=hi)(h4:hi < 2 ^ 62)
  (q:R (ZS lo (hi - lo).toNat) H):wpAny (model X.prog X.w) X.A (pyIter (.ref s.heap.objs.size)) (PIE X pins σ tg R) E { s with heap:=s.heap.push { cls:=.type "range",data:=.fields #[.int lo t,.int hi u,.int 1 v] },toks:=tk }:=by
 refine wpAny_pyIter_range (IsRange.new ..) (small_one h1 h2 h3 h4) ?_
 have I1:Inv X pins σ H { s with heap:=s.heap.push { cls:=.type "range",data:=.fields #[.int lo t,.int hi u,.int 1 v] },toks:=tk }:=I.kept fun b o e=>aC0 _ e
 refine⟨(s.heap.push { cls:=.type "range",data:=.fields #[.int lo t,.int hi u,.int 1 v] }).objs.size,[(s.heap.push { cls:=.type "range",data:=.fields #[.int lo t,.int hi u,.int 1 v] }).objs.size],_,_,H,rfl,
  I1.kept (t':=tk) fun b o e=>aC0 _ e,C0 _ lo (hi - lo).toNat,?_,fun b hb=>?_,q⟩
 ·have e1:lo+((0:Nat):Int) * 1=lo:=by simp
  have e2:(((hi - lo).toNat:Nat):Int) - ((0:Nat):Int)=Builtin.Range.rangeSize lo hi 1:=by rw[rangeSize_one];split <;> lia
  show IsRangeIter _ _ (lo+((0:Nat):Int) * 1) ((((hi - lo).toNat:Nat):Int) - ((0:Nat):Int)) 1
  rw[e1,e2]
  exact aE2 _ rfl
 ·have e:b=(s.heap.push { cls:=.type "range",data:=.fields #[.int lo t,.int hi u,.int 1 v] }).objs.size:=by simpa using hb
  subst e
  exact I1.GD (aC4 _) (I1.eE.fresh (aC4 _))
def SV(ta:TA):TI:=fun σ H R=>ta σ H fun vs H1=>∃j:Int,vs=[.int j]/\ -(2 ^ 62)<=j/\j < 2 ^ 62/\R (ZS 0 j.toNat) H1
theorem EJ{a:Expr}{ta:TA}{p pos:Pos}(hg:Gl X "range")(hm:X.mg "range" =none)(ha:PA X [a] ta)(hs:starEach [a] X.env=[(false,eval a X.env)]:=by rfl):PI X tg (.Call (.Name "range" p) [a] [] pos) (SV ta):=by
 intro pins s σ H R I h
 refine Call_ (vH I hg hm boot_range (PyProof.Rows.callWith_type1 (fS (ha pos pins s σ H _ I h) fun us s1 SW=>?_) hs rfl))
 refine b6 SW fun vs H1 I1 r1 q1=>?_
 clear SW
 obtain ⟨j,e,q1,q2,q⟩:=q1
 subst e
 cases r1 with
 | cons r rr=>
  cases rr
  obtain ⟨t,rfl⟩:=r
  exact call_range_1 (GG I1 (by lia) (by lia) q1 q2 (by simpa using q))
def ZU(wi:TI)(g:TG)(tb:TS):TS:=fun D σ H=>wi σ H fun J H1=>∃W:Nat->Nat->St->Hp->Prop,(∃m,W 0 m σ H1)/\∀i m σ H,W i m σ H->
 (J.stop i H/\D.nx σ H)\/(J.go i H/\∃N:St->Hp->Prop,(∀cN H',N cN H'->∃m',m' < m/\W (i+1) m' cN H')/\∀x H',J.Xx i H x H'->g x σ H' fun z4 H2=>tb { D with nx:=N,ct:=N,bk:=D.nx } z4 H2)
def vJ(fp:List Addr)(h:Heap):List (Addr×Obj):=fp.filterMap fun b=>(h.get? b).map fun o=>(b,o)
theorem mK{fp:List Addr}{h:Heap}{b:Addr}{o:Obj}(hb:b∈fp)(e:h.get? b=some o):(b,o)∈vJ fp h:=List.mem_filterMap.mpr ⟨b,hb,by rw[e];rfl⟩
theorem EK{fp:List Addr}{h:Heap}{p:Addr×Obj}(hp:p∈vJ fp h):p.1∈fp/\h.get? p.1=some p.2:=by
 refine aM (List.mem_filterMap.mp hp) fun b hb e=>?_
 cases q:h.get? b with
 | none=>rw[q] at e;cases e
 | some o=>
  rw[q] at e
  have e':(b,o)=p:=aE1 e
  subst e'
  exact⟨hb,q⟩
theorem Inv.pinned{pins:List (Addr×Obj)}{σ:St}{H:Hp}{s:Shared}{fp:List Addr}(I:Inv X pins σ H s)(hf:∀b∈fp,yZ X pins H b)(ho:∀b∈fp,∃o,s.heap.get? b=some o/\∀v,o.data≠ .cell v):Inv X (pins++vJ fp s.heap) σ H s:=
 I.rJ fun p hp=>(aF9.mp hp).elim (fun z=>I.pin p (aF7 _ z)) fun z=>by
  obtain ⟨hb,e⟩:=EK z
  refine BV (hf p.1 hb) fun f0 f1 f2 _=>?_
  refine aM (ho p.1 hb) fun o e' d=>?_
  rw[e] at e';cases e'
  exact⟨e,f0,f1,f2,d⟩
theorem Inv.vK{pins pl:List (Addr×Obj)}{σ:St}{H:Hp}{s:Shared}(I:Inv X (pins++pl) σ H s):Inv X pins σ H s:=I.rJ fun p hp=>I.pin p (aF7 _ (List.mem_append_left _ hp))
theorem C1{iter:Expr}{body:List Stmt}{wi:TI}{g:TG}{tb:TS}{pos:Pos}(hp:PassesOwn (model X.prog X.w) X.A X.env X.xe)(hc:X.calm=true)(hi:PI X tg iter wi)(hg:PG X tg g)(hb:uu X body tb)
  (hs:∀x,foldedSetIterable iter X.env x=pure x:=by intro _;rfl):PS X (.For tg iter body [] pos) (ZU wi g tb):=by
 walk_at">"
 refine wpAny_For (fS (hi pins s σ H _ I h) fun v s1 h1=>fS h1 fun Xy s2 h2=>?_) hs
 obtain ⟨it,fp,tn,J,H2,e,I2,T,lR,f2,W,⟨m0,w0⟩,turn⟩:=h2
 subst e
 have OR:∀{H':Hp},(∀b∈fp,H' b=none)->∀b∈fp,yZ X pins H' b:=fun hn b hb=>⟨hn b hb,(f2 b hb).2⟩
 refine codeAny_forLoop_any (fun n s'=>∃i cN H',Inv X pins cN H' s'/\tn i s'.heap/\(∀b∈fp,H' b=none)/\W i n cN H') ?_ m0 ⟨0,σ,H2,I2,lR,fun b hb=>(f2 b hb).1,w0⟩
 rintro n s3 ⟨i,Ay,H3,I3,Az,fr3,w3⟩
 rcases turn i n Ay H3 w3 with ⟨stop,qn⟩ | ⟨go,N,hN,step⟩
 ·refine wpAny_passesOwn hp (fS (T.done X rfl rfl rfl hc i pins s3 Ay H3 X.xe I3 (OR fr3) Az stop) fun r s4 ZV=>?_)
  obtain ⟨hr,I4⟩:=ZV
  subst hr
  exact wpAny_execs_nil ⟨Ay,H3,I4,qn⟩
 ·refine wpAny_passesOwn hp (fS (T.item X rfl rfl rfl hc i pins s3 Ay H3 X.xe I3 (OR fr3) Az go) fun r s4 SX=>?_)
  refine aM SX fun u hr h4=>?_
  clear SX
  subst hr
  refine wpAny_passesOwn hp (fS h4 fun _ s5 SY=>?_)
  refine EB SY fun x H5 I5 r5 y5 z5 fr5=>?_
  clear SY
  have I5':=I5.pinned (OR fr5) (T.obj _ _ z5)
  refine wpAny_passesOwn hp (fS (hg _ s5 Ay H5 x u _ I5' r5 (step x H5 y5)) fun _ s6 T4=>?_)
  refine cP T4 fun OS H6 I6 q6=>?_
  clear T4
  refine wpAny_passesOwn hp (fS (hb _ s6 OS H6 _ I6 q6) fun f s7 q7=>?_)
  have again:∀{GH:St} {H7:Hp},Inv X (pins++vJ fp s5.heap) GH H7 s7->N GH H7->∃m,m < n/\∃i cN H',Inv X pins cN H' s7/\tn i s7.heap/\(∀b∈fp,H' b=none)/\W i m cN H':=fun {GH H7} I7 n7=>by
   refine aM (hN GH H7 n7) fun m' hm w7=>?_
   refine⟨m',hm,i+1,GH,H7,I7.vK,T.keep _ _ _ z5 fun b hb o e=>(I7.pin (b,o) (aF7 _ (aF7 _ (mK hb e)))).1,fun b hb=>?_,w7⟩
   refine aM (T.obj _ _ z5 b hb) fun o e d=>?_
   exact(I7.pin (b,o) (aF7 _ (aF7 _ (mK hb e)))).2.1
  cases f with
  | next=>obtain ⟨GH,H7,I7,n7⟩:=q7;exact again I7 n7
  | cont=>obtain ⟨GH,H7,I7,n7⟩:=q7;exact again I7 n7
  | brk=>obtain ⟨GH,H7,I7,q7⟩:=q7;exact⟨GH,H7,I7.vK,q7⟩
  | ret v=>obtain ⟨x7,GH,H7,I7,r7,q7⟩:=q7;exact⟨x7,GH,H7,I7.vK,r7,q7⟩
end
end L2
namespace L2
open PySem PySem.Spec PyProof.Rows
abbrev R2:=V->V->Hp->VK->Prop
def rG(X:Cx)(f:Value->Value->Sem Value)(r:R2):Prop:=
 ∀(pins:List (Addr×Obj)) (s:Shared) (σ:St) (H:Hp) (x y:V) (v u:Value) (Q:VK),Inv X pins σ H s->RelV x v->RelV y u->r x y H Q->
  wpAny (model X.prog X.w) X.A (f v u) (EP X pins σ Q) X.xe s
def lS(X:Cx)(f:Value)(r:List V->Hp->VK->Prop):Prop:=
 ∀(pins:List (Addr×Obj)) (s:Shared) (σ:St) (H:Hp) (xs:List V) (us:List Value) (Q:VK),Inv X pins σ H s->Vals xs us->r xs H Q->
  wpAny (model X.prog X.w) X.A (call f us) (EP X pins σ Q) X.xe s
def T5(r:R2)(ta tb:TE):TE:=fun σ H Q=>ta σ H fun x H1=>tb σ H1 fun y H2=>r x y H2 Q
def rI(C:Int->Int->Prop)(g:Int->Int->V):R2:=fun x y H Q=>∃i j,x = .int i/\y = .int j/\C i j/\Q (g i j) H
def Gf(g:Int->Int->V):R2:=fun x y H Q=>∃i j,x = .int i/\y = .int j/\Q (g i j) H
section
variable {X:Cx}{a b:Expr}{ta tb:TE}{pos:Pos}
theorem OT(ha:PE X a ta)(hb:PE X b tb){pins:List (Addr×Obj)}{s:Shared}{σ:St}{H:Hp}{R:V->V->Hp->Prop}(I:Inv X pins σ H s)
  (h:ta σ H fun x H1=>tb σ H1 fun y H2=>R x y H2) {Q:Value->Shared->Prop} {f:Value->Value->Sem Value}
  (hf:∀v u s2 x y H2,Inv X pins σ H2 s2->RelV x v->RelV y u->R x y H2->wpAny (model X.prog X.w) X.A (f v u) Q X.xe s2) :
  wpAny (model X.prog X.w) X.A (eval a X.env) (fun v cV=>wpAny (model X.prog X.w) X.A (eval b X.env) (fun u Kw=>wpAny (model X.prog X.w) X.A (f v u) Q X.xe Kw) X.xe cV) X.xe s:=by
 refine fS (ha pins s σ H _ I h) fun v s1 T6=>?_
 refine b6 T6 fun x H1 I1 r1 q1=>?_
 clear T6
 refine fS (hb pins s1 σ H1 _ I1 q1) fun u s2 T7=>?_
 refine b6 T7 fun y H2 I2 r2 q2=>?_
 clear T7
 exact hf v u s2 x y H2 I2 r1 r2 q2
theorem T8{op:Operator}{r:R2}(ho:rG X (binaryOp op) r)(ha:PE X a ta)(hb:PE X b tb):PE X (.BinOp a op b pos) (T5 r ta tb):=by
 walk_at"9"
 exact wpAny_BinOp (OT ha hb I h fun v u s2 x y H2 I2 rx ry q=>ho pins s2 σ H2 x y v u Q I2 rx ry q)
theorem ZW{f:Value->Value->Sem Value}{C:Int->Int->Prop}{g:Int->Int->Int}
  (rule:∀(i j:Int) (t u:Tok) (s:Shared) (Q:Value->Shared->Prop) (E:Value->Shared->Prop),C i j->Q (.int (g i j) s.toks) { s with toks:=s.toks+1 }->wpAny (model X.prog X.w) X.A (f (.int i t) (.int j u)) Q E s) :
  rG X f (rI C fun i j=>.int (g i j)):=by
 intro pins s σ H x y v u Q I rx ry h
 refine uS h fun i j aR rM hc q=>?_
 clear h
 walk_at"#"
 obtain rfl:=rM
 obtain ⟨t,rfl⟩:=rx
 obtain ⟨t',rfl⟩:=ry
 exact rule i j t t' s _ _ hc ⟨.int (g i j),H,I.tok _,⟨_,rfl⟩,q⟩
theorem T9{f:Value->Value->Sem Value}{g:Int->Int->Int}
  (rule:∀(i j:Int) (t u:Tok) (s:Shared) (Q:Value->Shared->Prop) (E:Value->Shared->Prop),Q (.int (g i j) s.toks) { s with toks:=s.toks+1 }->wpAny (model X.prog X.w) X.A (f (.int i t) (.int j u)) Q E s) :
  rG X f (Gf fun i j=>.int (g i j)):=by
 intro pins s σ H x y v u Q I rx ry h
 refine b6 h fun i j aR rM q=>?_
 clear h
 walk_at"#"
 obtain rfl:=rM
 obtain ⟨t,rfl⟩:=rx
 obtain ⟨t',rfl⟩:=ry
 exact rule i j t t' s _ _ ⟨.int (g i j),H,I.tok _,⟨_,rfl⟩,q⟩
theorem OU{f:Value->Value->Sem Value}{g:Int->Int->Bool}
  (rule:∀(i j:Int) (t u:Tok) (s:Shared) (Q:Value->Shared->Prop) (E:Value->Shared->Prop),Q (.bool (g i j)) s->wpAny (model X.prog X.w) X.A (f (.int i t) (.int j u)) Q E s) :
  rG X f (Gf fun i j=>.bl (g i j)):=by
 intro pins s σ H x y v u Q I rx ry h
 refine b6 h fun i j aR rM q=>?_
 clear h
 walk_at"#"
 obtain rfl:=rM
 obtain ⟨t,rfl⟩:=rx
 obtain ⟨t',rfl⟩:=ry
 exact rule i j t t' s _ _ ⟨.bl (g i j),H,I,rfl,q⟩
def Tc(i j:Int):Prop:=0 < j/\j < 1073741824
def Kx(i j:Int):Prop:=(-(2 ^ 64) < i/\i < 2 ^ 64)\/(-(2 ^ 64) < j/\j < 2 ^ 64)
theorem Kx.ok{i j:Int}(h:Kx i j):IntMulOk i j:=by
 rcases h with ⟨h1,h2⟩ | ⟨h1,h2⟩
 ·exact .of_left (intBits_le_64 h1 h2)
 ·exact .of_right (intBits_le_64 h1 h2)
theorem dG:rG X (binaryOp .Add) (Gf fun i j=>.int (i+j)):=T9 fun _ _ _ _ _ _ _ q=>add_int q
theorem qU:rG X (binaryOp .Sub) (Gf fun i j=>.int (i - j)):=T9 fun _ _ _ _ _ _ _ q=>sub_int q
theorem vL:rG X (binaryOp .Mult) (rI Kx fun i j=>.int (i * j)):=ZW fun _ _ _ _ _ _ _ hc q=>mul_int q hc.ok
theorem jl:rG X (binaryOp .FloorDiv) (rI Tc fun i j=>.int (i / j)):=ZW fun i j _ _ _ _ _ hc q=>by
 have h1:(0:Int) < j:=hc.1
 have h2:j < 1073741824:=hc.2
 exact floordiv_int (by lia) (by rw[Int.fdiv_eq_ediv_of_nonneg i (by lia)];exact q) (.inl (PyProof.noPylong_small (by lia)))
theorem jF:rG X (binaryOp .Mod) (rI (fun _ j=>0 < j) fun i j=>.int (i % j)):=ZW fun i j _ _ _ _ _ hc q=>by
 have h1:(0:Int) < j:=hc
 exact mod_int' (by lia) (by rw[Int.fmod_eq_emod_of_nonneg i (by lia)];exact q)
end
section
variable {X:Cx}{a b c:Expr}{ta tb tc:TE}{pos:Pos}
theorem NC:rG X (compareOp .Lt) (Gf fun i j=>.bl (decide (i < j))):=OU fun _ _ _ _ _ _ _ q=>lt_int q
theorem yd:rG X (compareOp .LtE) (Gf fun i j=>.bl (decide (i<=j))):=OU fun _ _ _ _ _ _ _ q=>le_int q
theorem GI:rG X (compareOp .Gt) (Gf fun i j=>.bl (decide (j < i))):=OU fun _ _ _ _ _ _ _ q=>gt_int q
theorem gm(b:Expr){op:CmpOp}(h:op≠ .In:=by decide)(h2:op≠ .NotIn:=by decide):behindInMarks op b=false:=by
 have e1:(op==CmpOp.In)=false:=by cases op <;> first | rfl | exact absurd rfl h
 have e2:(op==CmpOp.NotIn)=false:=by cases op <;> first | rfl | exact absurd rfl h2
 cases b <;> simp[behindInMarks,e1,e2]
theorem Ky{op:CmpOp}{r:R2}(ho:rG X (compareOp op) r)(ha:PE X a ta)(hb:PE X b tb)(hm:behindInMarks op b=false):PE X (.Compare a [op] [b] pos) (T5 r ta tb):=by
 walk_at"9"
 exact wpAny_Compare1 (OT ha hb I h fun v u s2 x y H2 I2 rx ry q=>ho pins s2 σ H2 x y v u Q I2 rx ry q) hm
def ND(t:TE):TT:=fun σ H Q=>t σ H fun x H'=>∃k,x = .bl k/\Q k H'
theorem Kz{op:CmpOp}{r:R2}(ho:rG X (compareOp op) r)(ha:PE X a ta)(hb:PE X b tb)(hm:behindInMarks op b=false):PT X (.Compare a [op] [b] pos) (ND (T5 r ta tb)):=by
 walk_at"9"
 refine wpAny_isTrue_Compare1 (fS (ha pins s σ H _ I h) fun v s1 ZX=>ZX.elim fun x ZY=>ZY.elim fun H1 ZZ=>ZZ.elim fun I1 aa0=>aa0.elim fun r1 q1=>fS (hb pins s1 σ H1 _ I1 q1) fun u s2 aa1=>aa1.elim fun y aa2=>aa2.elim fun H2 aa3=>aa3.elim fun I2 aa4=>aa4.elim fun r2 q2=>
  fS (ho pins s2 σ H2 x y v u _ I2 r1 r2 q2) fun c s3 aa5=>aa5.elim fun z aa6=>aa6.elim fun H3 aa7=>aa7.elim fun I3 aa8=>aa8.elim fun r3 aa9=>aa9.elim fun k ab0=>ab0.elim fun e q3=>?_) hm
 subst e
 cases r3
 exact wpAny_truthy_bool ⟨H3,I3,q3⟩
def C2(r r':R2)(ta tb tc:TE):TE:=fun σ H Q=>ta σ H fun x H1=>tb σ H1 fun y H2=>r x y H2 fun z H3=>∃k,z = .bl k/\
 (if k=true then tc σ H3 fun w' H4=>r' y w' H4 Q else Q (.bl false) H3)
theorem GJ{op C3:CmpOp}{r r':R2}(ho:rG X (compareOp op) r)(As:rG X (compareOp C3) r')(ha:PE X a ta)(hb:PE X b tb)(hc:PE X c tc)
  (hm:lastMarks [op,C3] [b,c]=false:=by with_unfolding_all rfl):PE X (.Compare a [op,C3] [b,c] pos) (C2 r r' ta tb tc):=by
 walk_at"9"
 refine Compare_chain (fS (ha pins s σ H _ I h) fun v s1 ab1=>ab1.elim fun x ab2=>ab2.elim fun H1 ab3=>ab3.elim fun I1 ab4=>ab4.elim fun r1 q1=>chain_link (fS (hb pins s1 σ H1 _ I1 q1) fun u s2 ab5=>ab5.elim fun y ab6=>ab6.elim fun H2 ab7=>ab7.elim fun I2 ab8=>ab8.elim fun r2 q2=>
  fS (ho pins s2 σ H2 x y v u _ I2 r1 r2 q2) fun d s3 ab9=>ab9.elim fun z ac0=>ac0.elim fun H3 ac1=>ac1.elim fun I3 ac2=>ac2.elim fun r3 ac3=>ac3.elim fun k ac4=>ac4.elim fun e q3=>?_)) hm
 subst e
 cases r3
 refine wpAny_truthy_bool ?_
 cases k with
 | false=>exact ite_ff ⟨.bl false,H3,I3,rfl,q3⟩
 | true=>exact ite_tt (chain_last (fS (hc pins s3 σ H3 _ I3 q3) fun w' s4 ac5=>ac5.elim fun z' ac6=>ac6.elim fun H4 ac7=>ac7.elim fun I4 ac8=>ac8.elim fun r4 q4=>As pins s4 σ H4 y z' u w' Q I4 r2 r4 q4))
theorem GK{op C3:CmpOp}{r r':R2}(ho:rG X (compareOp op) r)(As:rG X (compareOp C3) r')(ha:PE X a ta)(hb:PE X b tb)(hc:PE X c tc)
  (hm:lastMarks [op,C3] [b,c]=false:=by with_unfolding_all rfl):PT X (.Compare a [op,C3] [b,c] pos) (ND (C2 r r' ta tb tc)):=by
 walk_at"9"
 refine isTrue_chain (fS (ha pins s σ H _ I h) fun v s1 ac9=>ac9.elim fun x ad0=>ad0.elim fun H1 ad1=>ad1.elim fun I1 ad2=>ad2.elim fun r1 q1=>test_link (fS (hb pins s1 σ H1 _ I1 q1) fun u s2 ad3=>ad3.elim fun y ad4=>ad4.elim fun H2 ad5=>ad5.elim fun I2 Td=>Td.elim fun r2 q2=>
  fS (ho pins s2 σ H2 x y v u _ I2 r1 r2 q2) fun d s3 Te=>Te.elim fun z Tf=>Tf.elim fun H3 Tg=>Tg.elim fun I3 Th=>Th.elim fun r3 Ti=>Ti.elim fun k Tj=>Tj.elim fun e q3=>?_)) hm
 subst e
 cases r3
 refine wpAny_truthy_bool ?_
 cases k with
 | false=>
  refine aM q3 fun k' e' q'=>?_
  clear q3
  cases e'
  exact ite_ff ⟨H3,I3,q'⟩
 | true=>
  refine ite_tt (test_last (fS (hc pins s3 σ H3 _ I3 q3) fun w' s4 Tn=>Tn.elim fun z' To=>To.elim fun H4 Tp=>Tp.elim fun I4 Tq=>Tq.elim fun r4 q4=>fS (As pins s4 σ H4 y z' u w' _ I4 r2 r4 q4) fun d' s5 Tr=>?_))
  obtain ⟨z2,H5,I5,r5,k2,e2,q5⟩:=Tr
  subst e2
  cases r5
  exact wpAny_truthy_bool ⟨H5,I5,q5⟩
theorem C4:(sizeLine:Nat) < 2 ^ 63:=by rw[aG6];decide
theorem vals1{x:V}{us:List Value}(r:Vals [x] us):∃u,us=[u]/\RelV x u:=by
 cases r with
 | cons r1 r2=>cases r2;exact⟨_,rfl,r1⟩
theorem vals2{x y:V}{us:List Value}(r:Vals [x,y] us):∃u w',us=[u,w']/\RelV x u/\RelV y w':=by
 cases r with
 | cons r1 r2=>
  cases r2 with
  | cons r3 r4=>cases r4;exact⟨_,_,rfl,r1,r3⟩
theorem AA:lS X (.builtin "abs") (fun xs H Q=>∃i,xs=[.int i]/\Q (.int (if i < 0 then -i else i)) H):=by
 intro pins s σ H xs us Q I r h
 refine aM h fun i iG q=>?_
 clear h
 walk_at"7"
 obtain ⟨u,rfl,t,rfl⟩:=vals1 r
 exact call_abs_int fun u tk=>⟨.int (if i < 0 then -i else i),H,I.tok _,⟨_,rfl⟩,q⟩
end
end L2
namespace L2
open PySem PySem.Spec PyProof.Rows
structure EL(h:Heap)(x dx C:Addr)(mA:Str->Option Value):Prop where
 obj:h.get? x=some (PySem.W.instObj C dx)
 ns:h.Ns1 dx mA
 ne:dx≠x
theorem EM{h:Heap}{dx:Addr}{mA:Str->Option Value}(n:h.Ns1 dx mA):∃od,h.get? dx=some od/\∀name,PySem.W.lookIn name od=some (mA name):=by
 refine Ao n fun o es ep ho hd hk _ hm=>?_
 clear n
 refine⟨o,ho,fun name=>?_⟩
 have e:=hm name
 unfold nsFind findBy at e
 rw[<- Array.find?_toList] at e
 unfold PySem.W.lookIn
 rw[hd]
 dsimp only
 split
 ·rename_i y q
  rw[q] at e
  exact congrArg some e
 ·rename_i q
  rw[q] at e
  have a:es.toList.any (·.refKey)=false:=by
   rw[List.any_eq_false]
   intro y hy
   refine qS (hk y (Array.mem_toList_iff.mp hy)) fun z t EN=>?_
   simp[DictEntry.refKey,EN]
  have a':¬ es.toList.any (·.refKey)=true:=by rw[a];exact aF8
  rw[aC3 a']
  exact congrArg some e
theorem EL.look{h:Heap}{x dx C:Addr}{mA:Str->Option Value}(I:EL h x dx C mA):∃od,PySem.W.InstAt h x (PySem.W.instObj C dx) C (some od)/\∀name,PySem.W.lookIn name od=some (mA name):=
 let ⟨od,ho,hl⟩:=EM I.ns
 ⟨od,⟨I.obj,rfl,rfl,ho⟩,hl⟩
section
variable {prog:Program}{w:World}{A:Around}{E:Value->Shared->Prop}{s:Shared}{K:Frag}{x dx C f:Addr}{mA:Str->Option Value}{name:Str}{v:Value}
theorem get_map{expr:Bool}{Q:Value->Shared->Prop}(X:K.In s.heap)(I:EL s.heap x dx C mA)(hg:PySem.W.plainGet K C name=true)(hh:PySem.W.hasDictIn K C=true)
  (ha:PySem.W.findIn K (.ref C) name=some none) (hv:mA name=some v) (hv':PySem.W.handedIn v=true) (h:Q v { s with toks:=s.toks+1 }) :
  wpAny (model prog w) A (getAttr (.ref x) name expr) Q E s:=by
 refine aM I.look fun od J hl=>?_
 exact PySem.W.get_value X J (PySem.W.plainGet_of hg).1 (PySem.W.findObj_own hh ha rfl (by rw[hl,hv])) hv' h
theorem KA{ns:List Str}{Q:Unit->Shared->Prop}(X:K.In s.heap)(I:EL s.heap x dx C mA)
  (hs:PySem.W.findIn K (.ref C) "__setattr__" =some (some (.builtin "object.__setattr__"))) (hp:PySem.W.plainOver K C=true) (ht:PySem.W.takerIn K C name=some none) (hh:PySem.W.hasDictIn K C=true)
  (hw:PySem.Within mA ns) (hsz:ns.length<=sizeLine)
  (h:∀h',EL h' x dx C (fun y=>if y=name then some v else mA y)->Heap.SameBut dx s.heap h'->Q () { s with heap:=h',toks:=s.toks+2 }) :
  wpAny (model prog w) A (setAttr (.ref x) name v) Q E s:=by
 refine aM I.look fun od J hl=>?_
 refine PySem.W.set_plain X J hs (PySem.W.osa_open (s:={ s with toks:=s.toks+1 }) (r:=none) X J hp ht fun b=>?_)
 refine aM (PySem.W.any_some hh) fun cd hc Sf=>?_
 have hx:s.heap.get? x=some ⟨.ref C,some dx,.plain,#[]⟩:=I.obj
 refine aB8 (aB9 (aB8 (aB8 (wpAny_loadPart hx (aB8 (PySem.W.Looks.here (s:={ s with toks:=s.toks+1 }) (PySem.W.looks_clsIn X hc) ?_))))))
 rw[Sf]
 refine aB9 (a:=some dx) (aB8 (aB9 (aB8 ?_)))
 refine wpAny_nsSet1 (s:={ s with toks:=s.toks+1 }) I.ns fun h' Xz OV=>?_
 refine Oh (Xz.count (PySem.Within.cons name v hw)) fun oD esD epD hoD hdD hcD=>?_
 refine aB8 (wpAny_lookBehind hoD (by rw[hdD];exact pastItsLine_dict (aD5 hcD (by rw[aD1];lia))) ?_)
 exact aB9 (h _ ⟨(OV.2 _ (Ne.symm I.ne)).trans I.obj,Xz,I.ne⟩ OV)
theorem GL{R:Result->Shared->Prop}{vs:List Value}{kw:List (Str×Value)}(X:K.In s.heap)(hm:PySem.W.makesIn K C=true)
  (hi:PySem.W.findIn K (.ref C) "__init__" =some (some (.ref f))) (hf:PySem.W.typeIn K (.ref f)=some (.type "function"))
  (h:codeAny (model prog w) (A.under (.builtin "type.__call__" ⟨.ref C::vs,kw⟩)) (.call (.ref f) ⟨.ref (s.heap.objs.size+1)::vs,kw⟩) (PySem.W.InitBack (s.heap.objs.size+1) R)
   { s with heap:=(s.heap.push PySem.W.emptyDict).push (PySem.W.instObj C s.heap.objs.size) }) :
  codeAny (model prog w) A (.call (.ref C) ⟨vs,kw⟩) R s:=by
 obtain ⟨hh,g,d,t,os⟩:=s
 exact PySem.W.make_core (PySem.W.makes_of X hm) (PySem.W.looks_findIn X hi) (fun self=>PySem.W.bind_fn X self hf) (.inl rfl) h
end
def oB(f:Str)(v:V):List (Str×V)->List (Str×V)
 | []=>[(f,v)]
 | (g,x)::r=>if g=f then (g,v)::r else (g,x)::oB f v r
theorem uv(f g:Str)(v:V):∀fs:List (Str×V),(oB f v fs).lookup g=if g=f then some v else fs.lookup g
 | []=>by
  show List.lookup g [(f,v)]=_
  by_cases h:g=f
  ·have hb:(g==f)=true:=aF0.mpr h
   simp only[List.lookup,hb,aC2 h]
  ·have hb:(g==f)=false:=aI1.mpr h
   simp only[List.lookup,hb,aC3 h]
 | (k,x)::r=>by
  have ih:=uv f g v r
  walk_at"T"
  by_cases hk:k=f
  ·rw[aC2 hk]
   by_cases h:g=k
   ·have hb:(g==k)=true:=aF0.mpr h
    simp only[List.lookup,hb,aC2 (h.trans hk)]
   ·have hb:(g==k)=false:=aI1.mpr h
    simp only[List.lookup,hb,aC3 (fun e:g=f=>h (e.trans hk.symm))]
  ·rw[aC3 hk]
   by_cases h:g=k
   ·have hb:(g==k)=true:=aF0.mpr h
    simp only[List.lookup,hb,aC3 (fun e:g=f=>hk (h.symm.trans e))]
   ·have hb:(g==k)=false:=aI1.mpr h
    simp only[List.lookup,hb]
    exact ih
theorem tF(f:Str)(v:V):∀fs:List (Str×V),f∈(oB f v fs).map (·.1)/\∀g,g∈fs.map (·.1)->g∈(oB f v fs).map (·.1)
 | []=>⟨by simp[oB],fun g h=>by simp at h⟩
 | (k,x)::r=>by
  obtain ⟨i1,i2⟩:=tF f v r
  walk_at"T"
  by_cases hk:k=f
  ·rw[aC2 hk]
   subst hk
   exact⟨by simp,fun g h=>by simpa using h⟩
  ·rw[aC3 hk]
   refine⟨?_,fun g h=>?_⟩
   ·rw[aC1]
    exact aG5 _ i1
   ·rw[aC1] at h ⊢
    rcases aC6.mp h with e | e
    ·exact aC6.mpr (.inl e)
    ·exact aG5 _ (i2 g e)
theorem uw(f:Str)(v:V):∀fs:List (Str×V),(oB f v fs).length<=fs.length+1
 | []=>by simp[oB]
 | (k,x)::r=>by
  have ih:=uw f v r
  walk_at"T"
  by_cases hk:k=f
  ·rw[aC2 hk,aD1,aD1];lia
  ·rw[aC3 hk,aD1,aD1];lia
theorem BW.some_of{v:V}{o:Option Value}(r:BW (some v) o):∃u,o=some u/\RelV v u:=by
 cases o with
 | none=>exact(show False from r).elim
 | some u=>exact⟨u,rfl,r⟩
theorem EO{v:V}{u:Value}(r:RelV v u):PySem.W.handedIn u=true:=by
 cases v with
 | cF=>cases (show u=Value.none from r);rfl
 | bl b=>cases (show u=Value.bool b from r);rfl
 | int i=>obtain ⟨t,e⟩:=(show ∃t,u=Value.int i t from r);cases e;rfl
 | str x=>obtain ⟨t,e⟩:=(show ∃t,u=Value.str x t from r);cases e;rfl
 | Xq b=>obtain ⟨t,e⟩:=(show ∃t,u=Value.bytes b t from r);cases e;rfl
 | Xr b=>obtain ⟨t,e⟩:=(show ∃t,u=Value.float b t from r);cases e;rfl
 | ref a=>cases (show u=Value.ref a from r);rfl
 | ty n=>cases (show u=Value.type n from r);rfl
section
variable {P:Program}{w:World}{H:Hp}{h:Heap}{a C dx:Addr}{fs:List (Str×V)}
theorem rN(eE:t9 P w H h)(e:H a=some (.ins C dx fs)):∃mA,EL h a dx C mA/\(∀f,BW (fs.lookup f) (mA f))/\PySem.Within mA (fs.map (·.1))/\fs.length<=1000/\H dx=some (.own a):=by
 obtain ⟨d,z,ne,ob,mA,n,r,q⟩:=(show gr P w H h a (.ins C dx fs) from eE a _ e)
 exact⟨mA,⟨ob,n,ne⟩,r,q,z,d⟩
end
structure GN(K:Frag)(C:Addr):Prop where
 pg:PySem.W.plainGet K C Str.empty=true
 hd:PySem.W.hasDictIn K C=true
 po:PySem.W.plainOver K C=true
 sa:PySem.W.findIn K (.ref C) "__setattr__" =some (some (.builtin "object.__setattr__"))
theorem GN.get{K:Frag}{C:Addr}(c:GN K C)(f:Str):PySem.W.plainGet K C f=true:=c.pg
def jG(K:Frag)(C:Addr)(f:Str):Prop:=PySem.W.findIn K (.ref C) f=some none
theorem jG.Tt{K:Frag}{C:Addr}{f:Str}(n:jG K C f):PySem.W.takerIn K C f=some none:=by
 unfold PySem.W.takerIn
 rw[show PySem.W.findIn K (.ref C) f=some none from n]
 rfl
section
variable {X:Cx}{pins:List (Addr×Obj)}{σ:St}{H:Hp}{s:Shared}{a C dx:Addr}{fs:List (Str×V)}{f:Str}{v:V}{A:Around}{E:Value->Shared->Prop}
theorem C5{b:Bool}{Q:Value->Shared->Prop}(I:Inv X pins σ H s)(e:H a=some (.ins C dx fs))(c:GN X.K C)(n:jG X.K C f)(l:fs.lookup f=some v)
  (h:∀u s',Inv X pins σ H s'->RelV v u->Q u s'):wpAny (model X.prog X.w) A (getAttr (.ref a) f b) Q E s:=by
 refine Kp (rN I.eE e) fun mA O r _ _ _=>?_
 obtain ⟨u,hu,ru⟩:=BW.some_of (v:=v) (o:=mA f) (by rw[<- l];exact r f)
 exact get_map I.Ar O (c.get f) c.hd n hu (EO ru) (h u _ (I.tok _) ru)
theorem C6{y:V}{u:Value}{Q:Unit->Shared->Prop}(I:Inv X pins σ H s)(e:H a=some (.ins C dx fs))(c:GN X.K C)(n:jG X.K C f)(hl:fs.length < 1000)(ry:RelV y u)
  (h:∀s',Inv X pins σ (upd H a (.ins C dx (oB f y fs))) s'->Q () s'):wpAny (model X.prog X.w) A (setAttr (.ref a) f u) Q E s:=by
 refine Kp (rN I.eE e) fun mA O r wi _ ho=>?_
 have hz:(fs.map (·.1)).length<=sizeLine:=by rw[aC8,aG6];lia
 refine KA I.Ar O c.sa c.po n.Tt c.hd wi hz fun h' O' sb=>h _ ?_
 have hd:∃o,h'.get? dx=some o:=let ⟨o,_,_,e',_⟩:=O'.ns;⟨o,e'⟩
 refine I.write (x:=a) (e:=dx) (by rw[e];exact True.intro) (.inr ho) (fun b q hb z=>(sb.2 b hb).trans z) hd ?_
 refine⟨by rw[aX O.ne];exact ho,?_,O.ne,O'.obj,_,O'.ns,fun g=>?_,fun g hg=>?_⟩
 ·have:=uw f y fs;lia
 ·show BW ((oB f y fs).lookup g) (if g=f then some u else mA g)
  rw[uv]
  by_cases q:g=f
  ·rw[aC2 q,aC2 q];exact ry
  ·rw[aC3 q,aC3 q];exact r g
 ·by_cases q:g=f
  ·rw[q];exact(tF f y fs).1
  ·refine(tF f y fs).2 g (wi g fun z=>hg ?_)
   show (if g=f then some u else mA g)=none
   rw[aC3 q];exact z
theorem Inv.made(I:Inv X pins σ H s):Inv X pins σ (upd (upd H s.heap.objs.size (.own (s.heap.objs.size+1))) (s.heap.objs.size+1) (.ins C s.heap.objs.size []))
  { s with heap:=(s.heap.push PySem.W.emptyDict).push (PySem.W.instObj C s.heap.objs.size) }:=by
 have e1:(s.heap.push PySem.W.emptyDict).get? s.heap.objs.size=some PySem.W.emptyDict:=aE2 s.heap rfl
 have e2:((s.heap.push PySem.W.emptyDict).push (PySem.W.instObj C s.heap.objs.size)).get? (s.heap.objs.size+1)=some (PySem.W.instObj C s.heap.objs.size):=by
  have:=aE2 (s.heap.push PySem.W.emptyDict) (o:=PySem.W.instObj C s.heap.objs.size) rfl
  rwa [Heap.size_push] at this
 have e3:(s.heap.push PySem.W.emptyDict).Ns s.heap.objs.size (fun _=>none):=⟨PySem.W.emptyDict,#[],_,e1,rfl,(fun e he=>absurd he (by simp)),fun _=>rfl⟩
 have I1:=I.laid (a:=s.heap.objs.size) (o:=.own (s.heap.objs.size+1)) (h':=s.heap.push PySem.W.emptyDict) (t':=s.toks) (fun b u q=>aC0 _ q) (aC4 _) ⟨_,e1⟩
 refine I1.laid (a:=s.heap.objs.size+1) (o:=.ins C s.heap.objs.size []) (t':=s.toks) (fun b u q=>aC0 _ q) (Nat.le_of_eq (Heap.size_push _ _)) ?_
 have ne:s.heap.objs.size≠s.heap.objs.size+1:=aE5 (Nat.lt_succ_self _)
 refine⟨by rw[aX ne,bN],aI2 _,ne,e2,fun _=>none,(Heap.Ns1.of_empty e3).at fun o q=>aC0 _ q,fun _=>True.intro,fun y hy=>absurd rfl hy⟩
theorem KC{prog:Program}{w:World}{env:Env}{e:Expr}{f:Str}{pos:Pos}{s:Shared}{Q:Value->Shared->Prop}(hb:attributeBase e f env (eval e env)=eval e env)
  (h:wpAny (model prog w) A (eval e env) (fun o cV=>wpAny (model prog w) A (getAttr o f true) Q E cV) E s):wpAny (model prog w) A (eval (.Attribute e f pos) env) Q E s:=
 Attribute_any_ h (by rw[arm_eval_Attribute,hb])
end
def ad6(K:Frag)(ta:TE)(f:Str):TE:=fun σ H Q=>ta σ H fun x H1=>∃a C dx fs v,x = .ref a/\H1 a=some (.ins C dx fs)/\GN K C/\jG K C f/\fs.lookup f=some v/\Q v H1
def Tu(K:Frag)(ta tv:TE)(f:Str):TS:=fun D σ H=>tv σ H fun y H1=>ta σ H1 fun x H2=>∃a C dx fs,x = .ref a/\H2 a=some (.ins C dx fs)/\GN K C/\jG K C f/\fs.length < 1000/\
 D.nx σ (upd H2 a (.ins C dx (oB f y fs)))
section
variable {X:Cx}{o e value:Expr}{f:Str}{pos pos':Pos}{ta tv:TE}
theorem OW(he:PE X e ta)(hb:attributeBase e f X.env (eval e X.env)=eval e X.env):PE X (.Attribute e f pos) (ad6 X.K ta f):=by
 walk_at"9"
 refine KC hb (fS (he pins s σ H _ I h) fun u s1 Tv=>?_)
 obtain ⟨x,H1,I1,rx,a,C,dx,fs,v,ex,ea,c,n,l,q⟩:=Tv
 subst ex
 obtain rfl:u=Value.ref a:=rx
 exact C5 I1 ea c n l fun u' s2 I2 ru=>⟨v,H1,I2,ru,q⟩
theorem OX(ha:PE X o ta)(hv:PE X value tv)(hs:swapsWith value (some (.Attribute o f pos')) pos.line X.env=pure false):PS X (.Assign [.Attribute o f pos'] value pos) (Tu X.K ta tv f):=by
 walk_at">"
 refine plainObj_wpAny_Assign_Attribute (fS (hv pins s σ H _ I h) fun u s1 Tw=>Tw.elim fun y Tz=>Tz.elim fun H1 TF=>TF.elim fun I1 TH=>TH.elim fun ry q=>fS (ha pins s1 σ H1 _ I1 q) fun ov s2 TJ=>?_) hs
 obtain ⟨x,H2,I2,rx,a,C,dx,fs,ex,ea,c,n,l,q2⟩:=TJ
 subst ex
 obtain rfl:ov=Value.ref a:=rx
 exact C6 I2 ea c n l ry fun s3 I3=>⟨σ,_,I3,q2⟩
end
end L2
namespace L2
open PySem PySem.Spec PyProof.Rows
structure iH(k:Nat)(A:Around):Prop where
 hd:A.handled=none
 dp:A.depth+3 * k+5 < recursionLimit
 un:A.units+16 * k+200 < cLine
theorem iH.mono{j k:Nat}{A:Around}(r:iH k A)(h:j<=k):iH j A:=⟨r.hd,by have:=r.dp;lia,by have:=r.un;lia⟩
theorem iH.deeper{k:Nat}{A:Around}(r:iH (k+1) A)(env:Env):iH k (A.deeper env):=
 ⟨r.hd,by have:=r.dp;show A.depth+1+3 * k+5 < _;lia,by have:=r.un;show A.units+3+16 * k+200 < _;lia⟩
theorem C7{A:Around}{C:Addr}{us:List Value}{kw:List (Str×Value)}:(A.under (.builtin "type.__call__" ⟨.ref C::us,kw⟩)).depth=A.depth+1:=by
 first | rfl | simp[Around.under,Code.weight,Code.isCreation,Code.isGuard,Code.isCaller,Code.frames,Code.isFrame,guardIds]
theorem C8{A:Around}{C:Addr}{us:List Value}{kw:List (Str×Value)}:(A.under (.builtin "type.__call__" ⟨.ref C::us,kw⟩)).units=A.units+1:=by
 first | rfl | simp[Around.under,Code.cUnits,Code.frames,Code.isFrame]
theorem iH.make{k:Nat}{A:Around}(r:iH (k+1) A)(C:Addr)(us:List Value)(kw:List (Str×Value)):iH k (A.under (.builtin "type.__call__" ⟨.ref C::us,kw⟩)):=
 ⟨r.hd,by have:=r.dp;rw[C7];lia,by have:=r.un;rw[C8];lia⟩
theorem iH.depth{k:Nat}{A:Around}(r:iH k A):A.depth < recursionLimit:=by have:=r.dp;lia
theorem iH.units{k:Nat}{A:Around}(r:iH k A):A.units+64 < cLine:=by have:=r.un;lia
def GO:TA:=fun _ H Q=>Q [] H
def AB(ta:TE)(tr:TA):TA:=fun σ H Q=>ta σ H fun x H1=>tr σ H1 fun xs H2=>Q (x::xs) H2
section
variable {X:Cx}{e:Expr}{es:List Expr}{te:TE}{t:TA}{pos:Pos}
theorem iM:PA X [] GO:=fun _ _ _ _ H Q I h=>Calls.spliced_nil ⟨[],H,I,.nil,h⟩
theorem eN(ha:PE X e te)(hr:PA X es t)(hs:starEach (e::es) X.env=(false,eval e X.env)::starEach es X.env:=by rfl):PA X (e::es) (AB te t):=by
 intro pos pins s σ H Q I h
 rw[hs]
 show wpAny _ _ (spliced ((false,eval e X.env)::backTo pos (starEach es X.env))) _ _ s
 refine Calls.spliced_cons (fS (ha pins s σ H _ I h) fun u s1 NF=>?_)
 refine b6 NF fun x H1 I1 r1 q1=>?_
 clear NF
 exact fS (hr pos pins s1 σ H1 _ I1 q1) fun us s2 TL=>TL.elim fun xs TM=>TM.elim fun H2 TN=>TN.elim fun I2 TQ=>TQ.elim fun r2 q2=>⟨x::xs,H2,I2,.cons r1 r2,q2⟩
def ad7(t:TA):TE:=fun σ H Q=>t σ H fun xs H1=>xs.length<=sizeLine/\∀p,H1 p=none->Q (.ref p) (upd H1 p (.tup xs))
def ad8(t:TA):TE:=fun σ H Q=>t σ H fun xs H1=>xs.length<=sizeLine/\∀p,H1 p=none->Q (.ref p) (upd H1 p (.lst xs))
theorem OY{x1}(h:PA X es t):PE X (.Tuple es x1 pos) (ad7 t):=by
 intro pins s σ H Q I hq
 refine wpAny_Tuple_spliced (fS (h pos pins s σ H _ I hq) fun us s1 TR=>TR.elim fun xs TU=>TU.elim fun H1 TV=>TV.elim fun I1 TX=>TX.elim fun r TY=>TY.elim fun z q=>⟨by rw[<- r.length];exact z,?_⟩)
 have hf:H1 s1.heap.objs.size=none:=I1.eE.fresh (aC4 _)
 refine⟨.ref s1.heap.objs.size,upd H1 s1.heap.objs.size (.tup xs),I1.laid (t':=s1.toks) (fun b u e=>aC0 _ e) (aC4 _) ?_,rfl,q _ hf⟩
 exact⟨z,us,r,⟨_,aE2 _ rfl,rfl,_,rfl⟩⟩
theorem OZ(h:PA X es t):PE X (.List es pos) (ad8 t):=by
 intro pins s σ H Q I hq
 refine wpAny_List_spliced (fS (h pos pins s σ H _ I hq) fun us s1 TZ=>TZ.elim fun xs U0=>U0.elim fun H1 U1=>U1.elim fun I1 U3=>U3.elim fun r U4=>U4.elim fun z q=>⟨by rw[<- r.length];exact z,?_⟩)
 have hf:H1 s1.heap.objs.size=none:=I1.eE.fresh (aC4 _)
 refine⟨.ref s1.heap.objs.size,upd H1 s1.heap.objs.size (.lst xs),I1.laid (t':=s1.toks) (fun b u e=>aC0 _ e) (aC4 _) ?_,rfl,q _ hf⟩
 exact⟨z,us,0,r,aE2 _ rfl⟩
end
abbrev Sp:=List V->Hp->VK->XK->Prop
abbrev ER:=List Env->Hp->Shared->XK->Value->Shared->Prop
structure C9(P:Program)(w:World)(K:Frag)(mg:Str->Option Value)(base:Heap)(A:Around)(outer:List Env)(s:Shared)(H:Hp):Prop where
 frames:A.frames=some outer
 mod:Mod K mg base
 bs:∀b o,base.get? b=some o->s.heap.get? b=some o/\H b=none
 K6:base.objs.size<=s.heap.objs.size
 tu:s.heap.FunFrames base outer
 Ny:∀b∈vF outer,H b=none
 eE:t9 P w H s.heap
 bare:AllBare s.gens
def CE(outer:List Env)(P:Program)(w:World)(H:Hp)(s:Shared)(Q:VK)(u:Value)(s':Shared):Prop:=
 ∃v H',s'.os=s.os/\AllBare s'.gens/\Un (vF outer) [] H H' s.heap s'.heap/\t9 P w H' s'.heap/\RelV v u/\Q v H'
def CR(CX:ER)(outer:List Env)(P:Program)(w:World)(H:Hp)(s:Shared)(Q:VK)(E:XK)(r:Result)(s':Shared):Prop:=
 match r with
 | .ok (.ret u)=>CE outer P w H s Q u s'
 | .ok _=>False
 | .error e=>CX outer H s E e s'
structure j7(P:Program)(w:World)(K:Frag)(mg:Str->Option Value)(base:Heap)(CX:ER)(k:Nat)(f:Addr)(fd:FuncData)(ps:List Str)(sp:Sp):Prop where
 len:∀vs H Q E,sp vs H Q E->vs.length=ps.length
 run:∀(A:Around) (outer:List Env) (s:Shared) (H:Hp) (args:Args) (us:List Value) (vs:List V) (Q:VK) (E:XK),iH k A->C9 P w K mg base A outer s H->BindsTo s fd args (ps.zip us)->Vals vs us->sp vs H Q E->
  codeAny (model P w) A (.call (.ref f) args) (CR CX outer P w H s Q E) s
theorem j7.mono{P:Program}{w:World}{K:Frag}{mg:Str->Option Value}{base:Heap}{CX:ER}{j k:Nat}{f:Addr}{fd:FuncData}{ps:List Str}{sp:Sp}(F:j7 P w K mg base CX j f fd ps sp)(h:j<=k) :
  j7 P w K mg base CX k f fd ps sp:=⟨F.len,fun A outer s H args us vs Q E hr=>F.run A outer s H args us vs Q E (hr.mono h)⟩
theorem j7.imp{P:Program}{w:World}{K:Frag}{mg:Str->Option Value}{base:Heap}{CX:ER}{k:Nat}{f:Addr}{fd:FuncData}{ps:List Str}{sp sp':Sp}(F:j7 P w K mg base CX k f fd ps sp)
  (h:∀vs H Q E,sp' vs H Q E->sp vs H Q E):j7 P w K mg base CX k f fd ps sp':=
 ⟨fun vs H Q E q=>F.len vs H Q E (h _ _ _ _ q),fun A outer s H args us vs Q E hr he hb hv hs=>F.run A outer s H args us vs Q E hr he hb hv (h _ _ _ _ hs)⟩
theorem C9.make{P:Program}{w:World}{K:Frag}{mg:Str->Option Value}{base:Heap}{A:Around}{outer:List Env}{s:Shared}{H:Hp}(e:C9 P w K mg base A outer s H)(C:Addr)(us:List Value)(kw:List (Str×Value)) :
  C9 P w K mg base (A.under (.builtin "type.__call__" ⟨.ref C::us,kw⟩)) outer s H:=⟨by first | exact e.frames | (simpa[Around.under,Code.envs,Code.isFrame,pushEnvs] using e.frames),e.mod,e.bs,e.K6,e.tu,e.Ny,e.eE,e.bare⟩
section
variable {X:Cx}{pins:List (Addr×Obj)}{σ:St}{H:Hp}{s s':Shared}
theorem Inv.U5(I:Inv X pins σ H s):C9 X.prog X.w X.K X.mg X.base X.A X.stack s H:=
 ⟨I.ok.frames,I.ok.mod,I.bs,aD5 I.ok.K6 I.sz,I.stack,I.Dl,I.eE,I.bare⟩
theorem Inv.after{Q:VK}{u:Value}(I:Inv X pins σ H s)(h:CE X.stack X.prog X.w H s Q u s'):EP X pins σ Q u s':=by
 refine Oi h fun v H' os bare un eE r q=>?_
 clear h
 obtain ⟨hh,g,d,t,os'⟩:=s'
 obtain rfl:os'=s.os:=os
 exact⟨v,H',I.call (h':=hh) (g':=g) (d':=d) (t':=t) (ch:=[]) un eE bare (fun b z=>absurd z (by simp)),r,q⟩
end
def Binds(K:Frag)(fd:FuncData)(ps:List Str)(ds:List Value):Prop:=
 ∀(s:Shared) (us:List Value),K.In s.heap->(us++ds).length=ps.length->BindsTo s fd ⟨us,[]⟩ (ps.zip (us++ds))
theorem Binds.all{K:Frag}{fd:FuncData}{ps:List Str}(h:∀us:List Value,us.length=ps.length->bindArgs fd ⟨us,[]⟩=pure (ps.zip us)):Binds K fd ps []:=fun s us _ hl=>by
 rw[aJ0] at hl ⊢
 exact .of_eq (h us hl)
section
variable {f C:Addr}
structure Mk(K:Frag)(C f:Addr):Prop where
 makes:PySem.W.makesIn K C=true
 init:PySem.W.findIn K (.ref C) "__init__" =some (some (.ref f))
 fn:PySem.W.isFn K (.ref f)=true
 kp:PySem.W.keepIn K (.ref C)=true
end
structure bA(N P:List Str)(sc:Scope):Prop where
 kind:sc.kind = .function
 co:sc.isCoroutine=false
 gen:sc.isGenerator=false
 nd:N.Nodup
 pre:N.take P.length=P
 par:∀x∈P,sc.names.lookup x=some .local\/sc.names.lookup x=some .cell
 P0:∀y∈sc.names,y.2≠ .free
theorem ye{kindOf:Str->Option NameKind}{x:Str}:∀{binds:List (Str×Value)} {m:Str->Option Value},(∀v,(x,v)∉binds)->bindL kindOf binds m x=m x
 | [],_,_=>rfl
 | (n,v)::r,m,h=>by
  unfold bindL
  rw[ye fun w hw=>h w (aG5 _ hw)]
  split
  ·have:x≠n:=by rintro rfl;exact h v List.mem_cons_self
   simp[this]
  ·rfl
theorem yf{kindOf:Str->Option NameKind}{x:Str}:∀{binds:List (Str×Value)} {m:Str->Option Value},(∀v,(x,v)∉binds)->bindC kindOf binds m x=m x
 | [],_,_=>rfl
 | (n,v)::r,m,h=>by
  unfold bindC
  rw[yf fun w hw=>h w (aG5 _ hw)]
  split
  ·rfl
  ·have:x≠n:=by rintro rfl;exact h v List.mem_cons_self
   simp[this]
theorem yg{kindOf:Str->Option NameKind}{x:Str}{v:Value}:∀{P:List Str} {vs:List Value} {i:Nat} {m:Str->Option Value},P.Nodup->P[i]?=some x->vs[i]?=some v->kindOf x=some .local->
  bindL kindOf (P.zip vs) m x=some v
 | [],_,_,_,_,h,_,_=>by simp at h
 | _::_,[],_,_,_,_,h,_=>by simp at h
 | p::P,w::vs,0,m,nd,h1,h2,hk=>by
  simp at h1 h2;subst h1;subst h2
  show bindL kindOf ((p,w)::P.zip vs) m p=_
  unfold bindL
  rw[ye fun v hv=>(aH4.mp nd).1 (List.of_mem_zip hv).1,aC2 hk]
  simp
 | p::P,w::vs,i+1,m,nd,h1,h2,hk=>by
  show bindL kindOf ((p,w)::P.zip vs) m x=_
  unfold bindL
  exact yg (i:=i) (aH4.mp nd).2 (by simpa using h1) (by simpa using h2) hk
theorem yh{kindOf:Str->Option NameKind}{x:Str}{v:Value}:∀{P:List Str} {vs:List Value} {i:Nat} {m:Str->Option Value},P.Nodup->P[i]?=some x->vs[i]?=some v->kindOf x≠some .local->
  bindC kindOf (P.zip vs) m x=some v
 | [],_,_,_,_,h,_,_=>by simp at h
 | _::_,[],_,_,_,_,h,_=>by simp at h
 | p::P,w::vs,0,m,nd,h1,h2,hk=>by
  simp at h1 h2;subst h1;subst h2
  show bindC kindOf ((p,w)::P.zip vs) m p=_
  unfold bindC
  rw[yf fun v hv=>(aH4.mp nd).1 (List.of_mem_zip hv).1,aC3 hk]
  simp
 | p::P,w::vs,i+1,m,nd,h1,h2,hk=>by
  show bindC kindOf ((p,w)::P.zip vs) m x=_
  unfold bindC
  exact yh (i:=i) (aH4.mp nd).2 (by simpa using h1) (by simpa using h2) hk
def start(N:List Str)(vs:List V):St:=vs.map some++List.replicate (N.length - vs.length) none
def qy(CX:ER)(P:Program)(w:World)(K:Frag)(mg:Str->Option Value)(base:Heap)(N:List Str)(qual:Str)(scope:Scope)(f:Addr)(cd:Value)(A:Around)(outer:List Env)(s:Shared)(H:Hp)(E:XK):Cx where
 prog:=P
 w:=w
 K:=K
 mg:=mg
 base:=base
 A:=A.deeper (envOfC qual scope s.heap.objs.size f cd)
 N:=N
 gW:=s
 Gv:=H
 env:=envOfC qual scope s.heap.objs.size f cd
 outer:=outer
 stack:=envOfC qual scope s.heap.objs.size f cd::outer
 ex:=[]
 calm:=true
 fn:=fun _=>true
 pn:=[]
 xe:=fun e s'=>wpAny (model P w) (A.deeper (envOfC qual scope s.heap.objs.size f cd)) (leaving (envOfC qual scope s.heap.objs.size f cd) e) (fun _ KG=>CX outer H s E e KG) (fun e' KG=>CX outer H s E e' KG) s'
theorem AD{sc:Scope}{n:Nat}{x:Str}(h:sc.names.lookup x=some .cell):∃c,(cellsFrom n sc.names []).lookup x=some c:=by
 have q:=PySem.W.cellsFrom_some sc.names n [] (.inl h)
 exact Option.isSome_iff_exists.mp q
theorem ES{CX:ER}{P:Program}{w:World}{K:Frag}{mg:Str->Option Value}{base:Heap}{N ps:List Str}{qual:Str}{scope:Scope}{f:Addr}{cd:Value}{A:Around}{outer:List Env}{s s1:Shared}{H:Hp}{E:XK}{us:List Value}{vs:List V}
  (S:bA N ps scope) (hd:A.handled=none) (e0:C9 P w K mg base A outer s H) (hl:vs.length=ps.length) (r:Vals vs us)
  (x:InCallC s s.heap.objs.size (bindL (envOfC qual scope s.heap.objs.size f cd).kindOf (ps.zip us) fun _=>none) (cellsFrom (s.heap.objs.size+1) scope.names []) (bindC (envOfC qual scope s.heap.objs.size f cd).kindOf (ps.zip us) fun _=>none) s1) :
  Inv (qy CX P w K mg base N qual scope f cd A outer s H E) [] (start N vs) H s1:=by
 have vM:ps.length<=N.length:=by have:=congrArg List.length S.pre;rw[aJ1] at this;lia
 refine cP x.done fun h1 tk aR hk=>?_
 walk_at"#"
 have U6:∀b:Addr,b∉(qy CX P w K mg base N qual scope f cd A outer s H E).ex:=fun b z=>absurd (show b∈([]:List Addr) from z) (by simp)
 refine⟨⟨e0.mod,S.kind,rfl,rfl,aC4 _,fun y z c h1 h2=>?_,fun y hy=>?_,fun y c _ h=>?_,fun _=>hd,Around.frames_deeper e0.frames,.inr ⟨rfl,rfl⟩,fun b z=>absurd z (U6 b),e0.bs,e0.K6,fun b _ _=>U6 b,fun b z=>absurd z (U6 b),e0.tu,e0.Ny⟩,
  rfl,e0.bare,Un.kept hk,⟨_,x.toInCall.ns,fun i y v h1 h2 h3=>?_⟩,fun y c h=>⟨_,x.cell y c h⟩,e0.eE.fresh (aC4 _),fun y c h=>?_,fun p hp=>absurd (show p∈([]:List (Addr×Obj)) from hp) (by simp),e0.eE.kept hk,?_⟩
 ·exact name_of_addr x.apart (PySem.mem_of_lookup h1) (PySem.mem_of_lookup h2)
 ·have hy:scope.names.lookup y=some .cell\/scope.names.lookup y=some .free:=hy
  rcases hy with hy | hy
  ·exact AD hy
  ·exact absurd rfl (S.P0 _ (PySem.mem_of_lookup hy))
 ·exact aH2 (x.above y c (PySem.mem_of_lookup h))
 ·have hi:i < vs.length:=by
   unfold start at h2
   by_cases hi:i < vs.length
   ·exact hi
   ·rw[aG2 (by simpa using hi)] at h2
    rw[List.getElem?_replicate] at h2
    split at h2 <;> cases h2
  have ha:vs[i]?=some v:=by
   unfold start at h2
   rw[aG3 (by simpa using hi),aE3] at h2
   cases e:vs[i]? with
   | none=>rw[e] at h2;cases h2
   | some a=>rw[e] at h2;cases h2;rfl
  refine aM (r.get ha) fun u hu rv=>?_
  have hp:ps[i]?=some y:=by
   rw[<- S.pre,List.getElem?_take_of_lt (by lia)];exact h1
  have ndP:ps.Nodup:=by rw[<- S.pre];exact S.nd.sublist (List.take_sublist _ _)
  refine⟨u,rv,?_⟩
  rcases S.par y (aG7 hp) with k | k
  ·exact .inl ⟨k,yg ndP hp hu k⟩
  ·obtain ⟨c,e⟩:=AD (n:=s.heap.objs.size+1) k
   refine .inr ⟨.inl k,c,e,?_⟩
   have q:=x.cell y c e
   rw[yh ndP hp hu (by show scope.names.lookup y≠_;rw[k];decide)] at q
   exact q
 ·exact e0.eE.fresh (aH2 (x.above y c (PySem.mem_of_lookup h)))
 ·unfold start
  show _=N.length
  rw[aD0,aC8,List.length_replicate]
  lia
theorem U7{CX:ER}{P:Program}{w:World}{K:Frag}{mg:Str->Option Value}{base:Heap}{k:Nat}{f:Addr}{name qual:Str}{params:Arguments}{body:List Stmt}{scope:Scope}{dV kV doc pm f9 ct oc:Value}{an od:Option Addr}
  {Gg:Array (Option Value)} {N ps:List Str} {sp:Sp} (lk:K.lookup f=some ⟨oc,od,.func (PySem.W.fnOf name qual params body scope dV kV doc pm an f9 ct),Gg⟩) (EF:PySem.W.codeIn K f9 qual=true) (S:bA N ps scope)
  (len:∀vs H Q E,sp vs H Q E->vs.length=ps.length)
  (AE:∀(A:Around) (outer:List Env) (s:Shared) (H:Hp) (vs:List V) (Q:VK) (E:XK),iH k (A.deeper (envOfC qual scope s.heap.objs.size f f9))->sp vs H Q E->
   ∃t,uu (qy CX P w K mg base N qual scope f f9 A outer s H E) body t/\t { nx:=fun _ H'=>Q .cF H',rt:=Q } (start N vs) H) :
  j7 P w K mg base CX (k+1) f (PySem.W.fnOf name qual params body scope dV kV doc pm an f9 ct) ps sp:=by
 refine⟨len,fun A outer s H args us vs Q E hr e0 hb r RB=>?_⟩
 have hl:=len _ _ _ _ RB
 have KX:K.In s.heap:=e0.mod.Sd.keeps fun b o e=>(e0.bs b o e).1
 have lim:s.heap.NoLimit:=e0.mod.nolimit.keeps fun b o e=>(e0.bs b o e).1
 have GP:∀y∈ps.zip us,scope.names.lookup y.1=some .local\/(scope.names.lookup y.1=some .cell/\((cellsFrom (s.heap.objs.size+1) scope.names []).lookup y.1).isSome=true):=fun U8 hy=>by
  obtain ⟨n,v⟩:=U8
  rcases S.par n (List.of_mem_zip hy).1 with q | q
  ·exact .inl q
  ·exact .inr ⟨q,PySem.W.cellsFrom_some _ _ _ (.inl q)⟩
 refine codeAny_call_function hr.depth (KX _ _ lk) rfl S.co S.gen rfl (PySem.W.codeRec_of KX EF) (hb _ _ _ _ ?_)
 refine wpAny_newFunctionEnv_cells S.kind GP fun env he s1 x=>?_
 subst he
 refine⟨lim.keeps x.toInCall.keep,codeAny_func ?_⟩
 refine aM (AE A outer s H vs Q E (hr.deeper _) RB) fun t ht hq=>?_
 have I:Inv (qy CX P w K mg base N qual scope f f9 A outer s H E) [] (start N vs) H s1:=ES S hr.hd e0 hl r x
 refine aI3 (ht [] s1 (start N vs) H _ I hq) (fun fl s' hs=>?_) fun e s' hs=>hs
 have fin:∀{cN:St} {H':Hp} {v:V} {u:Value},Inv (qy CX P w K mg base N qual scope f f9 A outer s H E) [] cN H' s'->RelV v u->Q v H'->CE outer P w H s Q u s':=
  fun {cN H' v u} J rv q=>⟨v,H',J.os,J.bare,J.base,J.eE,rv,q⟩
 cases fl with
 | ret u=>
  refine Oh hs fun v cN H' J rv q=>?_
  clear hs
  exact fin J rv q
 | next=>
  refine cP hs fun cN H' J q=>?_
  clear hs
  exact fin (v:=V.cF) (u:=Value.none) J rfl q
 | brk=>
  refine cP hs fun _ _ _ q=>?_
  clear hs
  exact False.elim q
 | cont=>
  refine cP hs fun _ _ _ q=>?_
  clear hs
  exact False.elim q
end L2
namespace L2
open PySem PySem.Spec PyProof.Rows
section
variable {X:Cx}{x:Str}{p pos:Pos}{e:Expr}{es:List Expr}{t:TA}{id T:String}{r:List V->Hp->VK->Prop}
def P6(r:List V->Hp->VK->Prop)(t:TA):TE:=fun σ H Q=>t σ H fun vs H1=>r vs H1 Q
theorem bZ(hc:lS X (.builtin id) r)(hg:Gl X x)(hm:X.mg x=none)(hv:bootBuiltins x=some (.builtin id))(ha:PA X (e::es) t)(hn:x≠ "__name__":=by decide)(ET:(x==("__debug__" : Str))=false:=by decide)
  (he:starEach (e::es) X.env=(false,eval e X.env)::starEach es X.env:=by rfl) (vM:(backTo pos (starEach es X.env)).any (·.1)=false:=by rfl):PE X (.Call (.Name x p) (e::es) [] pos) (P6 r t):=by
 walk_at"9"
 refine wpAny_Call_Name_kw (vH I hg hm hv ?_ hn ET)
 exact PyProof.Rows.callWith_builtin1 (fS (ha pos pins s σ H _ I h) fun us s1 U9=>U9.elim fun vs Ua=>Ua.elim fun H1 Ub=>Ub.elim fun I1 Uc=>Uc.elim fun r1 q1=>hc pins s1 σ H1 vs us Q I1 r1 q1) he vM
theorem cQ(hc:lS X (.type T) r)(hg:Gl X x)(hm:X.mg x=none)(hv:bootBuiltins x=some (.type T))(ha:PA X (e::es) t)(hn:x≠ "__name__":=by decide)(ET:(x==("__debug__" : Str))=false:=by decide)
  (he:starEach (e::es) X.env=(false,eval e X.env)::starEach es X.env:=by rfl) (vM:(backTo pos (starEach es X.env)).any (·.1)=false:=by rfl):PE X (.Call (.Name x p) (e::es) [] pos) (P6 r t):=by
 walk_at"9"
 refine wpAny_Call_Name_kw (vH I hg hm hv ?_ hn ET)
 exact PyProof.Rows.callWith_type1 (fS (ha pos pins s σ H _ I h) fun us s1 Ud=>Ud.elim fun vs Ue=>Ue.elim fun H1 Ug=>Ug.elim fun I1 Uh=>Uh.elim fun r1 q1=>hc pins s1 σ H1 vs us Q I1 r1 q1) he vM
end
end L2
namespace HT
open PySem PyProof.Rows
def lexLt:List Int->List Int->Bool
 | [],[]=>false
 | [],_::_=>true
 | _::_,[]=>false
 | x::xs,y::ys=>if x=y then lexLt xs ys else decide (x < y)
theorem cj(x y:Int)(xs ys:List Int):lexLt (x::xs) (y::ys)=if x=y then lexLt xs ys else decide (x < y):=rfl
theorem gu:lexLt [] []=false:=rfl
theorem oE(y:Int)(ys:List Int):lexLt [] (y::ys)=true:=rfl
theorem jH(x:Int)(xs:List Int):lexLt (x::xs) []=false:=rfl
theorem GQ(A:Around)(s:Shared)(a:Int)(t:Tok)(c:Int)(u:Tok)(prog:Program)(w:World)(E:Value->Shared->Prop)(Q:Value->Shared->Prop)(h:Q (.bool (decide (a < c))) s) :
  wpAny (model prog w) A (richCompare .Lt (.int a t) (.int c u)) Q E s:=
 (PyProof.Rows.lt_int h:wpAny (model prog w) A (compareOp .Lt (.int a t) (.int c u)) Q E s)
section
open PySem.SeqAt
open PySem.AutoSeq1 (wpAny_loadPart')
open PySem.MeetsSeq PySem.MeetsSeq2 PySem.MeetsSeq3
end
section
def yi(n d:Nat):Option Int->Nat
 | none=>d
 | some v=>if v < 0 then (v+(n:Int)).toNat else min v.toNat n
end
end HT
namespace L2
open PySem PySem.Spec PyProof.Rows
abbrev TO:=St->Hp->(Option Int->Hp->Prop)->Prop
def PO(X:Cx)(e:Option Expr)(t:TO):Prop:=
 ∀(pins:List (Addr×Obj)) (s:Shared) (σ:St) (H:Hp) (Q:Option Int->Hp->Prop),Inv X pins σ H s->t σ H Q->
  wpAny (model X.prog X.w) X.A (evalPart e X.env) (fun u s'=>∃o H',Inv X pins σ H' s'/\IsPart u o/\Q o H') X.xe s
def KH:TO:=fun _ H Q=>Q none H
def Ui(t:TE):TO:=fun σ H Q=>t σ H fun x H1=>∃i,x = .int i/\Q (some i) H1
section
variable {X:Cx}{e:Expr}{te:TE}{lo hi:Option Expr}{tl th:TO}{pos p2:Pos}
theorem KI:PO X none KH:=by
 walk_at"9"
 rw[evalPart_none]
 exact aB9 ⟨none,H,I,.none,h⟩
theorem KJ(h:PE X e te):PO X (some e) (Ui te):=by
 intro pins s σ H Q I hw
 rw[evalPart_some]
 refine fS (h pins s σ H _ I hw) fun u s1 NG=>?_
 refine b6 NG fun x H1 I1 r1 q1=>?_
 clear NG
 refine aM q1 fun i iG q=>?_
 clear q1
 walk_at"7"
 obtain ⟨t,rfl⟩:=r1
 exact⟨some i,H1,I1,.int i t,q⟩
def SlR(X:Cx)(r:V->Option Int->Option Int->Hp->VK->Prop):Prop:=
 ∀(pins:List (Addr×Obj)) (s:Shared) (σ:St) (H:Hp) (x:V) (v vl vu:Value) (lo hi:Option Int) (sl:Addr) (Q:VK),Inv X pins σ H s->RelV x v->s.heap.IsSliceOf sl vl vu .none->IsPart vl lo->IsPart vu hi->r x lo hi H Q->
  ∃T id,typeLookup (.type T) "__getitem__" =pure (some (.builtin id))/\s.TypeIs v T/\wpAny (model X.prog X.w) X.A (getItem v (.ref sl)) (EP X pins σ Q) X.xe s
def tSl(r:V->Option Int->Option Int->Hp->VK->Prop)(te:TE)(tl th:TO):TE:=fun σ H Q=>te σ H fun x H1=>tl σ H1 fun l H2=>th σ H2 fun u H3=>r x l u H3 Q
theorem GR{r:V->Option Int->Option Int->Hp->VK->Prop}(hr:SlR X r)(he:PE X e te)(hl:PO X lo tl)(hu:PO X hi th):PE X (.Subscript e (.Slice lo hi none p2) pos) (tSl r te tl th):=by
 walk_at"9"
 refine Subscript_ (fS (he pins s σ H _ I h) fun v s1 NH=>?_)
 refine b6 NH fun x H1 I1 r1 q1=>?_
 clear NH
 refine wpAny_Slice (fS (hl pins s1 σ H1 _ I1 q1) fun vl s2 Uj=>Uj.elim fun l Uk=>Uk.elim fun H2 Ul=>Ul.elim fun I2 Um=>Um.elim fun pl q2=>fS (hu pins s2 σ H2 _ I2 q2) fun vu s3 NI=>?_)
 refine b6 NI fun u H3 I3 pu q3=>?_
 clear NI
 rw[evalPart_none]
 refine aB9 ?_
 have I4:Inv X pins σ H3 { s3 with heap:=s3.heap.push { cls:=.type "slice",data:=.fields #[vl,vu,.none] } }:=I3.kept (t':=s3.toks) fun b ob q=>aC0 _ q
 refine b6 (hr pins { s3 with heap:=s3.heap.push { cls:=.type "slice",data:=.fields #[vl,vu,.none] } } σ H3 x v vl vu l u s3.heap.objs.size Q I4 r1 (Heap.IsSliceOf.new ..) pl pu q3) fun T id hT ht hg=>?_
 show wpAny (model X.prog X.w) X.A (subscriptTail e (.Slice lo hi none p2) v (.ref s3.heap.objs.size)) (EP X pins σ Q) X.xe { s3 with heap:=s3.heap.push { cls:=.type "slice",data:=.fields #[vl,vu,.none] } }
 exact tail_any (ops:=[.ref s3.heap.objs.size,v]) ht hT hg (by with_unfolding_all rfl)
def EU(xs:List V)(lo hi:Option Int):List V:=(xs.drop (HT.yi xs.length 0 lo)).take (HT.yi xs.length xs.length hi - HT.yi xs.length 0 lo)
theorem AF(xs:List V)(lo hi:Option Int):(EU xs lo hi).length<=xs.length:=by
 unfold EU
 rw[aJ1,List.length_drop]
 lia
end
end L2
namespace L2
open PySem PySem.Spec PyProof.Rows
def K8(n:Nat)(i:Int):Option Nat:=if 0<=i then (if i < n then some i.toNat else none) else if -(n:Int)<=i then some (i+n).toNat else none
def AG{α:Type}(xs:List α)(i:Int):Option α:=(K8 xs.length i).bind fun j=>xs[j]?
theorem KO{n:Nat}{i:Int}{j:Nat}(h:K8 n i=some j):seqIndex? i n=some j/\j < n/\ -(n:Int)<=i/\i < n:=by
 unfold K8 at h
 by_cases h0:0<=i
 ·rw[aC2 h0] at h
  by_cases h1:i < n
  ·rw[aC2 h1] at h
   have e:i.toNat=j:=aE1 h
   exact⟨by rw[seqIndex_of h0 h1,e],by lia,by lia,h1⟩
  ·rw[aC3 h1] at h;cases h
 ·rw[aC3 h0] at h
  by_cases h1 : -(n:Int)<=i
  ·rw[aC2 h1] at h
   have e:(i+n).toNat=j:=aE1 h
   exact⟨by rw[seqIndex_neg (by lia) h1,e],by lia,h1,by lia⟩
  ·rw[aC3 h1] at h;cases h
theorem Dt{α:Type}{xs:List α}{i:Int}{v:α}(h:AG xs i=some v):∃j,seqIndex? i xs.length=some j/\xs[j]?=some v/\j < xs.length/\ -(xs.length:Int)<=i/\i < xs.length:=by
 unfold AG at h
 cases e:K8 xs.length i with
 | none=>rw[e] at h;cases h
 | some j=>
  rw[e] at h
  refine BV (KO e) fun h1 h2 h3 h4=>?_
  exact⟨j,h1,h,h2,h3,h4⟩
def rO(b:Expr):Prop:=∀o i,subscripted b false o i=operate [o,i] (getItem o i)
def KP(X:Cx)(r:R2):Prop:=
 ∀(value slice:Expr) (pins:List (Addr×Obj)) (s:Shared) (σ:St) (H:Hp) (x y:V) (v u:Value) (Q:VK),Inv X pins σ H s->RelV x v->RelV y u->r x y H Q->
  subscripted slice false v u=operate [v,u] (getItem v u)->wpAny (model X.prog X.w) X.A (subscriptTail value slice v u) (EP X pins σ Q) X.xe s
def MtR(X:Cx)(id:String)(r:V->List V->Hp->VK->Prop):Prop:=
 ∀(pins:List (Addr×Obj)) (s:Shared) (σ:St) (H:Hp) (x:V) (xs:List V) (v:Value) (us:List Value) (Q:VK),Inv X pins σ H s->RelV x v->Vals xs us->r x xs H Q->
  wpAny (model X.prog X.w) X.A (call (.builtin id) (v::us)) (EP X pins σ Q) X.xe s
section
variable {X:Cx}{a b:Expr}{ta tb:TE}{pos:Pos}
theorem KP.or{r r':R2}(h:KP X r)(h':KP X r'):KP X (fun x y H Q=>r x y H Q\/r' x y H Q):=by
 intro value slice pins s σ H x y v u Q I rx ry q hs
 rcases q with q | q
 ·exact h value slice pins s σ H x y v u Q I rx ry q hs
 ·exact h' value slice pins s σ H x y v u Q I rx ry q hs
theorem NJ{r:R2}(hr:KP X r)(ha:PE X a ta)(hb:PE X b tb)(hs:rO b):PE X (.Subscript a b pos) (T5 r ta tb):=by
 walk_at"9"
 exact Subscript_ (OT ha hb I h fun v u s2 x y H2 I2 rx ry q=>hr a b pins s2 σ H2 x y v u Q I2 rx ry q (hs _ _))
def Uo(K:Frag):R2:=fun x y H Q=>∃p xs i v,x = .ref p/\y = .int i/\ko K H p xs/\AG xs i=some v/\Q v H
def Up(K:Frag):R2:=fun x y H Q=>∃p xs i v,x = .ref p/\y = .int i/\lQ K H p xs/\AG xs i=some v/\Q v H
theorem KQ:KP X (Uo X.K):=by
 intro value slice pins s σ H x y v u Q I rx ry h hs
 refine Oj h fun p xs i z GS KR hq he q=>?_
 clear h
 obtain rfl:=GS
 obtain rfl:=KR
 cases rx
 obtain ⟨t,rfl⟩:=ry
 refine bM (I.list hq) fun bf r pl hz=>?_
 refine Kp (Dt he) fun j h1 h2 h3 h4 h5=>?_
 refine aM (r.get h2) fun w ew GB=>?_
 have hl:=r.length
 have hn:=C4
 have fin:EP X pins σ Q w s:=⟨z,H,I,GB,q⟩
 by_cases h0:0<=i
 ·have hj:i.toNat=j:=by
   rw[seqIndex_of h0 h5] at h1
   exact aE1 h1
  exact item_listR pl.isList h0 (by lia) (by rw[hj];simpa using ew) fin hs
 ·have hj:(i+(bf.toArray.size:Int)).toNat=j:=by
   rw[seqIndex_neg (by lia) h4] at h1
   rw[aE6,<- hl]
   exact aE1 h1
  exact subscriptTail_builtinR (x:=w) pl.isList.typeIs slot_list_getitem.lookup
   (wpAny_getItem_list_neg (Q:=fun r s'=>r=w/\EP X pins σ Q r s') pl.isList (by lia) (by rw[aE6] <;> lia) (by lia) (by rw[hj];simpa using ew) ⟨rfl,fin⟩) hs
theorem P7:KP X (Up X.K):=by
 intro value slice pins s σ H x y v u Q I rx ry h hs
 refine Oj h fun p xs i z GS KR hq he q=>?_
 clear h
 obtain rfl:=GS
 obtain rfl:=KR
 cases rx
 obtain ⟨t,rfl⟩:=ry
 refine bM (I.tuple hq) fun bf r pl hz=>?_
 refine Kp (Dt he) fun j h1 h2 h3 h4 h5=>?_
 refine aM (r.get h2) fun w ew GB=>?_
 have hl:=r.length
 have hn:=C4
 have fin:EP X pins σ Q w s:=⟨z,H,I,GB,q⟩
 exact subscriptTail_builtinR (x:=w) pl.typeIs slot_tuple_getitem.lookup
  (getItem_tuple (j:=j) (Q:=fun r s'=>r=w/\EP X pins σ Q r s') pl (by lia) (by lia) (by rw[aE6,<- hl];exact h1) (by simpa using ew) ⟨rfl,fin⟩) hs
theorem z6(lo hi:Option Int)(n:Nat):(sliceBounds lo hi none n).1=((HT.yi n 0 lo:Nat):Int)/\(sliceBounds lo hi none n).2.1=((HT.yi n n hi:Nat):Int)/\(sliceBounds lo hi none n).2.2=1:=by
 refine⟨?_,?_,rfl⟩
 ·cases lo with
  | none=>simp[sliceBounds,HT.yi]
  | some i=>
   simp only[sliceBounds,HT.yi,Option.getD_none,show (1:Int) > 0 by decide,if_true]
   by_cases h:i < 0
   ·simp only[h,if_true] <;> lia
   ·simp only[h,if_false] <;> lia
 ·cases hi with
  | none=>simp[sliceBounds,HT.yi]
  | some i=>
   simp only[sliceBounds,HT.yi,Option.getD_none,show (1:Int) > 0 by decide,if_true]
   by_cases h:i < 0
   ·simp only[h,if_true] <;> lia
   ·simp only[h,if_false] <;> lia
theorem xG(bf:List Value)(lo hi:Option Int):slicePick bf.toArray lo hi none=((bf.drop (HT.yi bf.length 0 lo)).take (HT.yi bf.length bf.length hi - HT.yi bf.length 0 lo)).toArray:=by
 refine vD (z6 lo hi bf.toArray.size) fun h1 h2 h3=>?_
 unfold slicePick
 rw[h1,h2,h3]
 simp only[sliceRange_one,pick_run,aE6] <;> rfl
def ad9(K:Frag):V->Option Int->Option Int->Hp->VK->Prop:=fun x lo hi H Q=>∃a xs,x = .ref a/\ko K H a xs/\∀p,H p=none->Q (.ref p) (upd H p (.lst (EU xs lo hi)))
theorem KS:SlR X (ad9 X.K):=by
 intro pins s σ H x v vl vu lo hi sl Q I rx hs pl pu h
 refine b6 h fun a xs aR hx q=>?_
 clear h
 walk_at"#"
 cases rx
 refine bM (I.list hx) fun bf r ht hz=>?_
 have hlen:=r.length
 refine⟨"list",_,slot_list_getitem.lookup,ht.isList.typeIs,?_⟩
 refine wpAny_getItem_list_slice ht.isList hs pl pu .none (by simp) ?_ (by rw[aE6] <;> lia)
 rw[xG,<- hlen]
 refine⟨.ref s.heap.objs.size,_,I.laid (t':=s.toks) (o:=.lst (EU xs lo hi)) (fun b ob q=>aC0 _ q) (aC4 _) ?_,rfl,q _ (I.eE.fresh (aC4 _))⟩
 exact⟨aD5 (AF xs lo hi) hz,_,0,(r.drop (HT.yi xs.length 0 lo)).take (HT.yi xs.length xs.length hi - HT.yi xs.length 0 lo),aE2 _ rfl⟩
theorem cH:lS X (.builtin "len") (fun xs H Q=>∃p ys,xs=[.ref p]/\(ko X.K H p ys\/lQ X.K H p ys)/\Q (.int ys.length) H):=by
 intro pins s σ H xs us Q I r h
 refine b6 h fun p ys aR hq q=>?_
 clear h
 walk_at"#"
 refine aM (vals1 r) fun u iG rx=>?_
 walk_at"7"
 cases rx
 have hn:=C4
 rcases hq with hq | hq
 ·refine bM (I.list hq) fun bf r' pl hz=>?_
  have hlen:=r'.length
  exact Calls.call_len_list pl.isList (by simp only[aE6] <;> lia) ⟨.int ys.length,H,I.tok _,⟨s.toks+1,by rw[aE6,hlen]⟩,q⟩
 ·refine bM (I.tuple hq) fun bf r' pl hz=>?_
  have hlen:=r'.length
  exact len_tuple pl (by simp only[aE6] <;> lia) ⟨.int ys.length,H,I.tok _,⟨s.toks+1,by rw[aE6,hlen]⟩,q⟩
theorem fT:lS X (.type "list") (fun xs H Q=>∃p ys,xs=[.ref p]/\(ko X.K H p ys\/lQ X.K H p ys)/\∀l,H l=none->Q (.ref l) (upd H l (.lst ys))):=by
 intro pins s σ H xs us Q I r h
 refine b6 h fun p ys aR hq q=>?_
 clear h
 walk_at"#"
 refine aM (vals1 r) fun u iG rx=>?_
 walk_at"7"
 cases rx
 have fin:∀(bf:List Value),Vals ys bf->ys.length<=sizeLine->∀(h':Heap) (c':Nat),(∀b o',s.heap.get? b=some o'->h'.get? b=some o')->
   h'.get? s.heap.objs.size=some { cls:=.type "list",dict:=none,data:=.seq bf.toArray c',slots:=#[] }->EP X pins σ Q (.ref s.heap.objs.size) { s with heap:=h' }:=fun bf r' hz h' c' kp e=>
  ⟨.ref s.heap.objs.size,_,I.laid (t':=s.toks) kp (aC4 _) (show gr X.prog X.w _ h' _ (.lst ys) from ⟨hz,bf,c',r',e⟩),rfl,q _ (I.eE.fresh (aC4 _))⟩
 rcases hq with hq | hq
 ·refine bM (I.list hq) fun bf r' pl hz=>?_
  have hlen:=r'.length
  obtain ⟨o,ho,hc,n,hd⟩:=pl.isList
  exact call_list_seq p (.inl rfl) ho hc hd (fun h' c' kp e=>fin bf r' hz h' c' kp e) (by simp only[aE6] <;> lia)
 ·refine bM (I.tuple hq) fun bf r' pl hz=>?_
  have hlen:=r'.length
  obtain ⟨o,ho,hc,n,hd⟩:=pl
  exact call_list_seq p (.inr rfl) ho hc hd (fun h' c' kp e=>fin bf r' hz h' c' kp e) (by simp only[aE6] <;> lia)
theorem fu:lS X (.type "tuple") (fun xs H Q=>∃p ys,xs=[.ref p]/\((ko X.K H p ys/\∀l,H l=none->Q (.ref l) (upd H l (.tup ys)))\/(lQ X.K H p ys/\Q (.ref p) H))):=by
 intro pins s σ H xs us Q I r h
 obtain ⟨p,ys,rfl,h⟩:=h
 obtain ⟨u,rfl,rx⟩:=vals1 r
 cases rx
 rcases h with ⟨hq,q⟩ | ⟨hq,q⟩
 ·obtain ⟨bf,r',pl,hz⟩:=I.list hq
  have hlen:=r'.length
  refine call_tuple_list pl.isList (fun h' kp=>?_) (by simp only[aE6] <;> lia)
  have I1:Inv X pins σ H { s with heap:=h' }:=I.kept (t':=s.toks) kp
  have I2:Inv X pins σ (upd H h'.objs.size (.tup ys)) { s with heap:=h'.push { cls:=.type "tuple",data:=.seq bf.toArray } }:=
   I1.laid (t':=s.toks) (fun b o e=>aC0 _ e) (aC4 _) (show gr X.prog X.w _ _ _ (.tup ys) from ⟨hz,bf,r',IsTup.new _ _⟩)
  exact⟨.ref h'.objs.size,_,I2,rfl,q _ (I1.eE.fresh (aC4 _))⟩
 ·obtain ⟨bf,r',pl,hz⟩:=I.tuple hq
  exact call_tuple_same pl ⟨.ref p,H,I,rfl,q⟩
def tyV(K:Frag)(T:String)(x:V)(H:Hp):Prop:=match x with
 | .str _=>T = "str"
 | .int _=>T = "int"
 | .ref p=>(T = "list" /\∃xs,ko K H p xs)\/(T = "tuple" /\∃o,K.lookup p=some o/\o.cls = .type "tuple" /\o.dict=none)\/
   (T = "dict" /\((∃Aq,H p=some (.dK Aq))\/∃Aq,H p=some (.dT Aq)))\/(T = "set" /\∃S n,H p=some (.set S n))
 | _=>False
theorem P8{pins:List (Addr×Obj)}{σ:St}{H:Hp}{s:Shared}{T:String}{x:V}{v:Value}(I:Inv X pins σ H s)(r:RelV x v)(ty:tyV X.K T x H) :
  s.TypeIs v T/\∀a,v = .ref a->∃ob,s.heap.get? a=some ob/\ob.dict=none:=by
 cases x with
 | str z=>
  obtain ⟨t,rfl⟩:=r
  cases (show T = "str" from ty)
  exact⟨typeIs_str s z t,fun _ e=>nomatch e⟩
 | int i=>
  obtain ⟨t,rfl⟩:=r
  cases (show T = "int" from ty)
  exact⟨typeIs_int s i t,fun _ e=>nomatch e⟩
 | ref p=>
  cases r
  rcases ty with ⟨rfl,xs,hq⟩ | ⟨rfl,o,hk,hc,hd⟩ | ⟨rfl,hk⟩ | ⟨rfl,S,n,hk⟩
  ·refine bM (I.list hq) fun bf _ pl _=>?_
   refine⟨pl.isList.typeIs,fun a e=>?_⟩
   cases e
   refine uS pl fun o n e c hd _=>?_
   clear pl
   exact⟨o,e,hd⟩
  ·refine⟨⟨o,I.Ar p o hk,hc⟩,fun a e=>?_⟩
   cases e
   exact⟨o,I.Ar _ o hk,hd⟩
  ·have z:∃o,s.heap.get? p=some o/\o.ExactDict:=by
    rcases hk with ⟨Aq,hk⟩ | ⟨Aq,hk⟩
    ·obtain ⟨_,_,_,_,o,_,_,e,ex,_⟩:=I.eE p _ hk
     exact⟨o,e,ex⟩
    ·obtain ⟨_,_,_,_,o,_,_,e,ex,_⟩:=I.eE p _ hk
     exact⟨o,e,ex⟩
   refine aM z fun o e ex=>?_
   clear z
   refine⟨⟨o,e,ex.1⟩,fun a e2=>?_⟩
   cases e2
   exact⟨o,e,ex.2.1⟩
  ·refine Zt (I.eE p _ hk) fun o _ _ _ e ex _=>?_
   refine⟨⟨o,e,ex.1⟩,fun a e2=>?_⟩
   cases e2
   exact⟨o,e,ex.2.1⟩
 | _=>exact False.elim ty
def tBM(K:Frag)(T:String)(r:V->List V->Hp->VK->Prop)(to:TE)(t:TA):TE:=fun σ H Q=>to σ H fun x H1=>tyV K T x H1/\t σ H1 fun xs H2=>r x xs H2 Q
variable {o e:Expr}{es:List Expr}{to:TE}{t:TA}{name:Str}{apos fU:Pos}{T id:String}{r:V->List V->Hp->VK->Prop}
theorem yj(pa:PlainAttrs T)(slot:Slot T name id)(hty:typeOf (.builtin id)=pure (.type "method_descriptor"))(hm:MtR X id r)(ho:PE X o to)(ha:PA X (e::es) t)
  (rP:attributeBase o name X.env (eval o X.env)=eval o X.env:=by rfl)
  (GU:((backTo fU (starEach (e::es) X.env)).all (fun x=>!x.1)&&(backToKw fU (keywordEach [] X.env)).all (fun x=>x.1.isSome)
   && decide ((e::es).length+([]:List Keyword).length+(if ([]:List Keyword).isEmpty then 0 else 1) < 30))=true:=by rfl)
  (rQ:(apos.endLine==fU.line)=true:=by rfl) (hs:starEach (e::es) X.env=(false,eval e X.env)::starEach es X.env:=by rfl) (qV:(backTo fU (starEach es X.env)).any (·.1)=false:=by rfl) :
  PE X (.Call (.Attribute o name apos) (e::es) [] fU) (tBM X.K T r to t):=by
 walk_at"9"
 refine wpAny_Call_method_late rP GU rQ rfl (fS (ho pins s σ H _ I h) fun v s1 NK=>?_)
 refine uS NK fun x H1 I1 r1 ty q1=>?_
 clear NK
 obtain ⟨h1,h2⟩:=P8 I1 r1 ty
 refine⟨T,id,pa,slot,hty,h1,h2,?_⟩
 have hA:=ha fU pins s1 σ H1 _ I1 q1
 rw[hs] at hA ⊢
 refine Calls.callWith_builtin (by show (false || (backTo fU (starEach es X.env)).any (·.1))=false;rw[qV] <;> rfl) (Calls.evalArgs_plain ?_)
 exact fS hA fun us s2 Uq=>Uq.elim fun vs Ur=>Ur.elim fun H2 Us=>Us.elim fun I2 Ut=>Ut.elim fun r2 q2=>hm pins s2 σ H2 x vs v us Q I2 r1 r2 q2
end
end L2
namespace L2
open PySem PySem.Spec PyProof.Rows
def MtM(X:Cx)(id:String)(r:V->List V->Hp->VK->Prop):Prop:=
 ∀(pins:List (Addr×Obj)) (s:Shared) (σ:St) (H:Hp) (x:V) (xs:List V) (v:Value) (us:List Value) (Q:VK),Inv X pins σ H s->RelV x v->Vals xs us->r x xs H Q->
  wpAny (model X.prog X.w) X.A (call (.builtin id) (v::us)) (EP X pins σ Q) X.xe s
theorem Vals.inv{x:V}{xs:List V}{us:List Value}(h:Vals (x::xs) us):∃u vs,us=u::vs/\RelV x u/\Vals xs vs:=by
 cases h with
 | cons r t=>exact⟨_,_,rfl,r,t⟩
theorem Vals.zero{us:List Value}(h:Vals [] us):us=[]:=by
 cases h
 rfl
theorem Vals.one{x:V}{us:List Value}(h:Vals [x] us):∃u,us=[u]/\RelV x u:=by
 refine b6 h.inv fun u vs aR r t=>?_
 walk_at"#"
 obtain rfl:=t.zero
 exact⟨u,rfl,r⟩
theorem Vals.two{x y:V}{us:List Value}(h:Vals [x,y] us):∃u v,us=[u,v]/\RelV x u/\RelV y v:=by
 refine b6 h.inv fun u vs aR r t=>?_
 walk_at"#"
 refine aM t.one fun v iG q=>?_
 walk_at"7"
 exact⟨u,v,rfl,r,q⟩
section
variable {X:Cx}{pins:List (Addr×Obj)}{σ:St}{H:Hp}{s:Shared}{l:Addr}{xs ys:List V}
theorem Inv.ae0{bf its':List Value}{n:Nat}{f:Array Value->Array Value}{t':Nat}(I:Inv X pins σ H s)(hH:H l=some (.lst xs))
  (e:s.heap.get? l=some { cls:=.type "list",data:=.seq bf.toArray n }) (hf:f bf.toArray=its'.toArray) (hv:Vals ys its') (hz:ys.length<=sizeLine) :
  Inv X pins σ (upd H l (.lst ys)) { s with heap:=s.heap.update l (Obj.mapSeq f),toks:=t' }:=by
 have q:=PySem.IsL.update e f
 walk_at"2"
 refine I.write (x:=l) (e:=l) (by rw[hH];exact trivial) (.inl rfl) (fun b' u hb hu=>(Heap.get?_update_other s.heap (Obj.mapSeq f) (Ne.symm hb)).trans hu) ⟨_,q⟩ ?_
 exact⟨hz,its',_,hv,q⟩
theorem Inv.ae1{bf:List Value}{t':Nat}(I:Inv X pins σ H s)(hv:Vals ys bf)(hz:ys.length<=sizeLine) :
  Inv X pins σ (upd H s.heap.objs.size (.lst ys)) { s with heap:=s.heap.push { cls:=.type "list",data:=.seq bf.toArray },toks:=t' }:=
 I.laid (fun _ _ q=>aC0 _ q) (aC4 _) ⟨hz,bf,0,hv,aE2 _ rfl⟩
theorem Inv.fresh(I:Inv X pins σ H s):H s.heap.objs.size=none:=I.eE.fresh (aC4 _)
theorem Inv.ae2(I:Inv X pins σ H s)(hH:H l=some (.lst xs)):xs.length<=sizeLine/\∃(bf:List Value) (n:Nat),Vals xs bf/\xs.length=bf.length/\s.heap.get? l=some { cls:=.type "list",data:=.seq bf.toArray n }:=by
 obtain ⟨z,bf,n,r,e⟩:=I.eE l _ hH
 exact⟨z,bf,n,r,r.length,e⟩
end
section
variable {X:Cx}
def Du:V->List V->Hp->VK->Prop:=fun x vs H Q=>∃l xs y,x = .ref l/\vs=[y]/\H l=some (.lst xs)/\xs.length < sizeLine/\Q .cF (upd H l (.lst (xs++[y])))
theorem iN:MtM X "list.append" Du:=by
 intro pins s σ H x vs v us Q I rx rv h
 refine Ao h fun l xs y rM GS hH hz q=>?_
 clear h
 obtain rfl:=rM
 obtain rfl:=GS
 cases rx
 refine aM rv.one fun u iG ru=>?_
 walk_at"7"
 obtain ⟨z,bf,n,r,hl,e⟩:=I.ae2 hH
 refine call_meets F.slot_list_append ⟨_,e,rfl⟩ F.entry_list_append (F.args_list_append_2 _ _) (PySem.list_append l bf.toArray n u (by rw[aE6];lia)) ⟨e,?_⟩
 refine⟨.cF,_,I.ae0 (its':=bf++[u]) hH e (by simp) (r.append (.cons ru .nil)) ?_,rfl,q⟩
 rw[aD0,List.length_singleton]
 lia
end
end L2
namespace Att
open PySem PySem.W PySem.Calls PyProof.Rows
theorem uU{P:Params}{h:Heap}:∀(ns:List Int) (vs:List Value),WellAll P h vs (ns.map WData.int)->IntsAre vs ns:=by
 intro ns
 induction ns with
 | nil=>
  intro vs w
  rw[List.map_nil] at w
  cases w
  exact .nil
 | cons n ns ih=>
  intro vs w
  rw[aC1] at w
  cases w with
  | cons a b=>
   cases a
   exact .cons _ _ (ih _ b)
theorem EV{l:OpenLaw}{n:Nat}(hn:l.most=some n){P:Params}{h:Heap}{args:List WData}{vals:List Value}
  (AH:l.row.toRowW.claim.pre args=true) (hwl:WellAll P h vals args) :
  ∃a vs ns,vals=[Value.ref a]/\args=[WData.list (ns.map WData.int)]/\h.get? a=some { cls:=.type "list",data:=.seq vs.toArray }/\IntsAre vs ns/\ns.length<=n:=by
 have hsh:WShape.hasAll [] args [.list .int]=true:=(pre_splitW AH).1
 have hc:l.pre.holds [] { args:=args }=true:=(pre_splitW AH).2
 refine b6 (hasAllW_cons hsh) fun d r aR h1 h2=>?_
 walk_at"#"
 obtain rfl:=hasAllW_nil h2
 refine aM (hasW_list h1) fun xs iG h3=>?_
 walk_at"7"
 obtain ⟨ns,rfl⟩:=items_int h3
 have hlen:ns.length<=n:=by
  unfold OpenLaw.pre at hc
  have h4:(WTm.not (.lt (.lit (.int (n:Int))) (.len (.arg 0)))).holds [] { args:=[.list (ns.map .int)] }=true:=by
   have h4:=(holds_andW hc).1
   rw[hn] at h4
   exact h4
  have h5:=condW_of h4 (w_not (w_lt w_lit (w_len_list (w_arg rfl))))
  rw[aC8] at h5
  refine Nat.le_of_not_lt fun q=>?_
  have q':(n:Int) < ((ns.length:Nat):Int):=by lia
  first
   | (rw[aD6 q'] at h5;exact absurd h5 (by decide))
   | (simp at h5;lia)
 cases hwl with
 | cons w1 w2=>
  cases w2
  cases w1 with
  | list ho qz=>exact⟨_,_,ns,rfl,rfl,ho,uU ns _ qz,hlen⟩
theorem EW(l:OpenLaw)(args:List WData):l.row.toRowW.claim.post args (.bool true) args=true:=
 postW_of (r:=l.row.toRowW) (X:=(true==true))
  (show WShape.has [] (.bool true) .bool=true by first | rfl | decide | simp[WShape.has,WShape.arms,WShape.armsAll])
  (show (WTm.eq .res (.lit (.bool true))).value [] { args:=args,res:=some (.bool true),after:=args }=some (.bool (true==true)) from w_eq_bool (w_res rfl) w_lit) rfl
theorem AI{l:OpenLaw}{n:Nat}{q:Program}{loose:List Str}{XP:(Str->Option Value)->Heap->Prop}{YP:World->Heap->Prop}{d:DefRec}
  (hn:l.most=some n) (P9:d.params.defaults=[])
  (call:∀(w:World) (gW cV:Shared) (mg mb:Str->Option Value) (fa:Addr) (o:Obj) (pm cd doc:Value) (a:Addr) (vs:List Value) (ns:List Int),
   Ground q loose [] XP w gW mg mb cV.heap->YP w cV.heap->
   cV.heap.get? fa=some o->o.data = .func (docDef d.name d.params d.body d.scope pm cd doc)->cV.heap.CodeRec cd d.name->mg d.name=some (.ref fa)->
   cV.heap.get? a=some { cls:=.type "list",data:=.seq vs.toArray }->IntsAre vs ns->ns.length<=n->cV.gens=#[]->
   codeAny (model l.prog w) callerA (.call (.ref fa) ⟨[.ref a],[]⟩) (fun r s'=>r = .ok (.ret (.bool true))/\OldK cV.heap s'.heap/\s'.os=cV.os/\AllBare s'.gens) cV) :
  WalkO q loose XP YP l.row.toRowW d [] (fun f vs=>PySem.call f vs):=by
 intro w gW cV mg mb G Y fa o pm cd doc dV kV ho hd EF hD Uu hg args vals as AH aA4 hrd hwl hlo
 obtain rfl:dV = .none:=Dflts.none hD P9
 obtain rfl:kV = .none:=Dflts.noKw hD
 refine Ao (EV hn AH hwl) fun a vs ns rM GS Pa hints hlen=>?_
 obtain rfl:=rM
 obtain rfl:=GS
 refine enter_call (codeAny_mono (call w gW cV mg mb fa o pm cd doc a vs ns G Y ho (fd_plain hd) EF Uu Pa hints hlen hg) fun r s' hq=>?_)
 refine BV hq fun Uv h2 h3 h4=>?_
 clear hq
 obtain rfl:=Uv
 exact⟨.inl ⟨.bool true,.bool true,[],rfl,fun _=>rfl,.bool true,EW l _,fun _=>⟨List.Pairwise.nil,fun _ hm=>(nomatch hm)⟩⟩,h2,h3,h4⟩
end Att
namespace L2
open PySem PySem.Spec PyProof.Rows
theorem yk:∀{vs:List Value} {ns:List Int},IntsAre vs ns->Vals (ns.map V.int) vs
 | _,_,.nil=>.nil
 | _,_,.cons n t h=>.cons ⟨t,rfl⟩ (yk h)
def Pb(H:Hp):Prop:=∀b,H b=none\/∃o xs,H b=some (.Gs o (.lst xs))
theorem GV{P:Program}{w:World}{K:Frag}{mg mb:Str->Option Value}{CX:ER}{k:Nat}{fa a:Addr}{fd:FuncData}{x:Str}{sp:Sp}{cV:Shared}{vs:List Value}{ns:List Int}
  (KX:K.In cV.heap) (XA:cV.heap.Ns mainGlobals mg) (hb:cV.heap.Ns builtinsNs mb) (hbb:∀x:Str,x≠ "__name__" ->mb x=bootBuiltins x) (ae3:cV.heap.NoLimit) (hg:cV.gens=#[])
  (ha:cV.heap.get? a=some { cls:=.type "list",data:=.seq vs.toArray }) (hi:IntsAre vs ns) (hl:ns.length<=sizeLine) (hr:iH k callerA)
  (F:∀base:Heap,K.In base->base.Ns mainGlobals mg->j7 P w K mg base CX k fa fd [x] sp) (Uw:∀(s:Shared) (u:Value),BindsTo s fd ⟨[u],[]⟩ [(x,u)])
  (RB:∀H:Hp,Pb H->ko K H a (ns.map V.int)->sp [.ref a] H (fun v _=>v = .bl true) fun _ _ _=>False)
  (hCX:∀H e s',CX [] H cV (fun _ _ _=>False) e s'->False) :
  codeAny (model P w) callerA (.call (.ref fa) ⟨[.ref a],[]⟩) (fun r s'=>r = .ok (.ret (.bool true))/\OldK cV.heap s'.heap/\s'.os=cV.os/\AllBare s'.gens) cV:=by
 have rv:=yk hi
 have ae4:=hi.length
 have core:∀H:Hp,Pb H->ko K H a (ns.map V.int)->t9 P w H cV.heap->(∀b,H b≠none->b=a)->(H a≠none->K.lookup a=none)->
   codeAny (model P w) callerA (.call (.ref fa) ⟨[.ref a],[]⟩) (fun r s'=>r = .ok (.ret (.bool true))/\OldK cV.heap s'.heap/\s'.os=cV.os/\AllBare s'.gens) cV:=by
  intro H hO hS eE hA hK
  have v8:∀{b:Addr} {o:Obj},cV.heap.get? b=some o->H b=none->(yU cV.heap H).get? b=some o:=fun e n=>Gu e n
  have U6:∀{b:Addr} {o:Obj} {es:Array DictEntry} {ep:Nat},cV.heap.get? b=some o->o.data = .dict es ep->H b=none:=fun {b o es ep} e d=>by
   cases q:H b with
   | none=>rfl
   | some u=>
    have e':b=a:=hA b (by rw[q];simp)
    subst e'
    rw[ha] at e;cases e
    have d':Data.seq vs.toArray _=Data.dict es ep:=d
    cases d'
  have XC:∀{b:Addr} {m:Str->Option Value},cV.heap.Ns b m->(yU cV.heap H).Ns b m:=fun {b m} Ux=>Ux.elim fun o Uy=>Uy.elim fun es Uz=>Uz.elim fun ep UA=>UA.elim fun e UB=>UB.elim fun d r=>⟨o,es,ep,v8 e (U6 e d),d,r⟩
  have hKb:K.In (yU cV.heap H):=fun b o e=>v8 (KX b o e) (by
   cases q:H b with
   | none=>rfl
   | some u=>
    have e':b=a:=hA b (by rw[q];simp)
    subst e'
    rw[hK (by rw[q];simp)] at e;cases e)
  have hM:Mod K mg (yU cV.heap H):=⟨hKb,XC XA,⟨mb,XC hb,hbb⟩,let ⟨mc,h1,h2⟩:=ae3;⟨mc,XC h1,h2⟩⟩
  have e0:C9 P w K mg (yU cV.heap H) callerA [] cV H:=⟨rfl,hM,fun b o e=>Kr e,Nat.le_of_eq (EC _ _),trivial,fun b hb=>absurd (show b∈([]:List Addr) from hb) (by simp),eE,.of_eq hg⟩
  refine codeAny_mono ((F _ hKb (XC XA)).run callerA [] cV H ⟨[.ref a],[]⟩ [.ref a] [.ref a] _ _ hr e0 (Uw cV (.ref a)) (.cons rfl .nil) (RB H hO hS)) fun r s' h=>?_
  cases r with
  | error e=>exact(hCX H e s' h).elim
  | ok fl=>
   cases fl with
   | next=>exact False.elim h
   | brk=>exact False.elim h
   | cont=>exact False.elim h
   | ret u=>
    refine Oi h fun v H' os bare un ae5 r' q=>?_
    clear h
    have q':v = .bl true:=q
    subst q'
    obtain rfl:u=Value.bool true:=r'
    refine⟨rfl,OldK.of_keep fun b o e=>?_,os,bare⟩
    cases q:H b with
    | none=>exact un.keep b o e q (by intro z;exact absurd (show b∈([]:List Addr) from z) (by simp)) (by simp)
    | some u=>
     rcases hO b with z | ⟨ob,xs,z⟩
     ·rw[q] at z;cases z
     ·have z2:=un.xE b ob _ z
      obtain ⟨e1,_⟩:=eE b _ z
      obtain ⟨e2,_⟩:=ae5 b _ z2
      rw[e] at e1;cases e1
      exact e2
 cases hk:K.lookup a with
 | some o=>
  have e:=KX a o hk
  rw[ha] at e
  cases e
  refine core (fun _=>none) (fun _=>.inl rfl) (.inr ⟨_,vs.toArray,_,hk,rfl,rfl,rfl,by rw[aE6,ae4];exact hl,by simpa using rv⟩) (fun b u z=>by have z':(none:Option HO)=some u:=z;cases z') (fun b z=>absurd rfl z) fun z=>absurd rfl z
 | none=>
  refine core (fun b=>if b=a then some (.Gs { cls:=.type "list",data:=.seq vs.toArray } (.lst (ns.map V.int))) else none) (fun b=>?_) (.inl (.inr ⟨{ cls:=.type "list",data:=.seq vs.toArray },aC2 rfl⟩)) (fun b u z=>?_) (fun b z=>?_) fun _=>hk
  ·by_cases hb:b=a
   ·exact .inr ⟨_,_,aC2 hb⟩
   ·exact .inl (aC3 hb)
  ·by_cases hb:b=a
   ·have z':=(aC2 hb).symm.trans z
    cases z'
    subst hb
    exact⟨ha,by rw[aC8];exact hl,vs,_,rv,ha⟩
   ·have z':=(aC3 hb).symm.trans z
    cases z'
  ·by_cases hb:b=a
   ·exact hb
   ·exact absurd (aC3 hb) z
end L2
namespace L2
open PySem PySem.Spec PyProof.Rows
theorem KU{l:PySem.W.OpenLaw}{n k:Nat}{q:Program}{loose:List Str}{XP:(Str->Option Value)->Heap->Prop}{YP:World->Heap->Prop}{d:DefRec}{K:Params->Frag}{CX:World->ER}{sp:World->Sp}{x:Str}
  (hn:l.most=some n) (Xz:n<=sizeLine) (P9:d.params.defaults=[]) (hr:iH k callerA)
  (hY:∀(w:World) (h:Heap),YP w h->(K w.params).In h)
  (F:∀(w:World) (mg:Str->Option Value) (fa:Addr) (h:Heap),(K w.params).In h->h.Ns mainGlobals mg->mg d.name=some (.ref fa)->
   ∃fd:FuncData,(∀(s:Shared) (u:Value),BindsTo s fd ⟨[u],[]⟩ [(x,u)])/\
    ∀base:Heap,(K w.params).In base->base.Ns mainGlobals mg->j7 l.prog w (K w.params) mg base (CX w) k fa fd [x] (sp w))
  (RB:∀(w:World) (H:Hp) (a:Addr) (ns:List Int),ns.length<=n->Pb H->ko (K w.params) H a (ns.map V.int)->sp w [.ref a] H (fun v _=>v = .bl true) fun _ _ _=>False)
  (hCX:∀(w:World) (H:Hp) (s:Shared) (e:Value) (s':Shared),CX w [] H s (fun _ _ _=>False) e s'->False) :
  PySem.W.WalkO q loose XP YP l.row.toRowW d [] (fun f vs=>PySem.call f vs):=by
 refine Att.AI hn P9 fun w gW cV mg mb fa o pm cd doc a vs ns G Y ho hd EF Uu Pa hints hlen hg=>?_
 have KX:=hY w _ Y
 refine aM (F w mg fa _ KX G.T.g Uu) fun fd hb hF=>?_
 exact GV KX G.T.g G.T.b G.T.builtins G.T.nolimit hg Pa hints (aD5 hlen Xz) hr hF hb (fun H hO hS=>RB w H a ns hlen hO hS) fun H e s'=>hCX w H cV e s'
end L2
namespace L2
open PySem PySem.Spec PyProof.Rows
def inClass(s:Stmt)(j:Nat):Stmt:=match s with
 | .ClassDef _ _ _ body _ _ _ _ _ _ _=>body.getD j (.Pass ⟨0,0,0,0⟩)
 | _=>.Pass ⟨0,0,0,0⟩
def bz(s:Stmt):Arguments:=match s with
 | .FunctionDef _ a _ _ _ _ _ _ _ _=>a
 | _=>{ posonlyargs:=[],args:=[],vararg:=none,kwonlyargs:=[],kw_defaults:=[],kwarg:=none,defaults:=[] }
def b9(s:Stmt):List Stmt:=match s with
 | .FunctionDef _ _ b _ _ _ _ _ _ _=>b
 | _=>[]
def az(s:Stmt):Scope:=match s with
 | .FunctionDef _ _ _ _ _ _ sc _ _ _=>sc
 | _=>{ kind:=.function,names:=[],isGenerator:=false,isCoroutine:=false }
structure GW(K:Frag)(x qual:Str)(st:Stmt)(f:Addr)(fd:FuncData):Prop where
 ex:∃(oc:Value) (od:Option Addr) (kV doc pm:Value) (an:Option Addr) (f9 ct:Value) (Gg:Array (Option Value)),
  fd=PySem.W.fnOf x qual (bz st) (b9 st) (az st) .none kV doc pm an f9 ct/\K.lookup f=some ⟨oc,od,.func fd,Gg⟩/\PySem.W.codeIn K f9 qual=true
 kp:PySem.W.keepIn K (.ref f)=true
section
variable {K:Frag}
theorem GW.binds{x qual:Str}{st:Stmt}{f:Addr}{fd:FuncData}{ps:List Str}(F:GW K x qual st f fd)
  (h:∀(kV doc pm:Value) (an:Option Addr) (f9 ct:Value) (us:List Value),us.length=ps.length->bindArgs (PySem.W.fnOf x qual (bz st) (b9 st) (az st) .none kV doc pm an f9 ct) ⟨us,[]⟩=pure (ps.zip us)):Binds K fd ps []:=by
 refine Ol F.ex fun oc od kV doc pm an f9 ct Gg zo9 lk EF=>?_
 obtain rfl:=zo9
 exact .all (h kV doc pm an f9 ct)
theorem z7{x qual:Str}{st:Stmt}{f:Addr}{oc:Value}{od an:Option Addr}{Gg:Array (Option Value)}{kV doc pm f9 ct:Value}(l:K.lookup f=some ⟨oc,od,.func (PySem.W.fnOf x qual (bz st) (b9 st) (az st) .none kV doc pm an f9 ct),Gg⟩)
  (c:PySem.W.codeIn K f9 qual=true) (k:PySem.W.keepIn K (.ref f)=true):GW K x qual st f (PySem.W.fnOf x qual (bz st) (b9 st) (az st) .none kV doc pm an f9 ct):=⟨⟨oc,od,kV,doc,pm,an,f9,ct,Gg,rfl,l,c⟩,k⟩
end
section
variable {X:Cx}
theorem pv(i:Nat){x:Str}{pos:Pos}(hN:X.N[i]?=some x:=by rfl)(hv:Zz X.env.scope x:=by first | exact Or.inl rfl | exact Or.inr (Or.inl rfl) | exact Or.inr (Or.inr rfl))(hd:(x==("__debug__" : Str))=false:=by decide)
  (EF:(x==("__classdict__" : Str))=false:=by decide):PE X (.Name x pos) (qT i):=Oz hN hv hd EF
end
def aB(H H':Hp):Prop:=∀b o,H b=some o->H' b=some o
theorem aB.refl(H:Hp):aB H H:=fun _ _ h=>h
theorem aB.trans{H H1 H2:Hp}(a:aB H H1)(b:aB H1 H2):aB H H2:=fun c o h=>b c o (a c o h)
theorem aB.free{H H':Hp}(e:aB H H'){l:Addr}(h:H' l=Option.none):H l=Option.none:=by
 cases q:H l with
 | none=>rfl
 | some o=>
  rw[e l o q] at h
  cases h
theorem aB.seq{K:Frag}{H H':Hp}{a:Addr}{xs:List V}(e:aB H H')(h:ko K H a xs):ko K H' a xs:=by
 rcases h with (h | ⟨o,h⟩) | h
 ·exact .inl (.inl (e _ _ h))
 ·exact .inl (.inr ⟨o,e _ _ h⟩)
 ·exact .inr h
end L2
end S8
section ae6
namespace Dm
open PySem PySem.Spec PyProof.Rows L2
def XD(dx:Option Addr)(a:Addr)(h:Heap):Prop:=∀d,dx=some d->∃o,h.get? a=some o/\o.dict=some d
theorem XD.no{a:Addr}{h:Heap}:XD none a h:=fun _ z=>nomatch z
theorem XD.keeps{dx:Option Addr}{a:Addr}{h h':Heap}(x:XD dx a h)(k:∀o,h.get? a=some o->∃o',h'.get? a=some o'/\o'.dict=o.dict):XD dx a h':=fun d z=>by
 obtain ⟨o,e,ed⟩:=x d z
 obtain ⟨o',e',ed'⟩:=k o e
 exact⟨o',e',ed'.trans ed⟩
def Ca(f:Obj->Obj):Prop:=∀o,(f o).dict=o.dict/\(o.isFreed=false->(f o).isFreed=false)
inductive KD{α:Type}:Sem α->Prop
 | ret (a:α):KD (.pure a)
 | exc (e:Value):KD (.raise e)
 | no (w:String):KD (.unsupported w)
 | load {a:Addr} {pt:Option Value} {k:Obj->Sem α} (h:∀o,KD (k o)):KD (.load a pt k)
 | upd {a:Addr} {pt:Option Value} {f:Obj->Obj} {k:Unit->Sem α} (hf:Ca f) (h:KD (k ())):KD (.update a pt f k)
 | alloc {o:Obj} {k:Addr->Sem α} (h:∀a,KD (k a)):KD (.alloc o k)
 | stack {k:List (Code×Pos)->Sem α} (h:∀l,KD (k l)):KD (.stack k)
theorem KD.bind{α β:Type}{m:Sem α}{f:α->Sem β}(hm:KD m)(hf:∀a,KD (f a)):KD (m>>=f):=by
 show KD (Sem.bind m f)
 induction hm with
 | ret a=>exact hf a
 | exc e=>exact .exc e
 | no w=>exact .no w
 | load _ ih=>exact .load ih
 | upd z _ ih=>exact .upd z ih
 | alloc _ ih=>exact .alloc ih
 | stack _ ih=>exact .stack ih
theorem XD.upd{dx:Option Addr}{a b:Addr}{h:Heap}{f:Obj->Obj}(x:XD dx a h)(hf:Ca f):XD dx a (h.update b f):=x.keeps fun o e=>by
 by_cases z:b=a
 ·subst z
  exact⟨f o,Heap.get?_update_self f e ((hf o).2 (Heap.get?_some_iff.mp e).2),(hf o).1⟩
 ·exact⟨o,(Heap.get?_update_other h f z).trans e,rfl⟩
theorem UC{α:Type}{M:Model}{Γ:PySem.Ctx}{t:Sem α}(k:KD t){Q:α->Pos->Shared->Prop}{E:Value->Pos->Shared->Prop}{dx:Option Addr}{a:Addr} :
  ∀{p:Pos} {s:Shared},Sem.wp M Γ t Q E p s->XD dx a s.heap->Sem.wp M Γ t (fun x p s=>Q x p s/\XD dx a s.heap) (fun x p s=>E x p s/\XD dx a s.heap) p s:=by
 induction k with
 | ret x=>exact fun h z=>⟨h,z⟩
 | exc e=>exact fun h z=>⟨h,z⟩
 | no w=>exact fun h z=>h
 | load _ ih=>
  intro p s h z
  rw[Sem.wp_load] at h ⊢
  obtain ⟨o,e,h⟩:=h
  exact⟨o,e,ih o h z⟩
 | upd hf _ ih=>
  intro p s h z
  rw[Sem.wp_update] at h ⊢
  exact⟨h.1,ih h.2 (z.upd hf)⟩
 | alloc _ ih=>
  intro p s h z
  rw[Sem.wp_alloc] at h ⊢
  exact ih _ h (z.keeps fun o e=>⟨o,aC0 _ e,rfl⟩)
 | stack _ ih=>
  intro p s h z
  exact ih _ h z
theorem AJ{α:Type}{M:Model}{A:Around}{t:Sem α}{Q:α->Shared->Prop}{E:Value->Shared->Prop}{s:Shared}{dx:Option Addr}{a:Addr}(k:KD t)(h:wpAny M A t Q E s)(z:XD dx a s.heap) :
  wpAny M A t (fun x s'=>Q x s'/\XD dx a s'.heap) (fun x s'=>E x s'/\XD dx a s'.heap) s:=fun Γ p AK=>UC k (h Γ p AK) z
theorem z8(a:Addr):KD (load a):=.load fun o=>.ret o
theorem vN:KD stack:=.stack fun l=>.ret l
theorem rR(f:Array Value->Array Value):Ca (Obj.mapFields f):=fun o=>by
 obtain ⟨c,d,dt,sl⟩:=o
 cases dt <;> exact⟨rfl,fun h=>h⟩
theorem AL(v:Value):KD (fieldsOf v):=by
 unfold fieldsOf
 cases v with
 | ref a=>
  refine .bind (z8 a) fun o=>?_
  split
  ·exact .ret _
  ·exact .no _
 | _=>exact .no _
theorem rS(v:Value)(i:Nat):KD (field v i):=by
 unfold field
 refine .bind (AL v) fun vs=>?_
 split
 ·exact .ret _
 ·exact .no _
theorem vO(a:Addr)(i:Nat)(x:Value):KD (updateField a i x):=by
 unfold updateField
 refine .bind (z8 a) fun o=>?_
 split
 ·split
  ·exact .upd (rR _) (.ret _)
  ·exact .no _
 ·exact .no _
theorem oF(v:Value)(i:Nat)(x:Value):KD (setField v i x):=by
 unfold setField
 cases v with
 | ref a=>exact vO a i x
 | _=>exact .no _
theorem z9(e:Value)(f:Option Addr):KD (setFlight e f):=by
 unfold setFlight
 refine .bind (rS e 1) fun tb=>?_
 split
 ·exact oF _ _ _
 ·exact .ret _
theorem EX(env:Env)(outer:List Env):KD (behindIsImport env outer):=by
 unfold behindIsImport
 split
 ·exact .ret _
 ·split
  ·exact .ret _
  ·exact .bind (rS _ _) fun _=>.ret _
theorem KW(env:Env)(i:Bool)(outer:List Env):KD (keptBack env i outer):=by
 unfold keptBack
 split
 ·split
  ·exact .ret _
  ·unfold underTheClaimsCaller
   exact .bind (.bind vN fun _=>.ret _) fun _=>.ret _
 ·exact .ret _
theorem GX:∀l:List Env,KD (readyFrames l):=fun l=>by
 induction l with
 | nil=>exact .ret _
 | cons env outer ih=>
  unfold readyFrames
  split
  ·refine .bind (z8 _) fun o=>?_
   split
   ·exact .ret _
   ·refine .bind (EX env outer) fun i=>.bind (KW env i outer) fun b=>.bind (.upd (fun o=>⟨rfl,fun h=>by obtain ⟨_,_,d,_⟩:=o;cases d <;> exact h⟩) (.ret _)) fun _=>ih
  ·exact .no _
theorem Cc(env:Env):KD (PySem.frameOf env):=by
 unfold PySem.frameOf frameEnvs
 refine .bind (.bind vN fun _=>.ret _) fun l=>.bind ?_ fun o=>?_
 ·unfold frameObject
  split
  ·exact .ret _
  ·exact .bind (GX _) fun _=>.ret _
 ·split
  ·exact .ret _
  ·exact .no _
theorem GY(f:Addr)(b:Bool):KD (entryPlaceOf f b):=by
 unfold entryPlaceOf
 refine .bind vN fun l=>?_
 split
 ·exact .ret _
 ·exact .ret _
theorem GZ(head:Value)(fr:Value)(l f x:Value)(pl:List Value):KD (EntryCells.newEntry head fr l f x pl):=by
 have fin:∀d,KD (newObjAsIs (.type "traceback") d):=fun d=>by
  unfold newObjAsIs
  exact .bind (.alloc fun a=>.ret a) fun _=>.ret _
 unfold EntryCells.newEntry newFields
 generalize ([head,fr,l,f,x]++if pl.isEmpty=true then List.replicate 6 Value.none else pl).toArray=vs
 unfold newObj
 dsimp only
 split
 ·exact .bind (.no _) fun _=>fin _
 ·exact fin _
theorem KY(e:Value)(env:Env):KD (noteFrame e env):=by
 unfold noteFrame
 split
 ·refine .bind (rS e 1) fun head=>?_
  have fin:=fun (f:Addr)=>KD.bind (Cc env) fun a=>KD.bind (GY f (head != .none)) fun pl=>KD.bind (GZ head a .none (rawInt f) .none pl) fun b=>oF e 1 b
  dsimp only
  split
  ·refine .bind (rS head 3) fun x=>?_
   split
   ·exact .ret _
   ·exact .bind (oF _ _ _) fun _=>fin _
  ·exact fin _
 ·exact .no _
end Dm
end ae6
section ae7
namespace Dm
open PySem PySem.Spec PyProof.Rows L2
def XE(l:List Env)(B h:Heap):Prop:=∀b o,h.get? b=some o->b∉vF l->B.get? b=some o
def qg(P:Program)(w:World):ER:=fun outer H s E e s'=>∃a cls dx a0 H' h B,e = .ref a/\Heap.FlyingW B outer a cls a0 s'.heap/\XD dx a s'.heap/\XE outer B h/\h.UpToSlots s'.heap/\E cls dx H'/\s'.os=s.os/\AllBare s'.gens/\
 Un (vF outer) [] H H' s.heap h/\t9 P w H' h
structure Made(h h':Heap)(a:Addr)(cls:Value):Prop where
 keeps:∀b o,h.get? b=some o->h'.get? b=some o
 new:h.get? a=none
 there:∃o a0,h'.get? a=some o/\o.cls=cls/\o.data = .fields #[a0,.none,.none,.none,.bool false,.none]
theorem Made.of{h h':Heap}{a:Addr}{cls:Value}{vs:List Value}(x:Heap.MadeExcOf h h' a cls vs):Made h h' a cls:=by
 refine bM x.there fun t he _ _=>?_
 exact⟨x.keeps,x.new,_,_,he,rfl,rfl⟩
def kI(X:Cx)(E:L2.St->XK)(e:Value)(s':Shared):Prop:=∃a cls dx σ H h,e = .ref a/\L2.Inv X [] σ H { s' with heap:=h }/\E σ cls dx H/\XD dx a s'.heap/\
 (Made h s'.heap a cls\/(∃a0 B,XE X.stack B h/\h.UpToSlots s'.heap/\(Heap.FlyingW B X.stack a cls a0 s'.heap\/Heap.HeldW B X.stack a cls a0 X.env.locals s'.heap)))
theorem vP{X:Cx}{pins:List (Addr×Obj)}{σ:L2.St}{H:Hp}{s:Shared}(I:L2.Inv X pins σ H s):L2.Inv X [] σ H s:=I.rJ fun p hp=>by cases hp
section
variable {X:Cx}{E:L2.St->XK}
theorem KZ{pins:List (Addr×Obj)}{σ:L2.St}{H:Hp}{s:Shared}{h':Heap}{a:Addr}{cls:Value}(I:L2.Inv X pins σ H s)(hx:Made s.heap h' a cls)(q:E σ cls none H):kI X E (.ref a) { s with heap:=h' }:=
 ⟨a,cls,none,σ,H,s.heap,rfl,vP I,q,.no,.inl hx⟩
theorem AM{pins:List (Addr×Obj)}{σ:L2.St}{H:Hp}{s s':Shared}{e:Value}(I:L2.Inv X pins σ H s)(c:qg X.prog X.w X.stack H s (E σ) e s'):kI X E e s':=by
 obtain ⟨a,cls,dx,a0,H',h,B,rfl,f,xd,cv,up,q,os,bare,un,eE⟩:=c
 have I':L2.Inv X pins σ H' { s' with heap:=h }:=Inv.Av I (s':={ s' with heap:=h }) os un eE bare (fun b z=>absurd z (by simp))
 exact⟨a,cls,dx,σ,H',h,rfl,vP I',q,xd,.inr ⟨a0,B,cv,up,.inl f⟩⟩
theorem v8{h base:Heap}{l:List Env}(f:h.FunFrames base l):∃B:Heap,XE l B h/\B.StaysIn h/\h.FunFrames B l/\∀b,h.get? b=none->B.get? b=none:=by
 have st:(PySem.W.hideAll h (vF l)).StaysIn h:=fun b o e=>PySem.W.of_hideAll _ e
 refine⟨PySem.W.hideAll h (vF l),fun b o e n=>PySem.W.hideAll_get _ e n,st,PySem.W.funFrames_hide f fun env he a ha=>List.mem_filterMap.mpr ⟨env,he,ha⟩,fun b hb=>?_⟩
 cases hq:(PySem.W.hideAll h (vF l)).get? b with
 | none=>rfl
 | some o'=>have:=st b o' hq;rw[hb] at this;cases this
structure Pc(X:Cx):Prop where
 Gw:X.stack=X.env::X.outer
 fr:X.env.frame=some X.env.locals
theorem AN{e:Value}{s':Shared}{Q:Unit->Shared->Prop}{E':Value->Shared->Prop}(O:Pc X)(f:kI X E e s')
  (hq:∀(a:Addr) cls dx a0 σ H h B h',e = .ref a->L2.Inv X [] σ H { s' with heap:=h }->E σ cls dx H->XD dx a h'->XE X.stack B h->h.UpToSlots h'->Heap.HeldW B X.stack a cls a0 X.env.locals h'->Q () { s' with heap:=h' }) :
  wpAny (model X.prog X.w) X.A (noteFrame e X.env) Q E' s':=by
 obtain ⟨a,cls,dx,σ,H,h,rfl,I,q,xd,f⟩:=f
 have fr:X.A.frames=some (X.env::X.outer):=by rw[I.ok.frames,O.Gw]
 refine aI3 (AJ (Q:=fun u s1=>XD dx a s1.heap->Q u s1) (E:=E') (KY _ _) ?_ xd) (fun u s1 h=>h.1 h.2) fun _ _ h=>h.1
 rcases f with hx | ⟨a0,B,cv,up,f | f⟩
 ·obtain ⟨oe,a0,he,Al,hdt⟩:=hx.there
  subst Al
  obtain ⟨B,b1,b2,b3,b4⟩:=v8 I.stack
  have ff:s'.heap.FunFrames B X.stack:=b3.of_keeps fun b o hb _=>⟨o,hx.keeps b o hb,rfl⟩
  rw[O.Gw] at ff
  unfold noteFrame
  simp only[O.fr]
  refine aB8 (wpAny_field he (vs:=#[a0,.none,.none,.none,.bool false,.none]) hdt (x:=.none) rfl ?_)
  rw[aC3 (by decide)]
  refine wpAny_entryW (a0:=a0) fr ff O.fr he (fun b o hb=>hx.keeps b o (b2 b o hb)) (b4 a hx.new) hdt (by simp) rfl fun h' hN=>?_
  obtain ⟨k1,k2,k3,k4⟩:=hN
  refine fun xd=>hq a _ dx a0 σ H h B h' rfl I q xd b1 ((Heap.UpToSlots.of_keeps hx.keeps).trans k4) ⟨k1,b4 a hx.new,?_,k3⟩
  rw[O.Gw];exact k2
 ·rw[O.Gw] at f
  refine wpAny_looks_onW fr O.fr f fun h' hh us=>?_
  exact fun xd=>hq a cls dx a0 σ H h B h' rfl I q xd cv (up.trans us) (by rw[O.Gw];exact hh)
 ·refine wpAny_noteFrame_againW O.fr f.2.2.2 ?_
  exact fun xd=>hq a cls dx a0 σ H h B s'.heap rfl I q xd cv up f
theorem bg(O:Pc X):PassesOwn (model X.prog X.w) X.A X.env (kI X E):=by
 intro e s' f
 refine AN O f fun a cls dx a0 σ H h B h' ea I q xd cv up hd=>?_
 subst ea
 unfold cameBackBy
 obtain ⟨k1,k2,k3,oe,vs,T,oT,ts,he,hc,hdd,h1,XF,hTe,hT,RC,h3⟩:=hd
 refine aB8 (wpAny_field he hdd h1 ?_)
 rw[aC3 (by simp)]
 unfold setFlight
 refine aB8 (wpAny_field he hdd h1 ?_)
 rw[aC2 (show (Value.ref T !=Value.none)=true from by simp)]
 have h3s:3 < ts.size:=(Array.getElem?_eq_some_iff.mp h3).1
 rw[O.fr]
 refine wpAny_setField hT RC h3s ?_
 have other:∀b,b≠T->(h'.update T (Obj.mapFields (·.setIfInBounds 3 (rawInt X.env.locals)))).get? b=h'.get? b:=fun b hb=>Heap.get?_update_other _ _ (Ne.symm hb)
 have NL:∀b o,h'.get? b=some o->(∀vs,o.data≠ .fields vs)->b≠T:=fun b o hb hnf z=>by
  rw[z,hT] at hb;injection hb with hb;subst hb;exact hnf ts RC
 refine⟨a,cls,dx,σ,H,h,rfl,I,q,xd.upd (rR _),.inr ⟨a0,B,cv,fun b o hb hn=>?_,.inr ⟨fun b o hb=>?_,k2,k3.of_keeps fun b o hb hnf=>⟨o,(other b (NL b o hb hnf)).trans hb,rfl⟩,?_⟩⟩⟩
 ·obtain ⟨sl,e1⟩:=up b o hb hn
  exact⟨sl,(other b (NL b _ e1 fun vs z=>hn vs z)).trans e1⟩
 ·refine(other b fun z=>?_).trans (k1 b o hb)
  rw[z,XF] at hb;cases hb
 ·refine⟨oe,vs,T,_,_,(other a (Ne.symm hTe)).trans he,hc,hdd,h1,XF,hTe,Heap.get?_update_self _ hT (Obj.isFreed_of_fields (Obj.data_mapFields RC _)),Obj.data_mapFields RC _,?_⟩
  simp[h3s]
end
section
variable {P:Program}{w:World}{K:Frag}{mg:Str->Option Value}{base:Heap}{N:List Str}{qual:Str}{scope:Scope}{f:Addr}{cd:Value}{A:Around}{outer:List Env}{s:Shared}{H:Hp}{E:XK}
theorem EY{e:Value}{s':Shared}(fl:kI (qy (qg P w) P w K mg base N qual scope f cd A outer s H E) (fun _=>E) e s'):(qy (qg P w) P w K mg base N qual scope f cd A outer s H E).xe e s':=by
 let X:=qy (qg P w) P w K mg base N qual scope f cd A outer s H E
 have O:Pc X:=⟨rfl,rfl⟩
 show wpAny (model P w) X.A (leaving X.env e) (fun _ KG=>qg P w outer H s E e KG) (fun e' KG=>qg P w outer H s E e' KG) s'
 unfold leaving
 refine aB8 (AN O fl fun a cls dx a0 σ H' h B h' ea I q xd cv up hd=>?_)
 subst ea
 refine aI3 (AJ (Q:=fun _ s1=>XD dx a s1.heap->qg P w outer H s E (.ref a) s1) (E:=fun e' s1=>qg P w outer H s E e' s1) (z9 _ _) ?_ xd) (fun u s1 h=>h.1 h.2) fun _ _ h=>h.1
 refine wpAny_landsW hd fun h2 fl2 us xd=>?_
 refine BV fl2 fun k1 k2 aR k4=>?_
 clear fl2
 obtain ⟨_,⟨L',o',e1,e2,e3,e4⟩,k3⟩:=aR
 obtain rfl:X.env.locals=L':=aE1 e1
 have hL:H' X.env.locals=none:=I.free
 have fr:∀b,b∈vF X.stack↔b=X.env.locals\/b∈vF outer:=fun b=>by
  show b∈vF (X.env::outer)↔_
  unfold vF
  rw[List.filterMap_cons_some (show X.env.frame=some X.env.locals from rfl),aC6]
 have get:∀b o,b≠X.env.locals->h.get? b=some o->(PySem.W.hideAll h [X.env.locals]).get? b=some o:=fun b o n e=>PySem.W.hideAll_get _ e (by simpa using n)
 refine⟨a,cls,dx,a0,H',PySem.W.hideAll h [X.env.locals],B,rfl,⟨k1,k2,k3,k4⟩,xd,fun b o e nb=>?_,fun b o e hn=>?_,q,I.os,I.bare,?_,?_⟩
 ·have nl:b≠X.env.locals:=fun z=>by
   have z':=PySem.W.hideAll_none [X.env.locals] (h:=h) (b:=b) (by simp[z])
   rw[e] at z'
   cases z'
  exact cv b o (PySem.W.of_hideAll _ e) fun z=>by
   rcases (fr b).mp z with z | z
   ·exact nl z
   ·exact nb z
 ·exact(up.trans us) b o (PySem.W.of_hideAll _ e) hn
 ·have u:Un (vF outer) [] H H' s.heap h:=I.base
  have ne:∀b o,s.heap.get? b=some o->b≠X.env.locals:=fun b o e=>aE5 (aE8 (aD9 e) I.ok.above)
  refine⟨fun b o e n nf nx=>get b o (ne b o e) (u.keep b o e n nf nx),fun b o e n nf nx=>?_,u.free,fun b o e nx=>?_,u.qx,u.xE,u.yT⟩
  ·obtain ⟨sl,e1⟩:=u.slot b o e n nf nx
   exact⟨sl,get b _ (ne b o e) e1⟩
  ·obtain ⟨o',e1⟩:=u.there b o e nx
   exact⟨o',get b _ (ne b o e) e1⟩
 ·intro b u e
  refine(I.eE b u e).yS (fun c v hc q'=>get c v ?_ q') (fun _ z=>z) fun _ _ z=>z
  rcases hc with z | z
  ·rintro rfl;rw[<- z,hL] at e;cases e
  ·rintro rfl;rw[hL] at z;cases z
end
end Dm
end ae7
section UD
namespace Dm
open PySem PySem.Spec PyProof.Rows L2 PySem.W
def exD(K:Frag)(C:Addr)(Pe:List Value)(newId:String)(o:Obj):Bool:=match o.data with
 | .cls cd=>!cd.hasDel&&cd.mro.head?==some (.ref C)&&tailIn K Pe cd.mro.tail&&nsOkIn K cd.ns&&nsIn K cd.ns "__init__" ==some none&&o.cls == .type "type" && o.slots.toList[4]?==some (some (.builtin newId))&&o.slots.toList.length==6
 | _=>false
def NN(K:Frag)(C:Addr)(Pe:List Value)(newId:String):Bool:=(K.lookup C).any (exD K C Pe newId)
theorem six{l:List (Option Value)}{a:Option Value}(h:l.length=6)(e:l[4]?=some a):∃k0 k1 k2 k3 k5,l=[k0,k1,k2,k3,a,k5]:=by
 refine qS (aH0 h) fun k0 l aR=>?_
 walk_at"#"
 refine qS (aH0 (aG1 h)) fun k1 l aR=>?_
 walk_at"#"
 refine qS (aH0 (aG1 (aG1 h))) fun k2 l aR=>?_
 walk_at"#"
 refine qS (aH0 (aG1 (aG1 (aG1 h)))) fun k3 l aR=>?_
 walk_at"#"
 refine qS (aH0 (aG1 (aG1 (aG1 (aG1 h))))) fun k4 l aR=>?_
 walk_at"#"
 refine qS (aH0 (aG1 (aG1 (aG1 (aG1 (aG1 h)))))) fun k5 l aR=>?_
 walk_at"#"
 obtain rfl:=List.eq_nil_of_length_eq_zero (aG1 (aG1 (aG1 (aG1 (aG1 (aG1 h))))))
 cases e
 exact⟨k0,k1,k2,k3,k5,rfl⟩
theorem Pf{K:Frag}{h:Heap}{mg:Str->Option Value}{x:Str}{C:Addr}{Pe:List Value}{newId:String}(X:K.In h)(hb:mg x=some (.ref C))(q:NN K C Pe newId=true):OwnCls x C Pe newId mg h:=by
 refine⟨hb,?_⟩
 unfold NN at q
 cases ho:K.lookup C with
 | none=>rw[ho] at q;cases q
 | some o=>
  rw[ho] at q
  replace q:exD K C Pe newId o=true:=q
  obtain ⟨oc,dd,dt,sl⟩:=o
  cases dt with
  | cls cd=>
   obtain ⟨nm,bs,mro,ns,qn,hd,sn,sub,ab,col,del⟩:=cd
   obtain ⟨l⟩:=sl
   unfold exD at q
   simp only[aD4,aF0,Bool.not_eq_true'] at q
   obtain ⟨⟨⟨⟨⟨⟨⟨rfl,q1⟩,q2⟩,q3⟩,q4⟩,rfl⟩,q5⟩,q6⟩:=q
   cases mro with
   | nil=>cases q1
   | cons m bm=>
    cases q1
    refine Zr (six q6 q5) fun k0 k1 k2 k3 k5 KR=>?_
    obtain rfl:=KR
    exact⟨bm,ns,nm,qn,bs,hd,sn,sub,ab,col,dd,k0,k1,k2,k3,k5,_,X _ _ ho,.of_isNs (isNs_of_in X q3),nsMap_none_of_in X q3 q4,tail_of_in X q2⟩
  | _=>exact nomatch q
section
variable {X:Cx}{E:L2.St->XK}{x:Str}{C:Addr}{B newId Ce:String}{bm:List Value}{np fU pos:Pos}{xH:Expr}{rest:List Expr}{ta:TA}
def Pg(E:L2.St->XK)(cls:Value)(ta:TA):TS:=fun _ σ H=>ta σ H fun vs H1=>vs.length<=sizeLine/\E σ cls none H1
theorem H8(FB:ExcBaseFacts B newId Ce bm)(hh:X.A.handled=none)(hm:X.mg x=some (.ref C))(hc:NN X.K C bm newId=true)(hg:Gl X x)(ha:PA (X.dj (kI X E)) (xH::rest) ta)
  (he:starEach (xH::rest) X.env=(false,eval xH X.env)::starEach rest X.env:=by rfl) (qV:(backTo fU (starEach rest X.env)).any (·.1)=false:=by rfl) (hd:(x==("__debug__" : Str))=false:=by decide) :
  PS (X.dj (kI X E)) (.Raise (some (.Call (.Name x np) (xH::rest) [] fU)) none pos) (Pg E (.ref C) ta):=by
 walk_at">"
 have O:OwnCls x C bm newId X.mg X.base:=Pf I.ok.mod.Sd hm hc
 obtain ⟨tl,N,nm,q,bs,hdct,sn,sub,ab,col,dd,k0,k1,k2,k3,k5,mN,hC,hN,hni,T⟩:=O.obj
 refine wpAny_Raise_call_subT (C:=C) (nm:=nm) (q:=q) (N:=N) (bs:=bs) (bm:=tl) (hdct:=hdct) (sn:=sn) (sub:=sub) (ab:=ab) (col:=col) (dd:=dd) (k0:=k0) (k1:=k1) (k2:=k2) (k3:=k3) (k5:=k5)
  FB (mN:=mN) (T.hasType FB.hasBase) hh (by rw[he];show (false || (backTo fU (starEach rest X.env)).any (·.1))=false;rw[qV];rfl) hni (rL I hg hm ⟨rfl,?_⟩ hd)
 have hp:=ha fU pins s σ H _ I h
 rw[he] at hp ⊢
 refine Calls.evalArgs_plain (aI3 hp (fun us s2 jg=>?_) fun _ _ y=>y)
 refine uS jg fun vs H1 I1 r z w=>?_
 clear jg
 exact⟨rfl,by rw[<- r.length];exact z,I1.bk _ _ hC,hN.keeps I1.bk,T.keeps I1.bk,fun h' e hx=>KZ I1.gZ (.of hx) w⟩
def Hf(sp:Sp)(E:L2.St->XK)(t:TA):TE:=fun σ H Q=>t σ H fun vs H1=>sp vs H1 Q (E σ)
theorem L0{CX:ER}{k:Nat}{f:Addr}{fd:FuncData}{ps:List Str}{sp:Sp}{pins:List (Addr×Obj)}{σ:L2.St}{H:Hp}{s:Shared}{Q:VK}{us:List Value}{vs:List V}(F:j7 X.prog X.w X.K X.mg X.base (qg X.prog X.w) k f fd ps sp)(hr:iH k X.A)(hb:Binds X.K fd ps [])
  (I:L2.Inv X pins σ H s) (r:Vals vs us) (h:sp vs H Q (E σ)):wpAny (model X.prog X.w) X.A (call (.ref f) us) (EP X pins σ Q) (kI X E) s:=by
 have hl:(us++[]).length=ps.length:=by rw[aJ0,<- r.length];exact F.len _ _ _ _ h
 have UE:=hb s us I.Ar hl
 rw[aJ0] at UE
 refine wpAny_call (codeAny_mono (F.run X.A X.stack s H ⟨us,[]⟩ us vs Q (E σ) hr I.U5 UE r h) fun r s' hq=>?_)
 cases r with
 | error e=>exact AM I hq
 | ok fl=>
  cases fl with
  | ret u=>exact I.after hq
  | next=>exact False.elim hq
  | brk=>exact False.elim hq
  | cont=>exact False.elim hq
theorem Hg{k:Nat}{f:Addr}{fd:FuncData}{ps:List Str}{sp:Sp}{e:Expr}{es:List Expr}{t:TA}{p:Pos}(F:j7 X.prog X.w X.K X.mg X.base (qg X.prog X.w) k f fd ps sp)(hr:iH k X.A)(hg:Gl X x)(hm:X.mg x=some (.ref f))(hk:PySem.W.keepIn X.K (.ref f)=true)(hb:Binds X.K fd ps [])
  (ha:PA (X.dj (kI X E)) (e::es) t) (ET:(x==("__debug__" : Str))=false:=by decide) (he:starEach (e::es) X.env=(false,eval e X.env)::starEach es X.env:=by rfl) (vM:(backTo pos (starEach es X.env)).any (·.1)=false:=by rfl) :
  PE (X.dj (kI X E)) (.Call (.Name x p) (e::es) [] pos) (Hf sp E t):=by
 walk_at"9"
 refine wpAny_Call_Name_kw (rL I hg hm ?_ ET)
 refine PySem.W.callWith_K (h₀:=X.base) I.ok.mod.Sd hk (fS (ha pos pins s σ H _ I h) fun us s1 oG=>oG.elim fun vs ux=>ux.elim fun H1 Dv=>Dv.elim fun I1 EZ=>EZ.elim fun r q=>⟨I1.Ar,?_⟩) he vM
 refine fS (L0 (CX:=qg X.prog X.w) F hr hb I1.gZ r q) fun u s2 Gh=>Gh.elim fun v BY=>BY.elim fun H2 Dq=>Dq.elim fun I2 Hh=>Hh.elim fun r2 q2=>⟨v,H2,I2.dj _,r2,q2⟩
def Ph(C:Addr)(sp:Sp)(E:L2.St->XK)(t:TA):TE:=fun σ H Q=>t σ H fun vs H1=>∀x dx,H1 x=none->H1 dx=none->dx≠x->
 sp (.ref x::vs) (upd (upd H1 dx (.own x)) x (.ins C dx [])) (fun v H2=>v = .cF/\Q (.ref x) H2) (E σ)
theorem F0{k:Nat}{f:Addr}{fd:FuncData}{ps:List Str}{sp:Sp}{pins:List (Addr×Obj)}{σ:L2.St}{H:Hp}{s:Shared}{Q:VK}{us:List Value}{vs:List V}(M:Mk X.K C f)(F:j7 X.prog X.w X.K X.mg X.base (qg X.prog X.w) k f fd ps sp)(hr:iH (k+1) X.A)(hb:Binds X.K fd ps [])
  (I:L2.Inv X pins σ H s) (r:Vals vs us) (h:∀x dx,H x=none->H dx=none->dx≠x->sp (.ref x::vs) (upd (upd H dx (.own x)) x (.ins C dx [])) (fun v H2=>v = .cF/\Q (.ref x) H2) (E σ)) :
  wpAny (model X.prog X.w) X.A (call (.ref C) us) (EP X pins σ Q) (kI X E) s:=by
 have hq:=h (s.heap.objs.size+1) s.heap.objs.size (I.eE.fresh (Nat.le_succ _)) (I.eE.fresh (aC4 _)) (aE5 (Nat.lt_succ_self _))
 have I2:=Inv.made (C:=C) I
 have r2:Vals (V.ref (s.heap.objs.size+1)::vs) (Value.ref (s.heap.objs.size+1)::us):=.cons rfl r
 have hl:(Value.ref (s.heap.objs.size+1)::us++[]).length=ps.length:=by
  rw[aJ0,<- r2.length];exact F.len _ _ _ _ hq
 have UE:=hb _ (Value.ref (s.heap.objs.size+1)::us) I2.Ar hl
 rw[aJ0] at UE
 refine wpAny_call (GL (f:=f) I.Ar M.makes M.init (aF0.mp M.fn) (codeAny_mono (F.run _ X.stack _ _ ⟨Value.ref (s.heap.objs.size+1)::us,[]⟩ (Value.ref (s.heap.objs.size+1)::us) _ _ (E σ) (hr.make C us [])
  (I2.U5.make C us []) UE r2 hq) fun r s' RD=>?_))
 cases r with
 | error e=>exact AM I2 RD
 | ok fl=>
  cases fl with
  | ret u=>
   refine uS (I2.after RD) fun v H' I3 rv ev q3=>?_
   subst ev
   exact⟨rv,⟨V.ref (s.heap.objs.size+1),H',I3,rfl,q3⟩⟩
  | next=>exact False.elim RD
  | brk=>exact False.elim RD
  | cont=>exact False.elim RD
theorem Hi{k:Nat}{f:Addr}{fd:FuncData}{ps:List Str}{sp:Sp}{e:Expr}{es:List Expr}{t:TA}{p:Pos}(M:Mk X.K C f)(F:j7 X.prog X.w X.K X.mg X.base (qg X.prog X.w) k f fd ps sp)(hr:iH (k+1) X.A)(hg:Gl X x)(hm:X.mg x=some (.ref C))(hb:Binds X.K fd ps [])
  (ha:PA (X.dj (kI X E)) (e::es) t) (ET:(x==("__debug__" : Str))=false:=by decide) (he:starEach (e::es) X.env=(false,eval e X.env)::starEach es X.env:=by rfl) (vM:(backTo pos (starEach es X.env)).any (·.1)=false:=by rfl) :
  PE (X.dj (kI X E)) (.Call (.Name x p) (e::es) [] pos) (Ph C sp E t):=by
 walk_at"9"
 refine wpAny_Call_Name_kw (rL I hg hm ?_ ET)
 refine PySem.W.callWith_K (h₀:=X.base) I.ok.mod.Sd M.kp (fS (ha pos pins s σ H _ I h) fun us s1 yX=>yX.elim fun vs Cf=>Cf.elim fun H1 xF=>xF.elim fun I1 Cg=>Cg.elim fun r q=>⟨I1.Ar,?_⟩) he vM
 refine fS (F0 M F hr hb I1.gZ r q) fun u s2 Hj=>Hj.elim fun v Pj=>Pj.elim fun H2 Pn=>Pn.elim fun I2 Po=>Po.elim fun r2 q2=>⟨v,H2,I2.dj _,r2,q2⟩
theorem yo{P:Program}{w:World}{K:Frag}{mg:Str->Option Value}{base:Heap}{x qual:Str}{st:Stmt}{f:Addr}{fd:FuncData}{N ps:List Str}{k:Nat}{sp:Sp}(F:GW K x qual st f fd)(S:bA N ps (az st))(len:∀vs H Q E,sp vs H Q E->vs.length=ps.length)
  (AE:∀(f9:Value) (A:Around) (outer:List Env) (s:Shared) (H:Hp) (vs:List V) (Q:VK) (E:XK),iH k (A.deeper (envOfC qual (az st) s.heap.objs.size f f9))->sp vs H Q E->
   ∃t,uu ((qy (qg P w) P w K mg base N qual (az st) f f9 A outer s H E).dj (kI (qy (qg P w) P w K mg base N qual (az st) f f9 A outer s H E) fun _=>E)) (b9 st) t/\t { nx:=fun _ H'=>Q .cF H',rt:=Q } (start N vs) H) :
  j7 P w K mg base (qg P w) (k+1) f fd ps sp:=by
 refine Ol F.ex fun oc od kV doc pm an f9 ct Gg zo9 lk EF=>?_
 obtain rfl:=zo9
 refine U7 lk EF S len fun A outer s H vs Q E hr h=>?_
 refine aM (AE f9 A outer s H vs Q E hr h) fun t ht q=>?_
 refine⟨t,fun pins s' σ H' D I hw=>?_,q⟩
 exact aI3 (ht pins s' σ H' D (I.dj _) hw) (fun fl KG hs=>SP.gZ hs) fun e KG hs=>EY hs
end
end Dm
end UD
section UG
namespace Dm
open PySem PySem.Spec PyProof.Rows L2 PySem.W
section
variable {e:Addr}
def ClsAt(e:Addr)(cls:Value)(h:Heap):Prop:=∃o,h.get? e=some o/\o.cls=cls
end
end Dm
end UG
section ae8
namespace Dm
open PySem PySem.Spec PyProof.Rows L2 PySem.W PySem.Calls PySem.Builtin PySem.Builtin.ObjectAttr PySem.Builtin.Getset_descriptor
def Pp(e C dx:Addr)(h:Heap):Prop:=∃o,h.get? e=some o/\o.cls = .ref C/\o.dict=some dx/\∃vs,o.data = .fields vs
theorem Pp.at_{e C dx:Addr}{h:Heap}(p:Pp e C dx h):ClsAt e (.ref C) h:=by
 obtain ⟨o,h1,h2,_⟩:=p
 exact⟨o,h1,h2⟩
end Dm
end ae8
section ae9
namespace Dm
open PySem PyProof.Rows L2
inductive D where
 | cF | bl (b:Bool) | int (i:Int) | str (x:Str) | tup (ds:List D) | lst (ds:List D) | cu (t:Nat) (ds:List D)
mutual
def dep:D->Nat
 | .tup ds=>jm ds+1
 | .lst ds=>jm ds+1
 | .cu tb ds=>jm ds+2
 | _=>0
def jm:List D->Nat
 | []=>0
 | d::ds=>max (dep d) (jm ds)
end
theorem gJ:∀{ds:List D} {d:D},d∈ds->dep d<=jm ds
 | _::_,_,.head _=>Nat.le_max_left _ _
 | _::ds,_,.tail _ h=>aD5 (gJ h) (Nat.le_max_right _ _)
theorem rT{n:Nat}:∀{ds:List D},(∀d∈ds,dep d<=n)->jm ds<=n
 | [],_=>aI2 _
 | d::ds,h=>Nat.max_le.mpr ⟨h d (.head _),rT fun x hx=>h x (.tail _ hx)⟩
mutual
def gq:D->D->Bool
 | .cF,.cF=>true
 | .bl a,.bl b=>a==b
 | .bl a,.int j=>(if a then 1 else 0)==j
 | .int i,.bl b=>i==(if b then 1 else 0)
 | .int i,.int j=>i==j
 | .str x,.str y=>x==y
 | .tup xs,.tup ys=>cY xs ys
 | .lst xs,.lst ys=>cY xs ys
 | _,_=>false
def cY:List D->List D->Bool
 | [],[]=>true
 | x::xs,y::ys=>gq x y&&cY xs ys
 | _,_=>false
end
theorem AO:∀{xs ys:List D},cY xs ys=true->xs.length=ys.length
 | [],[],_=>rfl
 | [],_::_,h=>by simp[cY] at h
 | _::_,[],h=>by simp[cY] at h
 | x::xs,y::ys,h=>by
  rw[cY,aD4] at h
  rw[aD1,aD1,AO h.2]
theorem AQ:∀{xs ys:List D},xs.length=ys.length->cY xs ys=(List.range xs.length).all fun j=>gq (xs.getD j .cF) (ys.getD j .cF)
 | [],[],_=>rfl
 | x::xs,y::ys,h=>by
  rw[cY,AQ (xs:=xs) (ys:=ys) (by simpa using h),aD1,List.range_succ_eq_map,List.all_cons,List.all_map]
  rfl
mutual
def flat:D->Bool
 | .tup ds=>bL ds
 | .lst ds=>bL ds
 | .cu _ _=>false
 | _=>true
def bL:List D->Bool
 | []=>true
 | d::ds=>flat d&&bL ds
end
theorem cR:∀{ds:List D} {d:D},bL ds=true->d∈ds->flat d=true
 | _::_,_,h,.head _=>by rw[bL,aD4] at h;exact h.1
 | _::ds,_,h,.tail _ m=>by rw[bL,aD4] at h;exact cR h.2 m
theorem gv:∀{ds:List D},(∀d∈ds,flat d=true)->bL ds=true
 | [],_=>rfl
 | d::ds,h=>by rw[bL,aD4];exact⟨h d (.head _),gv fun x hx=>h x (.tail _ hx)⟩
mutual
def dO(h:Heap):D->Value->Prop
 | .cF,v=>v = .none
 | .bl b,v=>v = .bool b
 | .int i,v=>∃t,v = .int i t
 | .str x,v=>∃t,v = .str x t
 | .tup ds,v=>∃a items,v = .ref a/\IsTup h a items/\bh h ds items.toList
 | .lst ds,v=>∃a items,v = .ref a/\PlainL h a items/\bh h ds items.toList
 | .cu _ _,_=>False
def bh(h:Heap):List D->List Value->Prop
 | [],vs=>vs=[]
 | d::ds,vs=>∃v r,vs=v::r/\dO h d v/\bh h ds r
end
theorem bh.len{h:Heap}:∀{ds:List D} {vs:List Value},bh h ds vs->vs.length=ds.length
 | [],_,e=>by rw[bh] at e;subst e;rfl
 | d::ds,_,e=>by
  rw[bh] at e
  obtain ⟨v,r,rfl,_,q⟩:=e
  rw[aD1,aD1,q.len]
theorem bh.get{h:Heap}:∀{ds:List D} {vs:List Value} (j:Nat) (hj:j < vs.length),bh h ds vs->dO h (ds.getD j .cF) vs[j]/\ds.getD j .cF∈ds
 | [],_,j,hj,e=>by rw[bh] at e;subst e;exact absurd hj (aH7 _)
 | d::ds,_,j,hj,e=>by
  rw[bh] at e
  obtain ⟨v,r,rfl,q1,q⟩:=e
  cases j with
  | zero=>exact⟨q1,.head _⟩
  | succ j=>
   obtain ⟨a,b⟩:=q.get j (by simpa using hj)
   exact⟨by simpa using a,by simpa using .inr b⟩
mutual
theorem Hl:∀d:D,flat d=true->gq d d=true
 | .cF,_=>by rw[gq]
 | .bl b,_=>by rw[gq];exact beq_self_eq_true b
 | .int i,_=>by rw[gq];exact beq_self_eq_true i
 | .str x,_=>by rw[gq];exact beq_self_eq_true x
 | .tup xs,h=>by rw[gq];rw[flat] at h;exact lT xs h
 | .lst xs,h=>by rw[gq];rw[flat] at h;exact lT xs h
 | .cu tb xs,h=>by rw[flat] at h;cases h
theorem lT:∀ds:List D,bL ds=true->cY ds ds=true
 | [],_=>by rw[cY]
 | d::ds,h=>by
  rw[bL,aD4] at h
  rw[cY,Hl d h.1,lT ds h.2];rfl
end
inductive Vw(h:Heap):D->Value->Prop
 | cF:Vw h .cF .none
 | bl (b:Bool):Vw h (.bl b) (.bool b)
 | int (i:Int) (t:Tok):Vw h (.int i) (.int i t)
 | str (x:Str) (t:Tok):Vw h (.str x) (.str x t)
 | tup {ds:List D} {a:Addr} {bf:Array Value} (q:IsTup h a bf) (p:bh h ds bf.toList):Vw h (.tup ds) (.ref a)
 | lst {ds:List D} {a:Addr} {bf:Array Value} (q:PlainL h a bf) (p:bh h ds bf.toList):Vw h (.lst ds) (.ref a)
theorem vw{h:Heap}{d:D}{u:Value}(x:dO h d u):Vw h d u:=by
 cases d with
 | cF=>rw[dO] at x;subst x;exact .cF
 | bl b=>rw[dO] at x;subst x;exact .bl b
 | int i=>rw[dO] at x;obtain ⟨t,rfl⟩:=x;exact .int i t
 | str y=>rw[dO] at x;obtain ⟨t,rfl⟩:=x;exact .str y t
 | tup ds=>rw[dO] at x;obtain ⟨a,bf,rfl,q,p⟩:=x;exact .tup q p
 | lst ds=>rw[dO] at x;obtain ⟨a,bf,rfl,q,p⟩:=x;exact .lst q p
 | cu _ _=>rw[dO] at x;exact x.elim
theorem bh.inj{h:Heap}{ds es:List D}{vs:List Value}(H:∀d∈ds,∀(e:D) (v:Value),dO h d v->dO h e v->d=e)(x:bh h ds vs)(y:bh h es vs):ds=es:=by
 induction ds generalizing es vs with
 | nil=>
  rw[bh] at x
  subst x
  cases es with
  | nil=>rfl
  | cons e es=>rw[bh] at y;obtain ⟨_,_,z,_⟩:=y;cases z
 | cons d ds ih=>
  rw[bh] at x
  obtain ⟨v,r,rfl,p1,p2⟩:=x
  cases es with
  | nil=>rw[bh] at y;cases y
  | cons e es=>
   rw[bh] at y
   obtain ⟨v',r',z,q1,q2⟩:=y
   cases z
   rw[H d (.head _) e v p1 q1,ih (fun d hd=>H d (.tail _ hd)) p2 q2]
theorem dO.inj{h:Heap}(d e:D){v:Value}(hu:dO h d v)(hv:dO h e v):d=e:=by
 generalize hn:dep d=n
 induction n using Nat.strongRecOn generalizing d e v with
 | ind n ih=>
 have x:=vw hu
 have y:=vw hv
 clear hu hv
 cases x with
 | cF=>cases y;rfl
 | bl b=>cases y;rfl
 | int i t=>cases y;rfl
 | str s t=>cases y;rfl
 | tup q p=>
  rw[dep] at hn
  cases y with
  | tup q' p'=>
   obtain ⟨o1,q1,_,n1,d1⟩:=q
   obtain ⟨o2,q2,_,n2,d2⟩:=q'
   obtain rfl:=aE1 (q1.symm.trans q2)
   rw[d1] at d2
   cases d2
   rw[bh.inj (fun d hd e v a b=>ih _ (by have:=gJ hd;lia) d e a b rfl) p p']
  | lst q' p'=>
   obtain ⟨o1,q1,c1,_⟩:=q
   obtain ⟨o2,n2,q2,c2,_⟩:=q'
   obtain rfl:=aE1 (q1.symm.trans q2)
   rw[c1] at c2
   exact absurd c2 (by decide)
 | lst q p=>
  rw[dep] at hn
  cases y with
  | tup q' p'=>
   obtain ⟨o2,n2,q2,c2,_⟩:=q
   obtain ⟨o1,q1,c1,_⟩:=q'
   obtain rfl:=aE1 (q1.symm.trans q2)
   rw[c1] at c2
   exact absurd c2 (by decide)
  | lst q' p'=>
   obtain ⟨o1,n1,q1,_,_,d1⟩:=q
   obtain ⟨o2,n2,q2,_,_,d2⟩:=q'
   obtain rfl:=aE1 (q1.symm.trans q2)
   rw[d1] at d2
   cases d2
   rw[bh.inj (fun d hd e v a b=>ih _ (by have:=gJ hd;lia) d e a b rfl) p p']
open PySem.SeqAt
section
variable {s:Shared}
theorem aJ{h:Heap}{a:Addr}{items:Array Value}(x:IsTup h a items):h.IsTuple a items:=by
 obtain ⟨o,h1,h2,n,h3⟩:=x
 exact⟨o,h1,h2,n,h3⟩
theorem lU{A:Around}{xs ys:List D}{bf kr:Array Value}(pu:bh s.heap xs bf.toList)(pv:bh s.heap ys kr.toList)(h:∀(x y:D) (u v:Value),x∈xs->y∈ys->dO s.heap x u->dO s.heap y v->EqAt A s u v (gq x y)):∀j (h1:j < bf.size) (h2:j < kr.size),EqAt A s bf[j] kr[j] (gq (xs.getD j .cF) (ys.getD j .cF)):=fun j h1 h2=>by
 obtain ⟨g1,m1⟩:=pu.get j (by rw[aC9];exact h1)
 obtain ⟨g2,m2⟩:=pv.get j (by rw[aC9];exact h2)
 rw[Array.getElem_toList] at g1 g2
 exact h _ _ _ _ m1 m2 g1 g2
theorem vQ{xs ys:List D}{bf kr:Array Value}(pu:bh s.heap xs bf.toList)(pv:bh s.heap ys kr.toList):((List.range (min bf.size kr.size)).all (fun j=>gq (xs.getD j .cF) (ys.getD j .cF))&&(bf.size==kr.size))=cY xs ys:=by
 have lu:bf.size=xs.length:=by rw[<- aC9];exact pu.len
 have lv:kr.size=ys.length:=by rw[<- aC9];exact pv.len
 by_cases hl:bf.size=kr.size
 ·rw[<- hl,Nat.min_self,beq_self_eq_true,Bool.and_true,lu,<- AQ (lu.symm.trans (hl.trans lv))]
 ·rw[aI1.mpr hl,Bool.and_false]
  exact(Bool.eq_false_iff.mpr fun z=>hl (by rw[lu,lv];exact AO z)).symm
theorem Ci{xs ys:List D}{bf kr:Array Value}(pu:bh s.heap xs bf.toList)(pv:bh s.heap ys kr.toList)(hl:bf.size=kr.size):(List.range bf.size).all (fun j=>gq (xs.getD j .cF) (ys.getD j .cF))=cY xs ys:=by
 rw[<- vQ pu pv,<- hl,Nat.min_self,beq_self_eq_true,Bool.and_true]
theorem Cj{xs ys:List D}{bf kr:Array Value}(pu:bh s.heap xs bf.toList)(pv:bh s.heap ys kr.toList)(hl:¬ bf.size=kr.size):false=cY xs ys:=by
 rw[<- vQ pu pv,aI1.mpr hl,Bool.and_false]
theorem L1{A:Around}{d e:D}{u v:Value}{n:Nat}(x:Vw s.heap d u)(y:Vw s.heap e v)(fH:A.units < cLine)(hn:dep d=n)(fx:flat d=true)(fy:flat e=true)
  (ht:∀{xs ys:List D} {a b:Addr} {bf kr:Array Value},dep (.tup xs)=n->bL xs=true->bL ys=true->IsTup s.heap a bf->bh s.heap xs bf.toList->IsTup s.heap b kr->bh s.heap ys kr.toList->EqAt A s (.ref a) (.ref b) (cY xs ys))
  (hl:∀{xs ys:List D} {a b:Addr} {bf kr:Array Value},dep (.lst xs)=n->bL xs=true->bL ys=true->PlainL s.heap a bf->bh s.heap xs bf.toList->PlainL s.heap b kr->bh s.heap ys kr.toList->EqAt A s (.ref a) (.ref b) (cY xs ys)):EqAt A s u v (gq d e):=by
 cases x with
 | cF=>
  cases y with
  | cF=>exact EqAt.same _
  | bl c=>exact EqAt.none_bool c
  | int j r=>exact EqAt.none_int j r
  | str y r=>exact EqAt.none_str y r
  | tup q' p'=>exact EqAt.none_tuple (aJ q') fH
  | lst q' p'=>exact EqAt.none_list q'.isList fH
 | bl b=>
  cases y with
  | cF=>exact EqAt.bool_none b
  | bl c=>exact EqAt.bool_bool b c
  | int j r=>exact EqAt.bool_int b j r
  | str y r=>exact EqAt.bool_str b y r
  | tup q' p'=>exact EqAt.bool_tuple b (aJ q') fH
  | lst q' p'=>exact EqAt.bool_list b q'.isList fH
 | int i t=>
  cases y with
  | cF=>exact EqAt.int_none i t
  | bl c=>exact EqAt.int_bool i t c
  | int j r=>exact EqAt.int_int i t j r
  | str y r=>exact EqAt.int_str i t y r
  | tup q' p'=>exact EqAt.int_tuple i t (aJ q') fH
  | lst q' p'=>exact EqAt.int_list i t q'.isList fH
 | str x t=>
  cases y with
  | cF=>exact EqAt.str_none x t
  | bl c=>exact EqAt.str_bool x t c
  | int j r=>exact EqAt.str_int x t j r
  | str y r=>exact EqAt.str_str x t y r
  | tup q' p'=>exact EqAt.str_tuple x t (aJ q') fH
  | lst q' p'=>exact EqAt.str_list x t q'.isList fH
 | tup q p=>
  cases y with
  | cF=>exact EqAt.tuple_none (aJ q) fH
  | bl c=>exact EqAt.tuple_bool c (aJ q) fH
  | int j r=>exact EqAt.tuple_int j r (aJ q) fH
  | str y r=>exact EqAt.tuple_str y r (aJ q) fH
  | tup q' p'=>exact ht hn (by rw[flat] at fx;exact fx) (by rw[flat] at fy;exact fy) q p q' p'
  | lst q' p'=>exact EqAt.tuple_list (aJ q) q'.isList fH
 | lst q p=>
  cases y with
  | cF=>exact EqAt.list_none q.isList fH
  | bl c=>exact EqAt.list_bool c q.isList fH
  | int j r=>exact EqAt.list_int j r q.isList fH
  | str y r=>exact EqAt.list_str y r q.isList fH
  | tup q' p'=>exact EqAt.list_tuple q.isList (aJ q') fH
  | lst q' p'=>exact hl hn (by rw[flat] at fx;exact fx) (by rw[flat] at fy;exact fy) q p q' p'
theorem oH(d e:D){A:Around}{u v:Value}(fx:flat d=true)(fy:flat e=true)(hu:dO s.heap d u)(hv:dO s.heap e v)(hr:A.units+dep d < cLine):EqAt A s u v (gq d e):=by
 generalize hn:dep d=n at hr
 induction n using Nat.strongRecOn generalizing d e A u v with
 | ind n ih=>
 walk_at"W"
 refine L1 (vw hu) (vw hv) fH hn fx fy (fun {xs ys a b bf kr} hn fx fy q p q' p'=>?_) (fun {xs ys a b bf kr} hn fx fy q p q' p'=>?_)
 ·by_cases uy:a=b
  ·subst uy
   have e:D.tup xs=D.tup ys:=dO.inj (h:=s.heap) _ _ (v:=.ref a) (by rw[dO];exact⟨a,bf,rfl,q,p⟩) (by rw[dO];exact⟨a,kr,rfl,q',p'⟩)
   obtain rfl:xs=ys:=by injection e
   rw[lT xs fx]
   exact EqAt.same _
  ·rw[<- vQ p p']
   exact EqAt.of_refs uy (RcAt.tuples (aJ q) (aJ q') fH (lU p p' fun x y u v m1 m2 g1 g2=>ih _ (by rw[<- hn,dep];have:=gJ m1;lia) _ _ (cR fx m1) (cR fy m2) g1 g2 rfl (by show A.units+1+_ < _;rw[<- hn,dep] at hr;have:=gJ m1;lia)))
 ·by_cases uy:a=b
  ·subst uy
   have e:D.lst xs=D.lst ys:=dO.inj (h:=s.heap) _ _ (v:=.ref a) (by rw[dO];exact⟨a,bf,rfl,q,p⟩) (by rw[dO];exact⟨a,kr,rfl,q',p'⟩)
   obtain rfl:xs=ys:=by injection e
   rw[lT xs fx]
   exact EqAt.same _
  ·refine EqAt.of_refs uy ?_
   by_cases hl:bf.size=kr.size
   ·rw[<- Ci p p' hl]
    exact RcAt.lists q.isList q'.isList hl fH (lU p p' fun x y u v m1 m2 g1 g2=>ih _ (by rw[<- hn,dep];have:=gJ m1;lia) _ _ (cR fx m1) (cR fy m2) g1 g2 rfl (by show A.units+1+_ < _;rw[<- hn,dep] at hr;have:=gJ m1;lia))
   ·rw[<- Cj p p' hl]
    exact RcAt.lists_lengths q.isList q'.isList (by simpa using hl) fH
end
end Dm
end ae9
section UH
namespace Sg
open PySem PySem.W PyProof.Rows
noncomputable section
def gal:Bool->Keyed->Array Keyed->Nat->Nat->Nat->StateT SortSt Sem (Option Nat):=sortPriv% PySem.Builtin.gallop
def mlo:Array Keyed->Array Keyed->StateT SortSt Sem (Array Keyed):=sortPriv% PySem.Builtin.mergeLo
def mhi:Array Keyed->Array Keyed->StateT SortSt Sem (Array Keyed):=sortPriv% PySem.Builtin.mergeHi
def smg:Nat->StateT SortSt Sem Unit:=sortPriv% PySem.Builtin.setMinGallop
def Cm(prog:Program)(w:World)(A:Around)(s:Shared)(kd:SortKind)(f:Nat->Keyed)(n:Nat)(r:Nat->Nat):Prop:=
 ∀i j C,i < n->j < n->C (decide (r i < r j)) s->wpAny (model prog w) A (keyLt' kd (f i).1 (f j).1) C (fun _ _=>False) s
section
variable {prog:Program}{w:World}{A:Around}{E:Value->Shared->Prop}{s:Shared}{kd:SortKind}{f:Nat->Keyed}{n:Nat}{r:Nat->Nat}{st:SortSt}
theorem AR{i j:Nat}{Q:Option Bool->SortSt->Prop}(hc:Cm prog w A s kd f n r)(hk:kindOf st=kd)(hi:i < n)(hj:j < n)(h:Q (some (decide (r i < r j))) st):wpS (model prog w) A E s (lt' (f i) (f j)) Q st:=by
 rw[lt'_eq]
 refine aC7 (wpS_get ?_)
 rw[hk]
 refine aC7 (wpS_lift (wpAny_attempt (aI3 (hc i j (fun c s'=>s'=s/\c=decide (r i < r j)) hi hj ⟨rfl,rfl⟩) (fun c s' z=>?_) fun _ _ z=>z.elim)))
 obtain ⟨rfl,rfl⟩:=z
 exact⟨rfl,aD3 h⟩
def arr(f:Nat->Keyed)(X:List Nat):Array Keyed:=(X.map f).toArray
theorem bO(X:List Nat):(arr f X).size=X.length:=by simp[arr]
theorem fE(X:List Nat)(i j:Nat):(arr f X).extract i j=arr f (X.extract i j):=by simp[arr,aD8,List.map_take,List.map_drop]
theorem dR(X:List Nat)(x:Nat):(arr f X).push (f x)=arr f (X++[x]):=by simp[arr]
theorem gK(X Y:List Nat):arr f X++arr f Y=arr f (X++Y):=by simp[arr]
theorem v9(X:List Nat):(arr f X).reverse=arr f X.reverse:=by simp[arr]
theorem cy{X:List Nat}{i x:Nat}{Q:Keyed->SortSt->Prop}(hi:X[i]?=some x)(h:Q (f x) st):wpS (model prog w) A E s (elem' (arr f X) i) Q st:=by
 rw[elem'_eq]
 have:(arr f X)[i]?=some (f x):=by simp[arr,hi]
 rw[this]
 exact aD3 h
theorem za{g:Nat}{Q:Unit->SortSt->Prop}(h:Q () (SortSt.mk' (kindOf st) (arrOf st) (pendingOf st) g (failedOf st))):wpS (model prog w) A E s (smg g) Q st:=wpS_modify h
def bey(left:Bool)(key:Keyed)(a:Array Keyed)(b i:Nat):StateT SortSt Sem (Option Bool):=
 elem' a (b+i)>>=fun x=>ite (left=true) (lt' x key) (lt' key x>>=fun c=>pure (c.map not))
def lk(r:Nat->Nat)(left:Bool)(key x:Nat):Bool:=if left then decide (r x < r key) else !decide (r key < r x)
theorem Pq{left:Bool}{key:Nat}{X:List Nat}{b i x:Nat}{Q:Option Bool->SortSt->Prop}(hc:Cm prog w A s kd f n r)(hk:kindOf st=kd)(hX:∀x∈X,x < n)(EN:key < n)(hi:X[b+i]?=some x)(h:Q (some (lk r left key x)) st) :
  wpS (model prog w) A E s (bey left (f key) (arr f X) b i) Q st:=by
 unfold bey
 have hx:x < n:=hX x (aG7 hi)
 refine aC7 (cy hi ?_)
 cases left with
 | true=>rw[aC2 rfl];exact AR hc hk hx EN (by simpa[lk] using h)
 | false=>rw[aC3 (by simp)];exact aC7 (AR hc hk EN hx (aD3 (by simpa[lk] using h)))
section
variable {B:Nat->Bool}{m:Nat}{Q:Option (Option Nat)×Nat×Nat->SortSt->Prop}{g:Nat->Option (Option Nat)×Nat×Nat->StateT SortSt Sem (ForInStep (Option (Option Nat)×Nat×Nat))}
theorem NO(mono:∀i j,i<=j->j < m->B j=true->B i=true){lo hi:Nat}
  (hg:∀x lo hi (Q:_->SortSt->Prop),lo<=hi->hi<=m->(lo ≥ hi->Q (.done (none,lo,hi)) st)->(lo < hi->B (lo+(hi - lo) / 2)=true->Q (.yield (none,lo+(hi - lo) / 2+1,hi)) st)->(lo < hi->B (lo+(hi - lo) / 2)=false->Q (.yield (none,lo,lo+(hi - lo) / 2)) st)->wpS (model prog w) A E s (g x (none,lo,hi)) Q st)
  (h1:lo<=hi) (h2:hi<=m) (hlo:∀i,i < lo->B i=true) (hhi:∀i,hi<=i->i < m->B i=false)
  (h:∀k,k<=m->(∀i,i < k->B i=true)->(∀i,k<=i->i < m->B i=false)->Q (none,k,k) st):wpS (model prog w) A E s (forIn [0:m] (none,lo,hi) g) Q st:=by
 refine aI6 (I:=fun x c st'=>st'=st/\∃lo hi,c=(none,lo,hi)/\lo<=hi/\hi<=m/\hi - lo<=m - x/\(∀i,i < lo->B i=true)/\(∀i,hi<=i->i < m->B i=false)) ?step ?fin ⟨rfl,lo,hi,rfl,h1,h2,by lia,hlo,hhi⟩
 case fin=>
  rintro c st' ⟨rfl,lo,hi,rfl,a1,a2,a3,a4,a5⟩
  have:lo=hi:=by lia
  subst this
  exact h lo a2 a4 a5
 case step=>
  rintro x c st' _ hx ⟨rfl,lo,hi,rfl,a1,a2,a3,a4,a5⟩
  refine hg x lo hi _ a1 a2 (fun z=>?_) (fun z b=>?_) fun z b=>?_
  ·have:lo=hi:=by lia
   subst this
   exact h lo a2 a4 a5
  ·exact⟨rfl,_,_,rfl,by lia,a2,by lia,fun i Pr=>mono i _ (by lia) (by lia) b,a5⟩
  ·refine⟨rfl,_,_,rfl,by lia,by lia,by lia,a4,fun i h1 h2=>?_⟩
   cases q:B i with
   | false=>rfl
   | true=>rw[mono _ i h1 h2 q] at b;cases b
theorem NP{D:Nat->Bool}{mx:Nat}(hmx:mx<=m)
  (hg:∀x l o (Q:_->SortSt->Prop),1<=o->(o ≥ mx->Q (.done (none,l,o)) st)->(o < mx->D o=false->Q (.done (none,l,o)) st)->(o < mx->D o=true->Q (.yield (none,o,2 * o+1)) st)->wpS (model prog w) A E s (g x (none,l,o)) Q st)
  (h0:D 0=true) (hm:0 < mx)
  (h:∀l o,l < o->l < mx->D l=true->(o ≥ mx\/D o=false)->Q (none,l,o) st):wpS (model prog w) A E s (forIn [0:m] (none,0,1) g) Q st:=by
 refine aI6 (I:=fun x c st'=>st'=st/\∃l o,c=(none,l,o)/\l < o/\x+1<=o/\l < mx/\D l=true) ?step ?fin ⟨rfl,0,1,rfl,by lia,by lia,hm,h0⟩
 case fin=>
  rintro c st' ⟨rfl,l,o,rfl,a1,a2,a3,a4⟩
  exact h l o a1 a3 a4 (.inl (by lia))
 case step=>
  rintro x c st' _ hx ⟨rfl,l,o,rfl,a1,a2,a3,a4⟩
  refine hg x l o _ (by lia) (fun z=>h l o a1 a3 a4 (.inl z)) (fun z b=>h l o a1 a3 a4 (.inr b)) fun z b=>⟨rfl,o,2 * o+1,rfl,by lia,by lia,z,b⟩
end
theorem tG{left:Bool}{key:Nat}{X:List Nat}{b m hint:Nat}{Q:Option Nat->SortSt->Prop}(hc:Cm prog w A s kd f n r)(hk:kindOf st=kd)(hX:∀x∈X,x < n)(EN:key < n)(hm:b+m<=X.length)(hh:hint < m)
  (mono:∀i j,i<=j->j < m->lk r left key (X.getD (b+j) 0)=true->lk r left key (X.getD (b+i) 0)=true)
  (h:∀k,k<=m->(∀i,i < k->lk r left key (X.getD (b+i) 0)=true)->(∀i,k<=i->i < m->lk r left key (X.getD (b+i) 0)=false)->Q (some k) st) :
  wpS (model prog w) A E s (gal left (f key) (arr f X) b m hint) Q st:=by
 have look:∀{i:Nat} {Q:Option Bool->SortSt->Prop},i < m->Q (some (lk r left key (X.getD (b+i) 0))) st->wpS (model prog w) A E s (bey left (f key) (arr f X) b i) Q st:=fun {i Q} hi q=>by
  have e:X[b+i]?=some (X.getD (b+i) 0):=by
   have:b+i < X.length:=by lia
   simp[this]
  exact Pq hc hk hX EN e q
 generalize hB:(fun i=>lk r left key (X.getD (b+i) 0))=B at *
 have hB':∀i,lk r left key (X.getD (b+i) 0)=B i:=fun i=>by rw[<- hB]
 simp only[hB'] at mono h look
 have step:∀{Q:Option (Option Nat)×Nat×Nat->SortSt->Prop} {g:Nat->Option (Option Nat)×Nat×Nat->StateT SortSt Sem (ForInStep (Option (Option Nat)×Nat×Nat))},True:=fun {_ _}=>trivial
 refine aC7 (look hh ?_)
 cases hr:B hint with
 | true=>
  dsimp only
  rw[aC2 rfl]
  refine aC7 (NP (m:=m) (D:=fun o=>B (hint+o)) (mx:=m - hint) (by lia) (fun x l o Q ho q1 q2 q3=>?_) hr (by lia) fun l o a1 a2 a3 a4=>?_)
  ·dsimp only
   by_cases z:o ≥ m - hint
   ·rw[aC2 z];exact aD3 (q1 z)
   ·rw[aC3 z]
    refine aC7 (look (i:=hint+o) (by lia) ?_)
    cases q:B (hint+o) with
    | true=>simp only[Bool.not_true,aE0,if_false];exact aD3 (q3 (by lia) q)
    | false=>simp only[Bool.not_false,if_true];exact aD3 (q2 (by lia) q)
  ·dsimp only
   refine aC7 (NO (m:=m) mono (fun x lo hi Q g1 g2 q1 q2 q3=>?_) (by lia) (by lia) (fun i hi=>mono i (hint+l) (by lia) (by lia) a3) (fun i h1 h2=>?_) fun k k1 k2 k3=>aD3 (h k k1 k2 k3))
   ·dsimp only
    by_cases z:lo ≥ hi
    ·rw[aC2 z];exact aD3 (q1 z)
    ·rw[aC3 z]
     refine aC7 (look (i:=lo+(hi - lo) / 2) (by lia) ?_)
     cases q:B (lo+(hi - lo) / 2) with
     | true=>dsimp only;rw[if_pos rfl];exact wpS_pure (q2 (by lia) q)
     | false=>dsimp only;rw[if_neg (by simp)];exact wpS_pure (q3 (by lia) q)
   ·rcases a4 with a4 | a4
    ·lia
    ·cases q:B i with
     | false=>rfl
     | true=>rw[mono (hint+o) i (by lia) h2 q] at a4;cases a4
 | false=>
  dsimp only
  rw[aC3 (by simp)]
  refine aC7 (NP (m:=m) (D:=fun o=>!B (hint - o)) (mx:=hint+1) (by lia) (fun x l o Q ho q1 q2 q3=>?_) (by simp[hr]) (by lia) fun l o a1 a2 a3 a4=>?_)
  ·dsimp only
   by_cases z:o ≥ hint+1
   ·rw[aC2 z];exact aD3 (q1 z)
   ·rw[aC3 z]
    refine aC7 (look (i:=hint - o) (by lia) ?_)
    cases q:B (hint - o) with
    | true=>dsimp only;rw[if_pos rfl];exact wpS_pure (q2 (by lia) (by simp[q]))
    | false=>dsimp only;rw[if_neg (by simp)];exact wpS_pure (q3 (by lia) (by simp[q]))
  ·dsimp only
   have a3:B (hint - l)=false:=by simpa using a3
   refine aC7 (NO (m:=m) mono (fun x lo hi Q g1 g2 q1 q2 q3=>?_) (by lia) (by lia) (fun i hi=>?_) (fun i h1 h2=>?_) fun k k1 k2 k3=>aD3 (h k k1 k2 k3))
   ·dsimp only
    by_cases z:lo ≥ hi
    ·rw[aC2 z];exact aD3 (q1 z)
    ·rw[aC3 z]
     refine aC7 (look (i:=lo+(hi - lo) / 2) (by lia) ?_)
     cases q:B (lo+(hi - lo) / 2) with
     | true=>dsimp only;rw[if_pos rfl];exact wpS_pure (q2 (by lia) q)
     | false=>dsimp only;rw[if_neg (by simp)];exact wpS_pure (q3 (by lia) q)
   ·rcases a4 with a4 | a4
    ·lia
    ·have a4:B (hint - o)=true:=by simpa using a4
     by_cases z:o<=hint
     ·exact mono i (hint - o) (by lia) (by lia) a4
     ·lia
   ·cases q:B i with
    | false=>rfl
    | true=>rw[mono (hint - l) i h1 h2 q] at a3;cases a3
end
end
end Sg
end UH
section UI
namespace Sg
open PySem PySem.W PyProof.Rows
noncomputable section
structure MI(le:Nat->Nat->Prop)(T O xs ys:List Nat):Prop where
 pm:(O++(xs++ys)).Perm T
 so:O.Pairwise le
 sx:xs.Pairwise le
 sy:ys.Pairwise le
 ox:∀o∈O,∀x∈xs,le o x
 oy:∀o∈O,∀y∈ys,le o y
def Dn(le:Nat->Nat->Prop)(T Z:List Nat):Prop:=Z.Perm T/\Z.Pairwise le
section
variable {le:Nat->Nat->Prop}{T O xs ys u:List Nat}
theorem MI.tx(h:MI le T O (u++xs) ys)(hu:∀x∈u,∀y∈ys,le x y):MI le T (O++u) xs ys:=by
 have sx:=List.pairwise_append.mp h.sx
 refine⟨by have:=h.pm;simpa[aF3] using this,List.pairwise_append.mpr ⟨h.so,sx.1,fun o ho x hx=>h.ox o ho x (List.mem_append_left _ hx)⟩,sx.2.1,h.sy,fun o ho x hx=>?_,fun o ho y hy=>?_⟩
 ·rcases aF9.mp ho with ho | ho
  ·exact h.ox o ho x (aF7 _ hx)
  ·exact sx.2.2 o ho x hx
 ·rcases aF9.mp ho with ho | ho
  ·exact h.oy o ho y hy
  ·exact hu o ho y hy
theorem MI.swap(h:MI le T O xs ys):MI le T O ys xs:=⟨(List.Perm.append_left O List.perm_append_comm).trans h.pm,h.so,h.sy,h.sx,h.oy,h.ox⟩
theorem MI.ty(h:MI le T O xs (u++ys))(hu:∀y∈u,∀x∈xs,le y x):MI le T (O++u) xs ys:=(h.swap.tx hu).swap
theorem MI.fin(h:MI le T O xs ys)(hu:∀x∈xs,∀y∈ys,le x y):Dn le T (O++xs++ys):=
 ⟨by rw[aF3];exact h.pm,List.pairwise_append.mpr ⟨List.pairwise_append.mpr ⟨h.so,h.sx,h.ox⟩,h.sy,fun o ho y hy=>by
  rcases aF9.mp ho with ho | ho
  ·exact h.oy o ho y hy
  ·exact hu o ho y hy⟩⟩
theorem MI.UJ(h:MI le T O xs ys)(hu:∀y∈ys,∀x∈xs,le y x):Dn le T (O++ys++xs):=h.swap.fin hu
end
section
variable {r:Nat->Nat}
abbrev Le(r:Nat->Nat):Nat->Nat->Prop:=fun a b=>r a<=r b
theorem i0{X:List Nat}(h:X.Pairwise (Le r)){i j:Nat}(oq:i<=j)(hj:j < X.length):r (X.getD i 0)<=r (X.getD j 0):=by
 have e:∀k (hk:k < X.length),X.getD k 0=X[k]:=fun k hk=>by simp[hk]
 rw[e i (by lia),e j hj]
 by_cases c:i=j
 ·subst c;exact aC4 _
 ·exact List.pairwise_iff_getElem.mp h i j (by lia) hj (by lia)
theorem Dw{X:List Nat}{i:Nat}(h:i < X.length):X.drop i=X.getD i 0::X.drop (i+1):=by
 rw[List.drop_eq_getElem_cons h];simp[h]
theorem i6{X:List Nat}{i x:Nat}(h:x∈X.drop i):∃j,i<=j/\j < X.length/\x=X.getD j 0:=by
 obtain ⟨k,hk,e⟩:=aF6.mp h
 rw[List.length_drop] at hk
 exact⟨i+k,by lia,by lia,by rw[<- e];simp[show i+k < X.length by lia]⟩
theorem Dy{X:List Nat}{i k x:Nat}(hk:i+k<=X.length)(h:x∈X.extract i (i+k)):∃j,j < k/\x=X.getD (i+j) 0:=by
 obtain ⟨q,hq,e⟩:=aF6.mp h
 have:q < k:=by simp[aD8] at hq;lia
 refine⟨q,this,?_⟩
 rw[<- e]
 simp[aD8,show i+q < X.length by lia]
theorem vR{X:List Nat}{i k:Nat}:X.drop i=X.extract i (i+k)++X.drop (i+k):=by
 rw[aD8,show i+k - i=k by lia,<- List.drop_drop,aI4]
theorem vc{X:List Nat}{i:Nat}:X.extract i X.length=X.drop i:=by
 rw[aD8,List.take_of_length_le (by simp)]
theorem get_some{X:List Nat}{i:Nat}(h:i < X.length):X[i]?=some (X.getD i 0):=by simp[h]
theorem get_mem{X:List Nat}{i:Nat}(h:i < X.length):X.getD i 0∈X:=aG7 (get_some h)
structure LI(r:Nat->Nat)(X Y O:List Nat)(ia ib:Nat):Prop where
 a:ia+1 < X.length
 b:ib < Y.length
 l:O.length=ia+ib
 m:MI (Le r) (X++Y) O (X.drop ia) (Y.drop ib)
end
def aB(st st':SortSt):Prop:=∃g,st'=SortSt.mk' (kindOf st) (arrOf st) (pendingOf st) g (failedOf st)
theorem aB.refl(st:SortSt):aB st st:=⟨gallopOf st,rfl⟩
theorem aB.kd{st st':SortSt}(h:aB st st'):kindOf st'=kindOf st:=by obtain ⟨g,rfl⟩:=h;rfl
theorem aB.mg{st st':SortSt}(h:aB st st')(g:Nat):aB st (SortSt.mk' (kindOf st') (arrOf st') (pendingOf st') g (failedOf st')):=by obtain ⟨g',rfl⟩:=h;exact⟨g,rfl⟩
section
variable {prog:Program}{w:World}{A:Around}{E:Value->Shared->Prop}{s:Shared}{kd:SortKind}{f:Nat->Keyed}{n:Nat}{r:Nat->Nat}{st:SortSt}
theorem b7{α:Type}{c:Prop}[Decidable c]{a b:StateT SortSt Sem α}{Q:α->SortSt->Prop}(h1:c->wpS (model prog w) A E s a Q st)(h2:¬ c->wpS (model prog w) A E s b Q st):wpS (model prog w) A E s (if c then a else b) Q st:=by
 by_cases h:c
 ·rw[aC2 h];exact h1 h
 ·rw[aC3 h];exact h2 h
theorem K9{key x:Nat}:lk r false key x=true↔r x<=r key:=by simp[lk]
theorem Pu{key x:Nat}:lk r false key x=false↔r key < r x:=by simp[lk]
theorem L3{key x:Nat}:lk r true key x=true↔r x < r key:=by simp[lk]
theorem L4{key x:Nat}:lk r true key x=false↔r key<=r x:=by simp[lk]
theorem Ka{o:Array Keyed}{O:List Nat}{y:Nat}(e:o=arr f O):o.push (f y)=arr f (O++[y]):=by rw[e,dR]
theorem qh{x:String}{Q:Unit->SortSt->Prop}(h:Q () st):wpS (model prog w) A E s (liftM (rule x)) Q st:=wpS_lift (wpAny_rule ⟨rfl,h⟩)
theorem Pw{X Y:List Nat}{Q:Array Keyed->SortSt->Prop}(hc:Cm prog w A s kd f n r)(hk:kindOf st=kd)(hX:∀x∈X,x < n)(hY:∀y∈Y,y < n)(sX:X.Pairwise (Le r))(sY:Y.Pairwise (Le r))(lX:0 < X.length)(lY:0 < Y.length)
  (h0:∀x∈X,r (Y.getD 0 0)<=r x) (hl:∀y∈Y,r y<=r (X.getD (X.length - 1) 0)) (h:∀Z st',aB st st'->Dn (Le r) (X++Y) Z->Q (arr f Z) st') :
  wpS (model prog w) A E s (mlo (arr f X) (arr f Y)) Q st:=by
 have zX:∀{i:Nat},(i==(arr f X).size)=true->i=X.length:=fun z=>by rw[<- bO (f:=f) X];exact aF0.mp z
 have zY:∀{i:Nat},(i==(arr f Y).size)=true->i=Y.length:=fun z=>by rw[<- bO (f:=f) Y];exact aF0.mp z
 have UK:∀{i:Nat},¬ (i==(arr f X).size)=true->i≠X.length:=fun z e=>z (by rw[bO];exact aF0.mpr e)
 have XG:∀{i:Nat},¬ (i==(arr f Y).size)=true->i≠Y.length:=fun z e=>z (by rw[bO];exact aF0.mpr e)
 let Gd:Array Keyed->Prop:=fun res=>∃Z,res=arr f Z/\Dn (Le r) (X++Y) Z
 have vS:∀{O ia ib o},o=arr f O->MI (Le r) (X++Y) O (X.drop ia) (Y.drop ib)->(ia=X.length\/ib=Y.length)->Gd (o++(arr f X).extract ia (arr f X).size++(arr f Y).extract ib (arr f Y).size):=fun {O ia ib o} e m q=>by
  refine⟨O++X.drop ia++Y.drop ib,?_,m.fin fun x hx y hy=>?_⟩
  ·rw[e,fE,fE,bO,bO,vc,vc,gK,gK]
  ·rcases q with q | q
   ·rw[q,List.drop_length] at hx;cases hx
   ·rw[q,List.drop_length] at hy;cases hy
 have zb:∀{O ia ib o},o=arr f O->MI (Le r) (X++Y) O (X.drop ia) (Y.drop ib)->ia+1=X.length->Gd (o++(arr f Y).extract ib (arr f Y).size++(arr f X).extract ia (arr f X).size):=fun {O ia ib o} e m q=>by
  refine⟨O++Y.drop ib++X.drop ia,?_,m.UJ fun y hy x hx=>?_⟩
  ·rw[e,fE,fE,bO,bO,vc,vc,gK,gK]
  ·obtain ⟨j,j1,j2,rfl⟩:=i6 hx
   rw[show j=X.length - 1 by lia]
   exact hl y (List.mem_of_mem_drop hy)
 have gX:∀i,i < X.length->X.getD i 0 < n:=fun i hi=>hX _ (get_mem hi)
 have gY:∀i,i < Y.length->Y.getD i 0 < n:=fun i hi=>hY _ (get_mem hi)
 have RE:∀{O ia ib},ia < X.length->MI (Le r) (X++Y) O (X.drop ia) (Y.drop ib)->(∀y∈Y.drop ib,r (X.getD ia 0)<=r y)->MI (Le r) (X++Y) (O++[X.getD ia 0]) (X.drop (ia+1)) (Y.drop ib):=fun {O ia ib} hi m q=>by
  rw[Dw hi] at m
  exact MI.tx (u:=[X.getD ia 0]) m fun x hx y hy=>by rw[aF2.mp hx];exact q y hy
 have RG:∀{O ia ib},ib < Y.length->MI (Le r) (X++Y) O (X.drop ia) (Y.drop ib)->(∀x∈X.drop ia,r (Y.getD ib 0)<=r x)->MI (Le r) (X++Y) (O++[Y.getD ib 0]) (X.drop ia) (Y.drop (ib+1)):=fun {O ia ib} hi m q=>by
  rw[Dw hi] at m
  exact MI.ty (u:=[Y.getD ib 0]) m fun x hx y hy=>by rw[aF2.mp hx];exact q y hy
 have M0:MI (Le r) (X++Y) [Y.getD 0 0] (X.drop 0) (Y.drop 1):=
  RG (O:=[]) lY ⟨by simp,.nil,sX,sY,fun o ho=>absurd ho aF1,fun o ho=>absurd ho aF1⟩ fun x hx=>h0 x hx
 refine aC7 (qh (aC7 (cy (get_some lY) (b7 (fun z=>?_) fun z1=>b7 (fun z=>?_) fun z2=>aC7 (wpS_get (aC7 ?_))))))
 ·obtain ⟨Z,e,d⟩:=vS (o:=#[f (Y.getD 0 0)]) rfl M0 (.inr (zY z))
  have q:=h Z st (.refl _) d
  rw[<- e] at q
  exact aD3 q
 ·obtain ⟨Z,e,d⟩:=zb (o:=#[f (Y.getD 0 0)]) rfl M0 (zX z)
  have q:=h Z st (.refl _) d
  rw[<- e] at q
  exact aD3 q
 have z1:=XG z1
 have z2:=UK z2
 refine wpS_mono (aI6 (I:=fun x c st'=>aB st st'/\c.1=none/\∃O,c.2.1=arr f O/\LI r X Y O c.2.2.1 c.2.2.2.1/\x+1<=O.length) (Q:=fun c st'=>aB st st'/\∃res,c.1=some res/\Gd res) ?step ?fin ⟨.refl _,rfl,[Y.getD 0 0],rfl,⟨by show 0+1 < _;lia,by show 1 < _;lia,rfl,M0⟩,aC4 _⟩) ?post
 case post=>
  rintro ⟨_,c⟩ st' ⟨S,_,rfl,Z,rfl,d⟩
  exact aD3 (h Z st' S d)
 case fin=>
  rintro ⟨_,_,ia,ib,mg⟩ st' ⟨_,rfl,O,rfl,L,hO⟩
  have:=L.a
  have:=L.b
  have:=L.l
  rw[bO,bO] at hO
  dsimp only at *
  lia
 case step=>
  rintro x ⟨_,_,ia,ib,mg⟩ jh _ hx ⟨S1,rfl,O,rfl,L,hO⟩
  refine aC7 (wpS_mono (aI6 (I:=fun z c st'=>aB st st'/\c.1=none/\∃O',c.2.1=arr f O'/\LI r X Y O' c.2.2.1 c.2.2.2.1/\O.length+z<=O'.length)
   (Q:=fun c st'=>aB st st'/\((∃res,c.1=some res/\Gd res)\/c.1=none/\∃O',c.2.1=arr f O'/\LI r X Y O' c.2.2.1 c.2.2.2.1/\O.length+1<=O'.length)) ?s1 ?f1 ⟨S1,rfl,O,rfl,L,aC4 _⟩) ?p1)
  case f1=>
   rintro ⟨_,_,ia,ib,ac,bc⟩ st' ⟨S2,rfl,O',rfl,L',L5⟩
   exact⟨S2,.inr ⟨rfl,O',rfl,L',by rw[bO,bO] at L5;lia⟩⟩
  case s1=>
   rintro z ⟨_,_,ia,ib,ac,bc⟩ lR _ hz ⟨S2,rfl,O',rfl,L',L5⟩
   have la:ia+1 < X.length:=L'.a
   have lb:ib < Y.length:=L'.b
   have ll:O'.length=ia+ib:=L'.l
   have lm:MI (Le r) (X++Y) O' (X.drop ia) (Y.drop ib):=L'.m
   refine aC7 (cy (get_some lb) (aC7 (cy (get_some (show ia < X.length by lia)) (aC7 (AR hc (S2.kd.trans hk) (gY ib lb) (gX ia (by lia)) (b7 (fun cw=>?_) fun cw=>?_))))))
   ·have cw:r (Y.getD ib 0) < r (X.getD ia 0):=aG8 cw
    have M2:=RG lb lm fun x hx=>by obtain ⟨j,j1,j2,rfl⟩:=i6 hx;have:=i0 sX j1 j2;lia
    refine aC7 (cy (get_some lb) (b7 (fun c3=>aD3 ⟨S2,.inl ⟨_,rfl,vS (dR _ _) M2 (.inr (zY c3))⟩⟩) fun c3=>?_))
    have c3:ib+1≠Y.length:=XG c3
    have L2:LI r X Y (O'++[Y.getD ib 0]) ia (ib+1):=⟨la,by lia,by rw[aD0,ll];simp;lia,M2⟩
    refine b7 (fun c4=>aD3 ⟨S2,.inr ⟨rfl,_,dR _ _,L2,?_⟩⟩) fun c4=>aD3 ⟨S2,rfl,_,dR _ _,L2,?_⟩ <;> (rw[aD0];simp;lia)
   ·have cw:¬ r (Y.getD ib 0) < r (X.getD ia 0):=fun z=>cw (aD6 z)
    have M2:=RE (show ia < X.length by lia) lm fun y hy=>by obtain ⟨j,j1,j2,rfl⟩:=i6 hy;have:=i0 sY j1 j2;lia
    refine aC7 (cy (get_some (show ia < X.length by lia)) (b7 (fun c3=>aD3 ⟨S2,.inl ⟨_,rfl,zb (dR _ _) M2 (zX c3)⟩⟩) fun c3=>?_))
    have c3:ia+1+1≠X.length:=UK c3
    have L2:LI r X Y (O'++[X.getD ia 0]) (ia+1) ib:=⟨by lia,lb,by rw[aD0,ll];simp;lia,M2⟩
    refine b7 (fun c4=>aD3 ⟨S2,.inr ⟨rfl,_,dR _ _,L2,?_⟩⟩) fun c4=>aD3 ⟨S2,rfl,_,dR _ _,L2,?_⟩ <;> (rw[aD0];simp;lia)
  case p1=>
   rintro ⟨_,_,ia,ib,ac,bc⟩ lR ⟨S2,⟨res,rfl,d⟩ | ⟨rfl,O',rfl,L',L5⟩⟩
   ·exact aD3 ⟨S2,res,rfl,d⟩
   refine aC7 (qh (aC7 (wpS_mono (aI6 (I:=fun z c st'=>aB st st'/\c.1=none/\∃kq,c.2.1=arr f kq/\LI r X Y kq c.2.2.1 c.2.2.2.1/\O.length+1<=kq.length)
    (Q:=fun c st'=>aB st st'/\((∃res,c.1=some res/\Gd res)\/c.1=none/\∃kq,c.2.1=arr f kq/\LI r X Y kq c.2.2.1 c.2.2.2.1/\O.length+1<=kq.length)) ?s2 ?f2 ⟨S2,rfl,O',rfl,L',L5⟩) ?p2)))
   case f2=>
    rintro ⟨_,_,ia,ib,mg,ac,bc⟩ st' ⟨S3,rfl,kq,rfl,zc,Ck⟩
    exact⟨S3,.inr ⟨rfl,kq,rfl,zc,Ck⟩⟩
   case p2=>
    rintro ⟨_,_,ia,ib,mg,ac,bc⟩ Az ⟨S3,⟨res,rfl,d⟩ | ⟨rfl,kq,rfl,zc,Ck⟩⟩
    ·exact aD3 ⟨S3,res,rfl,d⟩
    exact aC7 (za (aD3 ⟨S3.mg _,rfl,kq,rfl,zc,by lia⟩))
   case s2=>
    rintro z ⟨_,_,ia,ib,mg',ac,bc⟩ Az _ hz ⟨S3,rfl,kq,rfl,zc,Ck⟩
    have la:ia+1 < X.length:=zc.a
    have lb:ib < Y.length:=zc.b
    have ll:kq.length=ia+ib:=zc.l
    have lm:MI (Le r) (X++Y) kq (X.drop ia) (Y.drop ib):=zc.m
    refine b7 (fun cg=>?_) fun cg=>?_
    all_goals
     refine aC7 (za (aC7 (cy (get_some lb) (aC7 (tG (b:=ia) (key:=Y.getD ib 0) (m:=(arr f X).size - ia) hc ((S3.mg _).kd.trans hk) hX (gY ib lb) (by rw[bO];lia) (by rw[bO];lia) (fun i j oq hj q=>?_) fun k k1 k2 k3=>?_)))))
     ·rw[bO] at hj
      exact K9.mpr (aD5 (i0 sX (show ia+i<=ia+j by lia) (by lia)) (K9.mp q))
     rw[bO] at k1 k3
     have M2:MI (Le r) (X++Y) (kq++X.extract ia (ia+k)) (X.drop (ia+k)) (Y.drop ib):=by
      have m:=lm
      rw[vR (i:=ia) (k:=k)] at m
      refine m.tx fun x hx y hy=>?_
      obtain ⟨j,j1,rfl⟩:=Dy (by lia) hx
      obtain ⟨j',j2,j3,rfl⟩:=i6 hy
      exact aD5 (K9.mp (k2 j j1)) (i0 sY j2 j3)
     have Mx:∀x∈X.drop (ia+k),r (Y.getD ib 0)<=r x:=fun x hx=>by
      obtain ⟨j,j1,j2,rfl⟩:=i6 hx
      have:=k3 (j - ia) (by lia) (by lia)
      rw[show ia+(j - ia)=j by lia] at this
      exact aH2 (Pu.mp this)
     have l1:(kq++X.extract ia (ia+k)).length=ia+k+ib:=by rw[aD0,ll];simp[aD8];lia
     have l2:O.length+1<=(kq++X.extract ia (ia+k)).length:=by lia
     have e2:arr f kq++(arr f X).extract ia (ia+k)=arr f (kq++X.extract ia (ia+k)):=by rw[fE,gK]
     have e0:k=0->arr f kq=arr f (kq++X.extract ia (ia+k)):=fun z=>by rw[z];simp[aD8]
     generalize kq++X.extract ia (ia+k)=O1 at *
     have M3:=RG lb M2 Mx
     have gB:∀x∈X.drop (ia+k),r (X.getD (ia+k) 0)<=r x:=fun x hx=>by obtain ⟨j,j1,j2,rfl⟩:=i6 hx;exact i0 sX j1 j2
     refine b7 (fun ck=>b7 (fun c3=>aD3 ⟨S3.mg _,.inl ⟨_,rfl,zb e2 M2 (zX c3)⟩⟩) fun c3=>b7 (fun c4=>aD3 ⟨S3.mg _,.inl ⟨_,rfl,vS e2 M2 (.inl (zX c4))⟩⟩) fun c4=>?_) fun ck=>?_
     have Ho:ia+k+1 < X.length:=by
      have c3:ia+k+1≠X.length:=UK c3
      have c4:ia+k≠X.length:=UK c4
      lia
     have eo:=e2
     rotate_left
     obtain rfl:k=0:=by
      have:¬ k > 0:=ck
      lia
     have Ho:ia+0+1 < X.length:=la
     have eo:=e0 rfl
     all_goals
      refine aC7 (cy (get_some lb) (b7 (fun c5=>aD3 ⟨S3.mg _,.inl ⟨_,rfl,vS (Ka eo) M3 (.inr (zY c5))⟩⟩) fun c5=>?_))
      have c5:ib+1≠Y.length:=XG c5
      refine aC7 (cy (get_some (Nat.lt_of_succ_lt Ho)) (aC7 (tG (b:=ib+1) (m:=(arr f Y).size - (ib+1)) hc ((S3.mg _).kd.trans hk) hY (gX _ (Nat.lt_of_succ_lt Ho)) (by rw[bO];lia) (by rw[bO];lia) (fun i j oq hj q=>?_) fun k' RH RI NQ=>?_)))
      ·rw[bO] at hj
       exact L3.mpr (Nat.lt_of_le_of_lt (i0 sY (show ib+1+i<=ib+1+j by lia) (by lia)) (L3.mp q))
      rw[bO] at RH NQ
      have l3:(O1++[Y.getD ib 0]++Y.extract (ib+1) (ib+1+k')).length=O1.length+1+k':=by simp[aD8];lia
      have M4:=vR (X:=Y) (i:=ib+1) (k:=k')▸M3
      have M4:=M4.ty fun y hy x hx=>by
       obtain ⟨j,j1,rfl⟩:=Dy (by lia) hy
       exact aD5 (aH2 (L3.mp (RI j j1))) (gB x hx)
      have My:=fun y (hy:y∈Y.drop (ib+1+k'))=>show r (X.getD _ 0)<=r y by
       obtain ⟨j,j1,j2,rfl⟩:=i6 hy
       have q:=NQ (j - (ib+1)) (by lia) (by lia)
       rw[show ib+1+(j - (ib+1))=j by lia] at q
       exact L4.mp q
      have M5:=RE (Nat.lt_of_succ_lt Ho) M4 My
      have e4:(arr f (O1++[Y.getD ib 0]))++(arr f Y).extract (ib+1) (ib+1+k')=arr f (O1++[Y.getD ib 0]++Y.extract (ib+1) (ib+1+k')):=by rw[fE,gK]
      have e5:k'=0->arr f (O1++[Y.getD ib 0])=arr f (O1++[Y.getD ib 0]++Y.extract (ib+1) (ib+1+k')):=fun z=>by rw[z];simp[aD8]
      generalize O1++[Y.getD ib 0]++Y.extract (ib+1) (ib+1+k')=O4 at *
      rw[<- Ka eo] at e4 e5
      refine b7 (fun ck=>b7 (fun c6=>aD3 ⟨S3.mg _,.inl ⟨_,rfl,vS e4 M4 (.inr (zY c6))⟩⟩) fun c6=>?_) fun ck=>?_
      have Px:ib+1+k' < Y.length:=by
       have c6:ib+1+k'≠Y.length:=XG c6
       lia
      have eo:=e4
      rotate_left
      obtain rfl:k'=0:=by
       have:¬ k' > 0:=ck
       lia
      have Px:ib+1+0 < Y.length:=by lia
      have eo:=e5 rfl
      all_goals
       refine aC7 (cy (get_some (Nat.lt_of_succ_lt Ho)) (b7 (fun c7=>aD3 ⟨S3.mg _,.inl ⟨_,rfl,zb (Ka eo) M5 (zX c7)⟩⟩) fun c7=>?_))
       have c7:=UK c7
       refine b7 (fun _=>aD3 ⟨S3.mg _,.inr ⟨rfl,_,Ka eo,⟨Nat.lt_of_le_of_ne Ho c7,Px,?_,M5⟩,?_⟩⟩) fun _=>aD3 ⟨S3.mg _,rfl,_,Ka eo,⟨Nat.lt_of_le_of_ne Ho c7,Px,?_,M5⟩,?_⟩ <;> (rw[aD0,l3,l1];simp;lia)
end
end
end Sg
end UI
section UL
namespace Sg
open PySem PySem.W PyProof.Rows
noncomputable section
section
variable {r:Nat->Nat}
abbrev Ge(r:Nat->Nat):Nat->Nat->Prop:=fun a b=>r b<=r a
abbrev tr(X:List Nat)(i:Nat):List Nat:=(X.take i).reverse
theorem NR{X:List Nat}{i:Nat}(h0:0 < i)(h:i<=X.length):tr X i=X.getD (i - 1) 0::tr X (i - 1):=by
 obtain ⟨j,rfl⟩:∃j,i=j+1:=⟨i - 1,by lia⟩
 rw[tr,List.take_succ_eq_append_getElem (by lia),List.reverse_append]
 simp[show j < X.length by lia]
theorem AS{X:List Nat}{k i:Nat}(h:k<=i):tr X i=(X.extract k i).reverse++tr X k:=by
 rw[tr,tr,<- List.reverse_append,aD8,<- List.take_add,show k+(i - k)=i by lia]
theorem qW{X:List Nat}{i x:Nat}(h:x∈tr X i):∃j,j < i/\j < X.length/\x=X.getD j 0:=by
 obtain ⟨k,hk,e⟩:=aF6.mp (List.mem_reverse.mp h)
 rw[aJ1] at hk
 exact⟨k,by lia,by lia,by rw[<- e];simp[show k < X.length by lia]⟩
theorem Hq{X:List Nat}{k i x:Nat}(hi:i<=X.length)(h:x∈(X.extract k i).reverse):∃j,k<=j/\j < i/\x=X.getD j 0:=by
 obtain ⟨q,hq,e⟩:=aF6.mp (List.mem_reverse.mp h)
 have RD:q < i - k:=by simp[aD8] at hq;lia
 refine⟨k+q,by lia,by lia,?_⟩
 rw[<- e]
 simp[aD8,show k+q < X.length by lia]
theorem rU{X:List Nat}{i:Nat}:X.extract 0 i=X.take i:=by simp[aD8]
structure HI(r:Nat->Nat)(X Y O:List Nat)(na nb:Nat):Prop where
 a:0 < na
 a':na<=X.length
 b:1 < nb
 b':nb<=Y.length
 l:O.length+na+nb=X.length+Y.length
 m:MI (Ge r) (X++Y) O (tr X na) (tr Y nb)
end
section
variable {prog:Program}{w:World}{A:Around}{E:Value->Shared->Prop}{s:Shared}{kd:SortKind}{f:Nat->Keyed}{n:Nat}{r:Nat->Nat}{st:SortSt}
theorem Py{X Y:List Nat}{Q:Array Keyed->SortSt->Prop}(hc:Cm prog w A s kd f n r)(hk:kindOf st=kd)(hX:∀x∈X,x < n)(hY:∀y∈Y,y < n)(sX:X.Pairwise (Le r))(sY:Y.Pairwise (Le r))(lX:0 < X.length)(lY:0 < Y.length)
  (h0:∀x∈X,r (Y.getD 0 0)<=r x) (hl:∀y∈Y,r y<=r (X.getD (X.length - 1) 0)) (h:∀Z st',aB st st'->Dn (Le r) (X++Y) Z->Q (arr f Z) st') :
  wpS (model prog w) A E s (mhi (arr f X) (arr f Y)) Q st:=by
 let Gd:Array Keyed->Prop:=fun res=>∃Z,res=arr f Z/\Dn (Le r) (X++Y) Z
 have rv:∀{Z},Dn (Ge r) (X++Y) Z->Dn (Le r) (X++Y) Z.reverse:=fun d=>⟨(List.reverse_perm _).trans d.1,List.pairwise_reverse.mpr d.2⟩
 have vS:∀{O na nb o},o=arr f O->MI (Ge r) (X++Y) O (tr X na) (tr Y nb)->(na=0\/nb=0)->Gd ((arr f X).extract 0 na++(arr f Y).extract 0 nb++o.reverse):=fun {O na nb o} e m q=>by
  refine⟨(O++tr Y nb++tr X na).reverse,?_,rv (m.UJ fun y hy x hx=>?_)⟩
  ·rw[e,fE,fE,v9,rU,rU,gK,gK];simp[tr]
  ·rcases q with q | q
   ·rw[q] at hx;simp[tr] at hx
   ·rw[q] at hy;simp[tr] at hy
 have zb:∀{O na nb o},o=arr f O->MI (Ge r) (X++Y) O (tr X na) (tr Y nb)->nb=1->Gd ((arr f Y).extract 0 nb++(arr f X).extract 0 na++o.reverse):=fun {O na nb o} e m q=>by
  refine⟨(O++tr X na++tr Y nb).reverse,?_,rv (m.fin fun x hx y hy=>?_)⟩
  ·rw[e,fE,fE,v9,rU,rU,gK,gK];simp[tr]
  ·obtain ⟨j,j1,j2,rfl⟩:=qW hy
   rw[show j=0 by lia]
   exact h0 x (aJ2 (List.mem_reverse.mp hx))
 have gX:∀i,i < X.length->X.getD i 0 < n:=fun i hi=>hX _ (get_mem hi)
 have gY:∀i,i < Y.length->Y.getD i 0 < n:=fun i hi=>hY _ (get_mem hi)
 have RE:∀{O na nb},0 < na->na<=X.length->MI (Ge r) (X++Y) O (tr X na) (tr Y nb)->(∀y∈tr Y nb,r y<=r (X.getD (na - 1) 0))->MI (Ge r) (X++Y) (O++[X.getD (na - 1) 0]) (tr X (na - 1)) (tr Y nb):=fun {O na nb} hi Pr m q=>by
  rw[NR hi Pr] at m
  exact MI.tx (u:=[X.getD (na - 1) 0]) m fun x hx y hy=>by rw[aF2.mp hx];exact q y hy
 have RG:∀{O na nb},0 < nb->nb<=Y.length->MI (Ge r) (X++Y) O (tr X na) (tr Y nb)->(∀x∈tr X na,r x<=r (Y.getD (nb - 1) 0))->MI (Ge r) (X++Y) (O++[Y.getD (nb - 1) 0]) (tr X na) (tr Y (nb - 1)):=fun {O na nb} hi Pr m q=>by
  rw[NR hi Pr] at m
  exact MI.ty (u:=[Y.getD (nb - 1) 0]) m fun x hx y hy=>by rw[aF2.mp hx];exact q y hy
 have upX:∀{na x},na<=X.length->x∈tr X na->r x<=r (X.getD (na - 1) 0):=fun {na x} hi hx=>by obtain ⟨j,j1,j2,rfl⟩:=qW hx;exact i0 sX (by lia) (by lia)
 have upY:∀{nb y},nb<=Y.length->y∈tr Y nb->r y<=r (Y.getD (nb - 1) 0):=fun {nb y} hi hy=>by obtain ⟨j,j1,j2,rfl⟩:=qW hy;exact i0 sY (by lia) (by lia)
 have M0:MI (Ge r) (X++Y) [X.getD (X.length - 1) 0] (tr X (X.length - 1)) (tr Y Y.length):=
  RE (O:=[]) lX (aC4 _) ⟨by simp only[tr,List.take_length,aE7];exact(List.reverse_perm _).append (List.reverse_perm _),.nil,by simpa only[tr,List.take_length] using List.pairwise_reverse.mpr sX,by simpa only[tr,List.take_length] using List.pairwise_reverse.mpr sY,fun o ho=>absurd ho aF1,fun o ho=>absurd ho aF1⟩ fun y hy=>hl y (aJ2 (List.mem_reverse.mp hy))
 have sx:=bO (f:=f) X
 have sy:=bO (f:=f) Y
 refine aC7 (qh (aC7 (cy (i:=(arr f X).size - 1) (by rw[sx];exact get_some (by lia)) (b7 (fun z=>?_) fun z1=>b7 (fun z=>?_) fun z2=>aC7 (wpS_get (aC7 ?_))))))
 ·obtain ⟨Z,e,d⟩:=vS (o:=#[f (X.getD (X.length - 1) 0)]) rfl M0 (.inl (by rw[<- sx];exact aF0.mp z))
  have q:=h Z st (.refl _) d
  rw[<- e] at q
  exact aD3 (by rw[sx,sy];exact q)
 ·obtain ⟨Z,e,d⟩:=zb (o:=#[f (X.getD (X.length - 1) 0)]) rfl M0 (by rw[<- sy];exact aF0.mp z)
  have q:=h Z st (.refl _) d
  rw[<- e] at q
  exact aD3 (by rw[sx,sy];exact q)
 have z1:X.length - 1≠0:=fun e=>z1 (by show ((arr f X).size - 1==0)=true;rw[sx];exact aF0.mpr e)
 have z2:Y.length≠1:=fun e=>z2 (by rw[sy];exact aF0.mpr e)
 refine wpS_mono (aI6 (I:=fun x c st'=>aB st st'/\c.1=none/\∃O,c.2.2.2.1=arr f O/\HI r X Y O c.2.1 c.2.2.1/\x+1<=O.length) (Q:=fun c st'=>aB st st'/\∃res,c.1=some res/\Gd res) ?step ?fin ?init) ?post
 case init=>exact⟨.refl _,rfl,[X.getD (X.length - 1) 0],rfl,by
  show HI r X Y _ ((arr f X).size - 1) (arr f Y).size
  rw[sx,sy]
  exact⟨by lia,by lia,by lia,aC4 _,by simp;lia,M0⟩,aC4 _⟩
 case post=>
  rintro ⟨_,c⟩ st' ⟨S,_,rfl,Z,rfl,d⟩
  exact aD3 (h Z st' S d)
 case fin=>
  rintro ⟨_,na,nb,_,mg⟩ st' ⟨_,rfl,O,rfl,L,hO⟩
  have:=L.a
  have:=L.b
  have:=L.l
  rw[sx,sy] at hO
  dsimp only at *
  lia
 case step=>
  rintro x ⟨_,na,nb,_,mg⟩ jh _ hx ⟨S1,rfl,O,rfl,L,hO⟩
  refine aC7 (wpS_mono (aI6 (I:=fun z c st'=>aB st st'/\c.1=none/\∃O',c.2.2.2.1=arr f O'/\HI r X Y O' c.2.1 c.2.2.1/\O.length+z<=O'.length)
   (Q:=fun c st'=>aB st st'/\((∃res,c.1=some res/\Gd res)\/c.1=none/\∃O',c.2.2.2.1=arr f O'/\HI r X Y O' c.2.1 c.2.2.1/\O.length+1<=O'.length)) ?s1 ?f1 ⟨S1,rfl,O,rfl,L,aC4 _⟩) ?p1)
  case f1=>
   rintro ⟨_,na,nb,_,ac,bc⟩ st' ⟨S2,rfl,O',rfl,L',L5⟩
   exact⟨S2,.inr ⟨rfl,O',rfl,L',by rw[sx,sy] at L5;lia⟩⟩
  case s1=>
   rintro z ⟨_,na,nb,_,ac,bc⟩ lR _ hz ⟨S2,rfl,O',rfl,L',L5⟩
   have la:0 < na:=L'.a
   have Kc:na<=X.length:=L'.a'
   have lb:1 < nb:=L'.b
   have RJ:nb<=Y.length:=L'.b'
   have ll:O'.length+na+nb=X.length+Y.length:=L'.l
   have lm:MI (Ge r) (X++Y) O' (tr X na) (tr Y nb):=L'.m
   have ga:na - 1 < X.length:=by lia
   have gb:nb - 1 < Y.length:=by lia
   refine aC7 (cy (get_some gb) (aC7 (cy (get_some ga) (aC7 (AR hc (S2.kd.trans hk) (gY (nb - 1) gb) (gX (na - 1) ga) (b7 (fun cw=>?_) fun cw=>?_))))))
   ·have cw:r (Y.getD (nb - 1) 0) < r (X.getD (na - 1) 0):=aG8 cw
    have M2:=RE la Kc lm fun y hy=>aD5 (upY RJ hy) (aH2 cw)
    refine aC7 (cy (get_some ga) (b7 (fun c3=>aD3 ⟨S2,.inl ⟨_,rfl,vS (dR _ _) M2 (.inl (aF0.mp c3))⟩⟩) fun c3=>?_))
    have c3:na - 1≠0:=fun e=>c3 (aF0.mpr e)
    have L2:HI r X Y (O'++[X.getD (na - 1) 0]) (na - 1) nb:=⟨by lia,by lia,lb,RJ,by rw[aD0];simp;lia,M2⟩
    refine b7 (fun c4=>aD3 ⟨S2,.inr ⟨rfl,_,dR _ _,L2,?_⟩⟩) fun c4=>aD3 ⟨S2,rfl,_,dR _ _,L2,?_⟩ <;> (rw[aD0];simp;lia)
   ·have cw:¬ r (Y.getD (nb - 1) 0) < r (X.getD (na - 1) 0):=fun z=>cw (aD6 z)
    have M2:=RG (by lia) RJ lm fun x hx=>aD5 (upX Kc hx) (Nat.le_of_not_lt cw)
    refine aC7 (cy (get_some gb) (b7 (fun c3=>aD3 ⟨S2,.inl ⟨_,rfl,zb (dR _ _) M2 (aF0.mp c3)⟩⟩) fun c3=>?_))
    have c3:nb - 1≠1:=fun e=>c3 (aF0.mpr e)
    have L2:HI r X Y (O'++[Y.getD (nb - 1) 0]) na (nb - 1):=⟨la,Kc,by lia,by lia,by rw[aD0];simp;lia,M2⟩
    refine b7 (fun c4=>aD3 ⟨S2,.inr ⟨rfl,_,dR _ _,L2,?_⟩⟩) fun c4=>aD3 ⟨S2,rfl,_,dR _ _,L2,?_⟩ <;> (rw[aD0];simp;lia)
  case p1=>
   rintro ⟨_,na,nb,_,ac,bc⟩ lR ⟨S2,⟨res,rfl,d⟩ | ⟨rfl,O',rfl,L',L5⟩⟩
   ·exact aD3 ⟨S2,res,rfl,d⟩
   refine aC7 (qh (aC7 (wpS_mono (aI6 (I:=fun z c st'=>aB st st'/\c.1=none/\∃kq,c.2.2.2.1=arr f kq/\HI r X Y kq c.2.1 c.2.2.1/\O.length+1<=kq.length)
    (Q:=fun c st'=>aB st st'/\((∃res,c.1=some res/\Gd res)\/c.1=none/\∃kq,c.2.2.2.1=arr f kq/\HI r X Y kq c.2.1 c.2.2.1/\O.length+1<=kq.length)) ?s2 ?f2 ⟨S2,rfl,O',rfl,L',L5⟩) ?p2)))
   case f2=>
    rintro ⟨_,na,nb,_,mg,ac,bc⟩ st' ⟨S3,rfl,kq,rfl,zc,Ck⟩
    exact⟨S3,.inr ⟨rfl,kq,rfl,zc,Ck⟩⟩
   case p2=>
    rintro ⟨_,na,nb,_,mg,ac,bc⟩ Az ⟨S3,⟨res,rfl,d⟩ | ⟨rfl,kq,rfl,zc,Ck⟩⟩
    ·exact aD3 ⟨S3,res,rfl,d⟩
    exact aC7 (za (aD3 ⟨S3.mg _,rfl,kq,rfl,zc,by lia⟩))
   case s2=>
    rintro z ⟨_,na,nb,_,mg',ac,bc⟩ Az _ hz ⟨S3,rfl,kq,rfl,zc,Ck⟩
    have la:0 < na:=zc.a
    have Kc:na<=X.length:=zc.a'
    have lb:1 < nb:=zc.b
    have RJ:nb<=Y.length:=zc.b'
    have ll:kq.length+na+nb=X.length+Y.length:=zc.l
    have lm:MI (Ge r) (X++Y) kq (tr X na) (tr Y nb):=zc.m
    have gb:nb - 1 < Y.length:=by lia
    refine b7 (fun cg=>?_) fun cg=>?_
    all_goals
     refine aC7 (za (aC7 (cy (get_some gb) (aC7 (tG (b:=0) (key:=Y.getD (nb - 1) 0) (m:=na) (hint:=na - 1) hc ((S3.mg _).kd.trans hk) hX (gY (nb - 1) gb) (by lia) (by lia) (fun i j oq hj q=>?_) fun k k1 k2 k3=>?_)))))
     ·exact K9.mpr (aD5 (i0 sX (show 0+i<=0+j by lia) (by lia)) (K9.mp q))
     simp only[Nat.zero_add] at k2 k3
     have M2:MI (Ge r) (X++Y) (kq++(X.extract k na).reverse) (tr X k) (tr Y nb):=by
      have m:=lm
      rw[AS k1] at m
      refine m.tx fun x hx y hy=>?_
      obtain ⟨j,j1,j2,rfl⟩:=Hq Kc hx
      exact aD5 (upY RJ hy) (aH2 (Pu.mp (k3 j j1 j2)))
     have Mx:∀x∈tr X k,r x<=r (Y.getD (nb - 1) 0):=fun x hx=>by
      obtain ⟨j,j1,j2,rfl⟩:=qW hx
      exact K9.mp (k2 j j1)
     have l1:(kq++(X.extract k na).reverse).length+k+nb=X.length+Y.length:=by rw[aD0,List.length_reverse];simp[aD8];lia
     have l2:O.length+1<=(kq++(X.extract k na).reverse).length:=by lia
     have e2:arr f kq++((arr f X).extract k na).reverse=arr f (kq++(X.extract k na).reverse):=by rw[fE,v9,gK]
     have e0:na=k->arr f kq=arr f (kq++(X.extract k na).reverse):=fun z=>by rw[z];simp[aD8]
     generalize kq++(X.extract k na).reverse=O1 at *
     have M3:=RG (by lia) RJ M2 Mx
     refine b7 (fun ck=>b7 (fun c3=>aD3 ⟨S3.mg _,.inl ⟨_,rfl,vS e2 M2 (.inl (aF0.mp c3))⟩⟩) fun c3=>?_) fun ck=>?_
     have Ho:0 < k:=by
      have c3:k≠0:=fun e=>c3 (aF0.mpr e)
      lia
     have eo:=e2
     rotate_left
     obtain rfl:na=k:=by
      have:¬ na - k > 0:=ck
      lia
     have Ho:=la
     have eo:=e0 rfl
     all_goals
      refine aC7 (cy (get_some gb) (b7 (fun c5=>aD3 ⟨S3.mg _,.inl ⟨_,rfl,zb (Ka eo) M3 (aF0.mp c5)⟩⟩) fun c5=>?_))
      have c5:nb - 1≠1:=fun e=>c5 (aF0.mpr e)
      have ga:=aE8 (Nat.sub_lt Ho Nat.zero_lt_one) (aD5 k1 Kc)
      refine aC7 (cy (get_some ga) (aC7 (tG (b:=0) (m:=nb - 1) (hint:=nb - 1 - 1) hc ((S3.mg _).kd.trans hk) hY (gX _ ga) (by lia) (by lia) (fun i j oq hj q=>?_) fun k' RH RI NQ=>?_)))
      ·exact L3.mpr (Nat.lt_of_le_of_lt (i0 sY (show 0+i<=0+j by lia) (by lia)) (L3.mp q))
      simp only[Nat.zero_add] at RI NQ
      have l3:(O1++[Y.getD (nb - 1) 0]++(Y.extract k' (nb - 1)).reverse).length=O1.length+1+(nb - 1 - k'):=by simp[aD8];lia
      have M4:=AS (X:=Y) RH▸M3
      have M4:=M4.ty fun y hy x hx=>by
       obtain ⟨j,j1,j2,rfl⟩:=Hq (by lia) hy
       exact aD5 (upX (aD5 k1 Kc) hx) (L4.mp (NQ j j1 j2))
      have My:=fun y (hy:y∈tr Y k')=>show r y<=r (X.getD _ 0) by
       obtain ⟨j,j1,j2,rfl⟩:=qW hy
       exact aH2 (L3.mp (RI j j1))
      have M5:=RE Ho (aD5 k1 Kc) M4 My
      have e4:arr f (O1++[Y.getD (nb - 1) 0])++((arr f Y).extract k' (nb - 1)).reverse=arr f (O1++[Y.getD (nb - 1) 0]++(Y.extract k' (nb - 1)).reverse):=by rw[fE,v9,gK]
      have e5:nb - 1=k'->arr f (O1++[Y.getD (nb - 1) 0])=arr f (O1++[Y.getD (nb - 1) 0]++(Y.extract k' (nb - 1)).reverse):=fun z=>by rw[<- z];simp[aD8]
      generalize O1++[Y.getD (nb - 1) 0]++(Y.extract k' (nb - 1)).reverse=O4 at *
      rw[<- Ka eo] at e4 e5
      refine b7 (fun ck=>b7 (fun c6=>aD3 ⟨S3.mg _,.inl ⟨_,rfl,zb e4 M4 (aF0.mp c6)⟩⟩) fun c6=>b7 (fun c7=>aD3 ⟨S3.mg _,.inl ⟨_,rfl,vS e4 M4 (.inr (aF0.mp c7))⟩⟩) fun c7=>?_) fun ck=>?_
      have Px:1 < k':=by
       have c6:k'≠1:=fun e=>c6 (aF0.mpr e)
       have c7:k'≠0:=fun e=>c7 (aF0.mpr e)
       lia
      have eo:=e4
      rotate_left
      obtain rfl:nb - 1=k':=by
       have:¬ nb - 1 - k' > 0:=ck
       lia
      have Px:1 < nb - 1:=by lia
      have eo:=e5 rfl
      all_goals
       refine aC7 (cy (get_some ga) (b7 (fun c8=>aD3 ⟨S3.mg _,.inl ⟨_,rfl,vS (Ka eo) M5 (.inl (aF0.mp c8))⟩⟩) fun c8=>?_))
       have c8:=fun e=>c8 (aF0.mpr e)
       refine b7 (fun _=>aD3 ⟨S3.mg _,.inr ⟨rfl,_,Ka eo,⟨Nat.pos_of_ne_zero c8,aD5 (Nat.sub_le _ _) (aD5 k1 Kc),Px,aD5 RH (by lia),?_,M5⟩,?_⟩⟩) fun _=>aD3 ⟨S3.mg _,rfl,_,Ka eo,⟨Nat.pos_of_ne_zero c8,aD5 (Nat.sub_le _ _) (aD5 k1 Kc),Px,aD5 RH (by lia),?_,M5⟩,?_⟩ <;> (rw[aD0,l3];simp;lia)
end
end
end Sg
end UL
section UM
namespace Sg
open PySem PySem.W PyProof.Rows
noncomputable section
theorem Hr{P B R:List Nat}{i:Nat}(h:i < B.length):(P++(B++R)).getD (P.length+i) 0=B.getD i 0:=by
 simp[aH5,aG2,aG3,h]
theorem Dz{P B R:List Nat}{i j:Nat}(hi:i=P.length)(hj:j=P.length+B.length):(P++(B++R)).extract i j=B:=by
 subst hi;subst hj
 simp[aD8]
theorem Hs{sa:Nat}:∀(L U V R:List Keyed) (k:Nat),U.length=sa+k->V.length=L.length->(L.zipIdx k).foldl (fun a (q:Keyed×Nat)=>a.setIfInBounds (sa+q.2) q.1) (U++(V++R)).toArray=(U++(L++R)).toArray
 | [],U,V,R,k,_,hv=>by
  have:V=[]:=List.length_eq_zero_iff.mp hv
  subst this;rfl
 | l::L,U,[],R,k,_,hv=>by simp at hv
 | l::L,U,v::V,R,k,hu,hv=>by
  rw[List.zipIdx_cons,List.foldl_cons]
  have e:(U++(v::V++R)).toArray.setIfInBounds (sa+k) l=((U++[l])++(V++R)).toArray:=by
   rw[<- hu]
   simp[List.set_append]
  show List.foldl _ ((U++(v::V++R)).toArray.setIfInBounds (sa+k) l) _=_
  rw[e,Hs L (U++[l]) V R (k+1) (by simp;lia) (by simpa using hv)]
  simp
theorem tH{le:Nat->Nat->Prop}{X Y:List Nat}:(X++Y).Pairwise le↔X.Pairwise le/\Y.Pairwise le/\∀a∈X,∀b∈Y,le a b:=List.pairwise_append
theorem ze{X:List Nat}{x:Nat}(h:x∈X):∃j,j < X.length/\x=X.getD j 0:=by
 obtain ⟨j,hj,e⟩:=aF6.mp h
 exact⟨j,hj,by rw[<- e];simp[hj]⟩
section
variable {prog:Program}{w:World}{A:Around}{E:Value->Shared->Prop}{s:Shared}{kd:SortKind}{f:Nat->Keyed}{n:Nat}{r:Nat->Nat}
theorem Pz{st st':SortSt}{Q:PUnit->SortSt->Prop}(h:Q ⟨⟩ st'):wpS (model prog w) A E s (set st':StateT SortSt Sem PUnit) Q st:=by
 unfold wpS;rw[StateT.run_set];exact aB9 ⟨rfl,h⟩
structure Wt(kd:SortKind)(f:Nat->Keyed)(p:List Nat)(pe:Array (Nat×Nat×Nat))(st:SortSt):Prop where
 k:kindOf st=kd
 a:arrOf st=arr f p
 p:pendingOf st=pe
 e:failedOf st=none
theorem PB{i sa na nb pw RK:Nat}{P1 B1 B2 P2:List Nat}{pe:Array (Nat×Nat×Nat)}{st:SortSt}{Q:Bool->SortSt->Prop}(hc:Cm prog w A s kd f n r)(W:Wt kd f (P1++(B1++(B2++P2))) pe st)(hp:∀x∈P1++(B1++(B2++P2)),x < n)
  (e1:pe[i]?=some (sa,na,pw)) (e2:pe[i+1]?=some (sa+na,nb,RK)) (hs:P1.length=sa) (ha:B1.length=na) (hb:B2.length=nb) (h1:0 < na) (h2:0 < nb) (s1:B1.Pairwise (Le r)) (s2:B2.Pairwise (Le r))
  (h:∀M st',M.Perm (B1++B2)->M.Pairwise (Le r)->Wt kd f (P1++(M++P2)) ((pe.setIfInBounds i (sa,na+nb,pw)).eraseIdxIfInBounds (i+1)) st'->Q true st'):wpS (model prog w) A E s (mergeAt' i) Q st:=by
 obtain ⟨NS,a',p',g,e'⟩:=st
 obtain rfl:NS=kd:=W.k
 obtain rfl:a'=arr f (P1++(B1++(B2++P2))):=W.a
 obtain rfl:p'=pe:=W.p
 obtain rfl:e'=none:=W.e
 refine aC7 (wpS_get ?_)
 dsimp only
 rw[e1,e2]
 refine aC7 (Pz ?_)
 generalize hpe:(p'.setIfInBounds i (sa,na+nb,pw)).eraseIdxIfInBounds (i+1)=pe2 at *
 have W2:∀{p g},Wt NS f p pe2 (SortSt.mk' NS (arr f p) pe2 g none):=⟨rfl,rfl,rfl,rfl⟩
 have gA:∀i,i < na->(P1++(B1++(B2++P2))).getD (sa+i) 0=B1.getD i 0:=fun i hi=>by rw[<- hs];exact Hr (by lia)
 have gB:∀i,i < nb->(P1++(B1++(B2++P2))).getD (sa+na+i) 0=B2.getD i 0:=fun i hi=>by
  rw[<- aF3,<- hs,<- ha,<- aD0];exact Hr (by lia)
 have gB0:=gB 0 h2
 rw[Nat.add_zero] at gB0
 have lp:(P1++(B1++(B2++P2))).length=sa+na+nb+P2.length:=by simp;lia
 have hk:B2.getD 0 0 < n:=by rw[<- gB0];exact hp _ (get_mem (by lia))
 refine aC7 (cy (x:=B2.getD 0 0) (by rw[get_some (by lia),gB0]) (aC7 (tG (b:=sa) (m:=na) (hint:=0) hc rfl hp hk (by lia) h1 (fun i j oq hj q=>?_) fun k k1 k2 k3=>?_)))
 ·rw[gA i (by lia)]
  rw[gA j hj] at q
  exact K9.mpr (aD5 (i0 s1 oq (by lia)) (K9.mp q))
 have low:∀b∈B2,r (B2.getD 0 0)<=r b:=fun b qi=>by obtain ⟨j,j1,rfl⟩:=ze qi;exact i0 s2 (aI2 _) j1
 refine b7 (fun z=>aD3 (h (B1++B2) _ (.refl _) (tH.mpr ⟨s1,s2,fun a Ke b qi=>?_⟩) (by rw[aF3];exact W2))) fun z=>?_
 ·have z:na - k=0:=aF0.mp z
  obtain ⟨j,j1,rfl⟩:=ze Ke
  have:=k2 j (by lia)
  rw[gA j (by lia)] at this
  exact aD5 (K9.mp this) (low b qi)
 have z:na - k≠0:=fun e=>z (aF0.mpr e)
 have gl:(P1++(B1++(B2++P2))).getD (sa+k+(na - k) - 1) 0=B1.getD (na - 1) 0:=by rw[show sa+k+(na - k) - 1=sa+(na - 1) by lia];exact gA _ (by lia)
 have hk2:B1.getD (na - 1) 0 < n:=by rw[<- gl];exact hp _ (get_mem (by lia))
 refine aC7 (cy (x:=B1.getD (na - 1) 0) (by rw[get_some (by lia),gl]) (aC7 (tG (b:=sa+na) (m:=nb) (hint:=nb - 1) hc rfl hp hk2 (by lia) (by lia) (fun i j oq hj q=>?_) fun k' RH RI NQ=>?_)))
 ·rw[gB i (by lia)]
  rw[gB j hj] at q
  exact L3.mpr (Nat.lt_of_le_of_lt (i0 s2 oq (by lia)) (L3.mp q))
 have top:∀a∈B1,r a<=r (B1.getD (na - 1) 0):=fun a Ke=>by obtain ⟨j,j1,rfl⟩:=ze Ke;exact i0 s1 (by lia) (by lia)
 refine b7 (fun z=>aD3 (h (B1++B2) _ (.refl _) (tH.mpr ⟨s1,s2,fun a Ke b qi=>?_⟩) (by rw[aF3];exact W2))) fun z'=>?_
 ·have z:k'=0:=aF0.mp z
  obtain ⟨j,j1,rfl⟩:=ze qi
  have:=NQ j (by lia) (by lia)
  rw[gB j (by lia)] at this
  exact aD5 (top a Ke) (L4.mp this)
 have z':k'≠0:=fun e=>z' (aF0.mpr e)
 have sp1:B1.take k++B1.drop k=B1:=aI4 _ _
 have XH:B2.take k'++B2.drop k'=B2:=aI4 _ _
 have e3:(P1++(B1++(B2++P2)))=(P1++B1.take k)++(B1.drop k++(B2++P2)):=by rw[aF3,<- aF3 (B1.take k),sp1]
 have e4:(P1++(B1++(B2++P2)))=(P1++B1)++(B2.take k'++(B2.drop k'++P2)):=by rw[<- aF3 (B2.take k'),XH,aF3]
 have x1:(arr f (P1++(B1++(B2++P2)))).extract (sa+k) (sa+na)=arr f (B1.drop k):=by rw[fE,e3,Dz (by simp;lia) (by simp;lia)]
 have x2:(arr f (P1++(B1++(B2++P2)))).extract (sa+na) (sa+na+k')=arr f (B2.take k'):=by rw[fE,e4,Dz (by simp;lia) (by simp;lia)]
 have t1:=tH.mp (sp1.symm▸s1)
 have t2:=tH.mp (XH.symm▸s2)
 have m1:∀x∈B1.drop k,r (B2.getD 0 0) < r x:=fun x hx=>by
  obtain ⟨j,j1,j2,rfl⟩:=i6 hx
  have:=k3 j j1 (by lia)
  rw[gA j (by lia)] at this
  exact Pu.mp this
 have m2:∀y∈B2.take k',r y < r (B1.getD (na - 1) 0):=fun y hy=>by
  obtain ⟨j,j1,j2,rfl⟩:=qW (List.mem_reverse.mpr hy)
  have:=RI j j1
  rw[gB j (by lia)] at this
  exact L3.mp this
 have m3:∀y∈B2.drop k',r (B1.getD (na - 1) 0)<=r y:=fun y hy=>by
  obtain ⟨j,j1,j2,rfl⟩:=i6 hy
  have:=NQ j j1 (by lia)
  rw[gB j (by lia)] at this
  exact L4.mp this
 have m0:∀x∈B1.take k,r x<=r (B2.getD 0 0):=fun x hx=>by
  obtain ⟨j,j1,j2,rfl⟩:=qW (List.mem_reverse.mpr hx)
  have:=k2 j j1
  rw[gA j (by lia)] at this
  exact K9.mp this
 have q0:(B2.take k').getD 0 0=B2.getD 0 0:=by simp[aH5,List.getElem?_take,Nat.pos_of_ne_zero z']
 have ql:(B1.drop k).getD ((B1.drop k).length - 1) 0=B1.getD (na - 1) 0:=by
  simp only[aH5,List.getElem?_drop,List.length_drop,ha]
  rw[show k+(na - k - 1)=na - 1 by lia]
 have fin:∀Z st',aB (SortSt.mk' NS (arr f (P1++(B1++(B2++P2)))) pe2 g none) st'->Dn (Le r) (B1.drop k++B2.take k') Z->wpS (model prog w) A E s
   (modify (fun st=>setArr st ((arr f Z).toList.zipIdx.foldl (fun a (q:Keyed×Nat)=>a.setIfInBounds (sa+k+q.2) q.1) (arrOf st)))>>=fun _=>get>>=fun st=>pure (failedOf st).isNone) Q st':=fun Z st' S d=>by
  obtain ⟨g',rfl⟩:=S
  refine aC7 (wpS_modify (aC7 (wpS_get (aD3 (h (B1.take k++(Z++B2.drop k')) _ ?_ ?_ ?_)))))
  ·have:(B1.take k++(Z++B2.drop k')).Perm (B1.take k++((B1.drop k++B2.take k')++B2.drop k')):=(d.1.append_right _).append_left _
   refine this.trans ?_
   rw[aF3,XH,<- aF3,sp1]
  ·have inZ:∀z∈Z,r (B2.getD 0 0)<=r z/\r z<=r (B1.getD (na - 1) 0):=fun z hz=>by
    rcases aF9.mp (d.1.mem_iff.mp hz) with hz | hz
    ·exact⟨aH2 (m1 z hz),top z (List.mem_of_mem_drop hz)⟩
    ·exact⟨low z (aJ2 hz),aH2 (m2 z hz)⟩
   refine tH.mpr ⟨t1.1,tH.mpr ⟨d.2,t2.2.1,fun z hz b qi=>aD5 (inZ z hz).2 (m3 b qi)⟩,fun a Ke b qi=>?_⟩
   rcases aF9.mp qi with qi | qi
   ·exact aD5 (m0 a Ke) (inZ b qi).1
   ·exact aD5 (m0 a Ke) (low b (List.mem_of_mem_drop qi))
  ·have lz:Z.length=(B1.drop k++B2.take k').length:=d.1.length_eq
   have:=Hs (sa:=sa+k) (Z.map f) ((P1++B1.take k).map f) ((B1.drop k++B2.take k').map f) ((B2.drop k'++P2).map f) 0 (by simp;lia) (by simp[lz])
   have e5:(P1++B1.take k).map f++((B1.drop k++B2.take k').map f++(B2.drop k'++P2).map f)=(P1++(B1++(B2++P2))).map f:=by
    rw[<- aH8,<- aH8,e3,aF3 (B1.drop k),<- aF3 (B2.take k'),XH]
   rw[e5] at this
   refine⟨rfl,?_,rfl,rfl⟩
   show (arr f Z).toList.zipIdx.foldl _ (arr f (P1++(B1++(B2++P2))))=_
   unfold arr
   rw[this,<- aH8,<- aH8]
   simp only[aF3]
 rw[x1,x2]
 refine b7 (fun _=>aC7 ?_) fun _=>aC7 ?_
 ·exact Pw hc rfl (fun x hx=>hp x (by simp[List.mem_of_mem_drop hx])) (fun x hx=>hp x (by simp[aJ2 hx])) t1.2.1 t2.1 (by simp;lia) (by simp;lia) (fun x hx=>by rw[q0];exact aH2 (m1 x hx)) (fun y hy=>by rw[ql];exact aH2 (m2 y hy)) fin
 ·exact Py hc rfl (fun x hx=>hp x (by simp[List.mem_of_mem_drop hx])) (fun x hx=>hp x (by simp[aJ2 hx])) t1.2.1 t2.1 (by simp;lia) (by simp;lia) (fun x hx=>by rw[q0];exact aH2 (m1 x hx)) (fun y hy=>by rw[ql];exact aH2 (m2 y hy)) fin
end
end
end Sg
end UM
section af0
namespace So
open PySem PySem.W PyProof.Rows
section
theorem rev_getD{p:Array Nat}{i j:Nat}(hj:j<=p.size)(k:Nat):(kas_rev p i j).getD k 0=if i<=k/\k < j then p.getD (i+j - 1 - k) 0 else p.getD k 0:=by
 rw[aE9]
 unfold kas_rev
 rw[getElem?_mirror_all hj]
 split <;> rw[aE9]
theorem Ht(p:Array Nat)(i j:Nat):(kas_rev p i j).Perm p:=mirror_perm _ _ _ _
end
end So
end af0
section UN
namespace Sg
open PySem PySem.W PyProof.Rows
noncomputable section
def DC(p:List Nat)(i j:Nat):List Nat:=(kas_rev p.toArray i j).toList
def PC(p:List Nat)(k d:Nat):List Nat:=(bubble p.toArray k d).toList
theorem zf(p:List Nat)(k:Nat):p.toArray.getD k 0=p.getD k 0:=by simp[aH5,aE9]
theorem uz(p:Array Nat)(k:Nat):p.toList.getD k 0=p.getD k 0:=by simp[aH5,aE9]
theorem zg{p:List Nat}{i j:Nat}(h:j<=p.length)(k:Nat):(DC p i j).getD k 0=if i<=k/\k < j then p.getD (i+j - 1 - k) 0 else p.getD k 0:=by
 rw[DC,uz,So.rev_getD (by simpa using h)]
 split <;> rw[zf]
theorem L6(p:List Nat)(i j:Nat):(DC p i j).Perm p:=by
 have:=Array.perm_iff_toList_perm.mp (So.Ht p.toArray i j)
 simpa[DC] using this
theorem L7(p:List Nat)(k d:Nat):(PC p k d).Perm p:=by
 have:=Array.perm_iff_toList_perm.mp (bubble_perm p.toArray k d)
 simpa[PC] using this
theorem Co{p:List Nat}{k l:Nat}(hk:k < p.length)(hl:l<=k)(j:Nat):(PC p k (k - l)).getD j 0=if j=l then p.getD k 0 else if l < j/\j<=k then p.getD (j - 1) 0 else p.getD j 0:=by
 rw[PC,uz,aE9,getElem?_bubble (by simpa using hk) (k - l) (by lia),show k - (k - l)=l by lia]
 repeat' split
 all_goals simp[aH5]
structure Fix(lo:Nat)(p p':List Nat):Prop where
 pm:p'.Perm p
 eq:∀k,k < lo->p'.getD k 0=p.getD k 0
theorem Fix.refl(lo:Nat)(p:List Nat):Fix lo p p:=⟨.refl _,fun _ _=>rfl⟩
theorem Fix.trans{lo:Nat}{p p' p'':List Nat}(a:Fix lo p p')(b:Fix lo p' p''):Fix lo p p'':=⟨b.pm.trans a.pm,fun k hk=>(b.eq k hk).trans (a.eq k hk)⟩
theorem Fix.rv{lo:Nat}{p:List Nat}{i j:Nat}(h:j<=p.length)(hi:lo<=i):Fix lo p (DC p i j):=⟨L6 _ _ _,fun k hk=>by rw[zg h,aC3 (by lia)]⟩
theorem Fix.bu{lo:Nat}{p:List Nat}{k l:Nat}(hk:k < p.length)(hl:l<=k)(hi:lo<=l):Fix lo p (PC p k (k - l)):=⟨L7 _ _ _,fun j hj=>by rw[Co hk hl,aC3 (by lia),aC3 (by lia)]⟩
theorem Fix.len{lo:Nat}{p p':List Nat}(a:Fix lo p p'):p'.length=p.length:=a.pm.length_eq
theorem Fix.all{lo n:Nat}{p p':List Nat}(a:Fix lo p p')(h:∀x∈p,x < n):∀x∈p',x < n:=fun x hx=>h x (a.pm.mem_iff.mp hx)
abbrev vv(r:Nat->Nat)(p:List Nat)(lo i:Nat):Nat:=r (p.getD (lo+i) 0)
def Cp(v:Nat->Nat)(a:Nat):Prop:=∀i j,i<=j->j < a->v i<=v j
def Hu(v:Nat->Nat)(a:Nat):Prop:=∀i j,i<=j->j < a->v j<=v i
theorem Cp.one(v:Nat->Nat):Cp v 1:=fun i j oq hj=>by
 have:i=j:=by lia
 subst this;exact aC4 _
theorem Cp.succ{v:Nat->Nat}{a:Nat}(h:Cp v a)(h1:1<=a)(q:¬ v a < v (a - 1)):Cp v (a+1):=fun i j oq hj=>by
 by_cases RL:j < a
 ·exact h i j oq RL
 ·have e:j=a:=by lia
  subst e
  by_cases hi:i=j
  ·subst hi;exact aC4 _
  ·have:=h i (j - 1) (by lia) (by lia)
   lia
theorem Hu.succ{v:Nat->Nat}{a:Nat}(h:Hu v a)(h1:1<=a)(q:v a<=v (a - 1)):Hu v (a+1):=fun i j oq hj=>by
 by_cases RL:j < a
 ·exact h i j oq RL
 ·have e:j=a:=by lia
  subst e
  by_cases hi:i=j
  ·subst hi;exact aC4 _
  ·have:=h i (j - 1) (by lia) (by lia)
   lia
section
variable {prog:Program}{w:World}{A:Around}{E:Value->Shared->Prop}{s:Shared}{kd:SortKind}{f:Nat->Keyed}{n:Nat}{r:Nat->Nat}{pe:Array (Nat×Nat×Nat)}{st:SortSt}{p:List Nat}
theorem rV{i j:Nat}{Q:Option Bool->SortSt->Prop}(hc:Cm prog w A s kd f n r)(W:Wt kd f p pe st)(hp:∀x∈p,x < n)(hi:i < p.length)(hj:j < p.length)(h:Q (some (decide (r (p.getD i 0) < r (p.getD j 0)))) st):wpS (model prog w) A E s (ltAt' i j) Q st:=by
 rw[ltAt'_eq]
 refine aC7 (wpS_get ?_)
 show wpS _ _ _ _ (elem' (arrOf st) i>>=fun x=>elem' (arrOf st) j>>=fun y=>lt' x y) Q st
 rw[W.a]
 exact aC7 (cy (get_some hi) (aC7 (cy (get_some hj) (AR hc W.k (hp _ (get_mem hi)) (hp _ (get_mem hj)) h))))
theorem rW(p:List Nat):arr f p=p.toArray.map f:=by simp[arr]
theorem zh{i j:Nat}{Q:Unit->SortSt->Prop}(W:Wt kd f p pe st)(h:∀st',Wt kd f (DC p i j) pe st'->Q () st'):wpS (model prog w) A E s (reverseSlice' i j) Q st:=by
 rw[reverseSlice'_eq]
 refine wpS_modify (h _ ⟨W.k,?_,W.p,W.e⟩)
 show mirror (arrOf st) i j ((j - i) / 2)=_
 rw[W.a,rW,rW,DC]
 exact kas_swaps_map f (fun k=>i+k) (fun k=>j - 1 - k) _ p.toArray
theorem PD{k l:Nat}{Q:Unit->SortSt->Prop}(W:Wt kd f p pe st)(h:∀st',Wt kd f (PC p k (k - l)) pe st'->Q () st'):wpS (model prog w) A E s (moveDown' k l) Q st:=by
 rw[moveDown'_eq]
 refine wpS_modify (h _ ⟨W.k,?_,W.p,W.e⟩)
 show bubble (arrOf st) k (k - l)=_
 rw[W.a,rW,rW,PC]
 exact kas_swaps_map f (fun i=>k - i) (fun i=>k - i - 1) _ p.toArray
theorem UO{v:Nat->Nat}{a nrem:Nat}{Q:Option (Option Nat)×Nat->SortSt->Prop}{g:Nat->Option (Option Nat)×Nat->StateT SortSt Sem (ForInStep (Option (Option Nat)×Nat))}
  (hg:∀x m (Q:_->SortSt->Prop),1<=m->m < nrem->(v m < v (m - 1)->Q (.done (none,m)) st)->(¬ v m < v (m - 1)->Q (.yield (none,m+1)) st)->wpS (model prog w) A E s (g x (none,m)) Q st)
  (h1:1<=a) (h2:a<=nrem) (hu:Cp v a) (h:∀m,a<=m->m<=nrem->Cp v m->(m=nrem\/v m < v (m - 1))->Q (none,m) st):wpS (model prog w) A E s (forIn [a:nrem] (none,a) g) Q st:=by
 refine aI6 (I:=fun x c st'=>st'=st/\c=(none,x)/\Cp v x) ?step ?fin ⟨rfl,rfl,hu⟩
 case fin=>
  rintro c st' ⟨rfl,rfl,hs⟩
  rw[show max a nrem=nrem by lia] at hs ⊢
  exact h nrem h2 (aC4 _) hs (.inl rfl)
 case step=>
  rintro x c st' hx hn ⟨rfl,rfl,hs⟩
  exact hg x x _ (by lia) hn (fun q=>h x hx (by lia) hs (.inr q)) fun q=>⟨rfl,rfl,hs.succ (by lia) q⟩
theorem PF{lo nrem:Nat}{Q:Option Nat->SortSt->Prop}(hc:Cm prog w A s kd f n r)(W:Wt kd f p pe st)(hp:∀x∈p,x < n)(hl:lo+nrem<=p.length)(h1:1<=nrem)
  (h:∀m p' st',1<=m->m<=nrem->Fix lo p p'->Cp (vv r p' lo) m->Wt kd f p' pe st'->Q (some m) st'):wpS (model prog w) A E s (countRun' lo nrem) Q st:=by
 have asc:∀{p' st' m} {Q:ForInStep (Option (Option Nat)×Nat)->SortSt->Prop},Wt kd f p' pe st'->Fix lo p p'->1<=m->m < nrem->(vv r p' lo m < vv r p' lo (m - 1)->Q (.done (none,m)) st')->(¬ vv r p' lo m < vv r p' lo (m - 1)->Q (.yield (none,m+1)) st')->
   wpS (model prog w) A E s (ltAt' (lo+m) (lo+m - 1)>>=fun z=>match z with | some q=>if q=true then pure (.done (none,m)) else pure (.yield (none,m+1)) | _=>pure (.done (some none,m))) Q st':=fun {p' st' m Q} W F hm hn q1 q2=>by
  have:=F.len
  refine aC7 (rV hc W (F.all hp) (by lia) (by lia) (b7 (fun z=>aD3 (q1 ?_)) fun z=>aD3 (q2 fun y=>z (aD6 ?_))))
  ·have:=aG8 z
   rw[show lo+m - 1=lo+(m - 1) by lia] at this
   exact this
  ·rw[show lo+m - 1=lo+(m - 1) by lia]
   exact y
 have eqv:∀{p' x q},lo+x<=p'.length->q+1<=x->(∀i,x - (q+1)<=i->i < x->vv r p' lo i=vv r p' lo (x - 1))->∀i,vv r (DC p' (lo+x - (q+1)) (lo+x)) lo i=vv r p' lo i:=fun {p' x q} hx hq he i=>by
  unfold vv
  rw[zg hx]
  split
  ·rename_i hi
   have a:=he i (by lia) (by lia)
   have b:=he (x - (q+1)+x - 1 - i) (by lia) (by lia)
   rw[show lo+x - (q+1)+(lo+x) - 1 - (lo+i)=lo+(x - (q+1)+x - 1 - i) by lia]
   exact b.trans a.symm
  ·rfl
 refine aC7 (UO (v:=vv r p lo) (fun x m Q hm hn q1 q2=>asc W (.refl _ _) hm hn q1 q2) (aC4 1) h1 (Cp.one _) fun m a1 a2 a3 a4=>b7 (fun z=>aD3 (h m p st a1 a2 (.refl _ _) a3 W)) fun z=>?_)
 have z:m≠nrem:=fun e=>z (aF0.mpr e)
 have a4:vv r p lo m < vv r p lo (m - 1):=by
  rcases a4 with a4 | a4
  ·exact absurd a4 z
  ·exact a4
 refine b7 (fun z2=>aC7 (rV hc W hp (show lo < p.length by lia) (show lo+m - 1 < p.length by lia) (b7 (fun z3=>aD3 (h m p st a1 a2 (.refl _ _) a3 W)) fun z3=>aC7 (zh W fun lR W2=>?_)))) fun z2=>?_
 have z3:¬ vv r p lo 0 < vv r p lo (m - 1):=fun q=>z3 (aD6 (by rw[show lo+m - 1=lo+(m - 1) by lia];exact q))
 have F2:Fix lo p (DC p lo (lo+m)):=.rv (by lia) (aC4 _)
 have d2:Hu (vv r (DC p lo (lo+m)) lo) (m+1):=by
  have al:∀k,k < m->vv r p lo k=vv r p lo (m - 1):=fun k hk=>by
   have b1:=a3 0 k (by lia) hk
   have b2:=a3 k (m - 1) (by lia) (by lia)
   lia
  have ev:∀i,vv r (DC p lo (lo+m)) lo i=vv r p lo i:=fun i=>by
   have:=eqv (p':=p) (x:=m) (q:=m - 1) (by lia) (by lia) (fun i _ hi=>al i hi) i
   rw[show lo+m - (m - 1+1)=lo by lia] at this
   exact this
  refine Hu.succ (fun i j oq hj=>?_) a1 (by rw[ev,ev];lia)
  rw[ev,ev,al i (by lia),al j hj]
  exact aC4 _
 rotate_left
 have W2:=W
 have F2:=Fix.refl lo p
 have d2:Hu (vv r p lo) (m+1):=by
  have:m=1:=by
   have:¬ m > 1:=z2
   lia
  subst this
  refine Hu.succ (fun i j oq hj=>?_) (aC4 _) (by lia)
  have:i=j:=by lia
  subst this;exact aC4 _
 all_goals
  refine aC7 (qh (aC7 (wpS_mono (aI6 (I:=fun x c st'=>∃p3 q,c=(none,x,q)/\Wt kd f p3 pe st'/\Fix lo p p3/\Hu (vv r p3 lo) x/\q+1<=x/\∀i,x - (q+1)<=i->i < x->vv r p3 lo i=vv r p3 lo (x - 1))
   (Q:=fun c st'=>∃p3 q x,c=(none,x,q)/\1<=x/\x<=nrem/\Wt kd f p3 pe st'/\Fix lo p p3/\Hu (vv r p3 lo) x/\q+1<=x/\∀i,x - (q+1)<=i->i < x->vv r p3 lo i=vv r p3 lo (x - 1)) ?_ ?_ ⟨_,0,rfl,W2,F2,d2,by lia,fun i h1 h2=>by congr 1;lia⟩) ?_)))
  ·rintro x c Az hx hn ⟨p3,q,rfl,W3,F3,d3,q3,e3⟩
   have fl:=F3.len
   have l1:lo+x - 1=lo+(x - 1):=by lia
   refine aC7 (rV hc W3 (F3.all hp) (show lo+x < _ by lia) (show lo+x - 1 < _ by lia) (b7 (fun y=>?_) fun y=>aC7 (rV hc W3 (F3.all hp) (show lo+x - 1 < _ by lia) (show lo+x < _ by lia) (b7 (fun y2=>aD3 ⟨p3,q,x,rfl,by lia,by lia,W3,F3,d3,q3,e3⟩) fun y2=>aD3 ⟨p3,q+1,rfl,W3,F3,?_,by lia,fun i i1 i2=>?_⟩))))
   ·have y:vv r p3 lo x < vv r p3 lo (x - 1):=by have:=aG8 y;rw[l1] at this;exact this
    have ev:=eqv (p':=p3) (by lia) q3 e3
    refine b7 (fun _=>aC7 (zh (i:=lo+x - (q+1)) (j:=lo+x) W3 fun NT W4=>aD3 ⟨_,0,rfl,W4,F3.trans (.rv (i:=lo+x - (q+1)) (j:=lo+x) (by lia) (by lia)),Hu.succ (fun i j oq hj=>by rw[ev,ev];exact d3 i j oq hj) (by lia) (by rw[ev,ev];lia),by lia,fun i i1 i2=>by congr 1;lia⟩)) fun _=>aD3 ⟨p3,0,rfl,W3,F3,d3.succ (by lia) (by lia),by lia,fun i i1 i2=>by congr 1;lia⟩
   ·have y:¬ vv r p3 lo x < vv r p3 lo (x - 1):=fun q=>y (aD6 (by rw[l1];exact q))
    have y2:¬ vv r p3 lo (x - 1) < vv r p3 lo x:=fun q=>y2 (aD6 (by rw[l1];exact q))
    exact d3.succ (by lia) (by lia)
   ·have y:¬ vv r p3 lo x < vv r p3 lo (x - 1):=fun q=>y (aD6 (by rw[l1];exact q))
    have y2:¬ vv r p3 lo (x - 1) < vv r p3 lo x:=fun q=>y2 (aD6 (by rw[l1];exact q))
    show vv r p3 lo i=vv r p3 lo (x+1 - 1)
    rw[Nat.add_sub_cancel]
    by_cases hi:i=x
    ·subst hi;rfl
    ·rw[e3 i (by lia) (by lia)];lia
  ·rintro c Az ⟨p3,q,rfl,W3,F3,d3,q3,e3⟩
   rw[show max (m+1) nrem=nrem by lia] at *
   exact⟨p3,q,nrem,rfl,h1,aC4 _,W3,F3,d3,q3,e3⟩
  ·rintro c Az ⟨p3,q,x,rfl,x1,x2,W3,F3,d3,q3,e3⟩
   have fl:=F3.len
   have ev:=eqv (p':=p3) (by lia) q3 e3
   refine b7 (fun _=>aC7 (zh (i:=lo+x - (q+1)) (j:=lo+x) W3 fun NT W4=>?_)) fun _=>?_
   have F4:Fix lo p _:=F3.trans (.rv (i:=lo+x - (q+1)) (j:=lo+x) (by lia) (by lia))
   have d4:Hu (vv r (DC p3 (lo+x - (q+1)) (lo+x)) lo) x:=fun i j oq hj=>by rw[ev,ev];exact d3 i j oq hj
   generalize DC p3 (lo+x - (q+1)) (lo+x)=p4 at W4 F4 d4
   rotate_left
   have W4:=W3
   have F4:=F3
   have d4:=d3
   all_goals
    have fl:=F4.len
    refine aC7 (zh (i:=lo) (j:=lo+x) W4 fun z5 W5=>aC7 (UO (a:=x) (v:=vv r (DC _ lo (lo+x)) lo) (fun x' m' Q xJ hn q1 q2=>asc W5 (F4.trans (.rv (by lia) (aC4 _))) xJ hn q1 q2) x1 x2 (fun i j oq hj=>?_) fun m' a1 a2 a3 _=>aD3 (h m' _ _ (by lia) a2 (F4.trans (.rv (by lia) (aC4 _))) a3 W5)))
    unfold vv
    rw[zg (by lia),zg (by lia),aC2 (by lia),aC2 (by lia),show lo+(lo+x) - 1 - (lo+i)=lo+(x - 1 - i) by lia,show lo+(lo+x) - 1 - (lo+j)=lo+(x - 1 - j) by lia]
    exact d4 _ _ (by lia) (by lia)
theorem PJ{lo m ok:Nat}{Q:Bool->SortSt->Prop}(hc:Cm prog w A s kd f n r)(W:Wt kd f p pe st)(hp:∀x∈p,x < n)(hl:lo+m<=p.length)(hk:1<=ok)(hm:ok<=m)(hu:Cp (vv r p lo) ok)
  (h:∀p' st',Fix lo p p'->Cp (vv r p' lo) m->Wt kd f p' pe st'->Q true st'):wpS (model prog w) A E s (binarySort' lo m ok) Q st:=by
 refine aC7 (wpS_mono (aI6 (I:=fun k c st'=>∃p',c=(none,())/\Wt kd f p' pe st'/\Fix lo p p'/\Cp (vv r p' lo) k) (Q:=fun c st'=>∃p',c=(none,())/\Wt kd f p' pe st'/\Fix lo p p'/\Cp (vv r p' lo) m) ?_ ?_ ⟨p,rfl,W,.refl _ _,by rw[Nat.max_eq_left hk];exact hu⟩) ?_)
 ·rintro k c jh k1 k2 ⟨p1,rfl,W1,F1,u1⟩
  have fl:=F1.len
  refine aC7 (wpS_mono (aI6 (I:=fun x c st'=>st'=jh/\∃l q,c=(none,l,q)/\l<=q/\q<=k/\q - l<=k - x/\(∀i,i < l->vv r p1 lo i<=vv r p1 lo k)/\∀i,q<=i->i < k->vv r p1 lo k < vv r p1 lo i)
   (Q:=fun c st'=>st'=jh/\∃l q,c=(none,l,q)/\l<=k/\(∀i,i < l->vv r p1 lo i<=vv r p1 lo k)/\∀i,l<=i->i < k->vv r p1 lo k < vv r p1 lo i) ?_ ?_ ⟨rfl,0,k,rfl,aI2 _,aC4 _,aC4 _,fun i hi=>by lia,fun i h1 h2=>by lia⟩) ?_)
  ·rintro x c lR _ hx ⟨rfl,l,q,rfl,b1,b2,b3,b4,b5⟩
   refine b7 (fun z=>?_) fun z=>aC7 (rV hc W1 (F1.all hp) (show lo+k < _ by lia) (show lo+(l+q) / 2 < _ by have:¬ l ≥ q:=z;lia) (b7 (fun y=>aD3 ⟨rfl,l,(l+q) / 2,rfl,by lia,by lia,?_,b4,fun i i1 i2=>?_⟩) fun y=>aD3 ⟨rfl,(l+q) / 2+1,q,rfl,?_,b2,?_,fun i i1=>?_,b5⟩))
   ·have:l ≥ q:=z
    have:l=q:=by lia
    subst this
    exact aD3 ⟨rfl,l,l,rfl,b2,b4,b5⟩
   ·have:¬ l ≥ q:=z
    lia
   ·have y:vv r p1 lo k < vv r p1 lo ((l+q) / 2):=aG8 y
    exact aE8 y (u1 _ _ i1 i2)
   ·have:¬ l ≥ q:=z
    lia
   ·have:¬ l ≥ q:=z
    lia
   ·have y:¬ vv r p1 lo k < vv r p1 lo ((l+q) / 2):=fun e=>y (aD6 e)
    have:¬ l ≥ q:=z
    exact aD5 (u1 i ((l+q) / 2) (by lia) (by lia)) (Nat.le_of_not_lt y)
  ·rintro c lR ⟨rfl,l,q,rfl,b1,b2,b3,b4,b5⟩
   have:l=q:=by lia
   subst this
   exact⟨rfl,l,l,rfl,b2,b4,b5⟩
  ·rintro c lR ⟨rfl,l,q,rfl,b1,b2,b3⟩
   refine aC7 (PD (k:=lo+k) (l:=lo+l) W1 fun Az W3=>aD3 ⟨_,rfl,W3,F1.trans (.bu (by lia) (by lia) (by lia)),fun i j oq hj=>?_⟩)
   unfold vv
   rw[Co (by lia) (by lia),Co (by lia) (by lia)]
   have g:∀i j,i<=j->j < k->r (p1.getD (lo+i) 0)<=r (p1.getD (lo+j) 0):=u1
   repeat' split
   all_goals first
    | (exfalso;lia)
    | exact aC4 _
    | exact b2 _ (by lia)
    | (rw[show lo+j - 1=lo+(j - 1) by lia];exact aH2 (b3 _ (by lia) (by lia)))
    | (rw[show lo+i - 1=lo+(i - 1) by lia,show lo+j - 1=lo+(j - 1) by lia];exact g _ _ (by lia) (by lia))
    | (rw[show lo+j - 1=lo+(j - 1) by lia];exact g _ _ (by lia) (by lia))
    | exact g _ _ (by lia) (by lia)
 ·rintro c jh ⟨p1,rfl,W1,F1,u1⟩
  rw[show max (max ok 1) m=m by lia] at u1
  exact⟨p1,rfl,W1,F1,u1⟩
 ·rintro c jh ⟨p1,rfl,W1,F1,u1⟩
  exact aD3 (h p1 jh F1 u1 W1)
end
end
end Sg
end UN
section UP
namespace Sg
open PySem PySem.W PyProof.Rows
noncomputable section
def PR(r:Nat->Nat):Nat->List (Nat×Nat×Nat)->List (List Nat)->Prop
 | _,[],[]=>True
 | s,q::ps,b::rs=>q.1=s/\q.2.1=b.length/\0 < b.length/\b.Pairwise (Le r)/\PR r (s+b.length) ps rs
 | _,_,_=>False
section
variable {r:Nat->Nat}
theorem PR.len:∀{s:Nat} {ps:List (Nat×Nat×Nat)} {rs:List (List Nat)},PR r s ps rs->ps.length=rs.length/\rs.length<=rs.flatten.length
 | _,[],[],_=>⟨rfl,aC4 _⟩
 | s,q::ps,b::rs,h=>by
  rw[PR] at h
  have:=PR.len h.2.2.2.2
  rw[List.flatten_cons,aD0,aD1,aD1]
  lia
 | _,[],_::_,h=>by simp[PR] at h
 | _,_::_,[],h=>by simp[PR] at h
theorem PR.snoc{q:Nat×Nat×Nat}{b:List Nat}(h2:q.2.1=b.length)(h3:0 < b.length)(h4:b.Pairwise (Le r)):∀{s:Nat} {ps:List (Nat×Nat×Nat)} {rs:List (List Nat)},PR r s ps rs->q.1=s+rs.flatten.length->PR r s (ps++[q]) (rs++[b])
 | s,[],[],_,h1=>by
  show PR r s [q] [b]
  rw[PR]
  exact⟨by simpa using h1,h2,h3,h4,trivial⟩
 | s,q'::ps,b'::rs,h,h1=>by
  rw[PR] at h
  show PR r s (q'::(ps++[q])) (b'::(rs++[b]))
  rw[PR]
  exact⟨h.1,h.2.1,h.2.2.1,h.2.2.2.1,PR.snoc h2 h3 h4 h.2.2.2.2 (by rw[h1];simp;lia)⟩
 | _,[],_::_,h,_=>by simp[PR] at h
 | _,_::_,[],h,_=>by simp[PR] at h
theorem PR.pw:∀{s:Nat} {ps Hv:List (Nat×Nat×Nat)} {rs:List (List Nat)},PR r s ps rs->Hv.map (fun q=>(q.1,q.2.1))=ps.map (fun q=>(q.1,q.2.1))->PR r s Hv rs
 | _,[],Hv,[],_,e=>by
  have:Hv=[]:=by simpa using e
  rw[this];trivial
 | s,q::ps,[],b::rs,h,e=>by simp at e
 | s,q::ps,q'::Hv,b::rs,h,e=>by
  rw[PR] at h ⊢
  rw[aC1,aC1] at e
  injection e with e1 e2
  injection e1 with e3 e4
  exact⟨e3.trans h.1,e4.trans h.2.1,h.2.2.1,h.2.2.2.1,PR.pw h.2.2.2.2 e2⟩
 | _,[],_,_::_,h,_=>by simp[PR] at h
 | _,_::_,_,[],h,_=>by simp[PR] at h
theorem PR.one:∀{s:Nat} {ps:List (Nat×Nat×Nat)} {b:List Nat},PR r s ps [b]->b.Pairwise (Le r)
 | _,[],_,h=>by simp[PR] at h
 | _,_::_,_,h=>by rw[PR] at h;exact h.2.2.2.1
theorem PR.two:∀{i s:Nat} {ps:List (Nat×Nat×Nat)} {rs:List (List Nat)},PR r s ps rs->i+1 < ps.length->∃R1 b1 b2 R2 pw RK,rs=R1++b1::b2::R2/\ps[i]?=some (s+R1.flatten.length,b1.length,pw)/\ps[i+1]?=some (s+R1.flatten.length+b1.length,b2.length,RK)/\
  0 < b1.length/\0 < b2.length/\b1.Pairwise (Le r)/\b2.Pairwise (Le r)/\∀M:List Nat,M.length=b1.length+b2.length->M.Pairwise (Le r)->PR r s ((ps.set i (s+R1.flatten.length,b1.length+b2.length,pw)).eraseIdx (i+1)) (R1++M::R2)
 | 0,s,q::q'::ps,b::b'::rs,h,_=>by
  rw[PR,PR] at h
  obtain ⟨h1,h2,h3,h4,h5,h6,h7,h8,h9⟩:=h
  obtain ⟨a,c,d⟩:=q
  obtain ⟨a',c',d'⟩:=q'
  simp only at h1 h2 h5 h6
  subst h1 h2 h5 h6
  refine⟨[],b,b',rs,d,d',rfl,rfl,rfl,h3,h7,h4,h8,fun M hM sM=>?_⟩
  show PR r a ((a+0,b.length+b'.length,d)::ps) (M::rs)
  rw[PR]
  exact⟨rfl,hM.symm,by lia,sM,by rw[hM,<- Nat.add_assoc];exact h9⟩
 | i+1,s,q::ps,b::rs,h,hl=>by
  rw[PR] at h
  obtain ⟨R1,b1,b2,R2,pw,RK,e1,e2,e3,x1,x2,x3,x4,x5⟩:=PR.two (i:=i) h.2.2.2.2 (by simpa using hl)
  have ee:s+(b::R1).flatten.length=s+b.length+R1.flatten.length:=by simp;lia
  refine⟨b::R1,b1,b2,R2,pw,RK,by rw[e1];rfl,by rw[ee];exact e2,by rw[ee];exact e3,x1,x2,x3,x4,fun M hM sM=>?_⟩
  rw[ee]
  show PR r s (q::((ps.set i (s+b.length+R1.flatten.length,b1.length+b2.length,pw)).eraseIdx (i+1))) (b::(R1++M::R2))
  rw[PR]
  exact⟨h.1,h.2.1,h.2.2.1,h.2.2.2.1,x5 M hM sM⟩
 | _,_,[],[],_,hl=>by simp at hl
 | _,_,[],_::_,h,_=>by simp[PR] at h
 | _,_,_::_,[],h,_=>by simp[PR] at h
 | 0,_,[_],[_],_,hl=>by simp at hl
 | 0,_,[_],_::_::_,h,_=>by simp[PR] at h
 | 0,_,_::_::_,[_],h,_=>by simp[PR] at h
end
theorem Hw(a:Array (Nat×Nat×Nat))(i pw:Nat):(a.modify i fun x=>(x.1,x.2.1,pw)).toList.map (fun q=>(q.1,q.2.1))=a.toList.map fun q=>(q.1,q.2.1):=by
 refine List.ext_getElem? fun k=>?_
 simp only[aE3,aH1,Array.getElem?_modify]
 split
 ·cases a[k]? <;> rfl
 ·rfl
theorem Fix.tail{F R p':List Nat}(h:Fix F.length (F++R) p'):∃R',p'=F++R'/\R'.Perm R:=by
 have hl:=h.len
 have e:p'.take F.length=F:=by
  refine List.ext_getElem? fun k=>?_
  rw[List.getElem?_take]
  split
  ·rename_i hk
   have q:=h.eq k hk
   have a:k < p'.length:=by rw[hl,aD0];lia
   rw[get_some a,q]
   simp[aH5,hk,aG3]
  ·rename_i hk
   rw[List.getElem?_eq_none (by lia)]
 refine⟨p'.drop F.length,?_,?_⟩
 ·conv=>lhs;rw[<- aI4 F.length p',e]
 ·have:=h.pm
  rw[show p'=F++p'.drop F.length by conv=>lhs;rw[<- aI4 F.length p',e]] at this
  exact(List.perm_append_left_iff F).mp this
theorem DE{r:Nat->Nat}{F R:List Nat}{m:Nat}(h:Cp (vv r (F++R) F.length) m)(hm:m<=R.length):(R.take m).Pairwise (Le r):=by
 rw[List.pairwise_iff_getElem]
 intro i j hi hj oq
 rw[aJ1] at hi hj
 have:=h i j (by lia) (by lia)
 simp[vv,aH5,aG2] at this
 simp[show i < R.length by lia,show j < R.length by lia] at this ⊢
 exact this
section
variable {prog:Program}{w:World}{A:Around}{E:Value->Shared->Prop}{s:Shared}{kd:SortKind}{f:Nat->Keyed}{n:Nat}{r:Nat->Nat}{st:SortSt}{p:List Nat}
theorem Hx{i:Nat}{rs:List (List Nat)}{R:List Nat}{pe:Array (Nat×Nat×Nat)}{Q:Bool->SortSt->Prop}(hc:Cm prog w A s kd f n r)(W:Wt kd f (rs.flatten++R) pe st)(hp:∀x∈rs.flatten++R,x < n)(hr:PR r 0 pe.toList rs)(hi:i+1 < pe.size)
  (h:∀uA xK st',uA.flatten.Perm rs.flatten->PR r 0 xK.toList uA->xK.size+1=pe.size->Wt kd f (uA.flatten++R) xK st'->Q true st'):wpS (model prog w) A E s (mergeAt' i) Q st:=by
 obtain ⟨R1,b1,b2,R2,pw,RK,rfl,e2,e3,x1,x2,x3,x4,x5⟩:=hr.two (i:=i) (by simpa using hi)
 rw[aH1] at e2 e3
 have ef:(R1++b1::b2::R2).flatten++R=R1.flatten++(b1++(b2++(R2.flatten++R))):=by simp
 rw[ef] at W hp
 refine PB hc W hp e2 e3 (by lia) rfl rfl x1 x2 x3 x4 fun M st' pm sm W'=>?_
 have lM:M.length=b1.length+b2.length:=by rw[pm.length_eq,aD0]
 have P':=x5 M lM sm
 refine h (R1++M::R2) _ st' ?_ ?_ ?_ (by rw[show (R1++M::R2).flatten++R=R1.flatten++(M++(R2.flatten++R)) by simp];exact W')
 ·have:(R1++M::R2).flatten=R1.flatten++(M++R2.flatten):=by simp
  rw[this,show (R1++b1::b2::R2).flatten=R1.flatten++((b1++b2)++R2.flatten) by simp]
  exact(pm.append_right _).append_left _
 ·have:((pe.setIfInBounds i (0+R1.flatten.length,b1.length+b2.length,pw)).eraseIdxIfInBounds (i+1)).toList=(pe.toList.set i (0+R1.flatten.length,b1.length+b2.length,pw)).eraseIdx (i+1):=by simp
  rw[this]
  exact P'
 ·rw[Array.eraseIdxIfInBounds,dif_pos (by simp;lia)]
  simp
  lia
theorem L8{Q:Unit->SortSt->Prop}(hc:Cm prog w A s kd f n r)(W:Wt kd f p #[] st)(hp:∀x∈p,x < n)(h:∀p' st',p'.Perm p->p'.Pairwise (Le r)->arrOf st'=arr f p'->failedOf st'=none->Q () st') :
  wpS (model prog w) A E s sortRuns' Q st:=by
 have sz:(arrOf st).size=p.length:=by rw[W.a,bO]
 refine aC7 (wpS_get (aC7 (wpS_mono (aI6 (I:=fun x c st'=>∃(rs:List (List Nat)) (R:List Nat) (pe:Array (Nat×Nat×Nat)),c=(none,rs.flatten.length)/\Wt kd f (rs.flatten++R) pe st'/\(rs.flatten++R).Perm p/\PR r 0 pe.toList rs/\x<=rs.flatten.length)
  (Q:=fun c st'=>∃(rs:List (List Nat)) (pe:Array (Nat×Nat×Nat)),c=(none,rs.flatten.length)/\Wt kd f rs.flatten pe st'/\rs.flatten.Perm p/\PR r 0 pe.toList rs) ?step ?fin ⟨[],p,#[],rfl,W,.refl _,trivial,aI2 _⟩) ?post)))
 case fin=>
  rintro c st' ⟨rs,R,pe,rfl,W1,P1,r1,x1⟩
  have l1:=P1.length_eq
  rw[aD0] at l1
  have:R=[]:=List.length_eq_zero_iff.mp (by rw[sz] at x1;lia)
  subst this
  rw[aJ0] at W1 P1
  exact⟨rs,pe,rfl,W1,P1,r1⟩
 case post=>
  rintro c jh ⟨rs,pe,rfl,W1,P1,r1⟩
  refine aC7 (wpS_mono (aI6 (I:=fun x c st'=>∃(rs:List (List Nat)) (pe:Array (Nat×Nat×Nat)),c=(none,())/\Wt kd f rs.flatten pe st'/\rs.flatten.Perm p/\PR r 0 pe.toList rs/\pe.size+x<=p.length+1)
   (Q:=fun c st'=>∃(rs:List (List Nat)) (pe:Array (Nat×Nat×Nat)),c=(none,())/\Wt kd f rs.flatten pe st'/\rs.flatten.Perm p/\PR r 0 pe.toList rs/\pe.size<=1) ?_ ?_ ⟨rs,pe,rfl,W1,P1,r1,?_⟩) ?_)
  ·rintro x c lR _ hx ⟨rs,pe,rfl,W2,P2,r2,x2⟩
   have W2':Wt kd f (rs.flatten++[]) pe lR:=by rw[aJ0];exact W2
   have Hy:∀x∈rs.flatten++[],x < n:=fun x hx=>hp x (P2.mem_iff.mp (by simpa using hx))
   refine aC7 (wpS_get (b7 (fun z=>aD3 ⟨rs,pe,rfl,W2,P2,r2,by rw[<- W2.p];exact z⟩) fun z=>aC7 (Hx hc W2' Hy r2 ?_ fun PK PM z5 P5 r5 l5 W5=>b7 (fun z=>absurd z (by simp)) fun _=>aD3 ⟨PK,PM,rfl,by rw[aJ0] at W5;exact W5,P5.trans P2,r5,by lia⟩)))
   have z:¬ (pendingOf lR).size<=1:=z
   have e:(sortPriv% PySem.Builtin.SortState.pending) lR=pe:=W2.p
   rw[W2.p] at z
   rw[e]
   (repeat' split) <;> lia
  ·rintro c lR ⟨rs,pe,rfl,W2,P2,r2,x2⟩
   exact⟨rs,pe,rfl,W2,P2,r2,by rw[sz] at x2;lia⟩
  ·have:=r1.len
   have:=P1.length_eq
   have:pe.size=rs.length:=by rw[<- aC9];exact r1.len.1
   lia
  ·rintro c lR ⟨rs,pe,rfl,W2,P2,r2,x2⟩
   have l2:=r2.len
   rw[aC9] at l2
   refine aD3 (h rs.flatten lR P2 ?_ W2.a W2.e)
   match rs,l2,r2 with
   | [],_,_=>exact .nil
   | [b],_,r2=>
    simpa using r2.one
   | _::_::_,l2,_=>simp at l2;lia
 case step=>
  rintro x c jh _ hx ⟨rs,R,pe,rfl,W1,P1,r1,x1⟩
  have l1:=P1.length_eq
  rw[aD0] at l1
  have hp1:∀x∈rs.flatten++R,x < n:=fun x hx=>hp x (P1.mem_iff.mp hx)
  refine b7 (fun z=>aD3 ?_) fun z=>aC7 (PF hc W1 hp1 (lo:=rs.flatten.length) (nrem:=(arrOf st).size - rs.flatten.length) (by rw[sz,aD0];lia) (by have z:¬ rs.flatten.length ≥ (arrOf st).size:=z;lia) fun m p2 lR m1 m2 F2 u2 W2=>?_)
  ·have z:rs.flatten.length ≥ (arrOf st).size:=z
   have:R=[]:=List.length_eq_zero_iff.mp (by rw[sz] at z;lia)
   subst this
   rw[aJ0] at W1 P1
   exact⟨rs,pe,rfl,W1,P1,r1⟩
  obtain ⟨R2,rfl,XI⟩:=F2.tail
  have l2:=XI.length_eq
  rw[sz] at m2
  have Hy:∀x∈rs.flatten++R2,x < n:=F2.all hp1
  have P2:(rs.flatten++R2).Perm p:=(XI.append_left _).trans P1
  have push:∀{R3:List Nat} {m:Nat} {uA:List (List Nat)} {xK:Array (Nat×Nat×Nat)} {z5:SortSt},1<=m/\m<=R3.length->(R3.take m).Pairwise (Le r)->(rs.flatten++R3).Perm p->uA.flatten.Perm rs.flatten->PR r 0 xK.toList uA->kindOf z5=kd->arrOf z5=arr f (uA.flatten++R3)->pendingOf z5=xK.push (rs.flatten.length,m,0)->failedOf z5=none->
    ∃(UQ:List (List Nat)) (R:List Nat) (pe:Array (Nat×Nat×Nat)),((none,rs.flatten.length+m):Option Unit×Nat)=(none,UQ.flatten.length)/\Wt kd f (UQ.flatten++R) pe z5/\(UQ.flatten++R).Perm p/\PR r 0 pe.toList UQ/\x+1<=UQ.flatten.length:=fun {R3 m uA xK z5} hm s3 P3 P4 r4 w1 w2 w3 w4=>by
   have lf:uA.flatten.length=rs.flatten.length:=P4.length_eq
   have e:(uA++[R3.take m]).flatten=uA.flatten++R3.take m:=by simp
   have lt:(R3.take m).length=m:=by rw[aJ1];lia
   have e2:(uA++[R3.take m]).flatten++R3.drop m=uA.flatten++R3:=by rw[e,aF3,aI4]
   refine⟨uA++[R3.take m],R3.drop m,xK.push (rs.flatten.length,m,0),?_,⟨w1,by rw[e2];exact w2,w3,w4⟩,by rw[e2];exact(P4.append_right _).trans P3,?_,?_⟩
   ·rw[e,aD0,lf,lt]
   ·rw[Array.toList_push]
    exact r4.snoc (by rw[lt]) (by lia) s3 (by show rs.flatten.length=0+_;lia)
   ·rw[e,aD0,lf,lt];lia
  refine b7 (fun zm=>aC7 (qh (aC7 (PJ hc W2 Hy (lo:=rs.flatten.length) (m:=min ((arrOf st).size - rs.flatten.length) (minRun' (arrOf st).size (arrOf st).size 0)) (by rw[sz,aD0];lia) m1 (by have zm:m < minRun' (arrOf st).size (arrOf st).size 0:=zm;lia) u2 fun p3 Az F3 u3 W3=>b7 (fun z=>absurd z (by simp)) fun _=>?_)))) fun _=>?_
  obtain ⟨R3,rfl,XJ⟩:=F3.tail
  have l3:=XJ.length_eq
  have P3:(rs.flatten++R3).Perm p:=(XJ.append_left _).trans P2
  have UR:1<=min ((arrOf st).size - rs.flatten.length) (minRun' (arrOf st).size (arrOf st).size 0)/\min ((arrOf st).size - rs.flatten.length) (minRun' (arrOf st).size (arrOf st).size 0)<=R3.length:=by
   have zm:m < minRun' (arrOf st).size (arrOf st).size 0:=zm
   lia
  have s3:=DE u3 UR.2
  rotate_left
  have W3:=W2
  have P3:=P2
  have UR:1<=m/\m<=R2.length:=by lia
  have s3:=DE u2 UR.2
  generalize hR:R2=R3 at *
  all_goals
   have hp3:∀x∈rs.flatten++R3,x < n:=fun x hx=>hp x (P3.mem_iff.mp hx)
   refine aC7 (wpS_get ?_)
   dsimp only
   split
   ·refine aC7 (wpS_mono (aI6 (I:=fun y c st'=>∃(uA:List (List Nat)) (xK:Array (Nat×Nat×Nat)),c=(none,())/\Wt kd f (uA.flatten++R3) xK st'/\uA.flatten.Perm rs.flatten/\PR r 0 xK.toList uA)
     (Q:=fun c st'=>∃(uA:List (List Nat)) (xK:Array (Nat×Nat×Nat)),c=(none,())/\Wt kd f (uA.flatten++R3) xK st'/\uA.flatten.Perm rs.flatten/\PR r 0 xK.toList uA) ?_ (fun _ _ z=>z) ⟨rs,pe,rfl,W3,.refl _,r1⟩) ?_)
    ·rintro y c NT _ _ ⟨uA,xK,rfl,W4,P4,r4⟩
     refine aC7 (wpS_get ?_)
     split
     ·rename_i a b o hq
      refine b7 (fun _=>aD3 ⟨uA,xK,rfl,W4,P4,r4⟩) fun _=>aC7 (Hx hc W4 (fun x hx=>hp3 x (((P4.append_right _).mem_iff).mp hx)) r4 ?_ fun PK PM z5 P5 r5 _ W5=>b7 (fun z=>absurd z (by simp)) fun _=>aD3 ⟨PK,PM,rfl,W5,P5.trans P4,r5⟩)
      have e:(sortPriv% PySem.Builtin.SortState.pending) NT=xK:=W4.p
      rw[e] at hq ⊢
      split at hq
      ·lia
      ·cases hq
     ·exact aD3 ⟨uA,xK,rfl,W4,P4,r4⟩
    ·rintro c NT ⟨uA,xK,rfl,W4,P4,r4⟩
     obtain rfl:=W4.p
     exact aC7 (wpS_modify (aC7 (wpS_modify (aD3 (push UR s3 P3 P4 (r4.pw (Hw _ _ _)) W4.k W4.a rfl W4.e)))))
   ·obtain rfl:=W3.p
    exact aC7 (wpS_modify (aD3 (push UR s3 P3 (.refl _) r1 W3.k W3.a rfl W3.e)))
end
end
end Sg
end UP
section US
namespace So
open PySem PySem.W PyProof.Rows
def Keeps(a:Addr)(h h':Heap):Prop:=∀b o,b≠a->h.get? b=some o->h'.get? b=some o
section
variable {prog:Program}{w:World}{A:Around}{E:Value->Shared->Prop}{s:Shared}{a:Addr}{vs:List Value}{kd:SortKind}{r:Nat->Nat}
theorem map_range{α:Type}(ds:List α)(z:α):(List.range ds.length).map (fun i=>ds.getD i z)=ds:=by
 refine List.ext_getElem (by simp) fun i h1 h2=>?_
 simp at h1
 simp[h1]
theorem xM{n:Nat}{P:PySem.Fin->Shared->Prop}(ho:s.heap.get? a=some (seqObj "list" vs.toArray n))(hz:vs.length<=sizeLine)
  (GP:2<=vs.length->∀h' Q,Keeps a s.heap h'->Q kd { s with heap:=h' }->wpAny (model prog w) A (keyKind' vs.toArray) Q E { s with heap:=h' })
  (iI:2<=vs.length->∀h' i j C,Keeps a s.heap h'->i < vs.length->j < vs.length->C (decide (r i < r j)) { s with heap:=h' }->wpAny (model prog w) A (keyLt' kd (vs.getD i Value.none) (vs.getD j Value.none)) C (fun _ _=>False) { s with heap:=h' })
  (h:∀h' n' (pm:List Nat),Keeps a s.heap h'->pm.Perm (List.range vs.length)->pm.Pairwise (fun i j=>r i<=r j)->h'.get? a=some (seqObj "list" (pm.map fun i=>vs.getD i Value.none).toArray n')->P (.done (.ret .none)) { s with heap:=h' }) :
  wpAny (model prog w) A (Builtin.«list.sort» ⟨[.ref a],[]⟩) P E s:=by
 have La:=aH3 s.heap a (Obj.mapSeq fun _=>(#[]:Array Value))
 obtain ⟨e1,XM⟩:∃e1,(s.heap.update a (Obj.mapSeq fun _=>(#[]:Array Value))).get? a=some (seqObj "list" #[] e1):=⟨_,get?_update_seq ho fun _=>#[]⟩
 rw[list_sort_plain]
 refine aB8 (listItems_at ho rfl (aB8 (listUpdate_at ho rfl (aB8 (seqEpoch_at XM rfl (aB8 (wpAny_newTuple (aB8 (wpAny_newList (wpAny_holding ?_) (aI2 _))) (by show vs.length<=_;lia))))) (by rw[aE6];lia) (aI2 _))))
 generalize hG:((s.heap.update a (Obj.mapSeq fun _=>(#[]:Array Value))).push (seqObj "tuple" vs.toArray 0)).push (seqObj "list" #[] 0)=g
 have kg:Keeps a s.heap g:=fun b o hb e=>by
  rw[<- hG]
  exact aC0 _ (aC0 _ (by rw[La.2 b hb];exact e))
 have ag:g.get? a=some (seqObj "list" #[] e1):=by rw[<- hG];exact aC0 _ (aC0 _ XM)
 show wpAny (model prog w) A _ P E { s with heap:=g }
 dsimp only
 have fin:∀(pm:List Nat),pm.Perm (List.range vs.length)->pm.Pairwise (fun i j=>r i<=r j)->P (.done (.ret .none)) { s with heap:=g.update a (Obj.mapSeq fun _=>(pm.map fun i=>vs.getD i Value.none).toArray) }:=fun pm h1 h2=>by
  have Kf:=aH3 g a (Obj.mapSeq fun _=>(pm.map fun i=>vs.getD i Value.none).toArray)
  exact h _ _ pm (fun b o hb e=>by rw[Kf.2 b hb];exact kg b o hb e) h1 h2 (get?_update_seq ag fun _=>_)
 have psz:∀(pm:List Nat),pm.Perm (List.range vs.length)->(pm.map fun i=>vs.getD i Value.none).toArray.size<=sizeLine+1:=fun pm hp=>by
  rw[aE6,aC8,hp.length_eq,List.length_range];lia
 by_cases h2:vs.toArray.size < 2
 ·rw[aC2 h2,aC2 h2]
  walk_at"?"
  rw[StateT.run_pure]
  walk_at"?$"
  have out:(arrOf (SortSt.mk' general' (vs.toArray.zip vs.toArray) #[] 7 none)).map (·.2)=((List.range vs.length).map fun i=>vs.getD i Value.none).toArray:=by
   rw[map_range]
   apply Array.toList_inj.mp
   rw[Array.toList_map,Array.toList_zip]
   exact List.map_snd_zip (aC4 _)
  rw[out]
  refine aB8 (seqEpoch_at ag rfl (aB8 (listUpdate_at ag rfl ?_ (aI2 _) (psz _ (.refl _)))))
  simp only[bne_self_eq_false,aE0,if_false]
  refine aB9 (fin _ (.refl _) ?_)
  rw[aE6] at h2
  refine List.pairwise_iff_getElem.mpr fun i j hi hj oq=>?_
  rw[List.length_range] at hj
  lia
 ·rw[aC3 h2,aC3 h2]
  rw[aE6] at h2
  have Gi:2<=vs.length:=by lia
  refine aB8 (GP Gi g _ kg ?_)
  have W:Sg.Wt kd (kas_item (pairsOf vs)) (List.range vs.length) #[] (SortSt.mk' kd (vs.toArray.zip vs.toArray) #[] 7 none):=⟨rfl,by
   have e:=kas_range (pairsOf vs)
   rw[pairsOf_size] at e
   rw[Sg.rW,e]
   rfl,rfl,rfl⟩
  have run:=Sg.L8 (prog:=prog) (w:=w) (A:=A) (E:=E) (s:={ s with heap:=g }) (n:=vs.length) (r:=r) (Q:=fun _ st'=>failedOf st'=none/\∃pm:List Nat,arrOf st'=Sg.arr (kas_item (pairsOf vs)) pm/\pm.Perm (List.range vs.length)/\pm.Pairwise (fun i j=>r i<=r j))
   (fun i j C hi hj hc=>by rw[kas_item_eq,kas_item_eq];exact iI Gi g i j C kg hi hj hc) W (fun x hx=>List.mem_range.mp hx) fun p' st' q1 q2 q3 q4=>⟨q4,p',q3,q1,q2⟩
  refine aB8 (aI3 run ?_ fun _ _ e=>e)
  rintro ⟨⟨⟩,st'⟩ s' ⟨rfl,hf,pm,har,p1,p3⟩
  dsimp only
  have out:(arrOf st').map (·.2)=(pm.map fun i=>vs.getD i Value.none).toArray:=by
   rw[har,Sg.arr,List.map_toArray,aG9]
   congr 1
   refine aI7 fun i _=>?_
   show (kas_item (pairsOf vs) i).2=_
   rw[kas_item_eq]
  rw[out]
  refine aB8 (seqEpoch_at ag rfl (aB8 (listUpdate_at ag rfl ?_ (aI2 _) (psz _ p1))))
  rw[hf]
  simp only[bne_self_eq_false,aE0,if_false]
  exact aB9 (fin pm p1 p3)
end
end So
end US
section af1
namespace Dm
open PySem PyProof.Rows L2 HT
mutual
def fl:D->List Int
 | .int i=>[i]
 | .tup ds=>j4 ds
 | .lst ds=>j4 ds
 | _=>[]
def j4:List D->List Int
 | []=>[]
 | d::ds=>fl d++j4 ds
end
mutual
def fG:D->D->Bool
 | .int _,.int _=>true
 | .tup xs,.tup ys=>dS xs ys
 | .lst xs,.lst ys=>dS xs ys
 | _,_=>false
def dS:List D->List D->Bool
 | [],[]=>true
 | x::xs,y::ys=>fG x y&&dS xs ys
 | _,_=>false
end
mutual
theorem vd:∀(x y:D),fG x y=true->(fl x).length=(fl y).length
 | .int _,.int _,_=>rfl
 | .tup xs,.tup ys,h=>by rw[fl,fl];exact vU xs ys (by rw[fG] at h;exact h)
 | .lst xs,.lst ys,h=>by rw[fl,fl];exact vU xs ys (by rw[fG] at h;exact h)
 | .cF,y,h=>by cases y <;> simp[fG] at h
 | .bl _,y,h=>by cases y <;> simp[fG] at h
 | .str _,y,h=>by cases y <;> simp[fG] at h
 | .cu _ _,y,h=>by cases y <;> simp[fG] at h
 | .int _,.cF,h=>by simp[fG] at h
 | .int _,.bl _,h=>by simp[fG] at h
 | .int _,.str _,h=>by simp[fG] at h
 | .int _,.tup _,h=>by simp[fG] at h
 | .int _,.lst _,h=>by simp[fG] at h
 | .int _,.cu _ _,h=>by simp[fG] at h
 | .tup _,.cF,h=>by simp[fG] at h
 | .tup _,.bl _,h=>by simp[fG] at h
 | .tup _,.str _,h=>by simp[fG] at h
 | .tup _,.int _,h=>by simp[fG] at h
 | .tup _,.lst _,h=>by simp[fG] at h
 | .tup _,.cu _ _,h=>by simp[fG] at h
 | .lst _,.cF,h=>by simp[fG] at h
 | .lst _,.bl _,h=>by simp[fG] at h
 | .lst _,.str _,h=>by simp[fG] at h
 | .lst _,.int _,h=>by simp[fG] at h
 | .lst _,.tup _,h=>by simp[fG] at h
 | .lst _,.cu _ _,h=>by simp[fG] at h
theorem vU:∀(xs ys:List D),dS xs ys=true->(j4 xs).length=(j4 ys).length
 | [],[],_=>rfl
 | [],_::_,h=>by simp[dS] at h
 | _::_,[],h=>by simp[dS] at h
 | x::xs,y::ys,h=>by
  rw[dS,aD4] at h
  rw[j4,j4,aD0,aD0,vd x y h.1,vU xs ys h.2]
end
theorem dU{x y:D}(h:fG x y=true):(∃i j,x = .int i/\y = .int j)\/(∃xs ys,x = .tup xs/\y = .tup ys/\dS xs ys=true)\/(∃xs ys,x = .lst xs/\y = .lst ys/\dS xs ys=true):=by
 cases x <;> cases y <;> simp[fG] at h
 ·exact .inl ⟨_,_,rfl,rfl⟩
 ·exact .inr (.inl ⟨_,_,rfl,rfl,h⟩)
 ·exact .inr (.inr ⟨_,_,rfl,rfl,h⟩)
mutual
theorem zj:∀(x y:D),fG x y=true->fl x=fl y->x=y
 | .int i,y,h,e=>by
  rcases dU h with ⟨i',j,e1,rfl⟩ | ⟨_,_,e1,_⟩ | ⟨_,_,e1,_⟩
  ·rw[fl,fl] at e;injection e with e;rw[e]
  ·cases e1
  ·cases e1
 | .tup xs,y,h,e=>by
  walk_at"O"
  ·cases e1
  ·walk_at"I"
   rw[fl,fl] at e
   rw[rY xs ys q e]
  ·cases e1
 | .lst xs,y,h,e=>by
  walk_at"V"
  ·cases e1
  ·cases e1
  ·walk_at"I"
   rw[fl,fl] at e
   rw[rY xs ys q e]
 | .cF,y,h,_=>by cases y <;> simp[fG] at h
 | .bl _,y,h,_=>by cases y <;> simp[fG] at h
 | .str _,y,h,_=>by cases y <;> simp[fG] at h
 | .cu _ _,y,h,_=>by cases y <;> simp[fG] at h
theorem rY:∀(xs ys:List D),dS xs ys=true->j4 xs=j4 ys->xs=ys
 | [],[],_,_=>rfl
 | [],_::_,h,_=>by simp[dS] at h
 | _::_,[],h,_=>by simp[dS] at h
 | x::xs,y::ys,h,e=>by
  rw[dS,aD4] at h
  rw[j4,j4] at e
  obtain ⟨e1,e2⟩:=List.append_inj e (vd x y h.1)
  rw[zj x y h.1 e1,rY xs ys h.2 e2]
end
mutual
theorem vV:∀(x y:D),fG x y=true->flat x=true/\flat y=true
 | .int i,y,h=>by
  walk_at"X"
  ·exact⟨by rw[flat] <;> simp,by rw[flat] <;> simp⟩
  ·cases e1
  ·cases e1
 | .tup xs,y,h=>by
  walk_at"O"
  ·cases e1
  ·walk_at"I"
   rw[flat,flat];exact tK xs ys q
  ·cases e1
 | .lst xs,y,h=>by
  walk_at"V"
  ·cases e1
  ·cases e1
  ·walk_at"I"
   rw[flat,flat];exact tK xs ys q
 | .cF,y,h=>by cases y <;> simp[fG] at h
 | .bl _,y,h=>by cases y <;> simp[fG] at h
 | .str _,y,h=>by cases y <;> simp[fG] at h
 | .cu _ _,y,h=>by cases y <;> simp[fG] at h
theorem tK:∀(xs ys:List D),dS xs ys=true->bL xs=true/\bL ys=true
 | [],[],_=>⟨by rw[bL],by rw[bL]⟩
 | [],_::_,h=>by simp[dS] at h
 | _::_,[],h=>by simp[dS] at h
 | x::xs,y::ys,h=>by
  rw[dS,aD4] at h
  obtain ⟨a,b⟩:=vV x y h.1
  obtain ⟨c,d⟩:=tK xs ys h.2
  rw[bL,bL,a,b,c,d];exact⟨rfl,rfl⟩
end
mutual
theorem Hz:∀(x y:D),fG x y=true->gq x y=decide (fl x=fl y)
 | .int i,y,h=>by
  walk_at"X"
  ·rw[gq,fl,fl]
   by_cases c:i=j
   ·subst c;simp
   ·simp[c]
  ·cases e1
  ·cases e1
 | .tup xs,y,h=>by
  walk_at"O"
  ·cases e1
  ·walk_at"I"
   rw[gq,fl,fl];exact ve xs ys q
  ·cases e1
 | .lst xs,y,h=>by
  walk_at"V"
  ·cases e1
  ·cases e1
  ·walk_at"I"
   rw[gq,fl,fl];exact ve xs ys q
 | .cF,y,h=>by cases y <;> simp[fG] at h
 | .bl _,y,h=>by cases y <;> simp[fG] at h
 | .str _,y,h=>by cases y <;> simp[fG] at h
 | .cu _ _,y,h=>by cases y <;> simp[fG] at h
theorem ve:∀(xs ys:List D),dS xs ys=true->cY xs ys=decide (j4 xs=j4 ys)
 | [],[],_=>by rw[cY];simp[j4]
 | [],_::_,h=>by simp[dS] at h
 | _::_,[],h=>by simp[dS] at h
 | x::xs,y::ys,h=>by
  rw[dS,aD4] at h
  rw[cY,Hz x y h.1,ve xs ys h.2,j4,j4]
  have l:=vd x y h.1
  by_cases c1:fl x=fl y
  ·rw[c1]
   by_cases c2:j4 xs=j4 ys
   ·rw[c2];simp
   ·simp[c2]
  ·have:¬ (fl x++j4 xs=fl y++j4 ys):=fun z=>c1 (List.append_inj z l).1
   simp[c1,this]
end
theorem vf:∀{a c b d:List Int},a.length=c.length->lexLt (a++b) (c++d)=if a=c then lexLt b d else lexLt a c
 | [],[],b,d,_=>by simp
 | x::a,y::c,b,d,h=>by
  rw[List.cons_append,List.cons_append,cj,cj,vf (a:=a) (c:=c) (by simpa using h)]
  by_cases e:x=y
  ·subst e
   by_cases e2:a=c
   ·subst e2;simp
   ·simp[e2]
  ·simp[e]
theorem rZ:∀a:List Int,lexLt a a=false
 | []=>rfl
 | x::a=>by rw[cj,aC2 rfl];exact rZ a
theorem zo:∀a b:List Int,lexLt a b=false->lexLt b a=false->a=b
 | [],[],_,_=>rfl
 | [],_::_,h,_=>by rw[oE] at h;cases h
 | _::_,[],_,h=>by rw[oE] at h;cases h
 | x::a,y::b,h1,h2=>by
  rw[cj] at h1 h2
  by_cases e:x=y
  ·subst e
   rw[aC2 rfl] at h1 h2
   rw[zo a b h1 h2]
  ·rw[aC3 e] at h1
   rw[aC3 (fun z=>e z.symm)] at h2
   have:=of_decide_eq_false h1
   have:=of_decide_eq_false h2
   lia
theorem lex_trans:∀a b c:List Int,lexLt a b=true->lexLt b c=true->lexLt a c=true
 | [],[],_,h,_=>by rw[gu] at h;cases h
 | [],_::_,[],_,h=>by rw[jH] at h;cases h
 | [],_::_,_::_,_,_=>rfl
 | _::_,[],_,h,_=>by rw[jH] at h;cases h
 | _::_,_::_,[],_,h=>by rw[jH] at h;cases h
 | x::a,y::b,z::c,h1,h2=>by
  rw[cj] at h1 h2 ⊢
  by_cases e1:x=y
  ·subst e1
   rw[aC2 rfl] at h1
   by_cases e2:x=z
   ·subst e2
    rw[aC2 rfl] at h2 ⊢
    exact lex_trans a b c h1 h2
   ·rw[aC3 e2] at h2 ⊢;exact h2
  ·rw[aC3 e1] at h1
   have k1:=aG8 h1
   by_cases e2:y=z
   ·subst e2
    rw[aC3 e1];exact h1
   ·rw[aC3 e2] at h2
    have k2:=aG8 h2
    rw[aC3 (by lia)]
    exact aD6 (by lia)
theorem HA(a b:List Int)(h:lexLt a b=true):lexLt b a=false:=by
 cases q:lexLt b a with
 | false=>rfl
 | true=>have:=lex_trans a b a h q;rw[rZ] at this;cases this
def rH(a b:List Int):Bool:=!lexLt b a
theorem F5(a b:List Int):(rH a b || rH b a)=true:=by
 unfold rH
 cases q:lexLt b a with
 | false=>rfl
 | true=>rw[HA b a q];rfl
theorem yp(a b c:List Int)(h1:rH a b=true)(h2:rH b c=true):rH a c=true:=by
 unfold rH at h1 h2 ⊢
 have h1:lexLt b a=false:=by simpa using h1
 have h2:lexLt c b=false:=by simpa using h2
 cases q:lexLt c a with
 | false=>rfl
 | true=>
  by_cases e:a=b
  ·subst e;rw[h2] at q;cases q
  ·have:lexLt a b=true:=by
    cases z:lexLt a b with
    | true=>rfl
    | false=>exact absurd (zo a b z h1) e
   have:=lex_trans c a b q this
   rw[h2] at this;cases this
theorem AU(a b:List Int)(h1:rH a b=true)(h2:rH b a=true):a=b:=zo a b (by simpa[rH] using h2) (by simpa[rH] using h1)
def dm(ds:List D):List D:=ds.mergeSort fun a b=>rH (fl a) (fl b)
theorem cG(ds:List D):(dm ds).Perm ds:=List.mergeSort_perm _ _
theorem lV(ds:List D):(dm ds).Pairwise fun a b=>rH (fl a) (fl b)=true:=
 List.pairwise_mergeSort (le:=fun a b=>rH (fl a) (fl b)) (fun a b c=>yp (fl a) (fl b) (fl c)) (fun a b=>F5 (fl a) (fl b)) ds
theorem i7{ds es:List D}(hs:∀a∈ds,∀b∈ds,fG a b=true)(hp:es.Perm ds)(hw:es.Pairwise fun a b=>rH (fl a) (fl b)=true):es=dm ds:=by
 refine List.Perm.eq_of_pairwise (le:=fun a b=>rH (fl a) (fl b)=true) (fun a b ha hb h1 h2=>?_) hw (lV ds) (hp.trans (cG ds).symm)
 exact zj a b (hs a (hp.mem_iff.mp ha) b ((cG ds).mem_iff.mp hb)) (AU _ _ h1 h2)
end Dm
end af1
section UT
namespace Dm
open PySem PyProof.Rows L2 HT PySem.SeqAt
def PN(A:Around)(s:Shared)(u v:Value)(b:Bool):Prop:=
 ∀(prog:Program) (w:World) (E:Value->Shared->Prop) (Q:Value->Shared->Prop),Q (.bool b) s->wpAny (model prog w) A (richCompare .Lt u v) Q E s
inductive PL(A:Around)(s:Shared):List Value->List Value->List D->List D->Prop
 | nil:PL A s [] [] [] []
 | cons {v w:Value} {x y:D} {vs ws:List Value} {xs ys:List D}:EqAt A s v w (decide (fl x=fl y))->PN A s v w (lexLt (fl x) (fl y))->(fl x).length=(fl y).length->PL A s vs ws xs ys->PL A s (v::vs) (w::ws) (x::xs) (y::ys)
theorem PL.len{A:Around}{s:Shared}{vs ws:List Value}{xs ys:List D}(h:PL A s vs ws xs ys):vs.length=ws.length:=by
 induction h with
 | nil=>rfl
 | cons _ _ _ _ ih=>rw[aD1,aD1,ih]
section
open PySem.AutoSeq1 (wpAny_loadPart')
open PySem.MeetsSeq PySem.MeetsSeq2 PySem.MeetsSeq3
theorem Cq(l b:Addr)(items zp:Array Value)(n n2:Nat)(dd RM:Option Addr)(sl NU:Array (Option Value))(xs ys:List D) :
  Meets (Builtin.«tuple.__lt__» ⟨[.ref l,.ref b],[]⟩) (fun A R s=>
   s.heap.get? l=some { cls:=.type "tuple",dict:=dd,data:=.seq items n,slots:=sl }/\
   s.heap.get? b=some { cls:=.type "tuple",dict:=RM,data:=.seq zp n2,slots:=NU }/\
   PL A.in1 s items.toList zp.toList xs ys/\R (.ok (.ret (.bool (lexLt (j4 xs) (j4 ys))))) s):=
 .of_wp fun prog w A R s h=>by
  obtain ⟨hp,g,d,tk,os⟩:=s
  obtain ⟨hl,hb,hP,h⟩:=h
  have f2:=AutoSeq1.sub_tuple_tuple
  have F6:items.size=zp.size:=by simpa using hP.len
  wp_walk using aG4 hl,aG4 hb,wpAny_forIn_list _ (fun rest b s'=>b.1=none/\s'=⟨hp,g,d,tk,os⟩/\∃(vs ws:List Value) (rX DG:List D),rest=vs.zip ws/\
   PL A.in1 ⟨hp,g,d,tk,os⟩ vs ws rX DG/\R (.ok (.ret (.bool (lexLt (j4 rX) (j4 DG))))) ⟨hp,g,d,tk,os⟩) _
  case turn=>
   rintro ⟨y,x⟩ rest b s' ⟨qi,rfl,vs,ws,rX,DG,hz,UU,hR⟩
   cases UU with
   | nil=>cases hz
   | @cons v0 w0 x0 y0 _ _ _ _ he iI hfl af2=>
    rw[List.zip_cons_cons] at hz
    injection hz with hyx UW
    injection hyx with hy hx
    subst hy hx
    rw[j4,j4,vf hfl] at hR
    refine aB8 (he prog w _ _ ?_)
    by_cases c:fl x0=fl y0
    ·rw[aC2 c] at hR
     rw[aD6 c]
     wp_walk
     exact⟨rfl,rfl,_,_,_,_,UW,af2,hR⟩
    ·rw[aC3 c] at hR
     rw[aE4 c]
     have hri:=iI prog w
     wp_walk using hri
     exact⟨_,rfl,by simpa using hR⟩
  case fin=>
   rintro ⟨b1,b2⟩ s' ⟨qi,rfl,vs,ws,rX,DG,hz,UU,hR⟩
   simp only at qi
   subst qi
   cases UU with
   | cons _ _ _ _=>cases hz
   | nil=>
    wp_walk
    refine⟨_,rfl,?_⟩
    simpa[Builtin.Tuple.tupleCompareSizes,F6,j4,gu] using hR
  case h=>exact⟨rfl,rfl,items.toList,zp.toList,xs,ys,rfl,hP,h⟩
end
mutual
def nl:D->Bool
 | .lst _=>false
 | .tup ds=>Cr ds
 | _=>true
def Cr:List D->Bool
 | []=>true
 | d::ds=>nl d&&Cr ds
end
section
variable {s:Shared}
mutual
theorem PU:∀(x y:D) {A:Around} {u v:Value},fG x y=true->nl x=true->dO s.heap x u->dO s.heap y v->A.units+dep x < cLine->PN A s u v (lexLt (fl x) (fl y))
 | .int i,y,A,u,v,h,_,hu,hv,_=>by
  walk_at"X"
  ·rw[dO] at hu
   rw[dO] at hv
   obtain ⟨t,rfl⟩:=hu
   obtain ⟨t',rfl⟩:=hv
   intro prog w E Q hq
   refine GQ A s i t j t' prog w E Q ?_
   rw[fl,fl,cj,gu] at hq
   by_cases c:i=j
   ·rw[aC2 c] at hq
    rw[aE4 (by lia)];exact hq
   ·rw[aC3 c] at hq;exact hq
  ·cases e1
  ·cases e1
 | .tup xs,y,A,u,v,h,hn,hu,hv,hr=>by
  walk_at"O"
  ·cases e1
  ·walk_at"I"
   rw[dO] at hu
   rw[dO] at hv
   refine b6 hu fun a it aR t1 p1=>?_
   clear hu
   walk_at"#"
   refine b6 hv fun b NV aR t2 p2=>?_
   clear hv
   walk_at"#"
   rw[dep] at hr
   rw[nl] at hn
   obtain ⟨⟨cls,dd,data,sl⟩,ho,hc,n,hd⟩:=id t1
   obtain ⟨⟨UX,RM,data2,NU⟩,NW,Kg,n2,hd2⟩:=id t2
   simp only at hc hd Kg hd2
   subst hc hd Kg hd2
   intro prog w E Q hq
   rw[fl,fl] at hq
   exact richCompare_meets_room (op:=.Lt) ⟨_,ho,rfl⟩ ⟨_,NW,rfl⟩ PySem.F.slot_tuple_lt PySem.F.entry_tuple_lt (PySem.F.args_tuple_lt_2 _ _) (Cq a b it NV n n2 dd RM sl NU xs ys)
    ⟨ho,NW,Lb xs ys q hn p1 p2 (A:=A.in1) (by show A.units+1+_ < _;lia),show Value.bool (lexLt (j4 xs) (j4 ys))≠Value.notImplemented/\Q _ s from ⟨(fun x=>nomatch x),hq⟩⟩ (by lia)
  ·cases e1
 | .lst xs,y,A,u,v,h,hn,_,_,_=>by rw[nl] at hn;cases hn
 | .cF,y,_,_,_,h,_,_,_,_=>by cases y <;> simp[fG] at h
 | .bl _,y,_,_,_,h,_,_,_,_=>by cases y <;> simp[fG] at h
 | .str _,y,_,_,_,h,_,_,_,_=>by cases y <;> simp[fG] at h
 | .cu _ _,y,_,_,_,h,_,_,_,_=>by cases y <;> simp[fG] at h
theorem Lb:∀(xs ys:List D) {A:Around} {vs ws:List Value},dS xs ys=true->Cr xs=true->bh s.heap xs vs->bh s.heap ys ws->A.units+jm xs < cLine->PL A s vs ws xs ys
 | [],[],A,vs,ws,_,_,h1,h2,_=>by rw[bh] at h1 h2;subst h1;subst h2;exact .nil
 | [],_::_,_,_,_,h,_,_,_,_=>by simp[dS] at h
 | _::_,[],_,_,_,h,_,_,_,_=>by simp[dS] at h
 | x::xs,y::ys,A,vs,ws,h,hn,h1,h2,hr=>by
  rw[bh] at h1
  rw[bh] at h2
  refine b6 h1 fun v r aR a1 a2=>?_
  clear h1
  walk_at"#"
  refine b6 h2 fun v' r' aR b1 b2=>?_
  clear h2
  walk_at"#"
  rw[dS,aD4] at h
  rw[Cr,aD4] at hn
  rw[jm] at hr
  obtain ⟨f1,f2⟩:=vV x y h.1
  refine .cons ?_ (PU x y h.1 hn.1 a1 b1 (by lia)) (vd x y h.1) (Lb xs ys h.2 hn.2 a2 b2 (by lia))
  rw[<- Hz x y h.1]
  exact oH x y f1 f2 a1 b1 (by lia)
end
end
end Dm
end UT
section UY
namespace Dm
open PySem PySem.W PyProof.Rows L2 HT PySem.SeqAt So
mutual
theorem dO.keep{h h':Heap}(k:∀b o,h.get? b=some o->h'.get? b=some o):∀(d:D) {v:Value},dO h d v->dO h' d v
 | .cF,v,q=>by rw[dO] at q ⊢;exact q
 | .bl b,v,q=>by rw[dO] at q ⊢;exact q
 | .int i,v,q=>by rw[dO] at q ⊢;exact q
 | .str x,v,q=>by rw[dO] at q ⊢;exact q
 | .tup ds,v,q=>by
  rw[dO] at q ⊢
  refine b6 q fun a it e t p=>?_
  clear q
  exact⟨a,it,e,t.keeps k,bh.keep k ds p⟩
 | .lst ds,v,q=>by
  rw[dO] at q ⊢
  refine b6 q fun a it e t p=>?_
  clear q
  exact⟨a,it,e,t.keeps k,bh.keep k ds p⟩
 | .cu tb ds,v,q=>by rw[dO] at q;exact q.elim
theorem bh.keep{h h':Heap}(k:∀b o,h.get? b=some o->h'.get? b=some o):∀(ds:List D) {vs:List Value},bh h ds vs->bh h' ds vs
 | [],_,q=>by rw[bh] at q ⊢;exact q
 | d::ds,_,q=>by
  rw[bh] at q ⊢
  refine b6 q fun v r e a b=>?_
  clear q
  exact⟨v,r,e,dO.keep k d a,bh.keep k ds b⟩
end
theorem bh.of_map{h:Heap}{α:Type}(f:α->D)(g:α->Value):∀(l:List α),(∀x∈l,dO h (f x) (g x))->bh h (l.map f) (l.map g)
 | [],_=>by rw[List.map_nil,bh];rfl
 | x::l,hx=>by
  rw[aC1,aC1,bh]
  exact⟨_,_,rfl,hx x (.head _),bh.of_map f g l fun y hy=>hx y (.tail _ hy)⟩
theorem Cs{α:Type}{p q:α->Bool}:∀(l:List α),(∀x∈l,p x=true->q x=true)->l.countP p<=l.countP q
 | [],_=>aC4 _
 | x::l,h=>by
  rw[List.countP_cons,List.countP_cons]
  have ih:=Cs l fun y hy=>h y (.tail _ hy)
  by_cases c:p x=true
  ·rw[aC2 c,aC2 (h x (.head _) c)];lia
  ·rw[aC3 c];lia
theorem HB{α:Type}{p q:α->Bool}:∀(l:List α),(∀x∈l,p x=true->q x=true)->∀z∈l,q z=true->p z=false->l.countP p < l.countP q
 | x::l,h,z,hz,hq,hp=>by
  rw[List.countP_cons,List.countP_cons]
  rcases aC6.mp hz with e | e
  ·subst e
   rw[aC3 (by rw[hp];exact aF8),aC2 hq]
   have:=Cs l fun y hy=>h y (.tail _ hy)
   lia
  ·have ih:=HB l (fun y hy=>h y (.tail _ hy)) z e hq hp
   by_cases c:p x=true
   ·rw[aC2 c,aC2 (h x (.head _) c)];lia
   ·rw[aC3 c];lia
def rk(ds:List D)(i:Nat):Nat:=(List.range ds.length).countP fun j=>lexLt (fl (ds.getD j .cF)) (fl (ds.getD i .cF))
theorem HC(ds:List D){i j:Nat}(hi:i < ds.length):lexLt (fl (ds.getD i .cF)) (fl (ds.getD j .cF))=decide (rk ds i < rk ds j):=by
 cases q:lexLt (fl (ds.getD i .cF)) (fl (ds.getD j .cF)) with
 | true=>
  refine(aD6 ?_).symm
  exact HB _ (fun k _ hk=>lex_trans _ _ _ hk q) i (List.mem_range.mpr hi) q (rZ _)
 | false=>
  refine(aE4 (Nat.not_lt.mpr ?_)).symm
  refine Cs _ fun k _ hk=>?_
  cases z:lexLt (fl (ds.getD k .cF)) (fl (ds.getD i .cF)) with
  | true=>rfl
  | false=>
   have a:rH (fl (ds.getD i .cF)) (fl (ds.getD k .cF))=true:=by unfold rH;rw[z];rfl
   have b:rH (fl (ds.getD j .cF)) (fl (ds.getD i .cF))=true:=by unfold rH;rw[q];rfl
   have c:=yp _ _ _ b a
   unfold rH at c
   rw[hk] at c
   cases c
inductive Sk:List D->SortKind->Prop
 | mJ {ds:List D} {kd:SortKind}:ds.length < 2->Sk ds kd
 | nums {ds:List D}:(∀d∈ds,∃i,d = .int i)->Sk ds oneType'
 | qx {ds:List D}:(∀d∈ds,∃i xs,d = .tup (.int i::xs))->Sk ds (tuples' true)
 | PV {ds:List D}:(∀d∈ds,∃ys xs,d = .tup (.tup ys::xs))->Sk ds (tuples' false)
section
variable {prog:Program}{w:World}{A:Around}{E:Value->Shared->Prop}{s:Shared}
theorem zq(i j:Int):lexLt [i] [j]=decide (i < j):=by
 rw[cj,gu]
 by_cases c:i=j
 ·rw[aC2 c,aE4 (by lia)]
 ·rw[aC3 c]
theorem AV{b fin:Bool}{Q:Bool->Shared->Prop}:∀(xs ys:List D) (vs ws:List Value) (i:Nat),(b=true->i=0->∃m n rX DG,xs = .int m::rX/\ys = .int n::DG)->dS xs ys=true->PL A s vs ws xs ys->bh s.heap xs vs->bh s.heap ys ws->fin=false->Q (lexLt (j4 xs) (j4 ys)) s->
  KatLex prog w A b fin Q (vs.zip ws) i s
 | [],[],vs,ws,i,_,_,hP,h1,h2,hf,hq=>by
  rw[bh] at h1 h2
  subst h1;subst h2
  show Q fin s
  rw[hf]
  exact hq
 | [],_::_,_,_,_,_,h,_,_,_,_,_=>by simp[dS] at h
 | _::_,[],_,_,_,_,h,_,_,_,_,_=>by simp[dS] at h
 | x::xs,y::ys,vs,ws,i,hb,h,hP,h1,h2,hf,hq=>by
  rw[bh] at h1
  rw[bh] at h2
  refine b6 h1 fun v r aR a1 a2=>?_
  clear h1
  walk_at"#"
  refine b6 h2 fun v' r' aR b1 b2=>?_
  clear h2
  walk_at"#"
  rw[dS,aD4] at h
  cases hP with
  | cons he hl hfl UU=>
   rw[j4,j4,vf hfl] at hq
   refine kat_cons (he prog w _ _ (kat_go (fun c=>kat_yes ?_) (fun c=>kat_no ?_)))
   ·have c:=aG8 c
    rw[aC2 c] at hq
    exact AV xs ys r r' (i+1) (fun _ z=>absurd z (Nat.succ_ne_zero _)) h.2 UU a2 b2 hf hq
   ·have c:=of_decide_eq_false c
    rw[aC3 c] at hq
    by_cases qi:b=true/\i=0
    ·obtain ⟨UZ,RN⟩:=qi
     refine Zq (hb UZ RN) fun m n _ _ e1 e2=>?_
     obtain ⟨rfl,_⟩:x = .int m/\_:=List.cons.inj e1
     obtain ⟨rfl,_⟩:y = .int n/\_:=List.cons.inj e2
     rw[dO] at a1
     rw[dO] at b1
     obtain ⟨t,rfl⟩:=a1
     obtain ⟨t',rfl⟩:=b1
     rw[UZ,RN]
     refine oneLt_int ?_
     rw[fl,fl,zq] at hq
     exact hq
    ·have:(b&&i==0)=false:=by
      cases b with
      | false=>rfl
      | true=>
       have:i≠0:=fun z=>qi ⟨rfl,z⟩
       simp[this]
     rw[this]
     exact kat_one _ _ (hl prog w _ _ (show PySem.W.BoolBack Q (.bool (lexLt (fl x) (fl y))) s from hq))
theorem ku{h:Heap}{ds:List D}{vs:List Value}(p:bh h ds vs){i:Nat}(hi:i < ds.length):dO h (ds.getD i .cF) (vs.getD i Value.none)/\ds.getD i .cF∈ds:=by
 have hv:i < vs.length:=by rw[p.len];exact hi
 obtain ⟨a,b⟩:=p.get i hv
 have e:vs.getD i Value.none=vs[i]:=by simp[hv]
 rw[e]
 exact⟨a,b⟩
theorem PX{ds:List D}{kd:SortKind}{vs:List Value}{i j:Nat}{C:Bool->Shared->Prop}(k:Sk ds kd)(h2:2<=ds.length)(hs:∀a∈ds,∀b∈ds,fG a b=true)(hn:∀a∈ds,nl a=true)(hd:∀a∈ds,A.units+dep a < cLine)(p:bh s.heap ds vs)
  (hi:i < ds.length) (hj:j < ds.length) (hc:C (decide (rk ds i < rk ds j)) s):wpAny (model prog w) A (keyLt' kd (vs.getD i Value.none) (vs.getD j Value.none)) C (fun _ _=>False) s:=by
 rw[<- HC ds hi] at hc
 obtain ⟨ai,mi⟩:=ku p hi
 obtain ⟨aj,mj⟩:=ku p hj
 generalize ds.getD i .cF=x at hc ai mi
 generalize ds.getD j .cF=y at hc aj mj
 have tup:∀{b:Bool} {xs ys:List D},x = .tup xs->y = .tup ys->(b=true->∃m n rX DG,xs = .int m::rX/\ys = .int n::DG)->wpAny (model prog w) A (keyLt' (tuples' b) (vs.getD i Value.none) (vs.getD j Value.none)) C (fun _ _=>False) s:=by
  intro b xs ys ex ey hb
  have sh:=hs x mi y mj
  have nx:=hn x mi
  have dx:=hd x mi
  subst ex;subst ey
  rw[fG] at sh
  rw[nl] at nx
  rw[dep] at dx
  rw[dO] at ai
  rw[dO] at aj
  refine b6 ai fun a it e1 rM p1=>?_
  clear ai
  obtain ⟨o1,q1,_,n1,d1⟩:=rM
  refine b6 aj fun b' NV e2 rM p2=>?_
  clear aj
  obtain ⟨o2,q2,_,n2,d2⟩:=rM
  rw[e1,e2]
  have P:=Lb xs ys (A:=A) sh nx p1 p2 (by lia)
  refine kat_lt q1 d1 q2 d2 (AV xs ys _ _ 0 (fun h _=>hb h) sh P p1 p2 (aE4 ?_) ?_)
  ·have:it.toList.length=NV.toList.length:=P.len
   simp at this
   lia
  ·rw[fl,fl] at hc
   exact hc
 cases k with
 | mJ h=>lia
 | nums h=>
  obtain ⟨m,rfl⟩:=h x mi
  obtain ⟨n,rfl⟩:=h y mj
  rw[dO] at ai
  rw[dO] at aj
  obtain ⟨t,e1⟩:=ai
  obtain ⟨t',e2⟩:=aj
  rw[e1,e2,keyLt'_oneType]
  refine oneLt_int ?_
  rw[fl,fl,zq] at hc
  exact hc
 | qx h=>
  refine qS (h x mi) fun m xs e1=>?_
  refine qS (h y mj) fun n ys e2=>?_
  exact tup e1 e2 fun _=>⟨m,n,xs,ys,rfl,rfl⟩
 | PV h=>
  refine qS (h x mi) fun m xs e1=>?_
  refine qS (h y mj) fun n ys e2=>?_
  exact tup e1 e2 fun z=>nomatch z
theorem zu{h:Heap}:∀{ds:List D} {vs:List Value} (f:D->Prop),(∀d∈ds,∃x xs,d = .tup (x::xs)/\f x)->bh h ds vs->∃fs:List Value,fs.length=ds.length/\KatTups h vs fs/\∀v∈fs,∃x,f x/\dO h x v
 | [],vs,f,_,p=>by
  rw[bh] at p;subst p
  exact⟨[],rfl,.nil,fun v hv=>absurd hv (by simp)⟩
 | d::ds,vs,f,hd,p=>by
  rw[bh] at p
  refine b6 p fun v r aR a b=>?_
  clear p
  walk_at"#"
  refine bM (zu f (fun d Sf=>hd d (.tail _ Sf)) b) fun fs l k e=>?_
  refine cP (hd d (.head _)) fun x xs aR fx=>?_
  walk_at"#"
  rw[dO] at a
  refine b6 a fun ad it aR rM p1=>?_
  clear a
  walk_at"#"
  obtain ⟨o1,q1,c1,n1,d1⟩:=rM
  rw[bh] at p1
  refine b6 p1 fun y r' e1 a1 _=>?_
  clear p1
  refine⟨y::fs,by rw[aD1,aD1,l],.cons q1 c1 d1 ?_ k,fun z hz=>?_⟩
  ·rw[<- aH1,e1];rfl
  ·rcases aC6.mp hz with rfl | hz
   ·exact⟨x,fx,a1⟩
   ·exact e z hz
theorem AW{ds:List D}{kd:SortKind}{vs:List Value}{Q:SortKind->Shared->Prop}(k:Sk ds kd)(h2:2<=ds.length)(p:bh s.heap ds vs)(hq:Q kd s):wpAny (model prog w) A (keyKind' vs.toArray) Q E s:=by
 cases k with
 | mJ h=>lia
 | nums h=>
  refine kas_kind (T:=.type "int") (by rw[p.len];exact h2) (fun v hv=>?_) (by decide) (by decide) hq
  obtain ⟨i,hi,e⟩:=aF6.mp hv
  obtain ⟨a,b⟩:=p.get i hi
  obtain ⟨m,em⟩:=h _ b
  rw[em,dO] at a
  obtain ⟨t,et⟩:=a
  rw[<- e,et]
  exact Looks.now
 | qx h=>
  obtain ⟨fs,l,kt,e⟩:=zu (fun x=>∃i,x = .int i) (fun d hd=>by obtain ⟨i,xs,e⟩:=h d hd;exact⟨_,xs,e,i,rfl⟩) p
  refine kat_kind (T:=.type "int") kt (by lia) (fun v hv=>?_) (by decide) hq
  refine aM (e v hv) fun x iG q=>?_
  obtain ⟨i,rfl⟩:=iG
  rw[dO] at q
  obtain ⟨t,rfl⟩:=q
  exact Looks.now
 | PV h=>
  obtain ⟨fs,l,kt,e⟩:=zu (fun x=>∃ys,x = .tup ys) (fun d hd=>by obtain ⟨ys,xs,e⟩:=h d hd;exact⟨_,xs,e,ys,rfl⟩) p
  refine kat_kind (T:=.type "tuple") kt (by lia) (fun v hv=>?_) (by decide) hq
  refine aM (e v hv) fun x iG q=>?_
  obtain ⟨ys,rfl⟩:=iG
  rw[dO] at q
  refine b6 q fun a it aR rM _=>?_
  clear q
  walk_at"#"
  obtain ⟨o1,q1,c1,_⟩:=rM
  have lk:Looks (model prog w) s.heap (typeOf (.ref a)) o1.cls:=(Looks.ld q1).andThen .now
  rw[c1] at lk
  exact lk
def SG(prog:Program)(w:World)(A:Around)(es:List D)(kd:SortKind)(vs:List Value):Prop:=es.length<=sizeLine/\(∀a∈es,∀b∈es,fl a=fl b->a=b)/\∀(A':Around) (s:Shared),A'.units=A.units+2->2<=es.length->bh s.heap es vs->
 (∀E (R:SortKind->Shared->Prop),R kd s->wpAny (model prog w) A' (keyKind' vs.toArray) R E s)/\∀i j C,i < es.length->j < es.length->C (decide (rk es i < rk es j)) s->wpAny (model prog w) A' (keyLt' kd (vs.getD i Value.none) (vs.getD j Value.none)) C (fun _ _=>False) s
theorem uB{v:Value}{Pd:List D->SortKind->List Value->Prop}{Q:Value->Shared->Prop}(hk:∀es kd vs,Pd es kd vs->SG prog w A es kd vs)
  (af3:∀R:List Value->Shared->Prop,(∀h' tk es kd vs,(∀b ob,s.heap.get? b=some ob->h'.get? b=some ob)->Pd es kd vs->bh h' es vs->R vs { s with heap:=h',toks:=tk })->wpAny (model prog w) A.in1 (collect v) R E s)
  (h:∀(h1 h':Heap) tk es kd vs L n (pm:List Nat),(∀b ob,s.heap.get? b=some ob->h1.get? b=some ob)->(∀b ob,h1.get? b=some ob->h'.get? b=some ob)->Pd es kd vs->bh h1 es vs->h1.objs.size<=L->(∀i∈pm,i < es.length)->dm es=pm.map (fun i=>es.getD i .cF)->
   h'.get? L=some (seqObj "list" (pm.map fun i=>vs.getD i Value.none).toArray n)->Q (.ref L) { s with heap:=h',toks:=tk }) :
  wpAny (model prog w) A (call (.builtin "sorted") [v]) Q E s:=by
 refine Calls.call_function_entry kind_sorted plain_sorted entry_sorted (args_sorted1 _) ?_
 unfold Builtin.«sorted»
 refine aB8 (m:=checkCount "sorted" 1 1 _) (aB9 (aB8 (af3 _ fun h1 tk es kd vs k1 pd p=>?_)))
 obtain ⟨lz,ij,sk⟩:=hk es kd vs pd
 have lv:vs.length=es.length:=p.len
 refine aB8 (wpAny_newList ?_ (by lia))
 have oL:(h1.push (seqObj "list" vs.toArray 0)).get? h1.objs.size=some (seqObj "list" vs.toArray 0):=aE2 _ rfl
 have nk:∀h',Keeps h1.objs.size (h1.push (seqObj "list" vs.toArray 0)) h'->∀b ob,h1.get? b=some ob->h'.get? b=some ob:=fun h' kh b ob e=>kh b ob (aE5 (aD9 e)) (aC0 _ e)
 refine aB8 (wpAny_holding (aH9 slot_list_sort ⟨_,oL,rfl⟩ entry_list_sort ?body (args_list_sort _)))
 case body=>
  refine xM (kd:=kd) (r:=rk es) (s:={ s with heap:=h1.push (seqObj "list" vs.toArray 0),toks:=tk }) oL (by lia) (fun h2 h' R kh hR=>(sk _ _ rfl (by lia) (p.keep (nk h' kh))).1 _ R hR) (fun h2 h' i j C kh hi hj hC=>(sk _ _ rfl (by lia) (p.keep (nk h' kh))).2 i j C (by lia) (by lia) hC) fun h' n' pm kh hp hu ho=>?_
  rw[lv] at hp
  have lt:∀i∈pm,i < es.length:=fun i hi=>List.mem_range.mp (hp.mem_iff.mp hi)
  refine⟨_,rfl,aB9 ⟨_,rfl,h h1 h' tk es kd vs _ n' pm k1 (nk h' kh) pd p (aC4 _) lt ?_ ho⟩⟩
  have pe:(pm.map fun i=>es.getD i D.cF).Perm es:=by
   have:=hp.map fun i=>es.getD i D.cF
   rwa [So.map_range] at this
  refine(List.Perm.eq_of_pairwise (le:=fun a b=>rH (fl a) (fl b)=true) (fun a b ha hb h1 h2=>ij a ((cG es).mem_iff.mp ha) b (pe.mem_iff.mp hb) (AU _ _ h1 h2)) (lV es) ?_ ((cG es).trans pe.symm))
  rw[List.pairwise_map]
  refine hu.imp_of_mem fun {i j} hi hj oq=>?_
  unfold rH
  rw[HC es (lt j hj),aE4 (by lia)]
  rfl
theorem sgS{es:List D}{kd:SortKind}{vs:List Value}(sk:Sk es kd)(l:es.length < 64)(hs:∀a∈es,∀b∈es,fG a b=true)(hn:∀a∈es,nl a=true)(hd:∀a∈es,A.units+2+dep a < cLine):SG prog w A es kd vs:=
 ⟨aD5 (aH2 l) (by rw[aG6];decide),fun a ha b hb=>zj a b (hs a ha b hb),fun A' s e h2 p=>⟨fun E R hR=>AW sk h2 p hR,fun i j C=>PX sk h2 hs hn (fun a ha=>by rw[e];exact hd a ha) p⟩⟩
end
end Dm
end UY
section af4
namespace Dm
open PySem PyProof.Rows L2 PySem.SeqAt
section
variable {s:Shared}
theorem Lc{A:Around}{d e:D}{u v:Value}{n:Nat}(x:Vw s.heap d u)(y:Vw s.heap e v)(fH:A.units < cLine)(hn:dep d=n)(fx:flat d=true)(fy:flat e=true)
  (ht:∀{xs ys:List D} {a b:Addr} {bf kr:Array Value},dep (.tup xs)=n->bL xs=true->bL ys=true->IsTup s.heap a bf->bh s.heap xs bf.toList->IsTup s.heap b kr->bh s.heap ys kr.toList->RcAt A s (.ref a) (.ref b) (cY xs ys))
  (hl:∀{xs ys:List D} {a b:Addr} {bf kr:Array Value},dep (.lst xs)=n->bL xs=true->bL ys=true->PlainL s.heap a bf->bh s.heap xs bf.toList->PlainL s.heap b kr->bh s.heap ys kr.toList->RcAt A s (.ref a) (.ref b) (cY xs ys)):RcAt A s u v (gq d e):=by
 cases x with
 | cF=>
  cases y with
  | cF=>exact RcAt.none_none
  | bl c=>exact RcAt.none_bool c
  | int j r=>exact RcAt.none_int j r
  | str y r=>exact RcAt.none_str y r
  | tup q' p'=>exact RcAt.none_tuple (aJ q') fH
  | lst q' p'=>exact RcAt.none_list q'.isList fH
 | bl b=>
  cases y with
  | cF=>exact RcAt.bool_none b
  | bl c=>exact RcAt.bool_bool b c
  | int j r=>exact RcAt.bool_int b j r
  | str y r=>exact RcAt.bool_str b y r
  | tup q' p'=>exact RcAt.bool_tuple b (aJ q') fH
  | lst q' p'=>exact RcAt.bool_list b q'.isList fH
 | int i t=>
  cases y with
  | cF=>exact RcAt.int_none i t
  | bl c=>exact RcAt.int_bool i t c
  | int j r=>exact RcAt.int_int i t j r
  | str y r=>exact RcAt.int_str i t y r
  | tup q' p'=>exact RcAt.int_tuple i t (aJ q') fH
  | lst q' p'=>exact RcAt.int_list i t q'.isList fH
 | str x t=>
  cases y with
  | cF=>exact RcAt.str_none x t
  | bl c=>exact RcAt.str_bool x t c
  | int j r=>exact RcAt.str_int x t j r
  | str y r=>exact RcAt.str_str x t y r
  | tup q' p'=>exact RcAt.str_tuple x t (aJ q') fH
  | lst q' p'=>exact RcAt.str_list x t q'.isList fH
 | tup q p=>
  cases y with
  | cF=>exact RcAt.tuple_none (aJ q) fH
  | bl c=>exact RcAt.tuple_bool c (aJ q) fH
  | int j r=>exact RcAt.tuple_int j r (aJ q) fH
  | str y r=>exact RcAt.tuple_str y r (aJ q) fH
  | tup q' p'=>exact ht hn (by rw[flat] at fx;exact fx) (by rw[flat] at fy;exact fy) q p q' p'
  | lst q' p'=>exact RcAt.tuple_list (aJ q) q'.isList fH
 | lst q p=>
  cases y with
  | cF=>exact RcAt.list_none q.isList fH
  | bl c=>exact RcAt.list_bool c q.isList fH
  | int j r=>exact RcAt.list_int j r q.isList fH
  | str y r=>exact RcAt.list_str y r q.isList fH
  | tup q' p'=>exact RcAt.list_tuple q.isList (aJ q') fH
  | lst q' p'=>exact hl hn (by rw[flat] at fx;exact fx) (by rw[flat] at fy;exact fy) q p q' p'
theorem PY(d e:D){A:Around}{u v:Value}(fx:flat d=true)(fy:flat e=true)(hu:dO s.heap d u)(hv:dO s.heap e v)(hr:A.units+dep d < cLine):RcAt A s u v (gq d e):=by
 walk_at"W"
 refine Lc (vw hu) (vw hv) fH rfl fx fy (fun {xs ys a b bf kr} hn fx fy q p q' p'=>?_) (fun {xs ys a b bf kr} hn fx fy q p q' p'=>?_)
 ·rw[<- vQ p p']
  exact RcAt.tuples (aJ q) (aJ q') fH (lU p p' fun x y u v m1 m2 g1 g2=>oH _ _ (cR fx m1) (cR fy m2) g1 g2 (by show A.units+1+_ < _;rw[<- hn,dep] at hr;have:=gJ m1;lia))
 ·by_cases hl:bf.size=kr.size
  ·rw[<- Ci p p' hl]
   exact RcAt.lists q.isList q'.isList hl fH (lU p p' fun x y u v m1 m2 g1 g2=>oH _ _ (cR fx m1) (cR fy m2) g1 g2 (by show A.units+1+_ < _;rw[<- hn,dep] at hr;have:=gJ m1;lia))
  ·rw[<- Cj p p' hl]
   exact RcAt.lists_lengths q.isList q'.isList (by simpa using hl) fH
theorem F7{A:Around}{d e:D}{u v:Value}{n:Nat}(x:Vw s.heap d u)(y:Vw s.heap e v)(fH:A.units < cLine)(hn:dep d=n)(fx:flat d=true)(fy:flat e=true)
  (ht:∀{xs ys:List D} {a b:Addr} {bf kr:Array Value},dep (.tup xs)=n->bL xs=true->bL ys=true->IsTup s.heap a bf->bh s.heap xs bf.toList->IsTup s.heap b kr->bh s.heap ys kr.toList->RcNeAt A s (.ref a) (.ref b) (!cY xs ys))
  (hl:∀{xs ys:List D} {a b:Addr} {bf kr:Array Value},dep (.lst xs)=n->bL xs=true->bL ys=true->PlainL s.heap a bf->bh s.heap xs bf.toList->PlainL s.heap b kr->bh s.heap ys kr.toList->RcNeAt A s (.ref a) (.ref b) (!cY xs ys)):RcNeAt A s u v (!gq d e):=by
 cases x with
 | cF=>
  cases y with
  | cF=>exact RcNeAt.none_none
  | bl c=>exact RcNeAt.none_bool c
  | int j r=>exact RcNeAt.none_int j r
  | str y r=>exact RcNeAt.none_str y r
  | tup q' p'=>exact RcNeAt.none_tuple (aJ q') fH
  | lst q' p'=>exact RcNeAt.none_list q'.isList fH
 | bl b=>
  cases y with
  | cF=>exact RcNeAt.bool_none b
  | bl c=>exact RcNeAt.bool_bool b c
  | int j r=>exact RcNeAt.bool_int b j r
  | str y r=>exact RcNeAt.bool_str b y r
  | tup q' p'=>exact RcNeAt.bool_tuple b (aJ q') fH
  | lst q' p'=>exact RcNeAt.bool_list b q'.isList fH
 | int i t=>
  cases y with
  | cF=>exact RcNeAt.int_none i t
  | bl c=>exact RcNeAt.int_bool i t c
  | int j r=>exact RcNeAt.int_int i t j r
  | str y r=>exact RcNeAt.int_str i t y r
  | tup q' p'=>exact RcNeAt.int_tuple i t (aJ q') fH
  | lst q' p'=>exact RcNeAt.int_list i t q'.isList fH
 | str x t=>
  cases y with
  | cF=>exact RcNeAt.str_none x t
  | bl c=>exact RcNeAt.str_bool x t c
  | int j r=>exact RcNeAt.str_int x t j r
  | str y r=>exact RcNeAt.str_str x t y r
  | tup q' p'=>exact RcNeAt.str_tuple x t (aJ q') fH
  | lst q' p'=>exact RcNeAt.str_list x t q'.isList fH
 | tup q p=>
  cases y with
  | cF=>exact RcNeAt.tuple_none (aJ q) fH
  | bl c=>exact RcNeAt.tuple_bool c (aJ q) fH
  | int j r=>exact RcNeAt.tuple_int j r (aJ q) fH
  | str y r=>exact RcNeAt.tuple_str y r (aJ q) fH
  | tup q' p'=>exact ht hn (by rw[flat] at fx;exact fx) (by rw[flat] at fy;exact fy) q p q' p'
  | lst q' p'=>exact RcNeAt.tuple_list (aJ q) q'.isList fH
 | lst q p=>
  cases y with
  | cF=>exact RcNeAt.list_none q.isList fH
  | bl c=>exact RcNeAt.list_bool c q.isList fH
  | int j r=>exact RcNeAt.list_int j r q.isList fH
  | str y r=>exact RcNeAt.list_str y r q.isList fH
  | tup q' p'=>exact RcNeAt.list_tuple q.isList (aJ q') fH
  | lst q' p'=>exact hl hn (by rw[flat] at fx;exact fx) (by rw[flat] at fy;exact fy) q p q' p'
theorem HD(d e:D){A:Around}{u v:Value}(fx:flat d=true)(fy:flat e=true)(hu:dO s.heap d u)(hv:dO s.heap e v)(hr:A.units+dep d < cLine):RcNeAt A s u v (!gq d e):=by
 walk_at"W"
 refine F7 (vw hu) (vw hv) fH rfl fx fy (fun {xs ys a b bf kr} hn fx fy q p q' p'=>?_) (fun {xs ys a b bf kr} hn fx fy q p q' p'=>?_)
 ·rw[<- vQ p p']
  exact RcNeAt.tuples (aJ q) (aJ q') fH (lU p p' fun x y u v m1 m2 g1 g2=>oH _ _ (cR fx m1) (cR fy m2) g1 g2 (by show A.units+1+_ < _;rw[<- hn,dep] at hr;have:=gJ m1;lia))
 ·by_cases hl:bf.size=kr.size
  ·rw[<- Ci p p' hl]
   exact RcNeAt.lists q.isList q'.isList hl fH (lU p p' fun x y u v m1 m2 g1 g2=>oH _ _ (cR fx m1) (cR fy m2) g1 g2 (by show A.units+1+_ < _;rw[<- hn,dep] at hr;have:=gJ m1;lia))
  ·rw[<- Cj p p' hl]
   exact RcNeAt.lists_lengths q.isList q'.isList (by simpa using hl) fH
end
end Dm
end af4
section af5
namespace Tb
open PySem PySem.SetTable
def jI(mask:Nat)(p:Probe):Probe:=
 if p.more > 0 then { p with j:=p.j+1,more:=p.more - 1 } else
  { p with j:=(leap mask p.i p.perturb).1,more:=runEnd mask (leap mask p.i p.perturb).1 - (leap mask p.i p.perturb).1,i:=(leap mask p.i p.perturb).1,perturb:=(leap mask p.i p.perturb).2 }
theorem vW(t:SetTable)(p:Probe):t.advance p=jI t.mask p:=by
 unfold SetTable.advance jI;rfl
def Gj(mask i jJ:Nat):Probe:={ j:=i,more:=runEnd mask i - i,i:=i,perturb:=jJ,dummy:=none }
theorem vX(t:SetTable)(h:Int):t.probeStart h=Gj t.mask (bits h % (t.mask+1)) (bits h):=rfl
def W(mask:Nat):Probe->Nat->Probe
 | p,0=>p
 | p,k+1=>W mask (jI mask p) k
theorem oJ(mask:Nat):∀(a b:Nat) (p:Probe),W mask p (a+b)=W mask (W mask p a) b
 | 0,b,p=>by rw[Nat.zero_add];rfl
 | a+1,b,p=>by
  rw[show a+1+b=(a+b)+1 by lia]
  show W mask (jI mask p) (a+b)=_
  rw[oJ mask a b];rfl
theorem PZ(mask:Nat)(p:Probe)(k:Nat):W mask p (k+1)=jI mask (W mask p k):=by
 rw[oJ mask k 1 p];rfl
theorem vY(mask:Nat)(p:Probe)(h:p.dummy=none):(jI mask p).dummy=none:=by
 unfold jI;split <;> exact h
theorem DH(mask:Nat):∀(k:Nat) (p:Probe),p.dummy=none->(W mask p k).dummy=none
 | 0,_,h=>h
 | k+1,p,h=>DH mask k _ (vY mask p h)
theorem HE(mask:Nat):∀(k:Nat) (p:Probe),k<=p.more->W mask p k={ p with j:=p.j+k,more:=p.more - k }
 | 0,p,_=>rfl
 | k+1,p,h=>by
  show W mask (jI mask p) k=_
  have e:jI mask p={ p with j:=p.j+1,more:=p.more - 1 }:=by unfold jI;rw[aC2 (by lia)]
  rw[e,HE mask k _ (by show k<=p.more - 1;lia)]
  simp only[Probe.mk.injEq,and_true,true_and]
  lia
theorem Ct(mask i jJ:Nat):W mask (Gj mask i jJ) (runEnd mask i - i+1)=Gj mask (leap mask i jJ).1 (leap mask i jJ).2:=by
 rw[PZ,HE mask (runEnd mask i - i) (Gj mask i jJ) (aC4 _)]
 unfold jI
 rw[aC3 (by show ¬ (runEnd mask i - i - (runEnd mask i - i) > 0);lia)]
 rfl
theorem Q0(mask i:Nat):runEnd mask i - i<=9:=by unfold runEnd;split <;> lia
def G(mask:Nat):Nat->Nat->Nat->Nat×Nat
 | 0,i,jJ=>(i,jJ)
 | n+1,i,jJ=>G mask n (leap mask i jJ).1 (leap mask i jJ).2
theorem AX(mask:Nat):∀(n i jJ:Nat),∃k,k<=10 * n/\W mask (Gj mask i jJ) k=Gj mask (G mask n i jJ).1 (G mask n i jJ).2
 | 0,i,jJ=>⟨0,by lia,rfl⟩
 | n+1,i,jJ=>by
  refine aM (AX mask n (leap mask i jJ).1 (leap mask i jJ).2) fun k hk e=>?_
  refine⟨runEnd mask i - i+1+k,by have:=Q0 mask i;lia,?_⟩
  rw[oJ,Ct,e];rfl
theorem NX(mask:Nat):∀(n i jJ:Nat),(G mask n i jJ).2=jJ / 32 ^ n
 | 0,i,jJ=>by simp[G]
 | n+1,i,jJ=>by
  show (G mask n (leap mask i jJ).1 (leap mask i jJ).2).2=_
  rw[NX mask n,show (leap mask i jJ).2=jJ / 32 from rfl,Nat.div_div_eq_div_mul,Nat.pow_succ,Nat.mul_comm]
theorem NY(mask:Nat):∀(a b i jJ:Nat),G mask (a+b) i jJ=G mask b (G mask a i jJ).1 (G mask a i jJ).2
 | 0,b,i,jJ=>by rw[Nat.zero_add];rfl
 | a+1,b,i,jJ=>by
  rw[show a+1+b=(a+b)+1 by lia]
  show G mask (a+b) _ _=_
  rw[NY mask a b];rfl
theorem V0(mask:Nat):∀(n i jJ:Nat),i < mask+1->(G mask n i jJ).1 < mask+1
 | 0,_,_,h=>h
 | n+1,i,jJ,_=>V0 mask n _ _ (Nat.mod_lt _ (Nat.succ_pos _))
def seen(mask:Nat):Nat->Nat->Nat->Nat
 | 0,_,acc=>acc
 | n+1,i,acc=>seen mask n ((i * 5+1) % (mask+1)) (acc ||| (1 <<< i))
theorem AY(mask e:Nat):∀(n i acc:Nat),(seen mask n i acc).testBit e=true->acc.testBit e=true\/∃m,m < n/\(G mask m i 0).1=e
 | 0,i,acc,h=>.inl h
 | n+1,i,acc,h=>by
  rcases AY mask e n _ _ h with h | ⟨m,hm,e'⟩
  ·rw[Nat.testBit_or,Bool.or_eq_true] at h
   rcases h with h | h
   ·exact .inl h
   ·refine .inr ⟨0,by lia,?_⟩
    rw[Nat.one_shiftLeft,Nat.testBit_two_pow] at h
    exact aG8 h
  ·exact .inr ⟨m+1,by lia,e'⟩
def oK(mask:Nat):Bool:=(List.range (mask+1)).all fun i=>seen mask (mask+1) i 0==2 ^ (mask+1) - 1
theorem V1:oK 7=true:=by decide +kernel
theorem Q2:oK 31=true:=by decide +kernel
theorem Ld:oK 127=true:=by decide +kernel
def Gk(mask:Nat):Prop:=mask=7\/mask=31\/mask=127
theorem Gk.full{mask:Nat}(h:Gk mask):oK mask=true:=by
 rcases h with rfl | rfl | rfl
 ·exact V1
 ·exact Q2
 ·exact Ld
theorem cover{mask:Nat}(hm:Gk mask){i e:Nat}(hi:i < mask+1)(he:e < mask+1):∃m,m < mask+1/\(G mask m i 0).1=e:=by
 have h:=hm.full
 unfold oK at h
 rw[aI0] at h
 have q:=aF0.mp (h i (List.mem_range.mpr hi))
 have b:(seen mask (mask+1) i 0).testBit e=true:=by
  rw[q,Nat.testBit_two_pow_sub_one];exact aD6 he
 rcases AY mask e _ _ _ b with h0 | h0
 ·rw[Nat.zero_testBit] at h0;cases h0
 ·exact h0
theorem Lf(h:Int):bits h < 2 ^ 64:=by
 unfold bits;lia
theorem DJ{mask:Nat}(hm:Gk mask)(h:Int){e:Nat}(he:e < mask+1):∃n,n<=mask+13/\(G mask n (bits h % (mask+1)) (bits h)).1=e:=by
 have p0:(G mask 13 (bits h % (mask+1)) (bits h)).2=0:=by
  rw[NX];exact Nat.div_eq_of_lt (aE8 (Lf h) (by decide))
 obtain ⟨m,xJ,e'⟩:=cover hm (V0 mask 13 _ (bits h) (Nat.mod_lt _ (Nat.succ_pos _))) he
 refine⟨13+m,by lia,?_⟩
 rw[NY,p0];exact e'
theorem reach{mask:Nat}(hm:Gk mask)(h:Int){e:Nat}(he:e < mask+1):∃k,k<=10 * (mask+13)/\(W mask (Gj mask (bits h % (mask+1)) (bits h)) k).j=e:=by
 refine aM (DJ hm h he) fun n hn e'=>?_
 refine aM (AX mask n (bits h % (mask+1)) (bits h)) fun k hk ek=>?_
 refine⟨k,by lia,?_⟩
 rw[ek];exact e'
def uC(xs:Array Nat):Prop:=∀i j,i < j->j < xs.size->xs.getD i 0 < xs.getD j 0
theorem uC.le{xs:Array Nat}(h:uC xs){i j:Nat}(oq:i<=j)(hj:j < xs.size):xs.getD i 0<=xs.getD j 0:=by
 rcases Nat.lt_or_eq_of_le oq with h' | rfl
 ·exact aH2 (h i j h' hj)
 ·exact aC4 _
theorem HF(xs:Array Nat){i a b:Nat}(h:i < xs.size):xs.getD i a=xs.getD i b:=by simp[Array.getD,h]
theorem vZ{xs:Array Nat}(hr:uC xs)(j:Nat):∀(fuel lo hi:Nat),hi<=xs.size->lo<=hi->hi - lo<=fuel->(∀i,i < lo->xs.getD i 0 < j)->(∀i,hi<=i->i < xs.size->j<=xs.getD i 0)->
  lo<=below.go xs j fuel lo hi/\below.go xs j fuel lo hi<=xs.size/\(∀i,i < below.go xs j fuel lo hi->xs.getD i 0 < j)/\∀i,below.go xs j fuel lo hi<=i->i < xs.size->j<=xs.getD i 0
 | 0,lo,hi,h1,h2,h3,a,b=>by
  have:hi=lo:=by lia
  subst this
  exact⟨aC4 _,h1,a,b⟩
 | fuel+1,lo,hi,h1,h2,h3,a,b=>by
  unfold below.go
  by_cases iI:lo < hi
  ·rw[aC2 iI]
   dsimp only
   have hm:(lo+hi) / 2 < xs.size:=by lia
   rw[HF xs (b:=0) hm]
   by_cases hc:xs.getD ((lo+hi) / 2) 0 < j
   ·rw[aC2 hc]
    have q:=vZ hr j fuel ((lo+hi) / 2+1) hi h1 (by lia) (by lia) (fun i Pr=>Nat.lt_of_le_of_lt (hr.le (by lia) hm) hc) b
    exact⟨by lia,q.2⟩
   ·rw[aC3 hc]
    have q:=vZ hr j fuel lo ((lo+hi) / 2) (by lia) (by lia) (by lia) a (fun i Pr hs=>aD5 (Nat.le_of_not_lt hc) (hr.le Pr hs))
    exact⟨by lia,q.2⟩
  ·rw[aC3 iI]
   have:hi=lo:=by lia
   subst this
   exact⟨aC4 _,h1,a,b⟩
theorem mL{xs:Array Nat}(hr:uC xs)(j:Nat):below xs j<=xs.size/\(∀i,i < below xs j->xs.getD i 0 < j)/\∀i,below xs j<=i->i < xs.size->j<=xs.getD i 0:=
 (vZ hr j xs.size 0 xs.size (aC4 _) (aI2 _) (aC4 _) (fun i h=>absurd h (aH7 _)) (fun i h h'=>absurd h' (Nat.not_lt.mpr h))).2
theorem below_at{xs:Array Nat}(hr:uC xs){i:Nat}(hi:i < xs.size):below xs (xs.getD i 0)=i:=by
 refine vD (mL hr (xs.getD i 0)) fun a b c=>?_
 rcases Nat.lt_trichotomy (below xs (xs.getD i 0)) i with h | h | h
 ·have:=c _ (aC4 _) (by lia)
  have:=hr _ _ h hi
  lia
 ·exact h
 ·have:=b i h
  lia
structure Good(t:SetTable)(n:Nat):Prop where
 size:t.place.size=n
 rise:uC t.place
 le:∀i,i < n->t.place.getD i 0<=t.mask
 V2:t.dummies=#[]
 RO:Gk t.mask
 mJ:n < t.mask
theorem DK(j:Nat):has #[] j=false:=by simp[has]
theorem yq{t:SetTable}{n i:Nat}(g:Good t n)(hi:i < n):t.slot (t.place.getD i 0) = .live i:=by
 have hs:i < t.place.size:=by rw[g.size];exact hi
 unfold SetTable.slot
 dsimp only
 rw[below_at g.rise hs,aC2 (by simp[Array.getD,hs])]
theorem w5{t:SetTable}{n:Nat}(g:Good t n)(j:Nat):(∃i,i < n/\t.place.getD i 0=j/\t.slot j = .live i)\/((∀i,i < n->t.place.getD i 0≠j)/\t.slot j = .empty):=by
 by_cases h:∃i,i < n/\t.place.getD i 0=j
 ·refine aM h fun i hi e=>?_
  clear h
  exact .inl ⟨i,hi,e,by rw[<- e];exact yq g hi⟩
 ·refine .inr ⟨fun i hi e=>h ⟨i,hi,e⟩,?_⟩
  unfold SetTable.slot
  dsimp only
  rw[aC3,g.V2,DK]
  ·rfl
  ·intro q
   have q:=aF0.mp q
   obtain ⟨hs,e⟩:=Array.getElem?_eq_some_iff.mp q
   exact h ⟨below t.place j,by rw[<- g.size];exact hs,by simp[Array.getD,hs,e]⟩
theorem dW{t:SetTable}{n:Nat}(g:Good t n)(j:Nat):t.slot j = .empty↔∀i,i < n->t.place.getD i 0≠j:=by
 rcases w5 g j with ⟨i,hi,e,q⟩ | ⟨a,q⟩
 ·rw[q];exact⟨fun h=>(nomatch h),fun h=>absurd e (h i hi)⟩
 ·exact⟨fun _=>a,fun _=>q⟩
theorem DL{xs:Array Nat}(h:uC xs):∀i,i < xs.size->i<=xs.getD i 0
 | 0,_=>aI2 _
 | i+1,hi=>by
  have a:=DL h i (by lia)
  have b:=h i (i+1) (by lia) hi
  lia
theorem Cu{t:SetTable}{n:Nat}(g:Good t n):∃e,e < t.mask+1/\t.slot e = .empty:=by
 by_cases h:∀i,i < n->t.place.getD i 0=i
 ·refine⟨n,by have:=g.mJ;lia,(dW g n).mpr fun i hi e=>?_⟩
  rw[h i hi] at e;lia
 ·have:∃i,i < n/\t.place.getD i 0≠i/\∀k,k < i->t.place.getD k 0=k:=by
   have aux:∀m,m<=n->(∀k,k < m->t.place.getD k 0=k)\/∃i,i < n/\t.place.getD i 0≠i/\∀k,k < i->t.place.getD k 0=k:=by
    intro m
    induction m with
    | zero=>intro _;exact .inl fun k hk=>absurd hk (aH7 _)
    | succ m ih=>
     intro hm
     rcases ih (by lia) with a | a
     ·by_cases e:t.place.getD m 0=m
      ·refine .inl fun k hk=>?_
       rcases Nat.lt_or_eq_of_le (Nat.le_of_lt_succ hk) with h' | rfl
       ·exact a k h'
       ·exact e
      ·exact .inr ⟨m,by lia,e,a⟩
     ·exact .inr a
   rcases aux n (aC4 _) with a | a
   ·exact absurd a h
   ·exact a
  refine bM this fun i hi ne before=>?_
  clear this
  have hs:i < t.place.size:=by rw[g.size];exact hi
  have ge:=DL g.rise i hs
  refine⟨i,by have:=g.le i hi;lia,(dW g i).mpr fun k hk e=>?_⟩
  rcases Nat.lt_trichotomy k i with h' | rfl | h'
  ·rw[before k h'] at e;lia
  ·exact ne e
  ·have:=g.rise i k h' (by rw[g.size];exact hk)
   lia
theorem toList_ins{α:Type}(xs:Array α)(p:Nat)(x:α):(SetTable.insertAt xs p x).toList=xs.toList.take p++x::xs.toList.drop p:=by
 simp[SetTable.insertAt,aD8,List.take_of_length_le]
theorem HG{α:Type}(xs:Array α)(p:Nat)(x:α)(hp:p<=xs.size):(SetTable.insertAt xs p x).size=xs.size+1:=by
 rw[<- aC9,toList_ins,aD0,aD1,aJ1,List.length_drop,aC9];lia
theorem rN{α:Type}(xs:Array α)(p:Nat)(x:α)(hp:p<=xs.size)(i:Nat):(SetTable.insertAt xs p x)[i]?=if i < p then xs[i]? else if i=p then some x else xs[i - 1]?:=by
 rw[<- aH1,toList_ins]
 by_cases h1:i < p
 ·rw[aC2 h1,aG3 (by rw[aJ1,aC9];lia),List.getElem?_take_of_lt h1,aH1]
 ·rw[aC3 h1,aG2 (by rw[aJ1,aC9];lia),aJ1,aC9,Nat.min_eq_left hp]
  by_cases h2:i=p
  ·subst h2;simp
  ·rw[aC3 h2]
   obtain ⟨m,hm⟩:∃m,i - p=m+1:=⟨i - p - 1,by lia⟩
   rw[hm,List.getElem?_cons_succ,List.getElem?_drop,aH1]
   congr 1;lia
theorem AZ(xs:Array Nat)(p x:Nat)(hp:p<=xs.size)(i:Nat):(SetTable.insertAt xs p x).getD i 0=if i < p then xs.getD i 0 else if i=p then x else xs.getD (i - 1) 0:=by
 have e:∀ys:Array Nat,∀k,ys.getD k 0=(ys[k]?).getD 0:=fun ys k=>by simp[aE9]
 rw[e,rN xs p x hp i]
 split
 ·rw[e]
 ·split
  ·rfl
  ·rw[e]
theorem Cv{t:SetTable}{n j:Nat}(g:Good t n):t.put j=({ t with place:=SetTable.insertAt t.place (below t.place j) j },below t.place j):=by
 unfold SetTable.put
 dsimp only
 rw[g.V2,DK]
 simp only[aE0,if_false]
theorem B0{t:SetTable}{n j:Nat}(g:Good t n)(hj:j<=t.mask)(he:t.slot j = .empty)(hf:n+1 < t.mask):Good (t.put j).1 (n+1)/\(t.put j).2=below t.place j/\below t.place j<=n/\(t.put j).1.mask=t.mask/\
  (∀k,(t.put j).1.slot k = .empty↔(t.slot k = .empty/\k≠j))/\(t.put j).1.place=SetTable.insertAt t.place (below t.place j) j:=by
 refine vD (mL g.rise j) fun b1 b2 b3=>?_
 rw[g.size] at b1 b3
 have UZ:below t.place j<=t.place.size:=by rw[g.size];exact b1
 have XN:=(dW g j).mp he
 have gt:∀i,below t.place j<=i->i < n->j < t.place.getD i 0:=fun i h1 h2=>by
  have:=b3 i h1 h2
  have:=XN i h2
  lia
 rw[Cv g]
 have gd:=AZ t.place (below t.place j) j UZ
 have sz:(SetTable.insertAt t.place (below t.place j) j).size=n+1:=by rw[HG _ _ _ UZ,g.size]
 have gg:Good { t with place:=SetTable.insertAt t.place (below t.place j) j } (n+1):=by
  refine⟨sz,fun i k hik hk=>?_,fun i hi=>?_,g.V2,g.RO,hf⟩
  ·have hk:k < n+1:=by rw[<- sz];exact hk
   show (SetTable.insertAt t.place (below t.place j) j).getD i 0 < (SetTable.insertAt t.place (below t.place j) j).getD k 0
   rw[gd i,gd k]
   by_cases h1:k < below t.place j
   ·rw[aC2 h1,aC2 (by lia)]
    exact g.rise i k hik (by rw[g.size];lia)
   ·rw[aC3 h1]
    by_cases h2:k=below t.place j
    ·rw[aC2 h2,aC2 (by lia)]
     exact b2 i (by lia)
    ·rw[aC3 h2]
     by_cases h3:i < below t.place j
     ·rw[aC2 h3]
      exact g.rise i (k - 1) (by lia) (by rw[g.size];lia)
     ·rw[aC3 h3]
      by_cases h4:i=below t.place j
      ·rw[aC2 h4]
       exact gt (k - 1) (by lia) (by lia)
      ·rw[aC3 h4]
       exact g.rise (i - 1) (k - 1) (by lia) (by rw[g.size];lia)
  ·show (SetTable.insertAt t.place (below t.place j) j).getD i 0<=t.mask
   rw[gd i]
   by_cases h1:i < below t.place j
   ·rw[aC2 h1];exact g.le i (by lia)
   ·rw[aC3 h1]
    by_cases h2:i=below t.place j
    ·rw[aC2 h2];exact hj
    ·rw[aC3 h2];exact g.le (i - 1) (by lia)
 refine⟨gg,rfl,b1,rfl,fun k=>?_,rfl⟩
 rw[dW gg,dW g]
 show (∀i,i < n+1->(SetTable.insertAt t.place (below t.place j) j).getD i 0≠k)↔_
 constructor
 ·intro h
  refine⟨fun i hi e=>?_,fun e=>?_⟩
  ·by_cases h1:i < below t.place j
   ·exact h i (by lia) (by rw[gd i,aC2 h1];exact e)
   ·exact h (i+1) (by lia) (by rw[gd (i+1),aC3 (by lia),aC3 (by lia)];exact e)
  ·exact h (below t.place j) (by lia) (by rw[gd,aC3 (by lia),aC2 rfl];exact e.symm)
 ·rintro ⟨h,af6⟩ i hi e
  rw[gd i] at e
  by_cases h1:i < below t.place j
  ·rw[aC2 h1] at e;exact h i (by lia) e
  ·rw[aC3 h1] at e
   by_cases h2:i=below t.place j
   ·rw[aC2 h2] at e;exact af6 e.symm
   ·rw[aC3 h2] at e;exact h (i - 1) (by lia) e
end Tb
end af5
section V3
namespace Tb
open PySem PySem.SetTable
def tL(t:SetTable)(h:Int)(j:Nat):Prop:=∃k,(W t.mask (t.probeStart h) k).j=j/\∀m,m < k->t.slot (W t.mask (t.probeStart h) m).j≠ .empty
def Paths(t:SetTable)(hs:Nat->Int)(n:Nat):Prop:=∀i,i < n->tL t (hs i) (t.place.getD i 0)
theorem least{p:Nat->Prop}[DecidablePred p]{k:Nat}(h:p k):∃d,d<=k/\p d/\∀m,m < d->¬ p m:=by
 induction k using Nat.strongRecOn with
 | _ k ih=>
  by_cases q:∃m,m < k/\p m
  ·refine aM q fun m hm pm=>?_
   clear q
   refine bM (ih m hm pm) fun d hd a b=>?_
   exact⟨d,by lia,a,b⟩
  ·exact⟨k,aC4 _,h,fun m hm pm=>q ⟨m,hm,pm⟩⟩
theorem dist{t:SetTable}{n:Nat}(g:Good t n)(h:Int):∃d,d<=10 * (t.mask+13)/\t.slot (W t.mask (t.probeStart h) d).j = .empty/\∀m,m < d->t.slot (W t.mask (t.probeStart h) m).j≠ .empty:=by
 refine aM (Cu g) fun e he se=>?_
 refine aM (reach g.RO h he) fun k hk ek=>?_
 obtain ⟨d,hd,a,b⟩:=least (p:=fun m=>t.slot (W t.mask (t.probeStart h) m).j = .empty) (k:=k) (by rw[vX,ek];exact se)
 exact⟨d,by lia,a,b⟩
theorem DM{t:SetTable}{n:Nat}(g:Good t n)(hashAt:Nat->Int)(h:Int):∀(d:Nat) (p:Probe) (fuel:Nat),p.dummy=none->d < fuel->t.slot (W t.mask p d).j = .empty->(∀m,m < d->t.slot (W t.mask p m).j≠ .empty)->
  (∃m i,m < d/\i < n/\t.slot (W t.mask p m).j = .live i/\hashAt i=h/\(∀m',m' < m->∀i',t.slot (W t.mask p m').j = .live i'->hashAt i'≠h)/\probe.go t hashAt h fuel p=some (.candidate (W t.mask p m).j i (W t.mask p (m+1))))\/
  ((∀m,m < d->∀i,t.slot (W t.mask p m).j = .live i->hashAt i≠h)/\probe.go t hashAt h fuel p=some (.empty (W t.mask p d).j none))
 | 0,p,fuel+1,hd,_,he,_=>by
  refine .inr ⟨fun m hm=>absurd hm (aH7 _),?_⟩
  unfold probe.go
  have Lg:t.slot p.j = .empty:=he
  rw[Lg,hd];rfl
 | d+1,p,fuel+1,hd,hf,he,hb=>by
  have h0:t.slot p.j≠ .empty:=hb 0 (by lia)
  rcases w5 g p.j with ⟨i,hi,_,q⟩ | ⟨_,q⟩
  ·by_cases hh:hashAt i=h
   ·refine .inl ⟨0,i,by lia,hi,q,hh,fun m hm=>absurd hm (aH7 _),?_⟩
    unfold probe.go
    rw[q]
    dsimp only
    rw[aC2 (aF0.mpr hh),vW];rfl
   ·have e:probe.go t hashAt h (fuel+1) p=probe.go t hashAt h fuel (jI t.mask p):=by
     conv=>lhs;unfold probe.go
     rw[q]
     dsimp only
     rw[aC3 (fun z=>hh (aF0.mp z)),vW]
    rw[e]
    rcases DM g hashAt h d (jI t.mask p) fuel (vY _ _ hd) (by lia) he (fun m hm=>hb (m+1) (by lia)) with ⟨m,i',a1,a2,a3,a4,a5,a6⟩ | ⟨a1,a2⟩
    ·refine .inl ⟨m+1,i',by lia,a2,a3,a4,fun m' xJ V4 q'=>?_,a6⟩
     cases m' with
     | zero=>
      have q2:t.slot p.j = .live V4:=q'
      rw[q] at q2;cases q2;exact hh
     | succ m'=>exact a5 m' (by lia) V4 q'
    ·refine .inr ⟨fun m hm V4 q'=>?_,a2⟩
     cases m with
     | zero=>
      have q2:t.slot p.j = .live V4:=q'
      rw[q] at q2;cases q2;exact hh
     | succ m=>exact a1 m (by lia) V4 q'
  ·exact absurd q h0
theorem F8{t:SetTable}{n j:Nat}(g:Good t n)(hj:j<=t.mask)(he:t.slot j = .empty)(hf:n+1 < t.mask){hs Kh:Nat->Int}(P:Paths t hs n){h:Int}
  (hh:∀i,i < n+1->Kh i=if i < below t.place j then hs i else if i=below t.place j then h else hs (i - 1)) (hp:tL t h j):Paths (t.put j).1 Kh (n+1):=by
 refine uR (B0 g hj he hf) fun gg _ hb hm hsl vM=>?_
 have keep:∀{h':Int} {k:Nat},tL t h' k->tL (t.put j).1 h' k:=by
  rintro h' k ⟨s,e,b⟩
  have es:(t.put j).1.probeStart h'=t.probeStart h':=by rw[vX,vX,hm]
  refine⟨s,by rw[hm,es];exact e,fun m xJ z=>?_⟩
  rw[hm,es] at z
  exact b m xJ ((hsl _).mp z).1
 intro i hi
 rw[vM,AZ _ _ _ (by rw[g.size];exact hb),hh i hi]
 by_cases h1:i < below t.place j
 ·rw[aC2 h1,aC2 h1];exact keep (P i (by lia))
 ·rw[aC3 h1,aC3 h1]
  by_cases h2:i=below t.place j
  ·rw[aC2 h2,aC2 h2];exact keep hp
  ·rw[aC3 h2,aC3 h2];exact keep (P (i - 1) (by lia))
def Am(owner:Array (Option Nat))(j:Nat):Bool:=(owner.getD j (some 0)).isSome
def st(mask:Nat)(h:Int):Probe:=Gj mask (bits h % (mask+1)) (bits h)
theorem yr{mask:Nat}(owner:Array (Option Nat))(hz:owner.size=mask+1):∀(fuel i jJ n:Nat),i < mask+1->n < fuel->Am owner (G mask n i jJ).1=false->
  ∃k j,layClean.free mask owner fuel i jJ=some j/\(W mask (Gj mask i jJ) k).j=j/\j < mask+1/\Am owner j=false/\∀m,m < k->Am owner (W mask (Gj mask i jJ) m).j=true
 | fuel+1,i,jJ,n,hi,hn,he=>by
  have aA5:runEnd mask i<=mask:=by unfold runEnd;split <;> lia
  have hge:i<=runEnd mask i:=by unfold runEnd;split <;> lia
  have hW:∀m,m<=runEnd mask i - i->(W mask (Gj mask i jJ) m).j=i+m:=fun m hm=>by rw[HE mask m (Gj mask i jJ) hm];rfl
  unfold layClean.free
  cases hf:(List.range (runEnd mask i+1 - i)).find? (fun k=>(owner.getD (i+k) (some 0)).isNone) with
  | some k=>
   dsimp only
   rw[List.find?_range_eq_some] at hf
   refine vD hf fun a b c=>?_
   clear hf
   have hk:k < runEnd mask i+1 - i:=List.mem_range.mp b
   refine⟨k,i+k,rfl,hW k (by lia),by lia,?_,fun m hm=>?_⟩
   ·unfold Am
    cases q:owner.getD (i+k) (some 0) with
    | none=>rfl
    | some z=>rw[q] at a;cases a
   ·rw[hW m (by lia)]
    have q:=c m hm
    unfold Am
    cases q2:owner.getD (i+m) (some 0) with
    | none=>rw[q2] at q;cases q
    | some z=>rfl
  | none=>
   dsimp only
   rw[List.find?_range_eq_none] at hf
   have qz:∀m,m < runEnd mask i+1 - i->Am owner (i+m)=true:=fun m hm=>by
    have q:=hf m hm
    unfold Am
    cases q2:owner.getD (i+m) (some 0) with
    | none=>rw[q2] at q;cases q
    | some z=>rfl
   cases n with
   | zero=>
    have:Am owner i=true:=by have:=qz 0 (by lia);rwa [Nat.add_zero] at this
    have Lg:Am owner i=false:=he
    rw[this] at Lg;cases Lg
   | succ n=>
    refine EB (yr owner hz fuel (leap mask i jJ).1 (leap mask i jJ).2 n (Nat.mod_lt _ (Nat.succ_pos _)) (by lia) he) fun k j e1 e2 e3 e4 e5=>?_
    refine⟨runEnd mask i - i+1+k,j,e1,by rw[oJ,Ct];exact e2,e3,e4,fun m hm=>?_⟩
    by_cases hm1:m < runEnd mask i - i+1
    ·rw[hW m (by lia)];exact qz m (by lia)
    ·obtain ⟨r,rfl⟩:∃r,m=runEnd mask i - i+1+r:=⟨m - (runEnd mask i - i+1),by lia⟩
     rw[oJ,Ct]
     exact e5 r (by lia)
end Tb
end V3
section V5
namespace Tb
open PySem PySem.SetTable
theorem V6{mask:Nat}:∀(k:Nat) (p:Probe),p.j+p.more<=mask->(W mask p k).j<=mask
 | 0,p,h=>by show p.j<=mask;lia
 | k+1,p,h=>by
  refine V6 k (jI mask p) ?_
  unfold jI
  split
  ·show p.j+1+(p.more - 1)<=mask;lia
  ·show (leap mask p.i p.perturb).1+(runEnd mask (leap mask p.i p.perturb).1 - (leap mask p.i p.perturb).1)<=mask
   have:(leap mask p.i p.perturb).1 < mask+1:=Nat.mod_lt _ (Nat.succ_pos _)
   unfold runEnd;split <;> lia
theorem NZ(mask:Nat)(h:Int)(k:Nat):(W mask (st mask h) k).j<=mask:=by
 refine V6 k _ ?_
 show bits h % (mask+1)+(runEnd mask (bits h % (mask+1)) - bits h % (mask+1))<=mask
 have:bits h % (mask+1) < mask+1:=Nat.mod_lt _ (Nat.succ_pos _)
 unfold runEnd;split <;> lia
structure Own(mask:Nat)(hs:Nat->Int)(owner:Array (Option Nat))(q:Nat):Prop where
 size:owner.size=mask+1
 lt:∀(j a:Nat),owner[j]?=some (some a)->a < q
 at':∀(a:Nat),a < q->∃j,owner[j]?=some (some a)/\∃k,(W mask (st mask (hs a)) k).j=j/\∀m,m < k->Am owner (W mask (st mask (hs a)) m).j=true
 uniq:∀(a j j':Nat),owner[j]?=some (some a)->owner[j']?=some (some a)->j=j'
 cnt:owner.toList.countP Option.isNone=mask+1 - q
theorem F9(mask:Nat)(hs:Nat->Int):Own mask hs (Array.replicate (mask+1) none) 0:=by
 have no:∀(j a:Nat),(Array.replicate (mask+1) (none:Option Nat))[j]?≠some (some a):=fun j a h=>by
  rw[Array.getElem?_replicate] at h
  split at h <;> cases h
 refine⟨by simp,fun j a h=>absurd h (no j a),fun a h=>absurd h (aH7 _),fun a j _ h=>absurd h (no j a),?_⟩
 rw[Array.toList_replicate,List.countP_replicate];rfl
theorem occ_none{owner:Array (Option Nat)}{j:Nat}(h:Am owner j=false):owner[j]?=some none:=by
 unfold Am at h
 rw[aE9] at h
 cases q:owner[j]? with
 | none=>rw[q] at h;cases h
 | some z=>cases z with
  | none=>rfl
  | some _=>rw[q] at h;cases h
theorem B3{owner:Array (Option Nat)}{j:Nat}(h:owner[j]?=some none):Am owner j=false:=by
 unfold Am
 rw[aE9,h];rfl
theorem Lh{owner:Array (Option Nat)}{j q:Nat}(hj:j < owner.size)(i:Nat):(owner.setIfInBounds j (some q))[i]?=if i=j then some (some q) else owner[i]?:=by
 rw[Array.getElem?_setIfInBounds]
 by_cases e:i=j
 ·subst e;simp[hj]
 ·rw[aC3 (fun z=>e z.symm),aC3 e]
theorem HH{mask:Nat}(hm:Gk mask){hs:Nat->Int}{owner:Array (Option Nat)}{q:Nat}(o:Own mask hs owner q)(hq:q < mask+1) :
  ∃j,layClean.free mask owner (turns mask) (bits (hs q) % (mask+1)) (bits (hs q))=some j/\Own mask hs (owner.setIfInBounds j (some q)) (q+1):=by
 have hc:0 < owner.toList.countP Option.isNone:=by rw[o.cnt];lia
 refine aM (List.countP_pos_iff.mp hc) fun x hx hn=>?_
 obtain ⟨e,he,ex⟩:=aF6.mp hx
 have O0:e < owner.size:=by rw[<- aC9];exact he
 have e0:owner[e]?=some none:=by
  rw[<- aH1,aD2 he,ex]
  cases x with
  | none=>rfl
  | some _=>cases hn
 obtain ⟨n,yW,en⟩:=DJ hm (hs q) (e:=e) (by rw[<- o.size];exact O0)
 obtain ⟨k,j,f1,f2,f3,f4,f5⟩:=yr owner o.size (turns mask) (bits (hs q) % (mask+1)) (bits (hs q)) n (Nat.mod_lt _ (Nat.succ_pos _)) (by unfold turns;lia) (by rw[en];exact B3 e0)
 refine⟨j,f1,?_⟩
 have hj:j < owner.size:=by rw[o.size];exact f3
 have g:=Lh (q:=q) hj
 have jn:owner[j]?=some none:=occ_none f4
 have up:∀i,Am owner i=true->Am (owner.setIfInBounds j (some q)) i=true:=fun i h=>by
  unfold Am at h ⊢
  rw[aE9] at h ⊢
  rw[g i]
  by_cases z:i=j
  ·rw[aC2 z];rfl
  ·rw[aC3 z];exact h
 refine⟨by rw[Array.size_setIfInBounds];exact o.size,fun i a h=>?_,fun a ha=>?_,fun a i i' h h'=>?_,?_⟩
 ·rw[g i] at h
  by_cases z:i=j
  ·rw[aC2 z] at h;cases h;lia
  ·rw[aC3 z] at h;have:=o.lt i a h;lia
 ·by_cases z:a=q
  ·subst z
   exact⟨j,by rw[g,aC2 rfl],k,f2,fun m xJ=>up _ (f5 m xJ)⟩
  ·obtain ⟨i,b1,k',b2,b3⟩:=o.at' a (by lia)
   refine⟨i,?_,k',b2,fun m xJ=>up _ (b3 m xJ)⟩
   rw[g,aC3,b1]
   rintro rfl
   rw[jn] at b1;cases b1
 ·rw[g i] at h;rw[g i'] at h'
  by_cases z:i=j
  ·by_cases z':i'=j
   ·rw[z,z']
   ·rw[aC2 z] at h;rw[aC3 z'] at h';cases h
    exact absurd (o.lt _ _ h') (Nat.lt_irrefl _)
  ·by_cases z':i'=j
   ·rw[aC3 z] at h;rw[aC2 z'] at h';cases h'
    exact absurd (o.lt _ _ h) (Nat.lt_irrefl _)
   ·rw[aC3 z] at h;rw[aC3 z'] at h';exact o.uniq a i i' h h'
 ·rw[Array.toList_setIfInBounds]
  have RL:j < owner.toList.length:=by rw[aC9];exact hj
  rw[List.countP_set RL,o.cnt]
  have ej:owner.toList[j]=none:=by
   have q1:owner.toList[j]?=some none:=by rw[aH1];exact jn
   rw[aD2 RL] at q1
   exact aE1 q1
  rw[ej]
  simp
  lia
theorem B4{mask:Nat}(hm:Gk mask){hs:Nat->Int}:∀(l:List Int) (owner:Array (Option Nat)) (q:Nat),Own mask hs owner q->q+l.length<=mask->(∀i,i < l.length->l[i]?=some (hs (q+i)))->
  ∃zv,l.foldl (init:=some (owner,q)) (fun acc h=>do
   let (owner,k) <- acc
   let j <- layClean.free mask owner (turns mask) (bits h % (mask+1)) (bits h)
   pure (owner.setIfInBounds j (some k),k+1))=some (zv,q+l.length)/\Own mask hs zv (q+l.length)
 | [],owner,q,o,_,_=>⟨owner,rfl,o⟩
 | h::r,owner,q,o,hl,hh=>by
  have e0:h=hs q:=by have:=hh 0 (by simp);simpa using this
  obtain ⟨j,f1,o1⟩:=HH hm o (by simp only[aD1] at hl;lia)
  obtain ⟨zv,e,o2⟩:=B4 hm r (owner.setIfInBounds j (some q)) (q+1) o1 (by simp only[aD1] at hl;lia) (fun i hi=>by
   have:=hh (i+1) (by simp;lia)
   simp only[List.getElem?_cons_succ] at this
   rw[this,show q+(i+1)=q+1+i by lia])
  refine⟨zv,?_,by rw[aD1,show q+(r.length+1)=q+1+r.length by lia];exact o2⟩
  rw[List.foldl_cons]
  have e1:(do
   let (owner,k) <- (some (owner,q):Option (Array (Option Nat)×Nat))
   let j <- layClean.free mask owner (turns mask) (bits h % (mask+1)) (bits h)
   pure (owner.setIfInBounds j (some k),k+1))=some (owner.setIfInBounds j (some q),q+1):=by
   show (do
    let j <- layClean.free mask owner (turns mask) (bits h % (mask+1)) (bits h)
    pure (owner.setIfInBounds j (some q),q+1))=_
   rw[e0,f1];rfl
  rw[e1,e,aD1,show q+(r.length+1)=q+1+r.length by lia]
theorem Cw{mask:Nat}(hm:Gk mask)(hashes:Array Int)(hn:hashes.size<=mask):∃owner,layClean mask hashes=some owner/\Own mask (fun i=>hashes.getD i 0) owner hashes.size:=by
 obtain ⟨owner,e,o⟩:=B4 hm (hs:=fun i=>hashes.getD i 0) hashes.toList (Array.replicate (mask+1) none) 0 (F9 mask _) (by rw[aC9];lia) (fun i hi=>by
  rw[aC9] at hi
  rw[aH1,Nat.zero_add]
  simp[Array.getD,hi])
 rw[aC9,Nat.zero_add] at e o
 refine⟨owner,?_,o⟩
 unfold layClean
 rw[<- Array.foldl_toList,e];rfl
def live(mask:Nat)(owner:Array (Option Nat)):List (Nat×Nat):=(List.range (mask+1)).filterMap fun j=>(owner.getD j none).map (j,·)
theorem w6{mask:Nat}{owner:Array (Option Nat)}(hz:owner.size=mask+1){j a:Nat}:(j,a)∈live mask owner↔owner[j]?=some (some a):=by
 unfold live
 rw[List.mem_filterMap]
 constructor
 ·rintro ⟨x,hx,e⟩
  cases q:owner.getD x none with
  | none=>rw[q] at e;cases e
  | some b=>
   rw[q] at e
   cases e
   rw[aE9] at q
   cases q2:owner[j]? with
   | none=>rw[q2] at q;cases q
   | some z=>rw[q2] at q;have q:z=some a:=q;rw[q]
 ·intro h
  have hj:j < owner.size:=(Array.getElem?_eq_some_iff.mp h).1
  exact⟨j,List.mem_range.mpr (by lia),by rw[aE9,h];rfl⟩
theorem Fe(mask:Nat)(owner:Array (Option Nat)):(live mask owner).Pairwise fun x y=>x.1 < y.1:=by
 unfold live
 refine List.Pairwise.filterMap _ ?_ List.pairwise_lt_range
 intro a a' haa b hb b' qi
 cases q:owner.getD a none with
 | none=>rw[q] at hb;cases hb
 | some z=>
  cases q':owner.getD a' none with
  | none=>rw[q'] at qi;cases qi
  | some z'=>
   rw[q] at hb;rw[q'] at qi
   cases hb;cases qi
   exact haa
theorem zw{owner:Array (Option Nat)}{n:Nat}(hz:owner.size=n):owner.toList=(List.range n).map fun j=>owner.getD j none:=by
 refine List.ext_getElem? fun i=>?_
 rw[aH1,aE3]
 by_cases h:i < n
 ·rw[List.getElem?_range h]
  have h':i < owner.size:=by lia
  simp[Array.getD,h']
 ·rw[Array.getElem?_eq_none (by lia),List.getElem?_eq_none (by simp;lia)];rfl
theorem HJ{mask:Nat}{hs:Nat->Int}{owner:Array (Option Nat)}{n:Nat}(o:Own mask hs owner n)(hn:n<=mask+1):(live mask owner).length=n:=by
 unfold live
 rw[List.length_filterMap_eq_countP]
 have e1:List.countP (fun j=>((owner.getD j none).map fun x=>(j,x)).isSome) (List.range (mask+1))=owner.toList.countP Option.isSome:=by
  rw[zw o.size,List.countP_map]
  congr 1
  funext j
  simp
 rw[e1]
 have e2:=List.length_eq_countP_add_countP (p:=Option.isNone) (l:=owner.toList)
 rw[o.cnt,aC9,o.size] at e2
 have e3:owner.toList.countP Option.isSome=List.countP (fun a=>decide ¬ (Option.isNone a=true)) owner.toList:=by
  congr 1
  funext a
  cases a <;> rfl
 lia
theorem Ff{mask n:Nat}(hm:Gk mask)(hashes:Array Int)(hz:hashes.size=n)(hn:n < mask)(finger moves:Nat)(led plain:Bool) :
  ∃t' order,laid mask finger moves led plain hashes=some (t',order)/\Good t' n/\t'.mask=mask/\t'.led=led/\t'.plain=plain/\order.size=n/\(∀m,m < n->order.getD m 0 < n)/\
   (∀m m',m < n->m' < n->order.getD m 0=order.getD m' 0->m=m')/\(∀a,a < n->∃m,m < n/\order.getD m 0=a)/\Paths t' (fun m=>hashes.getD (order.getD m 0) 0) n:=by
 refine aM (Cw hm hashes (by lia)) fun owner e o=>?_
 rw[hz] at o
 have ll:=HJ o (by lia)
 refine⟨{ mask,place:=((live mask owner).map (·.1)).toArray,dummies:=#[],finger,led,moves,plain },((live mask owner).map (·.2)).toArray,?_,?_⟩
 ·unfold laid
  rw[e];rfl
 have gp:∀m,m < n->∃j a,(live mask owner)[m]?=some (j,a)/\(((live mask owner).map (·.1)).toArray).getD m 0=j/\(((live mask owner).map (·.2)).toArray).getD m 0=a/\owner[j]?=some (some a):=fun m h=>by
  have h':m < (live mask owner).length:=by lia
  refine⟨((live mask owner)[m]).1,((live mask owner)[m]).2,aD2 h',?_,?_,(w6 o.size).mp (List.getElem_mem h')⟩
  ·simp[Array.getD,h']
  ·simp[Array.getD,h']
 have pw:=List.pairwise_iff_getElem.mp (Fe mask owner)
 have rise:uC (((live mask owner).map (·.1)).toArray):=fun i j oq hj=>by
  have hj:j < (live mask owner).length:=by simpa using hj
  have hi:i < (live mask owner).length:=by lia
  have:=pw i j hi hj oq
  simpa[Array.getD,hi,hj] using this
 have good:Good { mask,place:=((live mask owner).map (·.1)).toArray,dummies:=#[],finger,led,moves,plain } n:=by
  refine⟨by simp[ll],rise,fun i hi=>?_,rfl,hm,hn⟩
  refine uS (gp i hi) fun j a _ e2 _ e4=>?_
  show (((live mask owner).map (·.1)).toArray).getD i 0<=mask
  rw[e2]
  have:=(Array.getElem?_eq_some_iff.mp e4).1
  have:=o.size
  lia
 refine⟨good,rfl,rfl,rfl,by simp[ll],fun m h=>?_,fun m m' h h' q=>?_,fun a h=>?_,fun m h=>?_⟩
 ·refine uS (gp m h) fun j a _ _ e3 e4=>?_
  rw[e3];exact o.lt j a e4
 ·refine uS (gp m h) fun j a _ e2 e3 e4=>?_
  refine uS (gp m' h') fun j' a' _ e2' e3' e4'=>?_
  rw[e3,e3'] at q
  subst q
  have ej:=o.uniq a j j' e4 e4'
  rcases Nat.lt_trichotomy m m' with z | z | z
  ·have:=rise m m' z (by simp[ll];exact h');lia
  ·exact z
  ·have:=rise m' m z (by simp[ll];exact h);lia
 ·refine aM (o.at' a h) fun j b _=>?_
  obtain ⟨m,xJ,em⟩:=aF6.mp ((w6 (mask:=mask) o.size).mpr b)
  refine⟨m,by lia,?_⟩
  simp[Array.getD,xJ,em]
 ·refine uS (gp m h) fun j a _ e2 e3 e4=>?_
  obtain ⟨j',b1,k,b2,b3⟩:=o.at' a (o.lt j a e4)
  have ej:=o.uniq a j j' e4 b1
  subst ej
  dsimp only
  rw[e2,e3]
  refine⟨k,b2,fun m' xJ z=>?_⟩
  have z:=(dW good _).mp z
  have oc:=b3 m' xJ
  have inr:(W mask (st mask (hashes.getD a 0)) m').j<=mask:=NZ mask _ m'
  unfold Am at oc
  rw[aE9] at oc
  cases q:owner[(W mask (st mask (hashes.getD a 0)) m').j]? with
  | none=>
   have:=Array.getElem?_eq_none_iff.mp q
   have:=o.size
   lia
  | some x=>
   cases x with
   | none=>rw[q] at oc;cases oc
   | some b=>
    obtain ⟨r,hr,er⟩:=aF6.mp ((w6 (mask:=mask) o.size).mpr q)
    refine z r (by lia) ?_
    dsimp only
    simp[Array.getD,hr,er]
    rfl
end Tb
end V5
section af7
namespace Ts
open PySem PySem.SetTable Tb
structure oM(prog:Program)(w:World)(K:Type)[DecidableEq K] extends HeapKind prog w K where
 HK:∀{A:Around} {E:Value->Shared->Prop} {s:Shared} {k:K} {a:Addr} {Q:Bool->Shared->Prop},is s.heap k a->Q false s->wpAny (model prog w) A (ofAClassStatement 8 (.ref a)) Q E s
 O2:∀{A:Around} {E:Value->Shared->Prop} {s:Shared} {k:K} {a:Addr} {Q:Bool->Shared->Prop},is s.heap k a->Q true s->wpAny (model prog w) A (hashByValue 8 (.ref a)) Q E s
 mono:∀{h h':Heap} {k:K} {a:Addr},is h k a->(∀b o,h.get? b=some o->o.cls = .type "tuple" ->h'.get? b=some o)->is h' k a
section
variable {prog:Program}{w:World}{K:Type}[DecidableEq K]{κ:oM prog w K}
theorem stays(κ:oM prog w K){h h':Heap}{k:K}{a d:Addr}{o:Obj}(x:κ.is h k a)(ho:h.get? d=some o)(hc:o.cls = .type "set")(sb:Heap.SameBut d h h'):κ.is h' k a:=
 κ.mono x fun b ob e hb=>by
  rw[sb.2 b ?_]
  ·exact e
  ·rintro rfl
   obtain rfl:=aE1 (e.symm.trans ho)
   rw[hc] at hb
   exact absurd hb (by decide)
def entry(κ:oM prog w K)(x:K×Addr):Int×Value:=(κ.hash x.1,.ref x.2)
structure gT(κ:oM prog w K)(h:Heap)(a:Addr)(led:Bool)(xs:List (K×Addr))(o:Obj)(ep:Nat)(t:SetTable):Prop where
 obj:h.get? a=some o
 mO:o.ExactSet
 data:o.data = .set (xs.map (entry κ)).toArray ep t
 good:Good t xs.length
 DN:Paths t (fun i=>((xs.map (entry κ)).toArray[i]?.map (·.1)).getD 0) xs.length
 Fg:t.led=led
 plain:t.plain=true
 mJ:xs.length * 5 < t.mask * 3
 keys:(xs.map (·.1)).Nodup
 each:∀x∈xs,κ.is h x.1 x.2
theorem fits_of{t:SetTable}{n:Nat}(g:Good t n):t.fits n=true:=by
 unfold SetTable.fits SetTable.fill
 rw[g.V2,g.size]
 have:=g.mJ
 simp
 lia
variable {A:Around}{E:Value->Shared->Prop}{s:Shared}{a b:Addr}{led:Bool}{xs:List (K×Addr)}{o:Obj}{ep:Nat}{t:SetTable}{k:K}
theorem i8{Q:(Array (Int×Value)×Nat×SetTable)->Shared->Prop}(S:gT κ s.heap a led xs o ep t)(h:Q ((xs.map (entry κ)).toArray,ep,t) s):wpAny (model prog w) A (setState a) Q E s:=
 wpAny_setState_of S.obj S.data (by simpa using fits_of S.good) h
theorem Li{Q:Bool->Shared->Prop}{l:List (K×Addr)}(hx:κ.is s.heap k b)(hl:∀x∈l,κ.is s.heap x.1 x.2)(h:Q false s) :
  wpAny (model prog w) A (searchCouldBeSeen (.ref b) (l.map fun x=>Value.ref x.2)) Q E s:=by
 unfold searchCouldBeSeen
 refine aB8 (wpAny_forIn_list _ (fun rest r s'=>r.1=none/\s'=s/\∃(l':List (K×Addr)),rest=l'.map (fun x:K×Addr=>Value.ref x.2)/\∀x∈l',κ.is s.heap x.1 x.2) _ ?_ ?_ _ _ ⟨rfl,rfl,l,rfl,hl⟩)
 ·rintro v rest r s' ⟨hr,rfl,l',DO,hk⟩
  cases l' with
  | nil=>cases DO
  | cons x l'=>
   rw[aC1] at DO
   injection DO with e1 e2
   subst e1
   have nx:r.1=none/\s'=s'/\∃(l'':List (K×Addr)),rest=l''.map (fun x:K×Addr=>Value.ref x.2)/\∀x∈l'',κ.is s'.heap x.1 x.2:=⟨hr,rfl,l',e2,fun y hy=>hk y (aG5 _ hy)⟩
   have DQ:=hk x List.mem_cons_self
   dsimp only
   split
   ·exact aB9 ⟨rfl,rfl,nx.2.2⟩
   ·refine aB8 (κ.quiet hx ?_)
    simp only[Bool.not_true,aE0,if_false]
    refine aB8 (κ.quiet DQ ?_)
    simp only[Bool.not_true,aE0,if_false]
    refine aB8 (κ.HK hx ?_)
    simp only[aE0,if_false]
    refine aB8 (κ.HK DQ ?_)
    simp only[aE0,if_false]
    exact aB9 ⟨rfl,rfl,nx.2.2⟩
 ·rintro ⟨r1,r2⟩ s' ⟨hr,rfl,_⟩
  simp only at hr
  subst hr
  exact aB9 h
theorem jo(xs:List (K×Addr))(i:Nat):(xs.map (entry κ)).toArray[i]?=xs[i]?.map (entry κ):=by simp
theorem Fi{Q:SetFound->Shared->Prop}(S:gT κ s.heap a led xs o ep t)(hr:κ.room A)(hx:κ.is s.heap k b)
  (hT:k∈xs.map (·.1)->Q (.there none) s)
  (hF:k∉xs.map (·.1)->∀j,j<=t.mask->t.slot j = .empty->tL t (κ.hash k) j->Q (.free j false) s)
  {D:Nat} (hD:D<=10 * (t.mask+13)) (hE:t.slot (W t.mask (t.probeStart (κ.hash k)) D).j = .empty) (hB:∀m,m < D->t.slot (W t.mask (t.probeStart (κ.hash k)) m).j≠ .empty) :
  ∀(r m0 fuel:Nat),m0+r=D->r < fuel->(∀m i,m < m0->t.slot (W t.mask (t.probeStart (κ.hash k)) m).j = .live i->∀x,xs[i]?=some x->x.1≠k)->
   ∀oN:Option Probe,oN.getD (t.probeStart (κ.hash k))=W t.mask (t.probeStart (κ.hash k)) m0->
   wpAny (model prog w) A (setSearchFrom a (.ref b) (κ.hash k) true fuel oN) Q E s:=by
 intro r
 induction r using Nat.strongRecOn with
 | _ r ih=>
  intro m0 fuel hm hf hv oN EH
  obtain ⟨fuel,rfl⟩:∃f,fuel=f+1:=⟨fuel - 1,by lia⟩
  unfold setSearchFrom
  refine aB8 (i8 S ?_)
  dsimp only
  have hgw:t.gaveWay=false:=by
   unfold SetTable.gaveWay
   rcases S.good.RO with e | e | e <;> rw[e] <;> rfl
  rw[hgw]
  simp only[aE0,if_false]
  have sp:=DM S.good (fun i=>((xs.map (entry κ)).toArray[i]?.map (·.1)).getD 0) (κ.hash k) r (W t.mask (t.probeStart (κ.hash k)) m0) (10 * turns t.mask) (DH _ _ _ rfl) (by unfold turns;lia)
   (by rw[<- oJ,hm];exact hE) (fun m xJ=>by rw[<- oJ];exact hB _ (by lia))
  have hpr:t.probe (fun i=>((xs.map (entry κ)).toArray[i]?.map (·.1)).getD 0) (κ.hash k) (oN.getD (t.probeStart (κ.hash k)))=probe.go t (fun i=>((xs.map (entry κ)).toArray[i]?.map (·.1)).getD 0) (κ.hash k) (10 * turns t.mask) (W t.mask (t.probeStart (κ.hash k)) m0):=by
   rw[EH];rfl
  rcases sp with ⟨m,i,h1,h2,h3,h4,h5,h6⟩ | ⟨h1,h2⟩
  ·have Hy:=hpr.trans h6
   generalize V7:t.probe _ (κ.hash k) (oN.getD (t.probeStart (κ.hash k)))=pr
   obtain rfl:=V7.symm.trans Hy
   dsimp only
   obtain ⟨x,Q3⟩:∃x,xs[i]?=some x:=⟨xs[i],aD2 h2⟩
   have XO:x∈xs:=aG7 Q3
   have rest:wpAny (model prog w) A (do
     let some (_,y):=(xs.map (entry κ)).toArray[i]? | unsupported "internal:set-entry"
     let equal <- holding [y] (eqBool y (.ref b))
     let (Gx,_,t') <- setState a
     if true&&equal then return .there none
     let some same:=t'.sameMemory t.moves t.mask | unsupported "set.changed-during-lookup:is-the-new-block-at-the-old-address"
     let V8 <- match (if same then t'.slot (W t.mask (W t.mask (t.probeStart (κ.hash k)) m0) m).j else .empty) with
      | .live i'=>match Gx[i']? with
       | some (_,y')=>do pure (if <- isSame y' y then some i' else none)
       | none=>pure none
      | _=>pure none
     match V8 with
     | none=>rule "set.search.anew";setSearchFrom a (.ref b) (κ.hash k) true fuel none
     | some i'=>if equal then return .there (some i') else setSearchFrom a (.ref b) (κ.hash k) true fuel (some (W t.mask (W t.mask (t.probeStart (κ.hash k)) m0) (m+1)))) Q E s:=by
    rw[jo,Q3]
    dsimp only[Option.map,entry]
    refine aB8 (wpAny_holding (κ.eqBool hr (S.each x XO) hx ?_))
    refine aB8 (i8 S ?_)
    dsimp only
    by_cases hk:x.1=k
    ·rw[aD6 hk]
     simp only[Bool.and_self,if_true]
     exact aB9 (hT (aC5.mpr ⟨x,XO,hk⟩))
    ·rw[aE4 hk]
     simp only[Bool.and_false,aE0,if_false]
     have O3:t.sameMemory t.moves t.mask=some true:=by unfold SetTable.sameMemory;rw[aC2 (by simp)]
     rw[O3]
     dsimp only
     rw[aC2 rfl,h3]
     dsimp only
     rw[jo,Q3]
     dsimp only[Option.map,entry]
     refine aB8 (wpAny_isSame_ref_self (aB8 (aB9 ?_)))
     simp only[if_true]
     refine ih (r - (m+1)) (by lia) (m0+(m+1)) fuel (by lia) (by lia) (fun m' i' xJ hl y hy=>?_) _ (by rw[<- oJ];rfl)
     by_cases c1:m' < m0
     ·exact hv m' i' c1 hl y hy
     ·obtain ⟨q,rfl⟩:∃q,m'=m0+q:=⟨m' - m0,by lia⟩
      rw[oJ] at hl
      by_cases c2:q < m
      ·intro e
       refine h5 q c2 i' hl ?_
       show ((xs.map (entry κ)).toArray[i']?.map (·.1)).getD 0=κ.hash k
       rw[jo,hy]
       show κ.hash y.1=κ.hash k
       rw[e]
      ·have:q=m:=by lia
       subst this
       rw[h3] at hl
       cases hl
       rw[Q3] at hy
       cases hy
       exact hk
   by_cases hl:led=true
   ·have DO:t.led=true:=S.Fg.trans hl
    rw[DO]
    simp only[Bool.not_true,aE0,if_false]
    exact rest
   ·have DO:t.led=false:=S.Fg.trans (Bool.eq_false_iff.mpr hl)
    rw[DO]
    simp only[Bool.not_false,if_true]
    have el:((((xs.map (entry κ)).toArray.filter (·.1==κ.hash k))).toList.map (·.2))=(xs.filter fun y=>κ.hash y.1==κ.hash k).map fun y=>Value.ref y.2:=by
     rw[Array.toList_filter,List.filter_map,aG9]
     rfl
    rw[el]
    refine aB8 (Li hx (fun y hy=>S.each y (List.mem_filter.mp hy).1) ?_)
    simp only[aE0,if_false]
    exact rest
  ·have Hy:=hpr.trans h2
   generalize V7:t.probe _ (κ.hash k) (oN.getD (t.probeStart (κ.hash k)))=pr
   obtain rfl:=V7.symm.trans Hy
   dsimp only
   have ej:(W t.mask (W t.mask (t.probeStart (κ.hash k)) m0) r).j=(W t.mask (t.probeStart (κ.hash k)) D).j:=by rw[<- oJ,hm]
   rw[ej]
   refine aB9 (hF (fun zx=>?_) _ (NZ t.mask _ D) hE ⟨D,rfl,hB⟩)
   refine aM (aC5.mp zx) fun x XO ek=>?_
   obtain ⟨i,hi,ei⟩:=aF6.mp XO
   have Q3:xs[i]?=some x:=by rw[aD2 hi,ei]
   refine aM (S.DN i hi) fun ki p1 p2=>?_
   have hh:(fun i=>((xs.map (entry κ)).toArray[i]?.map (·.1)).getD 0) i=κ.hash k:=by
    show ((xs.map (entry κ)).toArray[i]?.map (·.1)).getD 0=κ.hash k
    rw[jo,Q3]
    show κ.hash x.1=κ.hash k
    rw[ek]
   rw[hh] at p1 p2
   have sl:t.slot (W t.mask (t.probeStart (κ.hash k)) ki).j = .live i:=by rw[p1];exact yq S.good hi
   have c1:ki < D:=by
    rcases Nat.lt_trichotomy ki D with c | c | c
    ·exact c
    ·subst c;rw[sl] at hE;cases hE
    ·exact absurd hE (p2 D c)
   by_cases c2:ki < m0
   ·exact hv ki i c2 sl x Q3 ek
   ·obtain ⟨q,rfl⟩:∃q,ki=m0+q:=⟨ki - m0,by lia⟩
    rw[oJ] at sl
    exact h1 q (by lia) i sl hh
end
end Ts
end af7
section V9
namespace Ts
open PySem PySem.SetTable Tb
section
variable {prog:Program}{w:World}{K:Type}[DecidableEq K]{κ:oM prog w K}
variable {A:Around}{E:Value->Shared->Prop}{s:Shared}{a b:Addr}{led:Bool}{xs:List (K×Addr)}{o:Obj}{ep:Nat}{t:SetTable}{k:K}
theorem gT.store(S:gT κ s.heap a led xs o ep t){ys:List (K×Addr)}{t':SetTable}(hg:Good t' ys.length)(hp:Paths t' (fun i=>((ys.map (entry κ)).toArray[i]?.map (·.1)).getD 0) ys.length)(hl:t'.led=led)(vM:t'.plain=true)
  (hk:(ys.map (·.1)).Nodup) (he:∀x∈ys,κ.is s.heap x.1 x.2) :
  let h':=s.heap.update a (Obj.putSet (ys.map (entry κ)).toArray t')
  Heap.SameBut a s.heap h'/\h'.get? a=some { o with data:=.set (ys.map (entry κ)).toArray (ep+1) t' }/\(∀x∈ys,κ.is h' x.1 x.2)/\
   (ys.length * 5 < t'.mask * 3->gT κ h' a led ys { o with data:=.set (ys.map (entry κ)).toArray (ep+1) t' } (ep+1) t'):=by
 intro h'
 have sb:Heap.SameBut a s.heap h':=aH3 ..
 have HL:h'.get? a=some { o with data:=.set (ys.map (entry κ)).toArray (ep+1) t' }:=by
  have:=Heap.get?_update_self (Obj.putSet (ys.map (entry κ)).toArray t') S.obj (by rw[putSet_of _ t' S.data];rfl)
  rw[putSet_of _ t' S.data] at this;exact this
 have hi:∀x∈ys,κ.is h' x.1 x.2:=fun x hx=>stays κ (he x hx) S.obj S.mO.1 sb
 exact⟨sb,HL,hi,fun hf=>⟨HL,S.mO,rfl,hg,hp,hl,vM,hf,hk,hi⟩⟩
theorem s8{n M:Nat}(h:(M=32/\16<=n/\n < 32)\/(M=128/\64<=n/\n < 128)):sizeAbove n=M:=by
 unfold sizeAbove
 rcases h with ⟨rfl,h1,h2⟩ | ⟨rfl,h1,h2⟩
 ·unfold sizeAbove.go;rw[aC2 (by lia)]
  unfold sizeAbove.go;rw[aC2 (by lia)]
  unfold sizeAbove.go;rw[aC3 (by lia)]
 ·unfold sizeAbove.go;rw[aC2 (by lia)]
  unfold sizeAbove.go;rw[aC2 (by lia)]
  unfold sizeAbove.go;rw[aC2 (by lia)]
  unfold sizeAbove.go;rw[aC2 (by lia)]
  unfold sizeAbove.go;rw[aC3 (by lia)]
theorem xN{α:Type}(l:List α)(p:Nat)(x y:α):y∈l.take p++x::l.drop p↔y=x\/y∈l:=by
 rw[aF9,aC6]
 have:y∈l↔y∈l.take p\/y∈l.drop p:=by rw[<- aF9,aI4]
 rw[this]
 constructor
 ·rintro (h | h | h)
  ·exact .inr (.inl h)
  ·exact .inl h
  ·exact .inr (.inr h)
 ·rintro (h | h | h)
  ·exact .inr (.inl h)
  ·exact .inl h
  ·exact .inr (.inr h)
theorem Fj{α:Type}{l:List α}{x:α}(p:Nat)(h:l.Nodup)(hx:x∉l):(l.take p++x::l.drop p).Nodup:=by
 have e:(l.take p++x::l.drop p).Perm (x::l):=by
  refine List.perm_middle.trans ?_
  rw[aI4]
 exact e.nodup_iff.mpr (aH4.mpr ⟨hx,h⟩)
theorem reorder{α:Type}(l:List α)(order:Array Nat){n:Nat}(hl:l.length=n)(ho:order.size=n)(iI:∀m,m < n->order.getD m 0 < n) :
  (order.toList.filterMap (fun i=>l[i]?)).length=n/\∀m,m < n->(order.toList.filterMap (fun i=>l[i]?))[m]?=l[order.getD m 0]?:=by
 have key:∀(q:List Nat),(∀i∈q,i < l.length)->(q.filterMap (fun i=>l[i]?)).length=q.length/\∀m,m < q.length->(q.filterMap (fun i=>l[i]?))[m]?=l[q.getD m 0]?:=by
  intro q
  induction q with
  | nil=>intro _;exact⟨rfl,fun m h=>absurd h (aH7 _)⟩
  | cons i q ih=>
   intro h
   have hi:=h i List.mem_cons_self
   obtain ⟨a1,a2⟩:=ih fun j hj=>h j (aG5 _ hj)
   rw[List.filterMap_cons_some (b:=l[i]) (aD2 hi)]
   refine⟨by rw[aD1,aD1,a1],fun m hm=>?_⟩
   cases m with
   | zero=>simp[aD2 hi]
   | succ m=>simpa using a2 m (by simpa using hm)
 have hm:∀i∈order.toList,i < l.length:=fun i hi=>by
  obtain ⟨m,h1,h2⟩:=aF6.mp hi
  have hz:m < order.size:=by rw[<- aC9];exact h1
  have:=iI m (by lia)
  have e:order.getD m 0=i:=by simp[Array.getD,hz];rw[<- h2];simp
  lia
 obtain ⟨b1,b2⟩:=key order.toList hm
 refine⟨by rw[b1,aC9,ho],fun m h=>?_⟩
 rw[b2 m (by rw[aC9];lia)]
 congr 1
 have hz:m < order.size:=by lia
 simp[Array.getD,List.getD,hz]
theorem HM{Q:Unit->Shared->Prop}{wanted M:Nat}(ho:s.heap.get? a=some o)(hx:o.ExactSet)(hd:o.data = .set (xs.map (entry κ)).toArray ep t)(hg:Good t xs.length)(hl:t.led=led)(vM:t.plain=true)(hk:(xs.map (·.1)).Nodup)(he:∀x∈xs,κ.is s.heap x.1 x.2)
  (hM:Gk M) (hw:sizeAbove wanted=M+1) (hn:xs.length * 5 < M * 3)
  (h:∀h' o' yV t' ys,Heap.SameBut a s.heap h'->gT κ h' a led ys o' yV t'->(∀x,x∈ys↔x∈xs)->ys.length=xs.length->Q () { s with heap:=h' }):wpAny (model prog w) A (setRelay a wanted) Q E s:=by
 unfold setRelay
 refine aB8 (wpAny_setState_of ho hd (by simpa using fits_of hg) ?_)
 dsimp only
 have hM':M < 200:=by rcases hM with e | e | e <;> lia
 rw[aC3 (by rw[hw,aG6];lia)]
 obtain ⟨t',order,e1,g1,e2,e3,e4,e5,e6,e7,e8,e9⟩:=Ff (n:=xs.length) hM (((xs.map (entry κ)).toArray).map (·.1)) (by simp) (by lia) t.finger (t.movedTo M) t.led t.plain
 have hrl:t.relaid (((xs.map (entry κ)).toArray).map (·.1)) wanted=some (t',order):=by
  unfold SetTable.relaid
  rw[hw,Nat.add_sub_cancel]
  exact e1
 rw[hrl]
 obtain ⟨r1,r2⟩:=reorder xs order rfl e5 e6
 have ent:order.filterMap (fun i=>((xs.map (entry κ)).toArray)[i]?)=((order.toList.filterMap (fun i=>xs[i]?)).map (entry κ)).toArray:=by
  apply Array.toList_inj.mp
  rw[Array.toList_filterMap,List.map_filterMap]
  congr 1
  funext i
  rw[jo]
 refine aB8 (wpAny_of_eq (a:=(((order.toList.filterMap (fun i=>xs[i]?)).map (entry κ)).toArray,t')) ?_ ?_)
 ·show (do
   if (order.filterMap (fun i=>((xs.map (entry κ)).toArray)[i]?)).size !=((xs.map (entry κ)).toArray).size then unsupported "internal:set-table-lost-an-element"
   pure (order.filterMap (fun i=>((xs.map (entry κ)).toArray)[i]?),t'):Sem (Array (Int×Value)×SetTable))=_
  rw[ent,aC3 (by simp[r1])]
  first | done | rfl
 dsimp only
 have len:(order.toList.filterMap (fun i=>xs[i]?)).length=xs.length:=r1
 have mem:∀x,x∈order.toList.filterMap (fun i=>xs[i]?)↔x∈xs:=fun x=>by
  rw[List.mem_filterMap]
  constructor
  ·rintro ⟨i,_,e⟩;exact aG7 e
  ·intro tE
   obtain ⟨i,hi,ei⟩:=aF6.mp tE
   refine aM (e8 i hi) fun m hm em=>?_
   have hz:m < order.size:=by lia
   refine⟨i,?_,by rw[aD2 hi,ei]⟩
   have:order[m]=i:=by rw[<- em];simp[Array.getD,hz]
   rw[<- this]
   exact Array.mem_toList_iff.mpr (Array.getElem_mem hz)
 have nd:((order.toList.filterMap (fun i=>xs[i]?)).map (·.1)).Nodup:=by
  rw[aI5,List.pairwise_iff_getElem]
  intro i j hi hj oq e
  rw[aC8,len] at hi hj
  have gi:=r2 i hi
  have gj:=r2 j hj
  rw[aD2 (by lia),aD2 (e6 i hi)] at gi
  rw[aD2 (by lia),aD2 (e6 j hj)] at gj
  rw[List.getElem_map,List.getElem_map,aE1 gi,aE1 gj] at e
  have pw:=List.pairwise_iff_getElem.mp (aI5.mp hk)
  have a1:order.getD i 0 < (xs.map (·.1)).length:=by rw[aC8];exact e6 i hi
  have a2:order.getD j 0 < (xs.map (·.1)).length:=by rw[aC8];exact e6 j hj
  rcases Nat.lt_trichotomy (order.getD i 0) (order.getD j 0) with c | c | c
  ·exact pw _ _ a1 a2 c (by rw[List.getElem_map,List.getElem_map];exact e)
  ·have:=e7 i j hi hj c;lia
  ·exact pw _ _ a2 a1 c (by rw[List.getElem_map,List.getElem_map];exact e.symm)
 have pth:Paths t' (fun i=>(((order.toList.filterMap (fun i=>xs[i]?)).map (entry κ)).toArray[i]?.map (·.1)).getD 0) (order.toList.filterMap (fun i=>xs[i]?)).length:=by
  rw[len]
  intro i hi
  have q:=e9 i hi
  have ee:(((order.toList.filterMap (fun i=>xs[i]?)).map (entry κ)).toArray[i]?.map (·.1)).getD 0=(((xs.map (entry κ)).toArray).map (·.1)).getD (order.getD i 0) 0:=by
   rw[jo,r2 i hi]
   generalize order.getD i 0=z
   rw[aE9,Array.getElem?_map,jo]
  show tL t' ((((order.toList.filterMap (fun i=>xs[i]?)).map (entry κ)).toArray[i]?.map (·.1)).getD 0) (t'.place.getD i 0)
  rw[ee]
  exact q
 have sb:Heap.SameBut a s.heap (s.heap.update a (Obj.putSet ((order.toList.filterMap (fun i=>xs[i]?)).map (entry κ)).toArray t')):=aH3 ..
 have HL:=Heap.get?_update_self (Obj.putSet ((order.toList.filterMap (fun i=>xs[i]?)).map (entry κ)).toArray t') ho (by rw[putSet_of _ t' hd];rfl)
 rw[putSet_of _ t' hd] at HL
 refine wpAny_storeSet_of ho hd (h _ _ (ep+1) t' (order.toList.filterMap (fun i=>xs[i]?)) sb ⟨HL,hx,rfl,by rw[len];exact g1,pth,e3.trans hl,e4.trans vM,by rw[len,e2];exact hn,nd,fun x tE=>stays κ (he x ((mem x).mp tE)) ho hx.1 sb⟩ mem len) ?_
 rw[aE6,aC8,len,aG6]
 lia
theorem Q4{Q:Bool->Shared->Prop}(S:gT κ s.heap a led xs o ep t)(hr:κ.room A)(hx:κ.is s.heap k b)(hn:xs.length < 60)
  (h:∀c h' o' yV t' ys,Heap.SameBut a s.heap h'->gT κ h' a led ys o' yV t'->(∀x∈ys,x∈xs\/x=(k,b))->(∀x∈xs,x∈ys)->k∈ys.map (·.1)->ys.length<=xs.length+1->Q c { s with heap:=h',toks:=s.toks+κ.draws k }) :
  wpAny (model prog w) A (setAdd a (.ref b)) Q E s:=by
 unfold setAdd
 refine wpAny_holding (aB8 (κ.pyHash hr hx ?_))
 have S':gT κ ({ s with toks:=s.toks+κ.draws k }:Shared).heap a led xs o ep t:=S
 have tE:κ.is ({ s with toks:=s.toks+κ.draws k }:Shared).heap k b:=hx
 refine bM (dist S.good (κ.hash k)) fun D d1 d2 d3=>?_
 have hm:t.mask<=127:=by rcases S.good.RO with e | e | e <;> lia
 unfold setAddHashed setAddHashedIn
 refine wpAny_holding (aB8 (i8 S' ?_))
 dsimp only
 have hsc:byScan (.ref b) (xs.map (entry κ)).toArray=false:=by simp[byScan,Value.scannable]
 rw[hsc]
 simp only[aE0,if_false]
 unfold setSearch
 refine aB8 (Fi S' hr tE (fun zx=>?_) (fun zx j hj he hp=>?_) d1 d2 d3 D 0 100000 (by lia) (by lia) (fun m i h0=>absurd h0 (aH7 _)) none rfl)
 ·dsimp only
  refine aB9 (h false s.heap o ep t xs (.refl ..) S (fun x hx=>.inl hx) (fun x hx=>hx) zx (by lia))
 dsimp only
 refine aB8 (i8 S' ?_)
 dsimp only
 have hf1:xs.length+1 < t.mask:=by
  have:=S.mJ
  rcases S.good.RO with e | e | e <;> rw[e] at this ⊢ <;> lia
 refine uR (B0 S.good hj he hf1) fun g1 p1 p2 p3 p4 p5=>?_
 have vM:(t.put j).1.plain=true:=by rw[Cv S.good];exact S.plain
 have hld:(t.put j).1.led=led:=by rw[Cv S.good];exact S.Fg
 rw[vM]
 simp only[if_true]
 refine aB8 (κ.O2 tE ?_)
 simp only[if_true]
 have ent:SetTable.insertAt (xs.map (entry κ)).toArray (t.put j).2 (κ.hash k,Value.ref b)=((xs.take (below t.place j)++(k,b)::xs.drop (below t.place j)).map (entry κ)).toArray:=by
  apply Array.toList_inj.mp
  rw[toList_ins,p1,aH8,aC1,List.map_take,List.map_drop]
  rfl
 rw[ent]
 have len:(xs.take (below t.place j)++(k,b)::xs.drop (below t.place j)).length=xs.length+1:=by
  rw[aD0,aD1,aJ1,List.length_drop];lia
 have nd:((xs.take (below t.place j)++(k,b)::xs.drop (below t.place j)).map (·.1)).Nodup:=by
  rw[aH8,aC1,List.map_take,List.map_drop]
  exact Fj _ S.keys zx
 have mem:∀x,x∈(xs.take (below t.place j)++(k,b)::xs.drop (below t.place j))↔x=(k,b)\/x∈xs:=fun x=>xN _ _ _ _
 have is':∀x∈(xs.take (below t.place j)++(k,b)::xs.drop (below t.place j)),κ.is s.heap x.1 x.2:=fun x DQ=>by
  rcases (mem x).mp DQ with e | e
  ·rw[e];exact hx
  ·exact S.each x e
 have pth:Paths (t.put j).1 (fun i=>(((xs.take (below t.place j)++(k,b)::xs.drop (below t.place j)).map (entry κ)).toArray[i]?.map (·.1)).getD 0) (xs.length+1):=by
  refine F8 S.good hj he hf1 S.DN (h:=κ.hash k) (fun i hi=>?_) hp
  rw[<- ent,p1,rN _ _ _ (by simp;exact p2)]
  by_cases c1:i < below t.place j
  ·rw[aC2 c1,aC2 c1]
  ·rw[aC3 c1,aC3 c1]
   by_cases c2:i=below t.place j
   ·rw[aC2 c2,aC2 c2];rfl
   ·rw[aC3 c2,aC3 c2]
 obtain ⟨sb,HL,is2,S2⟩:=gT.store (s:={ s with toks:=s.toks+κ.draws k }) S' (t':=(t.put j).1) (by rw[len];exact g1) (by rw[len];exact pth) hld vM nd is'
 refine aB8 (wpAny_storeSet_of S.obj S.data ?_ (by rw[aE6,aC8,len,aG6];lia))
 have Va:∀h' o' yV t' ys,Heap.SameBut a s.heap h'->gT κ h' a led ys o' yV t'->(∀x,x∈ys↔x∈(xs.take (below t.place j)++(k,b)::xs.drop (below t.place j)))->ys.length=xs.length+1->Q true { s with heap:=h',toks:=s.toks+κ.draws k }:=
  fun h' o' yV t' ys q1 q2 q3 q4=>h true h' o' yV t' ys q1 q2 (fun x DQ=>((mem x).mp ((q3 x).mp DQ)).symm) (fun x DQ=>(q3 x).mpr ((mem x).mpr (.inr DQ))) (aC5.mpr ⟨(k,b),(q3 _).mpr ((mem _).mpr (.inl rfl)),rfl⟩) (by lia)
 have tf:(t.put j).1.tooFull=decide ((xs.length+1) * 5 ≥ t.mask * 3):=by
  unfold SetTable.tooFull SetTable.fill
  rw[g1.V2,g1.size,p3]
  simp
 rw[tf]
 simp only[Bool.not_false,Bool.true_and]
 by_cases full:(xs.length+1) * 5 ≥ t.mask * 3
 ·rw[aC2 (aD6 full)]
  have mJ:=S.mJ
  have hM:∃M,Gk M/\sizeAbove (SetTable.grown ((xs.map (entry κ)).toArray.size+1))=M+1/\(xs.length+1) * 5 < M * 3:=by
   have eg:SetTable.grown ((xs.map (entry κ)).toArray.size+1)=(xs.length+1) * 4:=by
    unfold SetTable.grown
    rw[aE6,aC8,aC3 (by lia)]
   rw[eg]
   rcases S.good.RO with e | e | e
   ·rw[e] at full mJ
    exact⟨31,.inr (.inl rfl),s8 (.inl ⟨rfl,by lia,by lia⟩),by lia⟩
   ·rw[e] at full mJ
    exact⟨127,.inr (.inr rfl),s8 (.inr ⟨rfl,by lia,by lia⟩),by lia⟩
   ·rw[e] at full;lia
  refine bM hM fun M hM1 hM2 hM3=>?_
  clear hM
  refine aB8 (HM (κ:=κ) (M:=M) (led:=led) (s:={ s with heap:=_,toks:=_ }) HL S.mO rfl (by rw[len];exact g1) hld vM nd is2 hM1 hM2 (by rw[len];exact hM3) fun h' o' yV t' ys q1 q2 q3 q4=>?_)
  exact aB9 (Va h' o' yV t' ys (sb.trans q1) q2 q3 (q4.trans len))
 ·rw[aC3 (by simp;lia)]
  refine aB9 (Va _ _ _ _ _ sb (S2 (by rw[len,p3];lia)) (fun x=>Iff.rfl) len)
end
end Ts
end V9
section Vb
namespace Ts
open PySem PySem.SetTable Tb
section
variable {prog:Program}{w:World}{K:Type}[DecidableEq K]{κ:oM prog w K}
variable {A:Around}{R:Result->Shared->Prop}{s:Shared}{a b:Addr}{led:Bool}{xs:List (K×Addr)}{o:Obj}{ep:Nat}{t:SetTable}
theorem gT.keep{h h':Heap}(S:gT κ h a led xs o ep t)(e:∀b o,h.get? b=some o->(b=a\/o.cls = .type "tuple")->h'.get? b=some o):gT κ h' a led xs o ep t:=
 ⟨e _ _ S.obj (.inl rfl),S.mO,S.data,S.good,S.DN,S.Fg,S.plain,S.mJ,S.keys,fun x hx=>κ.mono (S.each x hx) fun b o q c=>e b o q (.inr c)⟩
theorem Lj{S I l:Addr}{ys:List (K×Addr)}(hh:A.handled=none)(HN:κ.room A.in1)(hSI:S≠I)(hSl:S≠l)(hlI:l≠I)(hn:ys.length<=50) :
  ∀(r i:Nat) (s:Shared) (xs:List (K×Addr)) (o:Obj) (ep:Nat) (t:SetTable),i+r=ys.length->s.heap.IsListIter I l i->s.heap.IsList l (ys.map fun y=>Value.ref y.2).toArray->gT κ s.heap S led xs o ep t->
   (∀y∈ys,κ.is s.heap y.1 y.2)->(∀x∈xs,x∈ys)->(∀j y,j < i->ys[j]?=some y->y.1∈xs.map (·.1))->xs.length<=i->
   (∀h' tk o' yV t' zs,(∀b ob,b≠S->b≠I->s.heap.get? b=some ob->h'.get? b=some ob)->gT κ h' S led zs o' yV t'->(∀x∈zs,x∈ys)->(∀y∈ys,y.1∈zs.map (·.1))->R (.ok (.ret .none)) { s with heap:=h',toks:=tk })->
   codeAny (model prog w) A (.builtin "set.update.loop" ⟨[.ref S,.ref I],[]⟩) R s:=by
 intro r
 induction r with
 | zero=>
  intro i s xs o ep t hi hit hl hS hk hx hd hz hR
  refine codeAny_builtin PyProof.Rows.F.entry_set_update_loop ?_
  rw[Around.under_plainId PyProof.Rows.F.plain_set_update_loop _]
  refine aB8 (m:=pyNext (.ref I)) (wpAny_pyNext_list_end hh hit hl (by simp;lia) fun h' he=>?_)
  refine aB9 (hR h' s.toks o ep t xs (fun b ob _ h2 e=>he b ob h2 e) (hS.keep fun b ob e c=>he b ob ?_ e) hx fun y hy=>?_)
  ·rintro rfl
   rcases c with c | c
   ·exact hSI c.symm
   ·refine bM hit fun oi h1 h2 _=>?_
    clear hit
    obtain rfl:=aE1 (e.symm.trans h1)
    rw[h2] at c;exact absurd c (by decide)
  ·obtain ⟨j,hj,ej⟩:=aF6.mp hy
   exact hd j y (by lia) (by rw[aD2 hj,ej])
 | succ r ih=>
  intro i s xs o ep t hi hit hl hS hk hx hd hz hR
  have Vc:i < ys.length:=by lia
  refine codeAny_builtin PyProof.Rows.F.entry_set_update_loop ?_
  rw[Around.under_plainId PyProof.Rows.F.plain_set_update_loop _]
  refine aB8 (m:=pyNext (.ref I)) (wpAny_pyNext_list_item hit hl (x:=.ref (ys[i]).2) (by simp[Vc]) fun h1 Lk La=>?_)
  have tupI:∀b ob,s.heap.get? b=some ob->ob.cls = .type "tuple" ->b≠I:=fun b ob e c z=>by
   subst z
   refine bM hit fun oi q1 q2 _=>?_
   clear hit
   obtain rfl:=aE1 (e.symm.trans q1)
   rw[q2] at c;exact absurd c (by decide)
  have O5:∀b ob,s.heap.get? b=some ob->(b=S\/ob.cls = .type "tuple")->h1.get? b=some ob:=fun b ob e c=>by
   rw[La.2 b ?_]
   ·exact e
   ·rcases c with c | c
    ·rw[c];exact hSI
    ·exact tupI b ob e c
  have S1:gT κ ({ s with heap:=h1 }:Shared).heap S led xs o ep t:=hS.keep O5
  have hk1:∀y∈ys,κ.is h1 y.1 y.2:=fun y hy=>κ.mono (hk y hy) fun b ob e c=>O5 b ob e (.inr c)
  have hm:ys[i]∈ys:=List.getElem_mem Vc
  dsimp only
  refine aB8 (wpAny_holding (Q4 S1 HN (hk1 _ hm) (by lia) fun c h2 o2 ep2 t2 zs Kf S2 m1 m2 m3 m4=>?_))
  refine aB9 ⟨plainId_quiet PyProof.Rows.F.plain_set_update_loop _,?_⟩
  have tupS:∀b ob,h1.get? b=some ob->ob.cls = .type "tuple" ->b≠S:=fun b ob e c z=>by
   subst z
   obtain rfl:=aE1 (e.symm.trans S1.obj)
   rw[S1.mO.1] at c;exact absurd c (by decide)
  refine ih (i+1) _ zs o2 ep2 t2 (by lia) (Lk.at fun ob e=>by rw[Kf.2 _ (Ne.symm hSI)];exact e) ?_ S2 (fun y hy=>κ.mono (hk1 y hy) fun b ob e c=>by rw[Kf.2 b (tupS b ob e c)];exact e)
   (fun x tE=>?_) (fun j y hj hy=>?_) (by lia) fun h' tk o' yV t' ws q1 q2 q3 q4=>?_
  ·refine hl.at fun ob e=>?_
   show h2.get? l=_
   rw[Kf.2 _ (Ne.symm hSl),La.2 _ hlI];exact e
  ·rcases m1 x tE with e | e
   ·exact hx x e
   ·rw[e];exact hm
  ·by_cases c:j < i
   ·refine aM (aC5.mp (hd j y c hy)) fun x hx1 DQ=>?_
    exact aC5.mpr ⟨x,m2 x hx1,DQ⟩
   ·have:j=i:=by lia
    subst this
    rw[aD2 Vc] at hy
    obtain rfl:=aE1 hy
    exact m3
  ·refine hR h' tk o' yV t' ws (fun b ob Vd Gi e=>q1 b ob Vd Gi ?_) q2 q3 q4
   show h2.get? b=_
   rw[Kf.2 b Vd,La.2 b Gi];exact e
end
end Ts
end Vb
section Ve
namespace Ts
open PySem PySem.SetTable Tb
section
variable {prog:Program}{w:World}{K:Type}[DecidableEq K]{κ:oM prog w K}
variable {A:Around}{E:Value->Shared->Prop}{R:Result->Shared->Prop}{s:Shared}
def gP(w:World):Bool:=!(w.params.followText "set-order")
def i9(w:World):Obj:={ cls:=.type "set",dict:=none,data:=.set #[] 0 (.fresh 0 0 (gP w)) }
theorem Cy(w:World):Good (SetTable.fresh 0 0 (gP w)) 0:=⟨rfl,fun i j _ h=>absurd h (aH7 _),fun i h=>absurd h (aH7 _),rfl,.inl rfl,(by show 0 < 7;decide)⟩
theorem Cz{h:Heap}{a:Addr}(e:h.get? a=some (i9 w)):gT κ h a (gP w) [] (i9 w) 0 (.fresh 0 0 (gP w)):=
 ⟨e,⟨rfl,rfl,rfl⟩,rfl,Cy w,fun i h=>absurd h (aH7 _),rfl,rfl,(by show 0 * 5 < 7 * 3;decide),List.nodup_nil,fun x h=>absurd h (by simp)⟩
theorem HP(v:Value){Q₁:Value->Shared->Prop}(h:Q₁ (.ref s.heap.objs.size) { s with heap:=s.heap.push (i9 w) }) :
  codeAny (model prog w) A (.call (.builtin "set.__new__") ⟨[.type "set",v],[]⟩) (wants Q₁ E) s:=by
 refine codeAny_of_tree ?_
 show wpAny _ A.in1 (checkBuiltinCall "set.__new__" ⟨[.type "set",v],[]⟩>>=fun _=>again (.builtin "set.__new__" ⟨[.type "set",v],[]⟩)) _ _ s
 refine aB8 (wpAny_of_eq (F.newCall_set_1 v) (aB9 ⟨plainId_quiet F.plain_set_new _,codeAny_builtin F.entry_set_new ?_⟩))
 rw[Around.under_plainId F.plain_set_new _]
 unfold Builtin.«set.__new__» Builtin.Frozenset.newClass
 have own:=sub_set_self
 obtain ⟨hp,g,d,tk,os⟩:=s
 dsimp only
 wp_walk
 refine wpAny_askSetting (aB9 ?_)
 dsimp only
 simp only[newObj]
 exact aB8 (wpAny_alloc (aB9 (aB9 h)))
theorem HQ{l:Addr}{ys:List (K×Addr)}{Q:Value->Shared->Prop}(hh:A.handled=none)(HN:κ.room A.in1.in1.in1)(hl:s.heap.IsList l (ys.map fun y=>Value.ref y.2).toArray)(hn:ys.length<=50)(hk:∀y∈ys,κ.is s.heap y.1 y.2)
  (h:∀h' tk o ep t zs,(∀b ob,s.heap.get? b=some ob->h'.get? b=some ob)->gT κ h' s.heap.objs.size (gP w) zs o ep t->(∀x∈zs,x∈ys)->(∀y∈ys,y.1∈zs.map (·.1))->Q (.ref s.heap.objs.size) { s with heap:=h',toks:=tk }) :
  wpAny (model prog w) A (call (.type "set") [.ref l]) Q E s:=by
 refine qS F.called_set.mro fun c tl aA6=>?_
 have made:=F.called_set.made
 have sub:=F.called_set.sub
 have n1:=F.called_set.notType
 have n2:=F.called_set.canCreate
 have ct:=F.typeCall_set_1 (.ref l)
 refine wpAny_call (codeAny_of_tree ?_)
 show wpAny _ _ (callAny (.type "set") _) _ _ _
 refine aB9 ⟨Code.quiet_builtin _ (by decide +kernel),codeAny_builtin F.entry_type_call ?_⟩
 rw[Around.under_plain (weight_type_call_type "set" [.ref l] []) rfl]
 repeat any_goals first | assumption | wp_step
 refine codeAny_mono (HP (.ref l) (E:=E) (Q₁:=fun obj cV=>obj = .ref s.heap.objs.size/\cV={ s with heap:=s.heap.push (i9 w) }) ⟨rfl,rfl⟩) fun r cV hr=>?_
 cases r with
 | error e=>exact hr
 | ok fl=>
  cases fl with
  | ret obj=>
   obtain ⟨rfl,rfl⟩:=hr
   have got:(s.heap.push (i9 w)).get? s.heap.objs.size=some (i9 w):=aE2 _ rfl
   have ty:Shared.TypeIs { s with heap:=s.heap.push (i9 w) } (.ref s.heap.objs.size) "set":=⟨_,got,rfl⟩
   have li:=F.called_set.init.lookup
   have bi:=F.called_set.init.bind (.ref s.heap.objs.size)
   repeat any_goals first | assumption | wp_step
   refine codeAny_mono (codeAny_call_builtin (R:=wants (fun r Kw=>r = .none/\∃h' tk o ep t zs,Kw={ s with heap:=h',toks:=tk }/\(∀b ob,s.heap.get? b=some ob->h'.get? b=some ob)/\gT κ h' s.heap.objs.size (gP w) zs o ep t/\(∀x∈zs,x∈ys)/\(∀y∈ys,y.1∈zs.map (·.1))) E)
    F.called_set.init.plain F.entry_set_init (check_set_init_1 ty ?_)) fun af8 Kw HR=>?_
   ·obtain ⟨ol,hol,Al,nl,hdl⟩:=hl
    obtain ⟨aA7,Vf,ay4,Q5⟩:=ol
    simp only at Al hdl
    subst Al;subst hdl
    have af9:(s.heap.push (i9 w)).get? l=some { cls:=.type "list",dict:=Vf,data:=.seq (ys.map fun y=>Value.ref y.2).toArray nl,slots:=Q5 }:=aC0 _ hol
    have s1:=F.sub_list_set
    have s2:=F.sub_list_frozenset
    have s3:(Value.type "list" ==Value.type "dict")=false:=by decide
    have hl1:(s.heap.push (i9 w)).IsList l (ys.map fun y=>Value.ref y.2).toArray:=⟨_,af9,rfl,nl,rfl⟩
    have aA8:(s.heap.push (i9 w)).get? s.heap.objs.size=some { cls:=.type "set",dict:=none,data:=.set #[] 0 (.fresh 0 0 (gP w)) }:=got
    unfold Builtin.«set.__init__» noKeywords Builtin.Frozenset.updateFrom
    generalize hPI:pyIter=PI
    wp_walk
    subst hPI
    refine wpAny_pyIter_list hl1 ?_
    refine aB8 (wpAny_runValue ?_)
    have lt:l < s.heap.objs.size:=aD9 hol
    have sz:(s.heap.push (i9 w)).objs.size=s.heap.objs.size+1:=by rw[Heap.size_push]
    have d1:s.heap.objs.size≠(s.heap.push (i9 w)).objs.size:=by rw[sz];exact aE5 (Nat.lt_succ_self _)
    have d2:s.heap.objs.size≠l:=Nat.ne_of_gt lt
    have d3:l≠(s.heap.push (i9 w)).objs.size:=by rw[sz];exact aE5 (Nat.lt_succ_of_lt lt)
    refine Lj (κ:=κ) (led:=gP w) (ys:=ys) (by simp[hh]) HN d1 d2 d3 hn ys.length 0 _ [] (i9 w) 0 (.fresh 0 0 (gP w)) (by lia)
     ?h1 ?h2 ?h3 ?hk (fun x hx=>absurd hx (by simp)) (fun j y hj=>absurd hj (aH7 _)) (aC4 _) fun h' tk o ep t zs q1 q2 q3 q4=>?_
    case h1=>exact⟨_,aE2 _ rfl,rfl,rfl⟩
    case h2=>exact hl1.push _
    case h3=>exact Cz (aC0 _ got)
    case hk=>exact fun y hy=>κ.mono (hk y hy) fun b ob e _=>aC0 _ (aC0 _ e)
    refine aB9 (aB9 ⟨rfl,h',tk,o,ep,t,zs,rfl,fun b ob e=>?_,q2,q3,q4⟩)
    have lb:=aD9 e
    exact q1 b ob (aE5 lb) (by rw[sz];exact aE5 (Nat.lt_succ_of_lt lb)) (aC0 _ (aC0 _ e))
   ·cases af8 with
    | error e=>exact HR
    | ok Vg=>
     cases Vg with
     | ret r=>
      obtain ⟨rfl,h',tk,o,ep,t,zs,rfl,q1,q2,q3,q4⟩:=HR
      repeat any_goals first | assumption | wp_step
      exact h h' tk o ep t zs q1 q2 q3 q4
     | _=>exact HR.elim
  | _=>exact hr.elim
end
end Ts
end Ve
section Vh
namespace Ts
open PySem PySem.SetTable Tb
theorem gw:Slot "set_iterator" "__next__" "set_iterator.__next__" :=
 .of (owner:="set_iterator") (n:="__next__") (by rw[typeLookup_type,builtinLookup_eq_fast];kernel_rfl) (by decide +kernel)
  (by decide +kernel) (by decide +kernel) (by first | exact .inl (by decide +kernel) | exact .inr (by decide +kernel))
  (by rw[isSubtype_type];kernel_rfl)
theorem oO:entryFor table "set_iterator.__next__" =some Builtin.«set_iterator.__next__»:=entryFor_of_tree (by kernel_rfl)
theorem qE(a:Value):argsOk "set_iterator.__next__" ⟨[a],[]⟩:=by unfold argsOk;kernel_rfl
theorem w9:entryFor table "set.__iter__" =some Builtin.«frozenset.__iter__» :=
 entryFor_alias (id':="frozenset.__iter__") (by kernel_rfl) rfl (by decide +kernel) (by kernel_rfl)
theorem DR{α:Type}(next:Nat->Nat):∀(fuel k:Nat) (left:List α) (out:Array α),fuel=left.length->(pickOrder.go next fuel k left out).toList.Perm (out.toList++left)
 | 0,k,left,out,h=>by
  have:left=[]:=List.length_eq_zero_iff.mp h.symm
  subst this
  unfold pickOrder.go
  simp
 | fuel+1,k,left,out,h=>by
  unfold pickOrder.go
  have iI:next k % left.length < left.length:=Nat.mod_lt _ (by lia)
  rw[aD2 iI]
  dsimp only
  refine(DR next fuel (k+1) _ _ (by rw[List.length_eraseIdx_of_lt iI];lia)).trans ?_
  rw[Array.toList_push,aF3]
  refine List.Perm.append_left _ ?_
  have e1:left=left.take (next k % left.length)++left[next k % left.length]::left.drop (next k % left.length+1):=by
   rw[<- List.drop_eq_getElem_cons iI,aI4]
  have e2:left.eraseIdx (next k % left.length)=left.take (next k % left.length)++left.drop (next k % left.length+1):=List.eraseIdx_eq_take_drop_succ _ _
  rw[e2]
  refine List.Perm.trans ?_ (List.Perm.of_eq e1.symm)
  rw[List.singleton_append]
  exact List.perm_middle.symm
theorem yt{α:Type}(next:Nat->Nat)(xs:Array α):(pickOrder next xs).toList.Perm xs.toList:=by
 have:=DR next xs.size 0 xs.toList #[] (by simp)
 simpa[pickOrder] using this
section
variable {prog:Program}{w:World}{K:Type}[DecidableEq K]{κ:oM prog w K}
variable {A:Around}{E:Value->Shared->Prop}{s:Shared}{a I:Addr}{xs:List (K×Addr)}{o:Obj}{ep:Nat}{t:SetTable}
def iJ(w:World)(a:Addr)(ep:Nat)(es:Array (Int×Value)):Array (Int×Value):=if w.params.followText "set-order" then pickOrder (w.params.setOrder a ep) es else es
theorem tM(w:World)(a:Addr)(ep:Nat)(es:Array (Int×Value)):(iJ w a ep es).toList.Perm es.toList:=by
 unfold iJ;split
 ·exact yt _ _
 ·exact .refl _
def slotAt(w:World)(t:SetTable)(m:Nat):Nat:=if w.params.followText "set-order" then 0 else if m=0 then 0 else t.place.getD (m - 1) 0+1
def yu(h:Heap)(I a:Addr)(n ep slot m:Nat):Prop:=∃ob,h.get? I=some ob/\ob.cls = .type "set_iterator" /\ob.data = .fields #[rawInt slot,rawInt m,.ref a,rawInt n,rawInt ep]
theorem yu.typeIs{n ep slot m:Nat}(x:yu s.heap I a n ep slot m):s.TypeIs (.ref I) "set_iterator":=let ⟨ob,h1,h2,_⟩:=x;⟨ob,h1,h2⟩
theorem tN{Q:Bool->Shared->Prop}(h:Q (w.params.followText "set-order") s):wpAny (model prog w) A setsByText Q E s:=by
 unfold setsByText
 exact aB8 (wpAny_askSetting (aB9 h))
theorem DT{Q:Option (Value×Nat)->Shared->Prop}{m:Nat}(S:gT κ s.heap a (gP w) xs o ep t)(hm:m<=xs.length)
  (h1:∀e,(iJ w a ep (xs.map (entry κ)).toArray)[m]?=some e->Q (some (e.2,slotAt w t (m+1))) s) (h2:m=xs.length->Q none s) :
  wpAny (model prog w) A (setNext a (slotAt w t m) m ep) Q E s:=by
 unfold setNext
 refine aB8 (i8 S ?_)
 dsimp only
 refine aB8 (tN ?_)
 by_cases hb:w.params.followText "set-order" =true
 ·rw[aC2 hb]
  simp only[bne_self_eq_false,aE0,if_false]
  unfold setWalk
  refine aB8 (aB8 (i8 S ?_))
  dsimp only
  refine aB8 (tN ?_)
  rw[aC2 hb]
  refine aB8 (wpAny_askSetting (aB9 ?_))
  have ew:iJ w a ep (xs.map (entry κ)).toArray=pickOrder (w.params.setOrder a ep) (xs.map (entry κ)).toArray:=by unfold iJ;rw[aC2 hb]
  have es:∀q,slotAt w t q=0:=fun q=>by unfold slotAt;rw[aC2 hb]
  have sz:(pickOrder (w.params.setOrder a ep) (xs.map (entry κ)).toArray).size=xs.length:=by
   rw[<- aC9,(yt _ _).length_eq];simp
  refine aB9 ?_
  show Q ((pickOrder (w.params.setOrder a ep) (xs.map (entry κ)).toArray)[m]?.map fun e=>(e.2,slotAt w t m)) s
  cases q:(pickOrder (w.params.setOrder a ep) (xs.map (entry κ)).toArray)[m]? with
  | none=>
   have:=Array.getElem?_eq_none_iff.mp q
   exact h2 (by lia)
  | some e=>
   have:=h1 e (by rw[ew];exact q)
   rw[es] at this ⊢
   exact this
 ·rw[aC3 hb]
  have ew:iJ w a ep (xs.map (entry κ)).toArray=(xs.map (entry κ)).toArray:=by unfold iJ;rw[aC3 hb]
  have ld:t.led=true:=by rw[S.Fg];unfold gP;rw[Bool.eq_false_iff.mpr hb];rfl
  have bl:below t.place (slotAt w t m)=m:=by
   unfold slotAt
   rw[aC3 hb]
   by_cases c:m=0
   ·rw[aC2 c,c]
    refine vD (mL S.good.rise 0) fun b1 b2 b3=>?_
    rcases Nat.eq_zero_or_pos (below t.place 0) with z | z
    ·exact z
    ·exact absurd (b2 0 z) (aH7 _)
   ·rw[aC3 c]
    refine vD (mL S.good.rise (t.place.getD (m - 1) 0+1)) fun b1 b2 b3=>?_
    rw[S.good.size] at b1 b3
    rcases Nat.lt_trichotomy (below t.place (t.place.getD (m - 1) 0+1)) m with z | z | z
    ·have:=b3 (m - 1) (by lia) (by lia)
     lia
    ·exact z
    ·have q1:=b2 m z
     have q2:=S.good.rise (m - 1) m (by lia) (by rw[S.good.size];lia)
     lia
  refine wpAny_ite ?_
  split
  ·rename_i hd
   exfalso
   have:(!t.plain&&decide ((xs.map (entry κ)).toArray.size > 1))=true:=hd
   rw[S.plain] at this
   cases this
  ·refine aB8 (wpAny_of_eq (a:=()) ?_ ?_)
   ·show (if (!t.led && !((xs.map (entry κ)).toArray).isEmpty)=true then (unsupported "set:maker-not-led" : Sem Unit) else pure ())=pure ()
    rw[ld];rfl
   refine aB9 ?_
   show Q (match ((xs.map (entry κ)).toArray)[below t.place (slotAt w t m)]?,t.place[below t.place (slotAt w t m)]? with
    | some (_,x),some j=>some (x,j+1)
    | _,_=>none) s
   rw[bl]
   by_cases c:m < xs.length
   ·have e1:((xs.map (entry κ)).toArray)[m]?=some (entry κ xs[m]):=by rw[jo,aD2 c];rfl
    have hs:m < t.place.size:=by rw[S.good.size];exact c
    have e2:t.place[m]?=some (t.place.getD m 0):=by simp[Array.getD,hs]
    rw[e1,e2]
    have:=h1 (entry κ xs[m]) (by rw[ew];exact e1)
    unfold slotAt at this
    rw[aC3 hb,aC3 (by lia),Nat.add_sub_cancel] at this
    exact this
   ·have em:m=xs.length:=by lia
    have e1:((xs.map (entry κ)).toArray)[m]?=none:=by rw[jo,List.getElem?_eq_none (by lia)];rfl
    rw[e1]
    exact h2 em
end
end Ts
end Vh
section Vi
namespace Ts
open PySem PySem.SetTable Tb
section
variable {prog:Program}{w:World}{K:Type}[DecidableEq K]{κ:oM prog w K}
variable {A:Around}{E:Value->Shared->Prop}{R:Result->Shared->Prop}{s:Shared}{a I:Addr}{xs:List (K×Addr)}{o:Obj}{ep:Nat}{t:SetTable}
theorem qX{Q:Array (Int×Value)->Shared->Prop}{led:Bool}(S:gT κ s.heap a led xs o ep t)(h:Q (xs.map (entry κ)).toArray s):wpAny (model prog w) A (setEntries a) Q E s:=by
 unfold setEntries
 exact aB8 (i8 S (aB9 h))
theorem Ll{Q:Value->Shared->Prop}(S:gT κ s.heap a (gP w) xs o ep t)(hn:xs.length<=50)
  (h:Q (.ref s.heap.objs.size) { s with heap:=s.heap.push { cls:=.type "set_iterator",data:=.fields #[rawInt (slotAt w t 0),rawInt ((0:Nat):Int),.ref a,rawInt xs.length,rawInt ep] } }):wpAny (model prog w) A (pyIter (.ref a)) Q E s:=by
 have ty:s.TypeIs (.ref a) "set":=⟨o,S.obj,S.mO.1⟩
 refine wpAny_pyIter_slot ty F.slot_set_iter (aH9 F.slot_set_iter ty w9 ?_ (F.args_set_iter_1 _))
 unfold Builtin.«frozenset.__iter__» Builtin.Frozenset.slot0 slotArgs
 walk_at"Q"
 unfold Builtin.Frozenset.addrOf Builtin.Frozenset.sizeOf
 walk_at"?"
 try dsimp only
 walk_at"?"
 refine aB8 (aB8 (qX S (aB9 ?_)))
 refine aB8 ?_
 unfold setDrawn
 refine aB8 (i8 S ?_)
 dsimp only
 refine aB8 (tN (aB9 ?_))
 rw[aC3 (by
  intro z
  have z:(!(w.params.followText "set-order")&&(!t.plain&&decide ((xs.map (entry κ)).toArray.size > 1)))=true:=z
  rw[S.plain] at z
  simp at z)]
 walk_at"?"
 have z0:slotAt w t 0=0:=by unfold slotAt;split <;> rfl
 rw[z0] at h
 refine aB8 ?_
 unfold setEpoch
 refine aB8 (i8 S (aB9 ?_))
 dsimp only
 unfold newFields
 refine aB8 (wpAny_newObj_type (aB9 ⟨_,rfl,"set_iterator",_,⟨_,aE2 _ rfl,rfl⟩,gw.lookup,?_⟩))
 simpa using h
theorem HS{Q:Option Value->Shared->Prop}{m:Nat}{e:Int×Value}(S:gT κ s.heap a (gP w) xs o ep t)(hit:yu s.heap I a xs.length ep (slotAt w t m) m)(he:(iJ w a ep (xs.map (entry κ)).toArray)[m]?=some e)
  (hm:m < xs.length) (hQ:∀h',yu h' I a xs.length ep (slotAt w t (m+1)) (m+1)->Heap.SameBut I s.heap h'->Q (some e.2) { s with heap:=h' }):wpAny (model prog w) A (pyNext (.ref I)) Q E s:=by
 refine bM (id hit) fun ob ho hc hd=>?_
 unfold pyNext
 refine aB8 (wpAny_attempt (wpAny_callSpecial?_slot (name:=Str.ofString "__next__") hit.typeIs gw (aH9 gw hit.typeIs oO ?_ (qE _))))
 unfold Builtin.«set_iterator.__next__» slotArgs
 walk_at"Q?$"
 refine aB8 (wpAny_fieldsOf ho hd ?_)
 dsimp only[rawInt]
 refine aB8 (qX S ?_)
 rw[aC3 (by simp)]
 simp only[aI8]
 refine aB8 (DT S (aH2 hm) (fun e' Lg=>?_) (fun z=>absurd z (aE5 hm)))
 obtain rfl:e=e':=aE1 (he.symm.trans Lg)
 dsimp only
 refine aB8 (wpAny_setField ho hd (by simp) ?_)
 have d1:=Obj.data_mapFields hd (·.setIfInBounds 0 (rawInt (slotAt w t (m+1):Nat)))
 have g1:=Heap.get?_update_self (Obj.mapFields (·.setIfInBounds 0 (rawInt (slotAt w t (m+1):Nat)))) ho (Obj.isFreed_of_fields d1)
 refine aB8 (wpAny_setField g1 d1 (by simp) ?_)
 have d2:=Obj.data_mapFields d1 (·.setIfInBounds 1 (rawInt ((m:Int)+1)))
 have g2:=Heap.get?_update_self (Obj.mapFields (·.setIfInBounds 1 (rawInt ((m:Int)+1)))) g1 (Obj.isFreed_of_fields d2)
 refine aB9 ⟨_,rfl,aB9 (hQ _ ⟨_,g2,?_,?_⟩ ((aH3 ..).trans (aH3 ..)))⟩
 ·rw[Obj.cls_mapFields,Obj.cls_mapFields];exact hc
 ·rw[d2];simp[rawInt]
theorem Lm{Q:Option Value->Shared->Prop}(hh:A.handled=none)(S:gT κ s.heap a (gP w) xs o ep t)(hit:yu s.heap I a xs.length ep (slotAt w t xs.length) xs.length)
  (hQ:∀h',Heap.ExtBut I s.heap h'->Q none { s with heap:=h' }):wpAny (model prog w) A (pyNext (.ref I)) Q E s:=by
 refine bM (id hit) fun ob ho hc hd=>?_
 unfold pyNext
 refine aB8 (wpAny_attempt (wpAny_callSpecial?_slot (name:=Str.ofString "__next__") hit.typeIs gw (aH9 gw hit.typeIs oO ?_ (qE _))))
 unfold Builtin.«set_iterator.__next__» slotArgs
 walk_at"Q?$"
 refine aB8 (wpAny_fieldsOf ho hd ?_)
 dsimp only[rawInt]
 refine aB8 (qX S ?_)
 rw[aC3 (by simp)]
 simp only[aI8]
 have sz:(iJ w a ep (xs.map (entry κ)).toArray).size=xs.length:=by rw[<- aC9,(tM _ _ _ _).length_eq];simp
 refine aB8 (DT S (aC4 _) (fun e' Lg=>?_) (fun z=>?_))
 ·rw[Array.getElem?_eq_none (by lia)] at Lg;cases Lg
 dsimp only
 refine aB8 (wpAny_setField ho hd (by simp) ?_)
 refine aB8 ?_
 simp only[newExc,newTuple]
 refine aB8 (wpAny_newObj_type ?_ (by size_fits))
 refine aB8 (m:=firstArgMember _ _) (wpAny_of_eq (a:=Value.none) (by first | rfl | (simp only[firstArgMember];rfl)) ?_)
 refine wpAny_newObj_type ?_ (by size_fits)
 simp only[raiseNew]
 refine aB8 (wpAny_handled ?_)
 have hh1:A.in1.handled=none:=hh
 rw[hh1]
 refine aB8 (aB9 (wpAny_throw ?_))
 refine aB8 (wpAny_isInstance (T:="StopIteration") (b:=true) ⟨_,aE2 _ rfl,rfl⟩ isSubtype_stop ?_)
 exact aB9 (hQ _ (((aH3 ..).extBut.push _).push _))
theorem Fl{L:Addr}{res:Value}(hh:A.handled=none)(hLI:L≠I)(hLa:L≠a)(hIa:a≠I)(hn:xs.length<=50) :
  ∀(r m:Nat) (s:Shared),m+r=xs.length->gT κ s.heap a (gP w) xs o ep t->yu s.heap I a xs.length ep (slotAt w t m) m->
   (∃n,s.heap.get? L=some (PyProof.Rows.seqObj "list" (((iJ w a ep (xs.map (entry κ)).toArray).toList.take m).map (·.2)).toArray n))->
   (∀h' n,(∀b ob,b≠L->b≠I->s.heap.get? b=some ob->h'.get? b=some ob)->h'.get? L=some (PyProof.Rows.seqObj "list" ((iJ w a ep (xs.map (entry κ)).toArray).toList.map (·.2)).toArray n)->R (.ok (.ret res)) { s with heap:=h' })->
   codeAny (model prog w) A (.builtin "list.extend.loop" ⟨[.ref L,.ref I,res],[]⟩) R s:=by
 have sz:(iJ w a ep (xs.map (entry κ)).toArray).size=xs.length:=by rw[<- aC9,(tM _ _ _ _).length_eq];simp
 have we:entryFor table "list.extend.loop" =some Builtin.«list.extend.loop»:=entryFor_of_tree (by kernel_rfl)
 have qY:plainId "list.extend.loop" =true:=by decide +kernel
 intro r
 induction r with
 | zero=>
  intro m s hm S hit ⟨n,hL⟩ hR
  have em:m=xs.length:=by lia
  subst em
  refine codeAny_builtin we ?_
  rw[Around.under_plainId qY _]
  refine aB8 (m:=pyNext (.ref I)) (Lm hh S hit fun h' he=>?_)
  refine aB9 (hR h' n (fun b ob _ h2 e=>he b ob h2 e) ?_)
  have:=he L _ hLI hL
  rw[List.take_of_length_le (by rw[aC9];lia)] at this
  exact this
 | succ r ih=>
  intro m s hm S hit ⟨n,hL⟩ hR
  have hml:m < xs.length:=by lia
  have Vj:m < (iJ w a ep (xs.map (entry κ)).toArray).size:=by lia
  refine codeAny_builtin we ?_
  rw[Around.under_plainId qY _]
  refine aB8 (m:=pyNext (.ref I)) (HS S hit (Array.getElem?_eq_getElem Vj) hml fun h1 Lk La=>?_)
  have hL1:h1.get? L=some (PyProof.Rows.seqObj "list" (((iJ w a ep (xs.map (entry κ)).toArray).toList.take m).map (·.2)).toArray n):=by rw[La.2 L hLI];exact hL
  refine aB8 (PyProof.Rows.listUpdate_at hL1 rfl ?_ (by simp;rw[aG6];lia) (by simp;rw[aG6];lia))
  refine aB9 ⟨plainId_quiet qY _,?_⟩
  have Kf:=aH3 h1 L (Obj.mapSeq fun x=>x.push ((iJ w a ep (xs.map (entry κ)).toArray)[m]).2)
  have tup:∀b ob,s.heap.get? b=some ob->(b=a\/ob.cls = .type "tuple")->b≠I/\b≠L:=fun b ob e c=>by
   constructor
   ·rintro rfl
    rcases c with c | c
    ·exact hIa c.symm
    ·refine bM hit fun q q1 q2 _=>?_
     clear hit
     obtain rfl:=aE1 (e.symm.trans q1)
     rw[q2] at c;exact absurd c (by decide)
   ·rintro rfl
    rcases c with c | c
    ·exact hLa c
    ·obtain rfl:=aE1 (e.symm.trans hL)
     exact absurd (show Value.type "list" =Value.type "tuple" from c) (by decide)
  refine ih (m+1) _ (by lia) (S.keep fun b ob e c=>?_) ?_ ?_ fun h' n' q1 q2=>?_
  ·obtain ⟨c1,c2⟩:=tup b ob e c
   show (h1.update L _).get? b=_
   rw[Kf.2 b c2,La.2 b c1];exact e
  ·refine aM Lk fun q q1 q2=>?_
   clear Lk
   exact⟨q,(by show (h1.update L _).get? I=_;rw[Kf.2 I (Ne.symm hLI)];exact q1),q2⟩
  ·obtain ⟨n',yW⟩:∃n',(h1.update L (Obj.mapSeq fun x=>x.push ((iJ w a ep (xs.map (entry κ)).toArray)[m]).2)).get? L=some (PyProof.Rows.seqObj "list" ((((iJ w a ep (xs.map (entry κ)).toArray).toList.take m).map (·.2)).toArray.push ((iJ w a ep (xs.map (entry κ)).toArray)[m]).2) n'):=⟨_,PyProof.Rows.get?_update_seq hL1 _⟩
   refine⟨n',yW.trans ?_⟩
   congr 2
   rw[List.take_succ,aD2 (by rw[aC9];exact Vj)]
   simp
  ·refine hR h' n' (fun b ob Vd Gi e=>q1 b ob Vd Gi ?_) q2
   show (h1.update L _).get? b=_
   rw[Kf.2 b Vd,La.2 b Gi];exact e
end
end Ts
end Vi
section Vk
namespace Ts
open PySem PySem.SetTable Tb
section
variable {prog:Program}{w:World}{K:Type}[DecidableEq K]{κ:oM prog w K}
variable {A:Around}{E:Value->Shared->Prop}{s:Shared}{a:Addr}{xs:List (K×Addr)}{o:Obj}{ep:Nat}{t:SetTable}
theorem Ln{Q:Bool->Shared->Prop}(hT:s.TypeIs (.ref a) "set")(h:∀c tk,Q c { s with toks:=tk }):wpAny (model prog w) A (Builtin.List.listLengthHint (.ref a)) Q E s:=by
 unfold Builtin.List.listLengthHint
 refine aB8 (wpAny_specialOf hT F.slot_set_len.lookup ?_)
 have sp:splitId "set.__len__" =some ("set","__len__"):=by kernel_rfl
 dsimp only
 rw[sp]
 dsimp only
 refine aB8 (wpAny_isInstance hT sub_set_self ?_)
 rw[Bool.not_true,aC3 aF8]
 rw[aC2 (by decide +kernel)]
 refine aB8 (wpAny_typeOf hT ?_)
 exact aB9 (h false s.toks)
theorem B5{Q:List Value->Shared->Prop}(hh:A.handled=none)(S:gT κ s.heap a (gP w) xs o ep t)(hn:xs.length<=50)
  (h:∀h' tk vs,(∀b ob,s.heap.get? b=some ob->h'.get? b=some ob)->vs.Perm (xs.map fun x=>Value.ref x.2)->Q vs { s with heap:=h',toks:=tk }):wpAny (model prog w) A (collect (.ref a)) Q E s:=by
 unfold collect
 refine aB8 (wpAny_runValue (codeAny_builtin PyProof.Rows.entry_proto_collect' ?_))
 refine aB8 (m:=newList []) (wpAny_newList (aB9 ⟨Code.quiet_builtin _ (by decide +kernel),codeAny_builtin PyProof.Rows.entry_list_iadd' ?_⟩))
 show wpAny _ _ (Builtin.List.listExtendWith (.ref s.heap.objs.size) (.ref a) (.ref s.heap.objs.size)) _ _ { s with heap:=s.heap.push (PyProof.Rows.seqObj "list" #[] 0) }
 unfold Builtin.List.listExtendWith
 have al:a < s.heap.objs.size:=aD9 S.obj
 have S1:gT κ ({ s with heap:=s.heap.push (PyProof.Rows.seqObj "list" #[] 0) }:Shared).heap a (gP w) xs o ep t:=S.keep fun b ob e _=>aC0 _ e
 have ty1:Shared.TypeIs { s with heap:=s.heap.push (PyProof.Rows.seqObj "list" #[] 0) } (.ref a) "set":=⟨o,S1.obj,S1.mO.1⟩
 refine aB8 (wpAny_typeOf ty1 ?_)
 have sr:Builtin.List.listSameRef (.ref s.heap.objs.size) (.ref a)=false:=by
  show (s.heap.objs.size==a)=false
  exact aI1.mpr (Nat.ne_of_gt al)
 rw[sr,aC3 (by decide)]
 refine aB8 (Ll S1 hn ?_)
 have sz1:(s.heap.push (PyProof.Rows.seqObj "list" #[] 0)).objs.size=s.heap.objs.size+1:=by rw[Heap.size_push]
 generalize hO:({ cls:=.type "set_iterator",data:=.fields #[rawInt (slotAt w t 0),rawInt ((0:Nat):Int),.ref a,rawInt xs.length,rawInt ep] }:Obj)=ob
 have hI:((s.heap.push (PyProof.Rows.seqObj "list" #[] 0)).push ob).get? (s.heap.push (PyProof.Rows.seqObj "list" #[] 0)).objs.size=some ob:=aE2 _ (by rw[<- hO];rfl)
 have Q6:((s.heap.push (PyProof.Rows.seqObj "list" #[] 0)).push ob).get? s.heap.objs.size=some (PyProof.Rows.seqObj "list" #[] 0):=aC0 _ (aE2 _ rfl)
 have S2:gT κ ((s.heap.push (PyProof.Rows.seqObj "list" #[] 0)).push ob) a (gP w) xs o ep t:=S1.keep fun b ob e _=>aC0 _ e
 refine aB8 (wpAny_holding (Ln (s:={ s with heap:=(s.heap.push (PyProof.Rows.seqObj "list" #[] 0)).push ob }) ⟨o,S2.obj,S2.mO.1⟩ fun c tk=>?_))
 refine wpAny_ite ?_
 split
 ·refine aB8 (wpAny_rule ?_)
  unfold Builtin.List.listTouch
  refine aB8 (aB8 (PyProof.Rows.listUpdate_at Q6 rfl ?_ (by simp) (by simp)))
  obtain ⟨n1,g1⟩:∃n1,(((s.heap.push (PyProof.Rows.seqObj "list" #[] 0)).push ob).update s.heap.objs.size (Obj.mapSeq (·.push .none))).get? s.heap.objs.size=some (PyProof.Rows.seqObj "list" (#[].push .none) n1):=⟨_,PyProof.Rows.get?_update_seq Q6 _⟩
  refine PyProof.Rows.listUpdate_at g1 rfl ?_ (by simp;rw[aG6];decide) (by simp)
  obtain ⟨n2,g2⟩:∃n2,((((s.heap.push (PyProof.Rows.seqObj "list" #[] 0)).push ob).update s.heap.objs.size (Obj.mapSeq (·.push .none))).update s.heap.objs.size (Obj.mapSeq (·.pop))).get? s.heap.objs.size=some (PyProof.Rows.seqObj "list" (#[].push .none).pop n2):=⟨_,PyProof.Rows.get?_update_seq g1 _⟩
  have sb:=(aH3 ((s.heap.push (PyProof.Rows.seqObj "list" #[] 0)).push ob) s.heap.objs.size (Obj.mapSeq (·.push .none))).trans (aH3 _ s.heap.objs.size (Obj.mapSeq (·.pop)))
  generalize ((((s.heap.push (PyProof.Rows.seqObj "list" #[] 0)).push ob).update s.heap.objs.size (Obj.mapSeq (·.push .none))).update s.heap.objs.size (Obj.mapSeq (·.pop)))=g at g2 sb ⊢
  have ne1:s.heap.objs.size≠(s.heap.push (PyProof.Rows.seqObj "list" #[] 0)).objs.size:=by rw[sz1];exact aE5 (Nat.lt_succ_self _)
  have ne2:s.heap.objs.size≠a:=Nat.ne_of_gt al
  have ne3:a≠(s.heap.push (PyProof.Rows.seqObj "list" #[] 0)).objs.size:=by rw[sz1];exact aE5 (Nat.lt_succ_of_lt al)
  refine aB9 ⟨Code.quiet_builtin _ (by decide +kernel),?_⟩
  refine Fl (κ:=κ) (a:=a) (xs:=xs) (o:=o) (ep:=ep) (t:=t) (by simp[hh]) ne1 ne2 ne3 hn xs.length 0 _ (by lia) ?h1 ?h2 ⟨n2,g2⟩ fun h' n' q1 q2=>?_
  case h1=>
   refine S2.keep fun b Q7 e c=>?_
   show g.get? b=_
   rw[sb.2 b ?_]
   ·exact e
   ·rintro rfl
    rcases c with c | c
    ·exact ne2 c
    ·obtain rfl:=aE1 (e.symm.trans Q6)
     exact absurd (show Value.type "list" =Value.type "tuple" from c) (by decide)
  case h2=>exact⟨ob,(by show g.get? _=_;rw[sb.2 _ (Ne.symm ne1)];exact hI),by rw[<- hO],by rw[<- hO]⟩
  have pm:=(tM w a ep (xs.map (entry κ)).toArray).map (·.2)
  have em:(xs.map (entry κ)).toArray.toList.map (·.2)=xs.map fun x=>Value.ref x.2:=by simp[entry]
  rw[em] at pm
  show wpAny _ _ (load s.heap.objs.size>>=fun ob=>match ob.data with | .seq xs _=>pure xs.toList | _=>unsupported "internal:collect") _ _ _
  refine aB8 (wpAny_load q2 ?_)
  refine aB9 (h h' tk _ (fun b Q7 e=>q1 b Q7 (aE5 (aD9 e)) (by rw[sz1];exact aE5 (Nat.lt_succ_of_lt (aD9 e))) ?_) (by simpa using pm))
  show g.get? b=_
  rw[sb.2 b (aE5 (aD9 e))]
  exact aC0 _ (aC0 _ e)
 ·rename_i hs
  refine absurd ?_ hs
  rw[Bool.or_eq_true]
  exact .inr (by decide +kernel)
end
end Ts
end Vk
section ag0
namespace Dm
open PySem PyProof.Rows L2 PySem.SeqAt
theorem aB.tup{K:Frag}{H H':Hp}{a:Addr}{xs:List V}(e:aB H H')(h:lQ K H a xs):lQ K H' a xs:=by
 rcases h with (h | ⟨o,h⟩) | h
 ·exact .inl (.inl (e _ _ h))
 ·exact .inl (.inr ⟨o,e _ _ h⟩)
 ·exact .inr h
def er(H:Hp)(A:List Addr):Hp:=fun a=>if a∈A then none else H a
theorem dM{H:Hp}{A:List Addr}{a:Addr}(h:a∈A):er H A a=none:=aC2 h
theorem aS{H:Hp}{A:List Addr}{a:Addr}(h:a∉A):er H A a=H a:=aC3 h
theorem aF(H:Hp)(A:List Addr):aB (er H A) H:=fun b o h=>by
 by_cases q:b∈A
 ·rw[dM q] at h;cases h
 ·rwa [aS q] at h
theorem aG{H H':Hp}{A:List Addr}(e:aB H H'):aB (er H A) (er H' A):=fun b o h=>by
 by_cases q:b∈A
 ·rw[dM q] at h;cases h
 ·rw[aS q] at h ⊢;exact e b o h
structure Cfg where
 ob:Nat->Frag->Hp->Addr->List V->Prop
 mono:∀{t:Nat} {K:Frag} {H H':Hp} {a:Addr} {vs:List V},aB H H'->ob t K H a vs->ob t K H' a vs
 own:Frag->Hp->Hp->Addr->List V->Prop
 DU:∀{K:Frag} {F F' H H':Hp} {a:Addr} {vs:List V},aB F F'->H' a=H a->own K F H a vs->own K F' H' a vs
 O6:∀{K:Frag} {F G H:Hp} {a:Addr} {vs:List V},own K F H a vs->aB F G->G a=H a->ob 2 K G a vs
 Vl:∀{K:Frag} {F H:Hp} {a:Addr} {vs:List V},own K F H a vs->∃φ,H a=some (.ext φ)
def Vm:Cfg:=⟨fun _ _ _ _ _=>False,fun _ h=>h,fun _ _ _ _ _=>False,fun _ _ h=>h,fun h _ _=>h,fun h=>h.elim⟩
mutual
def Rep(K:Frag)(C:Cfg):Hp->D->V->Prop
 | _,.cF,v=>v = .cF
 | _,.bl b,v=>v = .bl b
 | _,.int i,v=>v = .int i
 | _,.str x,v=>v = .str x
 | H,.tup ds,v=>∃a xs,v = .ref a/\lQ K H a xs/\aH K C H ds xs
 | H,.lst ds,v=>∃a xs,v = .ref a/\ko K H a xs/\aH K C (er H [a]) ds xs
 | H,.cu t ds,v=>∃a xs,v = .ref a/\C.ob t K H a xs/\aH K C H ds xs
def aH(K:Frag)(C:Cfg):Hp->List D->List V->Prop
 | _,[],vs=>vs=[]
 | H,d::ds,vs=>∃v r,vs=v::r/\Rep K C H d v/\aH K C H ds r
end
section
variable {K:Frag}{C:Cfg}
mutual
theorem Rep.same:∀{H H':Hp} (e:aB H H') (d:D) {v:V},Rep K C H d v->Rep K C H' d v
 | _,_,e,.cF,v,q=>by rw[Rep] at q ⊢;exact q
 | _,_,e,.bl b,v,q=>by rw[Rep] at q ⊢;exact q
 | _,_,e,.int i,v,q=>by rw[Rep] at q ⊢;exact q
 | _,_,e,.str x,v,q=>by rw[Rep] at q ⊢;exact q
 | _,_,e,.tup ds,v,q=>by
  rw[Rep] at q ⊢
  refine b6 q fun a xs h1 h2 h3=>?_
  clear q
  exact⟨a,xs,h1,aB.tup e h2,aH.same e ds h3⟩
 | _,_,e,.lst ds,v,q=>by
  rw[Rep] at q ⊢
  refine b6 q fun a xs h1 h2 h3=>?_
  clear q
  exact⟨a,xs,h1,e.seq h2,aH.same (aG e) ds h3⟩
 | _,_,e,.cu t ds,v,q=>by
  rw[Rep] at q ⊢
  refine b6 q fun a xs h1 h2 h3=>?_
  clear q
  exact⟨a,xs,h1,C.mono e h2,aH.same e ds h3⟩
theorem aH.same:∀{H H':Hp} (e:aB H H') (ds:List D) {vs:List V},aH K C H ds vs->aH K C H' ds vs
 | _,_,e,[],_,q=>by rw[aH] at q ⊢;exact q
 | _,_,e,d::ds,_,q=>by
  rw[aH] at q ⊢
  refine b6 q fun v r e1 a b=>?_
  clear q
  exact⟨v,r,e1,Rep.same e d a,aH.same e ds b⟩
end
variable {H:Hp}
theorem Rep.items{ds:List D}{v:V}(q:Rep K C H (.lst ds) v):∃a xs,v = .ref a/\ko K H a xs/\aH K C H ds xs:=by
 rw[Rep] at q
 refine b6 q fun a xs h1 h2 h3=>?_
 clear q
 exact⟨a,xs,h1,h2,h3.same (aF _ _) _⟩
theorem aH.len:∀{ds:List D} {vs:List V},aH K C H ds vs->vs.length=ds.length
 | [],_,e=>by rw[aH] at e;subst e;rfl
 | d::ds,_,e=>by
  rw[aH] at e
  refine b6 e fun v r aR _ q=>?_
  clear e
  walk_at"#"
  rw[aD1,aD1,q.len]
theorem aH.get':∀{ds:List D} {vs:List V} {j:Nat} {d:D},aH K C H ds vs->ds[j]?=some d->∃v,vs[j]?=some v/\Rep K C H d v
 | [],_,j,v,e,h=>by cases h
 | d::ds,_,j,v,e,h=>by
  rw[aH] at e
  refine b6 e fun u r aR a q=>?_
  clear e
  walk_at"#"
  cases j with
  | zero=>cases h;exact⟨u,rfl,a⟩
  | succ j=>
   refine aM (q.get' (j:=j) (by simpa using h)) fun z h1 h2=>?_
   exact⟨z,by simpa using h1,h2⟩
theorem aH.nil:aH K C H [] []:=by rw[aH]
theorem aH.cons{d:D}{ds:List D}{v:V}{vs:List V}(a:Rep K C H d v)(b:aH K C H ds vs):aH K C H (d::ds) (v::vs):=by rw[aH];exact⟨v,vs,rfl,a,b⟩
theorem aH.app:∀{ds es:List D} {vs ws:List V},aH K C H ds vs->aH K C H es ws->aH K C H (ds++es) (vs++ws)
 | [],_,_,_,a,b=>by rw[aH] at a;subst a;exact b
 | d::ds,_,_,_,a,b=>by
  rw[aH] at a
  refine b6 a fun v r aR a1 a2=>?_
  clear a
  walk_at"#"
  exact .cons a1 (a2.app b)
theorem aH.take:∀{ds:List D} {vs:List V} (n:Nat),aH K C H ds vs->aH K C H (ds.take n) (vs.take n)
 | [],_,n,a=>by rw[aH] at a;subst a;simp[aH]
 | d::ds,_,0,a=>by simp[aH]
 | d::ds,_,n+1,a=>by
  rw[aH] at a
  refine b6 a fun v r aR a1 a2=>?_
  clear a
  walk_at"#"
  rw[List.take_succ_cons,List.take_succ_cons]
  exact .cons a1 (a2.take n)
theorem aH.drop:∀{ds:List D} {vs:List V} (n:Nat),aH K C H ds vs->aH K C H (ds.drop n) (vs.drop n)
 | [],_,n,a=>by rw[aH] at a;subst a;simp[aH]
 | d::ds,_,0,a=>a
 | d::ds,_,n+1,a=>by
  rw[aH] at a
  refine b6 a fun v r aR a1 a2=>?_
  clear a
  walk_at"#"
  rw[List.drop_succ_cons,List.drop_succ_cons]
  exact a2.drop n
theorem aH.ints:∀ns:List Int,aH K C H (ns.map D.int) (ns.map V.int)
 | []=>.nil
 | n::ns=>.cons (by rw[Rep]) (aH.ints ns)
end
section
variable {X:Cx}{pins:List (Addr×Obj)}{σ:L2.St}{H:Hp}{s:Shared}{C:Cfg}
mutual
theorem Inv.dat(I:Inv X pins σ H s):∀(d:D) {v:V} {u:Value},flat d=true->Rep X.K C H d v->RelV v u->dO s.heap d u
 | .cF,v,u,_,q,r=>by rw[Rep] at q;subst q;rw[dO];exact r
 | .bl b,v,u,_,q,r=>by rw[Rep] at q;subst q;rw[dO];exact r
 | .int i,v,u,_,q,r=>by rw[Rep] at q;subst q;rw[dO];exact r
 | .str x,v,u,_,q,r=>by rw[Rep] at q;subst q;rw[dO];exact r
 | .tup ds,v,u,f,q,r=>by
  rw[Rep] at q
  rw[flat] at f
  refine b6 q fun a xs aR h2 h3=>?_
  clear q
  walk_at"#"
  obtain rfl:u = .ref a:=r
  refine bM (I.tuple h2) fun bf r1 t _=>?_
  rw[dO]
  exact⟨a,bf.toArray,rfl,t,Inv.Lo I ds f h3 r1⟩
 | .lst ds,v,u,f,q,r=>by
  have q:=q.items
  rw[flat] at f
  refine b6 q fun a xs aR h2 h3=>?_
  clear q
  walk_at"#"
  obtain rfl:u = .ref a:=r
  refine bM (I.list h2) fun bf r1 t _=>?_
  rw[dO]
  exact⟨a,bf.toArray,rfl,t,Inv.Lo I ds f h3 r1⟩
 | .cu tb ds,v,u,f,q,r=>by rw[flat] at f;cases f
theorem Inv.Lo(I:Inv X pins σ H s):∀(ds:List D) {vs:List V} {us:List Value},bL ds=true->aH X.K C H ds vs->Vals vs us->bh s.heap ds us
 | [],_,_,_,q,r=>by rw[aH] at q;subst q;cases r;rw[bh]
 | d::ds,_,_,f,q,r=>by
  rw[aH] at q
  refine b6 q fun v vs' aR a b=>?_
  clear q
  walk_at"#"
  rw[bL,aD4] at f
  cases r with
  | cons r1 r2=>
   rw[bh]
   exact⟨_,_,rfl,Inv.dat I d f.1 a r1,Inv.Lo I ds f.2 b r2⟩
end
def Q8(K:Frag)(C:Cfg)(neg:Bool):R2:=fun x y H Q=>∃d e,Rep K C H d x/\Rep K C H e y/\flat d=true/\flat e=true/\dep d<=60/\Q (.bl (if neg then !gq d e else gq d e)) H
theorem mP(hu:X.A.units+64 < cLine):rG X (compareOp .Eq) (Q8 X.K C false):=by
 intro pins s σ H x y v u Q I rx ry ⟨d,e,h1,h2,f1,f2,h3,q⟩
 exact PY d e f1 f2 (Inv.dat I d f1 h1 rx) (Inv.dat I e f2 h2 ry) (by lia) _ _ _ _ ⟨.bl (gq d e),H,I,rfl,q⟩
theorem HU(hu:X.A.units+64 < cLine):rG X (compareOp .NotEq) (Q8 X.K C true):=by
 intro pins s σ H x y v u Q I rx ry ⟨d,e,h1,h2,f1,f2,h3,q⟩
 exact HD d e f1 f2 (Inv.dat I d f1 h1 rx) (Inv.dat I e f2 h2 ry) (by lia) _ _ _ _ ⟨.bl (!gq d e),H,I,rfl,q⟩
def Q9(K:Frag)(C:Cfg)(neg:Bool):R2:=fun x y H Q=>∃d es,Rep K C H d x/\(Rep K C H (.lst es) y\/Rep K C H (.tup es) y)/\flat d=true/\bL es=true/\jm es<=60/\Q (.bl (if neg then !(es.any fun e=>gq e d) else es.any fun e=>gq e d)) H
def uD(h:Heap)(d:D)(y:Value):Bool:=@decide (∃e,dO h e y/\gq e d=true) (Classical.propDecidable _)
theorem B6{h:Heap}{d e:D}{y:Value}(q:dO h e y):uD h d y=gq e d:=by
 unfold uD
 cases z:gq e d with
 | true=>exact @aD6 _ (Classical.propDecidable _) ⟨e,q,z⟩
 | false=>
  refine @aE4 _ (Classical.propDecidable _) ?_
  rintro ⟨e',q',z'⟩
  rw[dO.inj e e' q q'] at z
  rw[z] at z';cases z'
theorem lW{h:Heap}{d:D}:∀(es:List D) {ys:List Value},bh h es ys->ys.any (uD h d)=es.any fun e=>gq e d
 | [],_,q=>by rw[bh] at q;subst q;rfl
 | e::es,_,q=>by
  rw[bh] at q
  refine b6 q fun v r aR a b=>?_
  clear q
  walk_at"#"
  rw[List.any_cons,List.any_cons,B6 a,lW es b]
theorem mQ{A:Around}{d:D}{x:Value}(fd:flat d=true)(hx:dO s.heap d x){es:List D}{ys:List Value}(f:bL es=true)(q:bh s.heap es ys)(hu:A.units+jm es < cLine):∀y∈ys,EqAt A s y x (uD s.heap d y):=fun y hy=>by
 obtain ⟨j,hj,e⟩:=aF6.mp hy
 obtain ⟨a,b⟩:=q.get j hj
 rw[e] at a
 rw[B6 a]
 have:=gJ b
 exact oH _ _ (cR f b) fd a hx (by lia)
theorem qZ(hu:X.A.units+64 < cLine):rG X (compareOp .In) (Q9 X.K C false):=by
 intro pins s σ H x y v u Q I rx ry ⟨d,es,h1,h2,f1,f2,h3,q⟩
 have hd:=Inv.dat I d f1 h1 rx
 rcases h2 with h2 | h2
 ·have he:=Inv.dat I (.lst es) (by rw[flat];exact f2) h2 ry
  rw[dO] at he
  refine b6 he fun a it aR t p=>?_
  clear he
  walk_at"#"
  refine in_listAt (uD s.heap d) t.isList (fun y hy=>mQ f1 hd f2 p (by show X.A.units+1+_ < _;lia) y (Array.mem_toList_iff.mpr hy)) ?_
  rw[<- Array.any_toList,lW es p]
  exact⟨.bl (es.any fun e=>gq e d),H,I,rfl,q⟩
 ·have he:=Inv.dat I (.tup es) (by rw[flat];exact f2) h2 ry
  rw[dO] at he
  refine b6 he fun a it aR t p=>?_
  clear he
  walk_at"#"
  refine in_tupleAt (uD s.heap d) (aJ t) (fun y hy=>mQ f1 hd f2 p (by show X.A.units+1+_ < _;lia) y (Array.mem_toList_iff.mpr hy)) ?_
  rw[<- Array.any_toList,lW es p]
  exact⟨.bl (es.any fun e=>gq e d),H,I,rfl,q⟩
theorem lZ(hu:X.A.units+64 < cLine):rG X (compareOp .NotIn) (Q9 X.K C true):=by
 intro pins s σ H x y v u Q I rx ry ⟨d,es,h1,h2,f1,f2,h3,q⟩
 have hd:=Inv.dat I d f1 h1 rx
 rcases h2 with h2 | h2
 ·have he:=Inv.dat I (.lst es) (by rw[flat];exact f2) h2 ry
  rw[dO] at he
  refine b6 he fun a it aR t p=>?_
  clear he
  walk_at"#"
  refine notIn_listAt (uD s.heap d) t.isList (fun y hy=>mQ f1 hd f2 p (by show X.A.units+1+_ < _;lia) y (Array.mem_toList_iff.mpr hy)) ?_
  rw[<- Array.any_toList,lW es p]
  exact⟨.bl (!es.any fun e=>gq e d),H,I,rfl,q⟩
 ·have he:=Inv.dat I (.tup es) (by rw[flat];exact f2) h2 ry
  rw[dO] at he
  refine b6 he fun a it aR t p=>?_
  clear he
  walk_at"#"
  refine notIn_tupleAt (uD s.heap d) (aJ t) (fun y hy=>mQ f1 hd f2 p (by show X.A.units+1+_ < _;lia) y (Array.mem_toList_iff.mpr hy)) ?_
  rw[<- Array.any_toList,lW es p]
  exact⟨.bl (!es.any fun e=>gq e d),H,I,rfl,q⟩
end
end Dm
end ag0
section ag1
namespace Dm
open PySem PyProof.Rows L2 PySem.SeqAt Ts
section
variable {X:Cx}{C:Cfg}
theorem zy{ws:List V}{vs:List Value}(r:Vals ws vs):∀(pm:List Nat),(∀i∈pm,i < ws.length)->Vals (pm.map fun i=>ws.getD i .cF) (pm.map fun i=>vs.getD i Value.none)
 | [],_=>.nil
 | i::pm,h=>by
  refine .cons ?_ (zy r pm fun j hj=>h j (.tail _ hj))
  have hi:=h i (.head _)
  refine aM (r.get (aD2 hi)) fun u h1 h2=>?_
  have e1:ws.getD i .cF=ws[i]:=by simp[hi]
  have e2:vs.getD i Value.none=u:=by simp[h1]
  show RelV (ws.getD i .cF) (vs.getD i Value.none)
  rw[e1,e2];exact h2
theorem vg{K:Frag}{H:Hp}{ws:List V}{ds:List D}(r:aH K C H ds ws):∀(pm:List Nat),(∀i∈pm,i < ds.length)->aH K C H (pm.map fun i=>ds.getD i .cF) (pm.map fun i=>ws.getD i .cF)
 | [],_=>.nil
 | i::pm,h=>by
  refine .cons ?_ (vg r pm fun j hj=>h j (.tail _ hj))
  have hi:=h i (.head _)
  refine aM (r.get' (aD2 hi)) fun u h1 h2=>?_
  have e1:ds.getD i .cF=ds[i]:=by simp[hi]
  have e2:ws.getD i .cF=u:=by simp[h1]
  show Rep K C H (ds.getD i .cF) (ws.getD i .cF)
  rw[e1,e2];exact h2
structure sd(ds:List D):Prop where
 kd:∃kd,Sk ds kd
 mJ:ds.length < 64
 fG:∀a∈ds,∀b∈ds,fG a b=true
 nl:∀a∈ds,nl a=true
 dep:∀a∈ds,dep a<=50
theorem xO{ds:List D}(h:∀a∈ds,∀b∈ds,fG a b=true):bL ds=true:=gv fun d hd=>(vV d d (h d hd d hd)).1
def HV(K:Frag)(C:Cfg):List V->Hp->VK->Prop:=fun xs H Q=>∃v ds,xs=[v]/\Rep K C H (.lst ds) v/\sd ds/\∀p ws,H p=none->aH K C H (dm ds) ws->Q (.ref p) (upd H p (.lst ws))
theorem B7{pins:List (Addr×Obj)}{σ:L2.St}{H:Hp}{s:Shared}{Q:VK}{h1 h':Heap}{tk L n:Nat}{ws:List V}{vs:List Value}(I:L2.Inv X pins σ H s)(k1:∀b ob,s.heap.get? b=some ob->h1.get? b=some ob)(k2:∀b ob,h1.get? b=some ob->h'.get? b=some ob)
  (hL:h1.objs.size<=L) (ho:h'.get? L=some (seqObj "list" vs.toArray n)) (r:Vals ws vs) (hz:ws.length<=sizeLine) (q:H L=none->Q (.ref L) (upd H L (.lst ws))):EP X pins σ Q (.ref L) { s with heap:=h',toks:=tk }:=by
 have I1:L2.Inv X pins σ H { s with heap:=h1,toks:=tk }:=I.kept k1
 have hn:H L=none:=I1.eE.fresh hL
 refine⟨.ref L,upd H L (.lst ws),I1.laid (t':=tk) k2 hL ⟨hz,vs,n,r,ho⟩,rfl,q hn⟩
def HW(K:Frag)(C:Cfg)(G:List D->Prop):List V->Hp->VK->Prop:=fun xs H Q=>∃a ws ds,xs=[.ref a]/\ko K H a ws/\aH K C H ds ws/\G ds/\∀(p:Addr) (pm:List Nat),H p=none->(∀i∈pm,i < ds.length)->dm ds=pm.map (fun i=>ds.getD i .cF)->Q (.ref p) (upd H p (.lst (pm.map fun i=>ws.getD i .cF)))
theorem sf{G:List D->Prop}(hG:∀ds,G ds->bL ds=true/\∃kd,ds.length<=sizeLine->∀bf,SG X.prog X.w X.A ds kd bf):lS X (.builtin "sorted") (HW X.K C G):=by
 intro pins s σ H xs us Q I r ⟨a,ws,ds,e,h2,h3,S,q⟩
 subst e
 refine aM (vals1 r) fun u iG rv=>?_
 walk_at"7"
 obtain rfl:u = .ref a:=rv
 refine bM (I.list h2) fun bf r1 pl hz=>?_
 obtain ⟨ff,kd,sg⟩:=hG ds S
 have ld:bf.length=ds.length:=by rw[<- r1.length,h3.len]
 have lw:ws.length=ds.length:=h3.len
 refine uB (Pd:=fun es NS vs=>es=ds/\NS=kd/\vs=bf) (fun es NS vs hp=>?_) (fun R hR=>?_) fun h1 h' tk es NS vs L n pm k1 k2 hp hd hL iI hs ho=>?_
 ·obtain ⟨rfl,rfl,rfl⟩:=hp
  exact sg (by rw[<- lw];exact hz) _
 ·refine collect_list (vs:=bf) (s:=s) pl.isList ?_ (by rw[<- r1.length];exact hz)
  have keep:∀b ob,s.heap.get? b=some ob->((s.heap.push (seqObj "list" #[] 0)).update s.heap.objs.size (Obj.mapSeq (· ++ bf.toArray))).get? b=some ob:=fun b ob e=>by
   rw[Heap.get?_update_ne _ _ _ _ (aE5 (aD9 e))]
   exact aC0 _ e
  exact hR _ s.toks ds kd bf keep ⟨rfl,rfl,rfl⟩ ((Inv.Lo I ds ff h3 r1).keep keep)
 ·obtain ⟨rfl,rfl,rfl⟩:=hp
  have lp:pm.length=es.length:=by
   have:=congrArg List.length hs
   rw[aC8,(cG es).length_eq] at this
   exact this.symm
  exact B7 I k1 k2 hL ho (zy r1 pm fun i hi=>by rw[lw];exact iI i hi) (by rw[aC8,lp,<- lw];exact hz) fun hn=>q L pm hn iI hs
theorem jq(hu:X.A.units+64 < cLine):lS X (.builtin "sorted") (HV X.K C):=by
 intro pins s σ H xs us Q I r ⟨v,ds,e,h1,S,q⟩
 subst e
 obtain ⟨a,ws,rfl,h2,h3⟩:=h1.items
 exact sf (G:=sd) (fun ds S=>⟨xO S.fG,S.kd.imp fun kd sk _ bf=>sgS sk S.mJ S.fG S.nl fun a ha=>by have:=S.dep a ha;lia⟩) pins s σ H _ us Q I r ⟨a,ws,ds,rfl,h2,h3,S,fun p pm hn iI hs=>q p _ hn (by rw[hs];exact vg h3 pm iI)⟩
end
end Dm
end ag1
section ag2
namespace Dm
open PySem PyProof.Rows L2 PySem.SeqAt Ts Tb
theorem wg{prog:Program}{w:World}{ks:List Int}{vs:List Value}(h:ItemsAre (intKind prog w) ks vs):∀v∈vs,∃i t,v=Value.int i t:=by
 induction h with
 | nil=>intro v hv;cases hv
 | cons h1 _ ih=>
  intro v hv
  rcases aC6.mp hv with rfl | hv
  ·obtain ⟨t,e⟩:=Value.isInt_shape h1
   exact⟨_,t,e⟩
  ·exact ih v hv
def tupS(prog:Program)(w:World):oM prog w (List Int) where
 toHeapKind:=tupleKind (intKind prog w)
 HK:=fun {A E s k a Q} hk h=>by
  have hT:=hk.typeIs
  refine Kq hk fun o items n ho _ hd hi=>?_
  clear hk
  unfold ofAClassStatement
  refine aB8 (wpAny_typeOf hT ?_)
  dsimp only
  rw[aC2 (by decide)]
  walk_at"?"
  simp only[Bool.not_true,aE0,if_false]
  refine aB8 (wpAny_seqItems ho hd ?_)
  dsimp only
  refine aB8 ?_
  rw[<- Array.forIn_toList]
  refine wpAny_forIn_list _ (fun rest r s'=>r.1=none/\s'=s/\∀v∈rest,∃i t,v=Value.int i t) _ ?_ ?_ _ _ ⟨rfl,rfl,wg hi⟩
  ·rintro v rest r s' ⟨hr,rfl,qz⟩
   refine qS (qz v List.mem_cons_self) fun i t aR=>?_
   walk_at"#"
   unfold ofAClassStatement
   walk_at"?"
   simp only[aE0,if_false]
   exact aB9 ⟨rfl,rfl,fun u hu=>qz u (aG5 _ hu)⟩
  ·rintro ⟨r1,r2⟩ s' ⟨hr,rfl,_⟩
   simp only at hr
   subst hr
   exact aB9 h
 O2:=fun {A E s k a Q} hk h=>by
  have hT:=hk.typeIs
  refine Kq hk fun o items n ho _ hd hi=>?_
  clear hk
  unfold hashByValue
  refine aB8 (wpAny_specialOf hT F.slot_tuple_hash.lookup ?_)
  dsimp only
  refine aB8 (wpAny_seqItems ho hd ?_)
  dsimp only[Option.getD]
  refine aB8 ?_
  rw[<- Array.forIn_toList]
  refine wpAny_forIn_list _ (fun rest r s'=>r.1=none/\s'=s/\∀v∈rest,∃i t,v=Value.int i t) _ ?_ ?_ _ _ ⟨rfl,rfl,wg hi⟩
  ·rintro v rest r s' ⟨hr,rfl,qz⟩
   refine qS (qz v List.mem_cons_self) fun i t aR=>?_
   walk_at"#"
   unfold hashByValue
   walk_at"?"
   simp only[Bool.not_true,aE0,if_false]
   exact aB9 ⟨rfl,rfl,fun u hu=>qz u (aG5 _ hu)⟩
  ·rintro ⟨r1,r2⟩ s' ⟨hr,rfl,_⟩
   simp only at hr
   subst hr
   exact aB9 h
 mono:=fun hk e=>by
  refine Kq hk fun o items n ho hc hd hi=>?_
  clear hk
  exact⟨o,items,n,e _ _ ho hc,hc,hd,hi⟩
theorem B8{prog:Program}{w:World}{h:Heap}:∀{ns:List Int} {vs:List Value},bh h (ns.map D.int) vs->ItemsAre (intKind prog w) ns vs
 | [],_,q=>by rw[List.map_nil,bh] at q;subst q;exact .nil
 | n::ns,_,q=>by
  rw[aC1,bh] at q
  refine b6 q fun v r aR a b=>?_
  clear q
  walk_at"#"
  rw[dO] at a
  obtain ⟨t,rfl⟩:=a
  exact .cons (by show Value.isInt n (.int n t)=true;simp[Value.isInt]) (B8 b)
theorem Vn{prog:Program}{w:World}{h:Heap}{ns:List Int}{a:Addr}(q:dO h (.tup (ns.map D.int)) (.ref a)):(tupS prog w).is h ns a:=by
 rw[dO] at q
 refine b6 q fun b it e rM p=>?_
 clear q
 obtain ⟨o,h1,h2,n,h3⟩:=rM
 obtain rfl:a=b:=by injection e
 exact⟨o,it,n,h1,h2,h3,B8 p⟩
def HX(prog:Program)(w:World)(a:Addr)(zs:List (List Int×Addr))(h:Heap):Prop:=
 ∃o ep t,h.get? a=some o/\o.ExactSet/\o.data = .set (zs.map (entry (tupS prog w))).toArray ep t/\Good t zs.length/\Paths t (fun i=>((zs.map (entry (tupS prog w))).toArray[i]?.map (·.1)).getD 0) zs.length/\
  t.led=gP w/\t.plain=true/\zs.length * 5 < t.mask * 3/\(zs.map (·.1)).Nodup
section
variable {X:Cx}{C:Cfg}
def Members(K:Frag)(H:Hp)(zs:List (List Int×Addr)):Prop:=∀z∈zs,lQ K H z.2 (z.1.map V.int)
def DV(X:Cx)(C:Cfg):List V->Hp->VK->Prop:=fun xs H Q=>∃(v:V) (j5:List (List Int)),xs=[v]/\Rep X.K C H (.lst (j5.map fun ns=>.tup (ns.map D.int))) v/\j5.length<=50/\
 ∀p zs,H p=none->Members X.K H zs->(zs.map (·.1)).Nodup->(∀ns,ns∈zs.map (·.1)↔ns∈j5)->Q (.ref p) (upd H p (.ext (HX X.prog X.w p zs)))
theorem yv{K:Frag}{H:Hp}:∀{j5:List (List Int)} {ws:List V},aH K C H (j5.map fun ns=>.tup (ns.map D.int)) ws->∃ys:List (List Int×Addr),ys.map (·.1)=j5/\ws=(ys.map fun y=>V.ref y.2)/\Members K H ys
 | [],_,q=>by rw[List.map_nil,aH] at q;subst q;exact⟨[],rfl,rfl,fun z hz=>by cases hz⟩
 | ns::j5,_,q=>by
  rw[aC1,aH] at q
  refine b6 q fun v r aR a b=>?_
  clear q
  walk_at"#"
  refine bM (yv b) fun ys e1 e2 m=>?_
  rw[Rep] at a
  refine b6 a fun ad xs aR t p=>?_
  clear a
  walk_at"#"
  have exs:xs=ns.map V.int:=by
   clear t
   induction ns generalizing xs with
   | nil=>rw[List.map_nil,aH] at p;exact p
   | cons n ns ih=>
    rw[aC1,aH] at p
    refine b6 p fun v r' aR a1 a2=>?_
    clear p
    walk_at"#"
    rw[Rep] at a1
    rw[a1,ih _ a2];rfl
  subst exs
  refine⟨(ns,ad)::ys,by rw[aC1,e1],by rw[aC1,e2],fun z hz=>?_⟩
  rcases aC6.mp hz with rfl | hz
  ·exact t
  ·exact m z hz
theorem HY{pins:List (Addr×Obj)}{σ:L2.St}{H:Hp}{s:Shared}(I:L2.Inv X pins σ H s){z:List Int×Addr}(h:lQ X.K H z.2 (z.1.map V.int)):(tupS X.prog X.w).is s.heap z.1 z.2:=by
 refine Vn ?_
 refine Inv.dat (C:=Vm) I _ (v:=V.ref z.2) ?_ ?_ rfl
 ·rw[flat]
  exact gv fun d hd=>by
   refine aM (aC5.mp hd) fun n _ aR=>?_
   walk_at"#"
   rw[flat] <;> simp
 ·rw[Rep]
  exact⟨z.2,_,rfl,h,aH.ints z.1⟩
theorem yw{vs:List Value}:∀{ys:List (List Int×Addr)},Vals (ys.map fun y=>V.ref y.2) vs->vs=ys.map fun y=>Value.ref y.2
 | [],r=>by cases r;rfl
 | y::ys,r=>by
  cases r with
  | cons r1 r2=>
   rw[aC1,yw r2]
   congr 1
theorem Fo(hh:X.A.handled=none)(hu:X.A.units+64 < cLine):lS X (.type "set") (DV X C):=by
 intro pins s σ H xs us Q I r ⟨v,j5,e,h1,hn,q⟩
 subst e
 refine aM (vals1 r) fun u iG rv=>?_
 walk_at"7"
 have h1:=h1.items
 refine b6 h1 fun a ws aR h2 h3=>?_
 clear h1
 walk_at"#"
 obtain rfl:u = .ref a:=rv
 refine bM (I.list h2) fun bf r1 pl hz=>?_
 refine bM (yv h3) fun ys e1 e2 m=>?_
 subst e2
 obtain rfl:=yw r1
 have ly:ys.length=j5.length:=by rw[<- e1,aC8]
 refine HQ (κ:=tupS X.prog X.w) (ys:=ys) hh (by show X.A.units+1+1+1 < cLine;lia) pl.isList (by lia) (fun y hy=>HY I (m y hy)) fun h' tk o ep t zs k S m1 m2=>?_
 have hf:H s.heap.objs.size=none:=I.eE.fresh (aC4 _)
 refine⟨.ref s.heap.objs.size,upd H s.heap.objs.size (.ext (HX X.prog X.w s.heap.objs.size zs)),I.laid (t':=tk) k (aC4 _) ?_,rfl,q _ zs hf (fun z hz=>m z (m1 z hz)) S.keys fun ns=>?_⟩
 ·refine⟨⟨o,ep,t,S.obj,S.mO,S.data,S.good,S.DN,S.Fg,S.plain,S.mJ,S.keys⟩,⟨o,S.obj⟩,?_⟩
  rintro h1 h2 ⟨o',yV,t',q1,q2⟩ ke
  exact⟨o',yV,t',ke _ q1,q2⟩
 ·constructor
  ·intro hm
   refine aM (aC5.mp hm) fun z hz aR=>?_
   walk_at"#"
   rw[<- e1]
   exact aC5.mpr ⟨z,m1 z hz,rfl⟩
  ·intro hm
   rw[<- e1] at hm
   refine aM (aC5.mp hm) fun y hy aR=>?_
   walk_at"#"
   exact m2 y hy
def Rows(j5:List (List Int)):Prop:=∃n,∀ns∈j5,ns.length=n+1
theorem tO:∀{a b:List Int},a.length=b.length->dS (a.map D.int) (b.map D.int)=true
 | [],[],_=>by simp[dS]
 | x::a,y::b,h=>by
  rw[aC1,aC1,dS,tO (by simpa using h)]
  simp[fG]
theorem B9:∀a:List Int,Cr (a.map D.int)=true
 | []=>by simp[Cr]
 | x::a=>by rw[aC1,Cr,B9 a];simp[nl]
theorem Fp(a:List Int):jm (a.map D.int)=0:=by
 have:jm (a.map D.int)<=0:=rT fun d hd=>by
  refine aM (aC5.mp hd) fun n _ aR=>?_
  walk_at"#"
  rw[dep] <;> simp
 lia
theorem xP{j5:List (List Int)}(h:Rows j5)(mJ:j5.length < 64):sd (j5.map fun ns=>.tup (ns.map D.int)):=by
 obtain ⟨n,hn⟩:=h
 have mem:∀d∈j5.map (fun ns=>D.tup (ns.map D.int)),∃ns∈j5,d = .tup (ns.map D.int):=fun d hd=>by
  refine aM (aC5.mp hd) fun ns h1 h2=>?_
  exact⟨ns,h1,h2.symm⟩
 refine⟨⟨_,.qx fun d hd=>?_⟩,by rw[aC8];exact mJ,fun a ha b hb=>?_,fun a ha=>?_,fun a ha=>?_⟩
 ·refine aM (mem d hd) fun ns h1 aR=>?_
  walk_at"#"
  have:=hn ns h1
  match ns,this with
  | i::r,_=>exact⟨i,r.map D.int,rfl⟩
 ·refine aM (mem a ha) fun ns h1 aR=>?_
  walk_at"#"
  refine aM (mem b hb) fun ms h2 aR=>?_
  walk_at"#"
  rw[fG]
  exact tO (by rw[hn ns h1,hn ms h2])
 ·refine aM (mem a ha) fun ns h1 aR=>?_
  walk_at"#"
  rw[nl];exact B9 ns
 ·refine aM (mem a ha) fun ns h1 aR=>?_
  walk_at"#"
  rw[dep,Fp];decide
def CA(X:Cx)(C:Cfg):List V->Hp->VK->Prop:=fun xs H Q=>∃a zs,xs=[.ref a]/\H a=some (.ext (HX X.prog X.w a zs))/\Members X.K H zs/\zs.length<=50/\Rows (zs.map (·.1))/\
 ∀p ws (es:List (List Int)),H p=none->es.Perm (zs.map (·.1))->aH X.K C H (dm (es.map fun ns=>.tup (ns.map D.int))) ws->Q (.ref p) (upd H p (.lst ws))
theorem Fq{α β:Type}{f:α->β}:∀{l:List α} {m:List β},m.Perm (l.map f)->∃l':List α,l'.Perm l/\m=l'.map f:=by
 intro l m h
 generalize e:l.map f=k at h
 induction h generalizing l with
 | nil=>
  exact⟨l,.refl _,e.symm⟩
 | cons x _ ih=>
  match l,e with
  | a::l,e=>
   rw[aC1] at e
   injection e with e1 e2
   refine aM (ih e2) fun l' p q=>?_
   exact⟨a::l',p.cons a,by rw[aC1,e1,q]⟩
 | swap x y k=>
  match l,e with
  | a::b::l,e=>
   rw[aC1,aC1] at e
   injection e with e1 e2
   injection e2 with e2 e3
   exact⟨b::a::l,.swap a b l,by rw[aC1,aC1,e1,e2,e3]⟩
 | trans _ _ ih1 ih2=>
  refine aM (ih2 e) fun l1 p1 q1=>?_
  refine aM (ih1 q1.symm) fun l2 p2 q2=>?_
  exact⟨l2,p2.trans p1,q2⟩
theorem zA(hh:X.A.handled=none)(hu:X.A.units+64 < cLine):lS X (.builtin "sorted") (CA X C):=by
 intro pins s σ H xs us Q I r ⟨a,zs,e,h1,hm,hn,hr,q⟩
 subst e
 refine aM (vals1 r) fun u iG rv=>?_
 walk_at"7"
 obtain rfl:u = .ref a:=rv
 refine vD (I.eE a _ h1) fun Uv _ _=>?_
 obtain ⟨o,ep,t,g1,g2,g3,g4,g5,g6,g7,g8,g9⟩:=Uv
 have S:gT (tupS X.prog X.w) s.heap a (gP X.w) zs o ep t:=⟨g1,g2,g3,g4,g5,g6,g7,g8,g9,fun x hx=>HY I (hm x hx)⟩
 refine uB (Pd:=fun es kd vs=>kd=tuples' true/\∃l:List (List Int×Addr),l.Perm zs/\es=(l.map fun y=>.tup (y.1.map D.int))/\vs=l.map fun y=>Value.ref y.2) (fun es kd vs hp=>?_) (fun R hR=>?_) fun h1 h' tk es kd vs L n pm k1 k2 hp hd hL iI hs ho=>?_
 ·obtain ⟨rfl,l,p,rfl,rfl⟩:=hp
  obtain ⟨m,xJ⟩:=hr
  have rows:Rows (l.map (·.1)):=⟨m,fun ns XA=>xJ ns ((p.map _).mem_iff.mp XA)⟩
  have so:=xP rows (by rw[aC8,p.length_eq];lia)
  rw[aG9] at so
  refine sgS (.qx fun d hd=>?_) so.mJ so.fG so.nl fun a ha=>by have:=so.dep a ha;lia
  refine aM (aC5.mp hd) fun y hy aR=>?_
  walk_at"#"
  have:=xJ y.1 (aC5.mpr ⟨y,p.mem_iff.mp hy,rfl⟩)
  match h:y.1,this with
  | i::r,_=>exact⟨i,r.map D.int,rfl⟩
 ·refine B5 (κ:=tupS X.prog X.w) hh S hn fun h' tk vs k pv=>?_
  refine aM (Fq pv) fun l p aR=>?_
  walk_at"#"
  refine hR h' tk _ _ _ k ⟨rfl,l,p,rfl,rfl⟩ (bh.of_map _ _ l fun y hy=>dO.keep k _ ?_)
  have t:=hm y (p.mem_iff.mp hy)
  refine Inv.dat (C:=Vm) I _ (v:=V.ref y.2) ?_ ?_ rfl
  ·rw[flat]
   exact gv fun d hd=>by
    refine aM (aC5.mp hd) fun n _ aR=>?_
    walk_at"#"
    rw[flat] <;> simp
  ·rw[Rep]
   exact⟨y.2,_,rfl,t,aH.ints y.1⟩
 ·obtain ⟨rfl,l,p,rfl,rfl⟩:=hp
  have ll:l.length<=50:=by rw[p.length_eq];exact hn
  have lp:pm.length=l.length:=by
   have:=congrArg List.length hs
   rw[aC8,(cG _).length_eq,aC8] at this
   exact this.symm
  have rv:∀l:List (List Int×Addr),Vals (l.map fun y=>V.ref y.2) (l.map fun y=>Value.ref y.2):=fun l=>by
   induction l with
   | nil=>exact .nil
   | cons y l ih=>exact .cons rfl ih
  have lt':∀i∈pm,i < l.length:=fun i hi=>by have:=iI i hi;rwa [aC8] at this
  have rp:aH X.K C H (l.map fun y=>.tup (y.1.map D.int)) (l.map fun y=>V.ref y.2):=by
   have XQ:∀y∈l,lQ X.K H y.2 (y.1.map V.int):=fun y hy=>hm y (p.mem_iff.mp hy)
   clear hs iI lt' lp hd ho p ll
   induction l with
   | nil=>exact .nil
   | cons y l ih=>
    refine .cons ?_ (ih fun z hz=>XQ z (aG5 _ hz))
    rw[Rep]
    exact⟨y.2,_,rfl,XQ y List.mem_cons_self,aH.ints y.1⟩
  have big:64<=sizeLine:=by rw[aG6];decide
  refine B7 I k1 k2 hL ho (zy (rv l) pm fun i hi=>by rw[aC8];exact lt' i hi) (by rw[aC8,lp];lia) fun yW=>q L _ (l.map (·.1)) yW (p.map _) ?_
  rw[aG9]
  show aH X.K C H (dm (l.map fun y=>.tup (y.1.map D.int))) _
  rw[hs]
  exact vg rp pm iI
end
end Dm
end ag2
section ag3
namespace Dm
open PySem PySem.Spec PyProof.Rows L2
inductive R(α:Type) where
 | ok (a:α) | ex (c:Addr) (p:Option Int) | bad
def R.bind{α β:Type}(r:R α)(f:α->R β):R β:=match r with | .ok a=>f a | .ex c p=>.ex c p | .bad=>.bad
abbrev dX:=List (Option D)
abbrev DF:=dX->R D
abbrev DA:=dX->R (List D)
inductive Out where
 | nx (st:dX) | rt (d:D) | bk (st:dX) | ct (st:dX) | ex (c:Addr) (p:Option Int) (st:dX) | bad
abbrev DS:=dX->Out
def Gm(E:XK)(c:Addr)(p:Option Int)(H:Hp):Prop:=match p with
 | none=>E (.ref c) none H
 | some n=>∀dx,H dx=some (.xd [("at",.int n)])->E (.ref c) (some dx) H
def uE:Option HO->Bool
 | none=>true
 | some (.tup _)=>true
 | some (.Gs _ (.tup _))=>true
 | _=>false
def nw(G H:Hp):Hp:=fun a=>if uE (G a)=true then H a else none
theorem dw(G H:Hp):aB (nw G H) H:=fun b o h=>by
 unfold nw at h;split at h
 ·exact h
 ·cases h
theorem bK{G H H':Hp}(e:aB H H'):aB (nw G H) (nw G H'):=fun b o h=>by
 unfold nw at h ⊢;split at h
 ·rename_i q;rw[aC2 q];exact e b o h
 ·cases h
theorem mR{G G':Hp}(e:aB G G'){a:Addr}(h:uE (G' a)=true):uE (G a)=true:=by
 cases q:G a with
 | none=>rfl
 | some o=>rw[e a o q] at h;exact h
theorem vh{G G' H:Hp}(e:aB G G'):aB (nw G' H) (nw G H):=fun b o h=>by
 unfold nw at h ⊢;split at h
 ·rename_i q;rw[aC2 (mR e q)];exact h
 ·cases h
theorem kJ{G H:Hp}{a:Addr}(h:G a=none):nw G H a=H a:=by unfold nw;rw[h];rfl
def jK(H G:Hp):Prop:=aB G H/\∀a xs,Rd H a (.tup xs)->Rd G a (.tup xs)
theorem jK.trans{H G F:Hp}(a:jK H G)(b:jK G F):jK H F:=⟨b.1.trans a.1,fun x xs h=>b.2 x xs (a.2 x xs h)⟩
theorem jK.nw{G H:Hp}(e:aB G H):jK H (nw G H):=⟨dw _ _,fun a xs h=>by
 have k:uE (G a)=true:=by
  cases q:G a with
  | none=>rfl
  | some o=>
   have:=e a o q
   rcases h with h | ⟨u,h⟩
   ·rw[h] at this;cases this;rfl
   ·rw[h] at this;cases this;rfl
 unfold Rd Dm.nw
 rw[aC2 k];exact h⟩
def Qa:HO->Bool
 | .lst _=>true
 | .ext _=>true
 | _=>false
theorem jK.er{H:Hp}{A:List Addr}(h:∀a∈A,∃o,H a=some o/\Qa o=true):jK H (er H A):=⟨aF _ _,fun a xs r=>by
 have k:a∉A:=fun m=>by
  obtain ⟨o,q,z⟩:=h a m
  rcases r with r | ⟨u,r⟩
  ·rw[q] at r;cases r;cases z
  ·rw[q] at r;cases r;cases z
 unfold Rd
 rw[aS k];exact r⟩
mutual
def fR:D->Bool
 | .tup ds=>d9 ds
 | .lst _=>false
 | .cu _ _=>false
 | _=>true
def d9:List D->Bool
 | []=>true
 | d::ds=>fR d&&d9 ds
end
theorem jL:∀{ds:List D} {d:D},d9 ds=true->d∈ds->fR d=true
 | _::_,_,h,.head _=>by rw[d9,aD4] at h;exact h.1
 | _::ds,_,h,.tail _ m=>by rw[d9,aD4] at h;exact jL h.2 m
theorem fV:∀{ds:List D},(∀d∈ds,fR d=true)->d9 ds=true
 | [],_=>rfl
 | d::ds,h=>by rw[d9,aD4];exact⟨h d (.head _),fV fun x hx=>h x (.tail _ hx)⟩
section
variable {K:Frag}{C:Cfg}{H G:Hp}
theorem jK.sq(k:jK H G){a:Addr}{xs:List V}(h:lQ K H a xs):lQ K G a xs:=by
 rcases h with h | h
 ·exact .inl (k.2 a xs h)
 ·exact .inr h
mutual
theorem Rep.part(k:jK H G):∀(d:D) {v:V},fR d=true->Rep K C H d v->Rep K C G d v
 | .cF,v,_,q=>by rw[Rep] at q ⊢;exact q
 | .bl b,v,_,q=>by rw[Rep] at q ⊢;exact q
 | .int i,v,_,q=>by rw[Rep] at q ⊢;exact q
 | .str x,v,_,q=>by rw[Rep] at q ⊢;exact q
 | .tup ds,v,n,q=>by
  rw[Rep] at q ⊢
  rw[fR] at n
  refine b6 q fun a xs h1 h2 h3=>?_
  clear q
  exact⟨a,xs,h1,k.sq h2,aH.part k ds n h3⟩
 | .lst ds,v,n,q=>by rw[fR] at n;cases n
 | .cu t ds,v,n,q=>by rw[fR] at n;cases n
theorem aH.part(k:jK H G):∀(ds:List D) {vs:List V},d9 ds=true->aH K C H ds vs->aH K C G ds vs
 | [],_,_,q=>by rw[aH] at q ⊢;exact q
 | d::ds,_,n,q=>by
  rw[aH] at q ⊢
  rw[d9,aD4] at n
  refine b6 q fun v r e1 a b=>?_
  clear q
  exact⟨v,r,e1,Rep.part k d n.1 a,aH.part k ds n.2 b⟩
end
end
inductive Kd where
 | new | uF | loc | old | lN | aE
inductive SK where
 | par | loc | own (n:Bool) | any | pr
def mS:D->Bool
 | .lst _=>true
 | .cu t _=>t==2
 | _=>false
def m6(K:Frag)(C:Cfg)(F H:Hp)(p:Addr):D->Prop
 | .lst ds=>∃xs,H p=some (.lst xs)/\aH K C F ds xs
 | .cu t ds=>t=2/\∃xs,C.own K F H p xs/\aH K C F ds xs
 | _=>False
section
variable {K:Frag}{C:Cfg}{F F' H H' G:Hp}{p:Addr}
theorem m6.Qa:∀{d:D},m6 K C F H p d->∃o,H p=some o/\Dm.Qa o=true
 | .lst _,h=>let ⟨_,e,_⟩:=h;⟨_,e,rfl⟩
 | .cu _ _,h=>let ⟨_,_,e,_⟩:=h;let ⟨_,q⟩:=C.Vl e;⟨_,q,rfl⟩
theorem m6.mS:∀{d:D},m6 K C F H p d->Dm.mS d=true
 | .lst _,_=>rfl
 | .cu _ _,h=>by rw[Dm.mS,h.1];rfl
theorem m6.mono(f:aB F F')(e:H' p=H p):∀{d:D},m6 K C F H p d->m6 K C F' H' p d
 | .lst _,h=>let ⟨xs,a,b⟩:=h;⟨xs,e.trans a,b.same f _⟩
 | .cu _ _,h=>let ⟨t,xs,a,b⟩:=h;⟨t,xs,C.DU f e a,b.same f _⟩
theorem m6.later(f:aB F F')(e:aB H H'){d:D}(h:m6 K C F H p d):m6 K C F' H' p d:=by
 obtain ⟨o,q,_⟩:=h.Qa
 exact h.mono f ((e _ _ q).trans q.symm)
theorem m6.rep(f:aB F (er G [p]))(e:G p=H p):∀{d:D},m6 K C F H p d->Rep K C G d (.ref p)
 | .lst _,h=>by obtain ⟨xs,a,b⟩:=h;rw[Rep];exact⟨p,xs,rfl,.of (e.trans a),b.same f _⟩
 | .cu _ _,h=>by obtain ⟨rfl,xs,a,b⟩:=h;rw[Rep];exact⟨p,xs,rfl,C.O6 a (f.trans (aF _ _)) e,b.same (f.trans (aF _ _)) _⟩
end
def qF(K:Frag)(C:Cfg)(G F:Hp)(d:D)(v:V):Prop:=∀s ds,d = .tup [.str s,.lst ds]->∃q p xs,v = .ref q/\lQ K F q [.str s,.ref p]/\G p=none/\F p=some (.lst xs)/\aH K C (er F [p]) ds xs
def oQ:D->Bool
 | .tup [.str _,.lst _]=>false
 | _=>true
theorem qF.not{K:Frag}{C:Cfg}{G F:Hp}{d:D}{v:V}(n:oQ d=true):qF K C G F d v:=fun s ds z=>by subst z;cases n
theorem qF.mono{K:Frag}{C:Cfg}{G F F':Hp}{d:D}{v:V}(f:aB F F')(t:qF K C G F d v):qF K C G F' d v:=fun s ds h=>by
 refine Ao (t s ds h) fun q p xs a b c e g=>?_
 exact⟨q,p,xs,a,aB.tup f b,c,f _ _ e,g.same (aG f) _⟩
theorem qF.early{K:Frag}{C:Cfg}{G G' F:Hp}{d:D}{v:V}(e:aB G G')(t:qF K C G' F d v):qF K C G F d v:=fun s ds h=>by
 refine Oh (t s ds h) fun q p xs a b c=>?_
 exact⟨q,p,xs,a,b,e.free c.1,c.2⟩
def mT(K:Frag)(C:Cfg)(G F:Hp)(d:D)(v:V):Prop:=(mS d=true->∃p,v = .ref p/\G p=none/\m6 K C (er F [p]) F p d)/\qF K C G F d v
section
variable (K:Frag)(C:Cfg)
def Val(κ:Kd)(G0:Hp)(A:List Addr)(H H':Hp)(d:D)(v:V):Prop:=match κ with
 | .new=>Rep K C (nw H H') d v/\mT K C H (nw H H') d v
 | .uF=>Rep K C (er H' A) d v/\mT K C H (er H' A) d v
 | .loc=>Rep K C (nw G0 (er H' A)) d v/\mT K C G0 (nw G0 (er H' A)) d v
 | .old=>Rep K C (er H' A) d v
 | .lN=>Rep K C (nw G0 H') d v/\mT K C G0 (nw G0 H') d v
 | .aE=>Rep K C H' d v
def eh(n:Bool)(G0:Hp)(A:List Addr)(H:Hp):Hp:=if n=true then nw G0 (er H A) else er H A
def Slot(k:SK)(G0:Hp)(A:List Addr)(H:Hp)(d:D)(v:V):Prop:=match k with
 | .par=>Rep K C (er H A) d v
 | .loc=>Rep K C (nw G0 (er H A)) d v/\mT K C G0 (nw G0 (er H A)) d v
 | .own n=>(∃p,v = .ref p/\p∈A/\G0 p=none/\m6 K C (eh n G0 A H) H p d)\/(mS d=false/\qF K C G0 (eh n G0 A H) d v/\Rep K C (eh n G0 A H) d v)
 | .any=>Rep K C H d v
 | .pr=>(∃q p s ds xs,d = .tup [.str s,.lst ds]/\v = .ref q/\lQ K (er H A) q [.str s,.ref p]/\p∈A/\G0 p=none/\H p=some (.lst xs)/\aH K C (er H A) ds xs)\/(oQ d=true/\Rep K C (er H A) d v)
structure RS(G0:Hp)(Γ:List SK)(σ:L2.St)(H:Hp)(A:List Addr)(st:dX):Prop where
 base:aB G0 (er H A)
 lists:∀a∈A,∃o,H a=some o/\Qa o=true
 len:σ.length=st.length
 slot:∀(i:Nat) (d:D),st[i]?=some (some d)->∃k v,Γ[i]?=some k/\σ[i]?=some (some v)/\Slot K C k G0 A H d v
 apart:∀(i j:Nat) (n m:Bool) (p:Addr) (d e:D),i≠j->Γ[i]?=some (.own n)->Γ[j]?=some (.own m)->st[i]?=some (some d)->st[j]?=some (some e)->mS d=true->mS e=true->σ[i]?=some (some (.ref p))->σ[j]?≠some (some (.ref p))
end
section
variable {K:Frag}{C:Cfg}{G0:Hp}{Γ:List SK}{σ:L2.St}{H H' Vo H1:Hp}{A:List Addr}{st:dX}{κ:Kd}{d:D}{v:V}
theorem mT.mono{G F F':Hp}(f:aB F F')(t:mT K C G F d v):mT K C G F' d v:=⟨fun h=>by
 refine bM (t.1 h) fun p a b c=>?_
 exact⟨p,a,b,c.later (aG f) f⟩,t.2.mono f⟩
theorem mT.early{G G' F:Hp}(e:aB G G')(t:mT K C G' F d v):mT K C G F d v:=⟨fun h=>by
 refine bM (t.1 h) fun p a b c=>?_
 exact⟨p,a,e.free b,c⟩,t.2.early e⟩
theorem HZ:∀{d:D},fR d=true->mS d=false
 | .lst _,h=>by rw[fR] at h;cases h
 | .cu _ _,h=>by rw[fR] at h;cases h
 | .cF,_=>rfl
 | .bl _,_=>rfl
 | .int _,_=>rfl
 | .str _,_=>rfl
 | .tup _,_=>rfl
theorem mT.not{G F:Hp}(n:mS d=false)(m:oQ d=true):mT K C G F d v:=⟨fun h=>(by rw[n] at h;cases h),.not m⟩
theorem mT.fR{G F:Hp}(n:fR d=true):mT K C G F d v:=⟨fun h=>(by rw[HZ n] at h;cases h),fun s ds z=>by subst z;simp[Dm.fR,d9] at n⟩
theorem Val.later(e:aB H' Vo)(q:Val K C κ G0 A H H' d v):Val K C κ G0 A H Vo d v:=by
 cases κ with
 | new=>exact⟨q.1.same (bK e) _,q.2.mono (bK e)⟩
 | uF=>exact⟨q.1.same (aG e) _,q.2.mono (aG e)⟩
 | loc=>exact⟨q.1.same (bK (aG e)) _,q.2.mono (bK (aG e))⟩
 | old=>exact Rep.same (aG e) _ q
 | lN=>exact⟨q.1.same (bK e) _,q.2.mono (bK e)⟩
 | aE=>exact Rep.same e _ q
theorem Val.early(e:aB H H1)(q:Val K C κ G0 A H1 H' d v):Val K C κ G0 A H H' d v:=by
 cases κ with
 | new=>exact⟨q.1.same (vh e) _,(q.2.early e).mono (vh e)⟩
 | uF=>exact⟨q.1,q.2.early e⟩
 | loc=>exact q
 | old=>exact q
 | lN=>exact q
 | aE=>exact q
theorem Val.rep(q:Val K C κ G0 A H H' d v):Rep K C H' d v:=by
 cases κ with
 | new=>exact q.1.same (dw _ _) _
 | uF=>exact q.1.same (aF _ _) _
 | loc=>exact q.1.same ((dw _ _).trans (aF _ _)) _
 | old=>exact Rep.same (aF _ _) _ q
 | lN=>exact q.1.same (dw _ _) _
 | aE=>exact q
theorem RS.mono(r:RS K C G0 Γ σ H A st)(e:aB H H'):RS K C G0 Γ σ H' A st where
 base:=r.base.trans (aG e)
 lists:=fun a m=>let ⟨o,h,z⟩:=r.lists a m;⟨o,e _ _ h,z⟩
 len:=r.len
 slot:=fun i d h=>by
  refine b6 (r.slot i d h) fun k v h1 h2 h3=>?_
  refine⟨k,v,h1,h2,?_⟩
  have ee:∀n,aB (eh n G0 A H) (eh n G0 A H'):=fun n=>by
   unfold eh;cases n
   ·exact aG e
   ·exact bK (aG e)
  cases k with
  | par=>exact Rep.same (aG e) _ h3
  | loc=>exact⟨h3.1.same (bK (aG e)) _,h3.2.mono (bK (aG e))⟩
  | own n=>
   rcases h3 with ⟨p,b,c,f,g⟩ | ⟨a,b⟩
   ·exact .inl ⟨p,b,c,f,g.later (ee n) e⟩
   ·exact .inr ⟨a,b.1.mono (ee n),b.2.same (ee n) _⟩
  | pr=>
   rcases h3 with ⟨q,p,s,ds,xs,a,b,c,f,g,h,j⟩ | ⟨a,b⟩
   ·exact .inl ⟨q,p,s,ds,xs,a,b,aB.tup (aG e) c,f,g,e _ _ h,j.same (aG e) _⟩
   ·exact .inr ⟨a,Rep.same (aG e) _ b⟩
  | any=>exact Rep.same e _ h3
 apart:=r.apart
theorem RS.g0(r:RS K C G0 Γ σ H A st):aB G0 H:=r.base.trans (aF _ _)
theorem RS.DW(r:RS K C G0 Γ σ H A st):jK H (er H A):=.er r.lists
theorem RS.uE(r:RS K C G0 Γ σ H A st):jK H (nw G0 (er H A)):=r.DW.trans (.nw r.base)
theorem Val.flat(r:RS K C G0 Γ σ H A st)(e:aB H H')(n:fR d=true)(q:Rep K C H' d v)(κ:Kd):Val K C κ G0 A H H' d v:=by
 have r':=r.mono e
 cases κ with
 | new=>exact⟨q.part (.nw e) _ n,.fR n⟩
 | uF=>exact⟨q.part r'.DW _ n,.fR n⟩
 | loc=>exact⟨q.part r'.uE _ n,.fR n⟩
 | old=>exact Rep.part r'.DW _ n q
 | lN=>exact⟨q.part (.nw r'.g0) _ n,.fR n⟩
 | aE=>exact q
theorem RS.wj(r:RS K C G0 Γ σ H A st)(e:aB H H'):aB (nw H H') (er H' A):=fun b o h=>by
 unfold nw at h;split at h
 ·rename_i q
  have:b∉A:=fun m=>by
   obtain ⟨o,hx,z⟩:=r.lists b m
   rw[hx] at q
   cases o with
   | lst _=>cases q
   | ext _=>cases q
   | _=>cases z
  rw[aS this];exact h
 ·cases h
theorem RS.Lp(r:RS K C G0 Γ σ H A st)(e:aB H H'):aB (nw H H') (nw G0 (er H' A)):=fun b o h=>by
 have h1:=r.wj e b o h
 unfold nw at h;split at h
 ·rename_i q
  unfold nw
  rw[aC2 (mR r.g0 q)];exact h1
 ·cases h
def Kd.le:Kd->Kd->Bool
 | .new,_=>true
 | .uF,.uF=>true | .uF,.old=>true | .uF,.aE=>true
 | .loc,.loc=>true | .loc,.old=>true | .loc,.lN=>true | .loc,.aE=>true
 | .old,.old=>true | .old,.aE=>true
 | .lN,.lN=>true | .lN,.aE=>true
 | .aE,.aE=>true
 | _,_=>false
theorem Val.le(r:RS K C G0 Γ σ H A st)(e:aB H H'){κ κ':Kd}(l:κ.le κ'=true)(q:Val K C κ G0 A H H' d v):Val K C κ' G0 A H H' d v:=by
 have ne:=r.wj e
 have nl:=r.Lp e
 cases κ <;> cases κ' <;> first
  | exact q
  | (cases l;done)
  | exact q.rep
  | exact⟨q.1.same ne _,q.2.mono ne⟩
  | exact⟨q.1.same nl _,(q.2.early r.g0).mono nl⟩
  | exact q.1.same ne _
  | exact⟨q.1.same (nl.trans (bK (aF _ _))) _,(q.2.early r.g0).mono (nl.trans (bK (aF _ _)))⟩
  | exact q.1
  | exact q.1.same (dw _ _) _
  | exact⟨q.1.same (bK (aF _ _)) _,q.2.mono (bK (aF _ _))⟩
end
end Dm
end ag3
section Vp
namespace Dm
open PySem PySem.Spec PyProof.Rows L2
def Kd.hp(κ:Kd)(G0:Hp)(A:List Addr)(H H':Hp):Hp:=match κ with
 | .new=>nw H H' | .uF=>er H' A | .loc=>nw G0 (er H' A) | .old=>er H' A | .lN=>nw G0 H' | .aE=>H'
def SK.kd:SK->Kd
 | .par=>.old | .loc=>.loc | .own true=>.lN | .own false=>.aE | .any=>.aE | .pr=>.aE
def SK.takes:SK->Kd->Bool
 | .par,κ=>κ.le .old
 | .loc,κ=>κ.le .loc
 | .own true,κ=>κ.le .new
 | .own false,κ=>κ.le .uF
 | .any,_=>true
 | .pr,κ=>κ.le .new
theorem Kd.I0:∀{κ:Kd},κ.le .new=true->κ = .new
 | .new,_=>rfl
section
variable {K:Frag}{C:Cfg}{G0:Hp}{Γ:List SK}{σ:L2.St}{H H' Vo H1:Hp}{A:List Addr}{st:dX}{κ:Kd}{d:D}{v:V}
theorem Val.hp(q:Val K C κ G0 A H H' d v):Rep K C (κ.hp G0 A H H') d v:=by
 cases κ with
 | new=>exact q.1
 | uF=>exact q.1
 | loc=>exact q.1
 | old=>exact q
 | lN=>exact q.1
 | aE=>exact q
theorem Kd.sj(e:aB H' Vo):aB (κ.hp G0 A H H') (κ.hp G0 A H Vo):=by
 cases κ with
 | new=>exact bK e
 | uF=>exact aG e
 | loc=>exact bK (aG e)
 | old=>exact aG e
 | lN=>exact bK e
 | aE=>exact e
theorem Kd.I8(e:aB H H1):aB (κ.hp G0 A H1 H') (κ.hp G0 A H H'):=by
 cases κ with
 | new=>exact vh e
 | uF=>exact .refl _
 | loc=>exact .refl _
 | old=>exact .refl _
 | lN=>exact .refl _
 | aE=>exact .refl _
theorem Kd.wm:aB (κ.hp G0 A H H') H':=by
 cases κ with
 | new=>exact dw _ _
 | uF=>exact aF _ _
 | loc=>exact(dw _ _).trans (aF _ _)
 | old=>exact aF _ _
 | lN=>exact dw _ _
 | aE=>exact .refl _
theorem cz{p:Addr}{o:HO}(h:H p=none):aB H (upd H p o):=fun b u q=>by rw[aX (bF q h)];exact q
theorem DZ(r:RS K C G0 Γ σ H A st)(e:aB H H'){p:Addr}{o:HO}(h:H' p=none):κ.hp G0 A H (upd H' p o) p=some o:=by
 have h0:H p=none:=e.free h
 have g0:G0 p=none:=r.g0.free h0
 have nA:p∉A:=fun m=>by obtain ⟨xs,q,_⟩:=r.lists p m;rw[h0] at q;cases q
 have u:upd H' p o p=some o:=bN
 cases κ with
 | new=>show nw H _ p=_;rw[kJ h0];exact u
 | uF=>show er _ A p=_;rw[aS nA];exact u
 | loc=>show nw G0 _ p=_;rw[kJ g0,aS nA];exact u
 | old=>show er _ A p=_;rw[aS nA];exact u
 | lN=>show nw G0 _ p=_;rw[kJ g0];exact u
 | aE=>exact u
theorem Val.tup(r:RS K C G0 Γ σ H A st)(e:aB H H'){p:Addr}{ds:List D}{xs:List V}(h:H' p=none)(np:oQ (.tup ds)=true)(q:aH K C (κ.hp G0 A H H') ds xs):Val K C κ G0 A H (upd H' p (.tup xs)) (.tup ds) (.ref p):=by
 have R:Rep K C (κ.hp G0 A H (upd H' p (.tup xs))) (.tup ds) (.ref p):=by
  rw[Rep]
  exact⟨p,xs,rfl,.of (DZ r e h),q.same (Kd.sj (cz h)) _⟩
 have T:∀G F,mT K C G F (.tup ds) (.ref p):=fun G F=>.not rfl np
 cases κ with
 | new=>exact⟨R,T _ _⟩
 | uF=>exact⟨R,T _ _⟩
 | loc=>exact⟨R,T _ _⟩
 | old=>exact R
 | lN=>exact⟨R,T _ _⟩
 | aE=>exact R
theorem Val.lst(r:RS K C G0 Γ σ H A st)(e:aB H H'){p:Addr}{ds:List D}{xs:List V}(h:H' p=none)(q:aH K C (κ.hp G0 A H H') ds xs):Val K C κ G0 A H (upd H' p (.lst xs)) (.lst ds) (.ref p):=by
 have h0:H p=none:=e.free h
 have R0:aH K C (er (κ.hp G0 A H (upd H' p (.lst xs))) [p]) ds xs:=by
  refine q.same (fun b u z=>?_) _
  have nb:b≠p:=fun w=>by
   have:=Kd.wm _ _ z
   rw[w,h] at this;cases this
  rw[aS (by simpa using nb)]
  exact Kd.sj (cz h) _ _ z
 have R:Rep K C (κ.hp G0 A H (upd H' p (.lst xs))) (.lst ds) (.ref p):=by
  rw[Rep]
  exact⟨p,xs,rfl,.of (DZ r e h),R0⟩
 have T:∀G,G p=none->mT K C G (κ.hp G0 A H (upd H' p (.lst xs))) (.lst ds) (.ref p):=fun G g=>⟨fun _=>⟨p,rfl,g,xs,DZ r e h,R0⟩,.not rfl⟩
 cases κ with
 | new=>exact⟨R,T _ h0⟩
 | uF=>exact⟨R,T _ h0⟩
 | loc=>exact⟨R,T _ (r.g0.free h0)⟩
 | old=>exact R
 | lN=>exact⟨R,T _ (r.g0.free h0)⟩
 | aE=>exact R
theorem Lq{d:D}(h:oQ d=false):∃s ds,d = .tup [.str s,.lst ds]:=by
 unfold oQ at h
 split at h
 ·exact⟨_,_,rfl⟩
 ·cases h
theorem Ia:∀{d:D},mS d=true->oQ d=true
 | .lst _,_=>rfl
 | .cu _ _,_=>rfl
 | .tup _,h=>by cases h
theorem RS.read(r:RS K C G0 Γ σ H A st){i:Nat}{k:SK}(hk:Γ[i]?=some k)(h:st[i]?=some (some d)):∃v,σ[i]?=some (some v)/\Val K C k.kd G0 A H H d v:=by
 refine b6 (r.slot i d h) fun k' v h1 h2 h3=>?_
 rw[hk] at h1;cases h1
 refine⟨v,h2,?_⟩
 cases k with
 | par=>exact h3
 | loc=>exact h3
 | any=>exact h3
 | pr=>
  show Rep K C H d v
  rcases h3 with ⟨q,p,s,ds,xs,rfl,rfl,c,f,g,h,j⟩ | ⟨_,b⟩
  ·have S:aB (er H A) (er H [p]):=fun b u w=>by
    have nb:b≠p:=fun z=>by rw[z,dM f] at w;cases w
    rw[aS (by simpa using nb)]
    exact aF _ _ _ _ w
   rw[Rep]
   refine⟨q,_,rfl,aB.tup (aF _ _) c,.cons (by rw[Rep]) (.cons ?_ (by rw[aH]))⟩
   rw[Rep]
   exact⟨p,xs,rfl,.of h,j.same S _⟩
  ·exact b.same (aF _ _) _
 | own n=>
  rcases h3 with ⟨p,rfl,c,f,g⟩ | ⟨a,b⟩
  ·have np:∀b u,eh n G0 A H b=some u->b≠p:=fun b u w w'=>by
    subst w'
    unfold eh at w
    cases n with
    | true=>have:=dw _ _ _ _ w;rw[dM c] at this;cases this
    | false=>rw[aC3 (by decide),dM c] at w;cases w
   have S:∀F:Hp,aB (eh n G0 A H) F->aB (eh n G0 A H) (er F [p]):=fun F e b u w=>by
    rw[aS (by simpa using np b u w)];exact e _ _ w
   cases n with
   | true=>
    have e1:aB (eh true G0 A H) (nw G0 H):=by unfold eh;exact bK (aF _ _)
    have e2:nw G0 H p=H p:=kJ f
    exact⟨g.rep (S _ e1) e2,fun _=>⟨p,rfl,f,g.mono (S _ e1) e2⟩,.not (Ia g.mS)⟩
   | false=>
    have e1:aB (eh false G0 A H) H:=by unfold eh;exact aF _ _
    exact g.rep (S _ e1) rfl
  ·cases n with
   | true=>exact⟨b.2.same (by unfold eh;exact bK (aF _ _)) _,fun h=>(by rw[a] at h;cases h),b.1.mono (by unfold eh;exact bK (aF _ _))⟩
   | false=>exact b.2.same (by unfold eh;exact aF _ _) _
theorem RS.set(r:RS K C G0 Γ σ H A st)(e:aB H H'){i:Nat}{k:SK}(hk:Γ[i]?=some k)(l:k.takes κ=true)(q:Val K C κ G0 A H H' d v) :
  ∃A',RS K C G0 Γ (σ.set i (some v)) H' A' (st.set i (some d))/\aB (er H A) (er H' A')/\∀a∈A,a∈A':=by
 have r':=r.mono e
 have same:(∀n,k = .own n->mS d=false)->Slot K C k G0 A H' d v->∃A',RS K C G0 Γ (σ.set i (some v)) H' A' (st.set i (some d))/\aB (er H A) (er H' A')/\∀a∈A,a∈A':=fun nl s=>by
  refine⟨A,⟨r'.base,r'.lists,by simp[r.len],fun j d' h=>?_,fun a b n m p ds es uy g1 g2 s1 s2 o1 o2 w1 w2=>?_⟩,aG e,fun _ m=>m⟩
  ·by_cases hj:i=j
   ·subst hj
    have iI:i < st.length:=by
     have:=(aD7.mp h).1
     simpa using this
    rw[aF4 iI] at h
    cases h
    exact⟨k,v,hk,aF4 (by rw[r.len];exact iI),s⟩
   ·rw[aF5 hj] at h ⊢
    exact r'.slot j d' h
  ·have ha:a≠i:=fun z=>by
    subst z
    have iI:a < st.length:=by
     have:=(aD7.mp s1).1
     simpa using this
    rw[aF4 iI] at s1
    rw[hk] at g1
    cases s1
    rw[nl n (aE1 g1)] at o1;cases o1
   have hb:b≠i:=fun z=>by
    subst z
    have iI:b < st.length:=by
     have:=(aD7.mp s2).1
     simpa using this
    rw[aF4 iI] at s2
    rw[hk] at g2
    cases s2
    rw[nl m (aE1 g2)] at o2;cases o2
   rw[aF5 (Ne.symm ha)] at s1 w1
   rw[aF5 (Ne.symm hb)] at s2 w2
   exact r.apart a b n m p ds es uy g1 g2 s1 s2 o1 o2 w1 w2
 cases k with
 | par=>exact same (fun _ z=>by cases z) (Val.le r e (κ':=.old) l q)
 | loc=>exact same (fun _ z=>by cases z) (Val.le r e (κ':=.loc) l q)
 | any=>exact same (fun _ z=>by cases z) q.rep
 | pr=>
  obtain rfl:=Kd.I0 (κ:=κ) l
  have qo:Rep K C (er H' A) d v:=Val.le r e (κ:=.new) (κ':=.old) rfl q
  by_cases hd:oQ d=true
  ·exact same (fun _ z=>by cases z) (.inr ⟨hd,qo⟩)
  ·obtain ⟨s,ds,rfl⟩:∃s ds,d = .tup [.str s,.lst ds]:=Lq (Bool.eq_false_iff.mpr hd)
   obtain ⟨tq,p,xs,rfl,sq,h0,BS,i1⟩:=q.2.2 s ds rfl
   have hp:H' p=some (.lst xs):=dw _ _ _ _ BS
   have pA:p∉A:=fun m=>by obtain ⟨ys,z,_⟩:=r.lists p m;rw[h0] at z;cases z
   have g0:G0 p=none:=r.g0.free h0
   have ee:aB (er H A) (er H' (p::A)):=fun b u z=>by
    have nb:b≠p:=fun w=>by have:=aF _ _ _ _ z;rw[w,h0] at this;cases this
    by_cases mb:b∈A
    ·rw[dM mb] at z;cases z
    ·rw[aS (by simp[nb,mb])]
     rw[aS mb] at z
     exact e _ _ z
   have Ib:∀m,aB (eh m G0 A H) (eh m G0 (p::A) H'):=fun m=>by
    unfold eh;cases m
    ·exact ee
    ·exact bK ee
   have en:aB (er (nw H H') [p]) (er H' (p::A)):=fun b u z=>by
    by_cases nb:b=p
    ·rw[nb,dM (by simp)] at z;cases z
    ·rw[aS (by simpa using nb)] at z
     have:=r.wj e _ _ z
     by_cases mb:b∈A
     ·rw[dM mb] at this;cases this
     ·rw[aS mb] at this
      rw[aS (by simp[nb,mb])];exact this
   have sq':lQ K (er H' (p::A)) tq [.str s,.ref p]:=by
    rcases sq with sq | sq
    ·refine .inl ?_
     have nq:tq≠p:=fun w=>by
      rcases sq with sq | ⟨u,sq⟩
      ·rw[w,BS] at sq;cases sq
      ·rw[w,BS] at sq;cases sq
     have up:nw H H' tq=er H' (p::A) tq\/nw H H' tq=none:=by
      cases hz:nw H H' tq with
      | none=>exact .inr rfl
      | some u=>
       refine .inl ?_
       have:=en tq u (by rw[aS (by simpa using nq)];exact hz)
       rw[this]
     rcases sq with sq | ⟨u,sq⟩
     ·rcases up with up | up
      ·exact .inl (by rw[<- up];exact sq)
      ·rw[up] at sq;cases sq
     ·rcases up with up | up
      ·exact .inr ⟨u,by rw[<- up];exact sq⟩
      ·rw[up] at sq;cases sq
    ·exact .inr sq
   walk_at"Y"
   ·rcases aC6.mp m with rfl | m
    ·exact⟨_,hp,rfl⟩
    ·exact r'.lists a m
   ·by_cases hj:i=j
    ·subst hj
     have iI:i < st.length:=by
      have:=(aD7.mp h).1
      simpa using this
     rw[aF4 iI] at h
     cases h
     exact⟨.pr,.ref tq,hk,aF4 (by rw[r.len];exact iI),.inl ⟨tq,p,s,ds,xs,rfl,rfl,sq',.head _,g0,hp,i1.same en _⟩⟩
    ·rw[aF5 hj] at h ⊢
     refine b6 (r.slot j d' h) fun k' v' h1 h2 h3=>?_
     refine⟨k',v',h1,h2,?_⟩
     cases k' with
     | par=>exact Rep.same ee _ h3
     | loc=>exact⟨h3.1.same (bK ee) _,h3.2.mono (bK ee)⟩
     | any=>exact Rep.same e _ h3
     | pr=>
      rcases h3 with ⟨q2,p2,s2,ds2,xs2,a,b,c,f,g,hh,jj⟩ | ⟨a,b⟩
      ·exact .inl ⟨q2,p2,s2,ds2,xs2,a,b,aB.tup ee c,.tail _ f,g,e _ _ hh,jj.same ee _⟩
      ·exact .inr ⟨a,Rep.same ee _ b⟩
     | own m=>
      rcases h3 with ⟨p2,b,c,f,g⟩ | ⟨a,b⟩
      ·exact .inl ⟨p2,b,.tail _ c,f,g.later (Ib m) e⟩
      ·exact .inr ⟨a,b.1.mono (Ib m),b.2.same (Ib m) _⟩
   ·have ha:a≠i:=fun z=>by subst z;rw[hk] at g1;cases g1
    have hb:b≠i:=fun z=>by subst z;rw[hk] at g2;cases g2
    rw[aF5 (Ne.symm ha)] at s1 w1
    rw[aF5 (Ne.symm hb)] at s2 w2
    exact r.apart a b n' m' p' E2 Gx uy g1 g2 s1 s2 o1 o2 w1 w2
 | own n=>
  have q1:Val K C .uF G0 A H H' d v:=Val.le r e (κ':=.uF) (by cases n <;> cases κ <;> first | rfl | cases l) q
  have q2:n=true->Val K C .loc G0 A H H' d v:=fun z=>by
   subst z
   obtain rfl:=Kd.I0 (κ:=κ) l
   exact Val.le r e rfl q
  by_cases hd:mS d=true
  ·refine bM (q1.2.1 hd) fun p aR h0 i1=>?_
   walk_at"#"
   refine aM i1.Qa fun o BS hM=>?_
   have hp:H' p=some o:=aF _ _ _ _ BS
   have pA:p∉A:=fun m=>by obtain ⟨ys,z,_⟩:=r.lists p m;rw[h0] at z;cases z
   have g0:G0 p=none:=r.g0.free h0
   have ee:aB (er H A) (er H' (p::A)):=fun b u z=>by
    have nb:b≠p:=fun w=>by have:=aF _ _ _ _ z;rw[w,h0] at this;cases this
    by_cases mb:b∈A
    ·rw[dM mb] at z;cases z
    ·rw[aS (by simp[nb,mb])]
     rw[aS mb] at z
     exact e _ _ z
   have Ib:∀m,aB (eh m G0 A H) (eh m G0 (p::A) H'):=fun m=>by
    unfold eh;cases m
    ·exact ee
    ·exact bK ee
   have items:m6 K C (eh n G0 (p::A) H') H' p d:=by
    cases n with
    | false=>exact i1.mono (fun b u z=>by
      by_cases mb:b∈[p]
      ·rw[dM mb] at z;cases z
      ·rw[aS mb] at z
       by_cases ma:b∈A
       ·rw[dM ma] at z;cases z
       ·rw[aS ma] at z
        show er H' (p::A) b=_
        rw[aS (by simpa[ma] using mb)];exact z) (hp.trans BS.symm)
    | true=>
     refine bM ((q2 rfl).2.1 hd) fun p' e1 _ i2=>?_
     cases e1
     exact i2.mono (fun b u z=>by
      by_cases mb:b∈[p]
      ·rw[dM mb] at z;cases z
      ·rw[aS mb] at z
       show nw G0 (er H' (p::A)) b=_
       unfold nw at z ⊢
       split at z
       ·rename_i kk
        rw[aC2 kk]
        by_cases ma:b∈A
        ·rw[dM ma] at z;cases z
        ·rw[aS ma] at z
         rw[aS (by simpa[ma] using mb)];exact z
       ·cases z) (by rw[kJ g0];exact hp.trans BS.symm)
   walk_at"Y"
   ·rcases aC6.mp m with rfl | m
    ·exact⟨o,hp,hM⟩
    ·exact r'.lists a m
   ·by_cases hj:i=j
    ·subst hj
     have iI:i < st.length:=by
      have:=(aD7.mp h).1
      simpa using this
     rw[aF4 iI] at h
     cases h
     exact⟨.own n,.ref p,hk,aF4 (by rw[r.len];exact iI),.inl ⟨p,rfl,.head _,g0,items⟩⟩
    ·rw[aF5 hj] at h ⊢
     refine b6 (r.slot j d' h) fun k' v' h1 h2 h3=>?_
     refine⟨k',v',h1,h2,?_⟩
     cases k' with
     | par=>exact Rep.same ee _ h3
     | loc=>exact⟨h3.1.same (bK ee) _,h3.2.mono (bK ee)⟩
     | any=>exact Rep.same e _ h3
     | pr=>
      rcases h3 with ⟨q2,p2,s2,ds2,xs2,a,b,c,f,g,hh,jj⟩ | ⟨a,b⟩
      ·exact .inl ⟨q2,p2,s2,ds2,xs2,a,b,aB.tup ee c,.tail _ f,g,e _ _ hh,jj.same ee _⟩
      ·exact .inr ⟨a,Rep.same ee _ b⟩
     | own m=>
      rcases h3 with ⟨p2,b,c,f,g⟩ | ⟨a,b⟩
      ·exact .inl ⟨p2,b,.tail _ c,f,g.later (Ib m) e⟩
      ·exact .inr ⟨a,b.1.mono (Ib m),b.2.same (Ib m) _⟩
   ·
    have old:∀{c:Nat} {nn:Bool} {cd:D},c≠i->Γ[c]?=some (.own nn)->(st.set i (some d))[c]?=some (some cd)->mS cd=true->(σ.set i (some (.ref p)))[c]?≠some (some (.ref p)):=fun {c nn cd} hc gc sc oc wc=>by
     rw[aF5 (Ne.symm hc)] at sc wc
     refine b6 (r.slot c _ sc) fun k' v' h1 h2 h3=>?_
     rw[gc] at h1;cases h1
     rw[wc] at h2;cases h2
     rcases h3 with ⟨p2,b,c',_⟩ | ⟨a,_⟩
     ·cases b;exact pA c'
     ·rw[oc] at a;cases a
    by_cases ha:a=i
    ·subst ha
     have iI:a < st.length:=by
      have:=(aD7.mp s1).1
      simpa using this
     rw[aF4 (by rw[r.len];exact iI)] at w1
     cases w1
     exact old (Ne.symm uy) g2 s2 o2 w2
    ·by_cases hb:b=i
     ·subst hb
      have iI:b < st.length:=by
       have:=(aD7.mp s2).1
       simpa using this
      rw[aF4 (by rw[r.len];exact iI)] at w2
      cases w2
      exact old ha g1 s1 o1 w1
     ·rw[aF5 (Ne.symm ha)] at s1 w1
      rw[aF5 (Ne.symm hb)] at s2 w2
      exact r.apart a b n' m' p' E2 Gx uy g1 g2 s1 s2 o1 o2 w1 w2
  ·have hd:=Bool.eq_false_iff.mpr hd
   refine same (fun _ _=>hd) (.inr ⟨hd,?_⟩)
   cases n with
   | false=>exact⟨q1.2.2.early r.g0,q1.1⟩
   | true=>exact⟨(q2 rfl).2.2,(q2 rfl).1⟩
end
end Dm
end Vp
section Vq
namespace Dm
open PySem PySem.Spec PyProof.Rows L2
section
variable (K:Frag)(C:Cfg)(G0:Hp)(Γ:List SK)(E:L2.St->XK)
def tD(f:DF)(κ:Kd):TE:=fun σ H Q=>∃A st,RS K C G0 Γ σ H A st/\match f st with
 | .ok d=>∀v H',aB H H'->Val K C κ G0 A H H' d v->Q v H'
 | .ex c p=>∀H',aB H H'->Gm (E σ) c p H'
 | .bad=>False
def Ft(f:DA)(κ:Kd):TA:=fun σ H Q=>∃A st,RS K C G0 Γ σ H A st/\match f st with
 | .ok ds=>∀vs H',aB H H'->aH K C (κ.hp G0 A H H') ds vs->Q vs H'
 | .ex c p=>∀H',aB H H'->Gm (E σ) c p H'
 | .bad=>False
def An(f:DF):TT:=fun σ H Q=>∃A st,RS K C G0 Γ σ H A st/\match f st with
 | .ok (.bl b)=>∀H',aB H H'->Q b H'
 | .ex c p=>∀H',aB H H'->Gm (E σ) c p H'
 | _=>False
end
theorem _root_.L2.PE.imp{X:Cx}{e:Expr}{t t':TE}(h:PE X e t)(i:∀σ H Q,t' σ H Q->t σ H Q):PE X e t':=fun pins s σ H Q I q=>h pins s σ H Q I (i σ H Q q)
theorem _root_.L2.PT.imp{X:Cx}{e:Expr}{t t':TT}(h:PT X e t)(i:∀σ H Q,t' σ H Q->t σ H Q):PT X e t':=fun pins s σ H Q I q=>h pins s σ H Q I (i σ H Q q)
theorem _root_.L2.PW.imp{X:Cx}{e:Expr}{t t':TT}(h:PW X e t)(i:∀σ H Q,t' σ H Q->t σ H Q):PW X e t':=fun w pins s σ H Q I q=>h w pins s σ H Q I (i σ H Q q)
theorem _root_.L2.PA.imp{X:Cx}{e:List Expr}{t t':TA}(h:PA X e t)(i:∀σ H Q,t' σ H Q->t σ H Q):PA X e t':=fun p pins s σ H Q I q=>h p pins s σ H Q I (i σ H Q q)
theorem _root_.L2.PS.imp{X:Cx}{e:Stmt}{t t':TS}(h:PS X e t)(i:∀D σ H,t' D σ H->t D σ H):PS X e t':=fun pins s σ H D I q=>h pins s σ H D I (i D σ H q)
theorem _root_.L2.uu.imp{X:Cx}{e:List Stmt}{t t':TS}(h:uu X e t)(i:∀D σ H,t' D σ H->t D σ H):uu X e t':=fun pins s σ H D I q=>h pins s σ H D I (i D σ H q)
def ak(i:Nat):DF:=fun st=>match st[i]? with | some (some d)=>.ok d | _=>.bad
def dC(d:D):DF:=fun _=>.ok d
def aZ(f:DF):DF:=fun st=>(f st).bind fun d=>if fR d=true then .ok d else .bad
def aQ(g:D->D->R D)(fa fb:DF):DF:=fun st=>(fa st).bind fun a=>(fb st).bind fun b=>g a b
def vj(g:D->R D)(fa:DF):DF:=fun st=>(fa st).bind g
def au:DA:=fun _=>.ok []
def aa(f:DF)(g:DA):DA:=fun st=>(f st).bind fun d=>(g st).bind fun ds=>.ok (d::ds)
def br(g:List D->R D)(f:DA):DF:=fun st=>(f st).bind g
def ic(fa fb:DF):DF:=fun st=>(fa st).bind fun a=>match a with | .bl true=>fb st | .bl false=>.ok (.bl false) | _=>.bad
def tP(fa:DF):DF:=fun st=>(fa st).bind fun a=>match a with | .bl b=>.ok (.bl (!b)) | _=>.bad
section
variable {X:Cx}{C:Cfg}{G0:Hp}{Γ:List SK}{E:L2.St->XK}{e a b c:Expr}{f fa fb:DF}{κ aA bC:Kd}{es:List Expr}{pos:Pos}
theorem CB(i:Nat){k:SK}(h:PE X e (qT i))(hk:Γ[i]?=some k:=by rfl):PE X e (tD X.K C G0 Γ E (ak i) k.kd):=h.imp fun σ H Q zz=>by
 walk_at".0"
 unfold ak at q
 cases hs:st[i]? with
 | none=>rw[hs] at q;exact q.elim
 | some o=>
  cases o with
  | none=>rw[hs] at q;exact q.elim
  | some d=>
   rw[hs] at q
   refine aM (r.read hk hs) fun v h1 h2=>?_
   exact⟨v,h1,q v H (.refl _) h2⟩
theorem Vr{v:V}{d:D}(h:PE X e (tC v))(n:fR d=true)(q:∀H,Rep X.K C H d v):PE X e (tD X.K C G0 Γ E (dC d) .new):=h.imp fun σ H Q jg=>jg.elim fun A oG=>oG.elim fun st ux=>ux.elim fun r k=>k v H (.refl _) (.flat r (.refl _) n (q H) _)
theorem av{i:Int}{j}:PE X (.Constant (.int i) j pos) (tD X.K C G0 Γ E (dC (.int i)) .new):=Vr OA (by rw[fR] <;> simp) fun H=>by rw[Rep]
theorem zC{x:Str}{i:Int}{t:Tok}(hg:Gl X x)(hm:X.mg x=some (.int i t))(hd:(x==("__debug__" : Str))=false:=by decide):PE X (.Name x pos) (tD X.K C G0 Γ E (dC (.int i)) .new):=Vr (Ks hg hm (v:=.int i) ⟨t,rfl⟩ hd) (by rw[fR] <;> simp) fun H=>by rw[Rep]
theorem bI(h:PE X e (tD X.K C G0 Γ E f κ)):PE X e (tD X.K C G0 Γ E (aZ f) .new):=h.imp fun σ H Q BY=>BY.elim fun A Dq=>Dq.elim fun st Hh=>Hh.elim fun r q=>⟨A,st,r,by
 unfold aZ R.bind at q
 cases hf:f st with
 | ok d=>
  walk_at"2"
  dsimp only at q ⊢
  by_cases n:fR d=true
  ·rw[aC2 n] at q
   exact fun v H' e w=>q v H' e (.flat r e n w.rep _)
  ·rw[aC3 n] at q;exact q.elim
 | ex c p=>rw[hf] at q;exact q
 | bad=>rw[hf] at q;exact q⟩
def vm(K:Frag)(C:Cfg)(r2:R2)(g:D->D->R D)(κ:Kd):Prop:=∀(G0:Hp) (Γ:List SK) (E:XK) (σ:L2.St) (A:List Addr) (st:dX) (H:Hp) (a b:D) (x y:V) (Q:VK),RS K C G0 Γ σ H A st->Rep K C H a x->Rep K C H b y->
 (match g a b with | .ok d=>∀v H',aB H H'->Val K C κ G0 A H H' d v->Q v H' | .ex c p=>∀H',aB H H'->Gm E c p H' | .bad=>False)->r2 x y H Q
theorem two{r2:R2}{g:D->D->R D}(ho:vm X.K C r2 g κ):∀σ H Q,tD X.K C G0 Γ E (aQ g fa fb) κ σ H Q->T5 r2 (tD X.K C G0 Γ E fa aA) (tD X.K C G0 Γ E fb bC) σ H Q:=fun σ H Q zz=>by
 walk_at".01"
 unfold aQ R.bind at q
 cases ha:fa st with
 | bad=>rw[ha] at q;exact q
 | ex c p=>rw[ha] at q;exact q
 | ok a=>
  rw[ha] at q
  intro x H1 e1 w1
  walk_at"D,"
  cases hb:fb st with
  | bad=>rw[hb] at q;exact q
  | ex c p=>rw[hb] at q;exact fun H' e'=>q H' (e1.trans e')
  | ok b=>
   rw[hb] at q
   intro y H2 e2 w2
   refine ho G0 Γ (E σ) σ A st H2 a b x y Q ((r.mono e1).mono e2) (w1.rep.same e2 _) w2.rep ?_
   walk_at","
   cases hg:g a b with
   | bad=>rw[hg] at q;exact q
   | ex c p=>rw[hg] at q;exact fun H' e'=>q H' ((e1.trans e2).trans e')
   | ok d=>rw[hg] at q;exact fun v H' e' w=>q v H' ((e1.trans e2).trans e') (w.early (e1.trans e2))
theorem bx{op:Operator}{r2:R2}{g:D->D->R D}(hr:rG X (binaryOp op) r2)(ho:vm X.K C r2 g κ)(ha:PE X a (tD X.K C G0 Γ E fa aA))(hb:PE X b (tD X.K C G0 Γ E fb bC)):PE X (.BinOp a op b pos) (tD X.K C G0 Γ E (aQ g fa fb) κ):=(T8 hr ha hb).imp (two ho)
theorem r8{op:CmpOp}{r2:R2}{g:D->D->R D}(hr:rG X (compareOp op) r2)(ho:vm X.K C r2 g κ)(ha:PE X a (tD X.K C G0 Γ E fa aA))(hb:PE X b (tD X.K C G0 Γ E fb bC))(hm:behindInMarks op b=false):PE X (.Compare a [op] [b] pos) (tD X.K C G0 Γ E (aQ g fa fb) κ):=(Ky hr ha hb hm).imp (two ho)
theorem vm.flat{K:Frag}{r2:R2}{g:D->D->R D}(h:∀(H:Hp) (a b:D) (x y:V) (Q:VK),Rep K C H a x->Rep K C H b y->(match g a b with | .ok d=>fR d=true/\∀v,Rep K C H d v->Q v H | _=>False)->r2 x y H Q)(hg:∀a b,(∀c p,g a b≠ .ex c p)/\∀d,g a b = .ok d->fR d=true):vm K C r2 g κ:=fun G0 Γ E σ A st H a b x y Q r qa qb q=>h H a b x y Q qa qb (by
 cases hz:g a b with
 | bad=>rw[hz] at q;exact q
 | ex c p=>exact absurd hz ((hg a b).1 c p)
 | ok d=>rw[hz] at q;exact⟨(hg a b).2 d hz,fun v w=>q v H (.refl _) (.flat r (.refl _) ((hg a b).2 d hz) w _)⟩)
def E3(Cd:Int->Int->Bool)(g:Int->Int->D):D->D->R D:=fun a b=>match a,b with | .int i,.int j=>if Cd i j=true then .ok (g i j) else .bad | _,_=>.bad
theorem Ic{Cd:Int->Int->Bool}{g:Int->Int->D}{a b d:D}(h:E3 Cd g a b = .ok d):∃i j,a = .int i/\b = .int j/\Cd i j=true/\d=g i j:=by
 unfold E3 at h
 split at h
 ·split at h
  ·rename_i q;cases h;exact⟨_,_,rfl,rfl,q,rfl⟩
  ·cases h
 ·cases h
theorem Ie{Cd:Int->Int->Bool}{g:Int->Int->D}{a b:D}{c:Addr}{p:Option Int}:E3 Cd g a b≠ .ex c p:=by
 unfold E3
 split
 ·split <;> exact fun h=>by cases h
 ·exact fun h=>by cases h
theorem kB{K:Frag}{r2:R2}{Cd:Int->Int->Bool}{g:Int->Int->D}(h:∀(H:Hp) (i j:Int) (Q:VK),Cd i j=true->(∀v,Rep K C H (g i j) v->Q v H)->r2 (.int i) (.int j) H Q)(n:∀i j,fR (g i j)=true):vm K C r2 (E3 Cd g) κ:=.flat (fun H a b x y Q qa qb q=>by
  cases hz:E3 Cd g a b with
  | bad=>rw[hz] at q;exact q.elim
  | ex c p=>exact absurd hz Ie
  | ok d=>
   rw[hz] at q
   refine uS (Ic hz) fun i j aR rM hc KR=>?_
   walk_at"#"
   obtain rfl:=rM
   obtain rfl:=KR
   rw[Rep] at qa qb;subst qa;subst qb
   exact h H i j Q hc q.2) fun a b=>⟨fun c p=>Ie,fun d hd=>by obtain ⟨i,j,_,_,_,rfl⟩:=Ic hd;exact n i j⟩
def eO:=E3 (fun _ _=>true) fun i j=>.int (i+j)
def jE:=E3 (fun _ _=>true) fun i j=>.int (i - j)
def sm(i:Int):Bool:=decide (-(2 ^ 64) < i)&&decide (i < 2 ^ 64)
def su:=E3 (fun i j=>sm i || sm j) fun i j=>.int (i * j)
def m7:=E3 (fun _ j=>decide (0 < j)&&decide (j < 1073741824)) fun i j=>.int (i / j)
def gU:=E3 (fun _ j=>decide (0 < j)) fun i j=>.int (i % j)
def Vs:=E3 (fun _ _=>true) fun i j=>.bl (decide (i < j))
def O7:=E3 (fun _ _=>true) fun i j=>.bl (decide (i<=j))
def Qc:=E3 (fun _ _=>true) fun i j=>.bl (decide (j < i))
theorem xQ{K:Frag}{H:Hp}{i:Int}:Rep K C H (.int i) (.int i):=by rw[Rep]
theorem xR{K:Frag}{H:Hp}{i:Bool}:Rep K C H (.bl i) (.bl i):=by rw[Rep]
theorem cI{K:Frag}:vm K C (Gf fun i j=>.int (i+j)) eO .new:=kB (fun H i j Q _ q=>⟨i,j,rfl,rfl,q _ xQ⟩) fun i j=>by rw[fR] <;> simp
theorem mU{K:Frag}:vm K C (Gf fun i j=>.int (i - j)) jE .new:=kB (fun H i j Q _ q=>⟨i,j,rfl,rfl,q _ xQ⟩) fun i j=>by rw[fR] <;> simp
theorem sA{K:Frag}:vm K C (rI Kx fun i j=>.int (i * j)) su .new:=kB (fun H i j Q c q=>⟨i,j,rfl,rfl,by
 rcases Bool.or_eq_true _ _ |>.mp c with c | c
 ·simp[sm] at c;exact .inl ⟨by lia,by lia⟩
 ·simp[sm] at c;exact .inr ⟨by lia,by lia⟩,q _ xQ⟩) fun i j=>by rw[fR] <;> simp
theorem jr{K:Frag}:vm K C (rI Tc fun i j=>.int (i / j)) m7 .new:=kB (fun H i j Q c q=>⟨i,j,rfl,rfl,by simp at c;exact⟨c.1,c.2⟩,q _ xQ⟩) fun i j=>by rw[fR] <;> simp
theorem ie{K:Frag}:vm K C (rI (fun _ j=>0 < j) fun i j=>.int (i % j)) gU .new:=kB (fun H i j Q c q=>⟨i,j,rfl,rfl,by simpa using c,q _ xQ⟩) fun i j=>by rw[fR] <;> simp
theorem Ig{K:Frag}:vm K C (Gf fun i j=>.bl (decide (i < j))) Vs .new:=kB (fun H i j Q _ q=>⟨i,j,rfl,rfl,q _ xR⟩) fun i j=>by rw[fR] <;> simp
theorem tQ{K:Frag}:vm K C (Gf fun i j=>.bl (decide (i<=j))) O7 .new:=kB (fun H i j Q _ q=>⟨i,j,rfl,rfl,q _ xR⟩) fun i j=>by rw[fR] <;> simp
theorem CC{K:Frag}:vm K C (Gf fun i j=>.bl (decide (j < i))) Qc .new:=kB (fun H i j Q _ q=>⟨i,j,rfl,rfl,q _ xR⟩) fun i j=>by rw[fR] <;> simp
def lO(neg:Bool):D->D->R D:=fun a b=>if (Dm.flat a&&Dm.flat b&&decide (dep a<=60))=true then .ok (.bl (if neg then !gq a b else gq a b)) else .bad
theorem jM{K:Frag}{neg:Bool}:vm K C (Q8 K C neg) (lO neg) .new:=.flat (fun H a b x y Q qa qb q=>by
  unfold lO at q
  split at q
  ·rename_i c
   split at c
   ·rename_i c'
    cases c
    simp only[aD4,aG0] at c'
    exact⟨a,b,qa,qb,c'.1.1,c'.1.2,c'.2,q.2 _ xR⟩
   ·cases c
  ·exact q.elim) fun a b=>⟨fun c p=>(by unfold lO;split <;> exact fun h=>(by cases h)),fun d h=>by unfold lO at h;split at h <;> cases h;rw[fR] <;> simp⟩
def lP(neg:Bool):D->D->R D:=fun a b=>match b with
 | .lst es=>if (Dm.flat a&&bL es&&decide (jm es<=60))=true then .ok (.bl (if neg then !(es.any fun e=>gq e a) else es.any fun e=>gq e a)) else .bad
 | .tup es=>if (Dm.flat a&&bL es&&decide (jm es<=60))=true then .ok (.bl (if neg then !(es.any fun e=>gq e a) else es.any fun e=>gq e a)) else .bad
 | _=>.bad
theorem j8{K:Frag}{neg:Bool}:vm K C (Q9 K C neg) (lP neg) .new:=.flat (fun H a b x y Q qa qb q=>by
  cases b with
  | lst es=>
   unfold lP at q
   walk_at","
   split at q
   ·rename_i c
    split at c
    ·rename_i c'
     cases c
     simp only[aD4,aG0] at c'
     exact⟨a,es,qa,.inl qb,c'.1.1,c'.1.2,c'.2,q.2 _ xR⟩
    ·cases c
   ·exact q.elim
  | tup es=>
   unfold lP at q
   walk_at","
   split at q
   ·rename_i c
    split at c
    ·rename_i c'
     cases c
     simp only[aD4,aG0] at c'
     exact⟨a,es,qa,.inr qb,c'.1.1,c'.1.2,c'.2,q.2 _ xR⟩
    ·cases c
   ·exact q.elim
  | _=>exact q.elim) fun a b=>⟨fun c p=>(by unfold lP;split <;> (try split) <;> exact fun h=>(by cases h)),fun d h=>by unfold lP at h;split at h <;> (try split at h) <;> cases h <;> (rw[fR] <;> simp)⟩
def cZ:D->D->R D:=fun a b=>match a,b with
 | .lst ds,.int i=>match AG ds i with | some d=>.ok d | none=>.bad
 | .tup ds,.int i=>match AG ds i with | some d=>.ok d | none=>.bad
 | _,_=>.bad
theorem Ba{K:Frag}{H:Hp}{ds:List D}{xs:List V}{i:Int}{d:D}(q:aH K C H ds xs)(h:AG ds i=some d):∃v,AG xs i=some v/\Rep K C H d v:=by
 unfold AG at h ⊢
 rw[q.len]
 cases hj:K8 ds.length i with
 | none=>rw[hj] at h;cases h
 | some j=>
  rw[hj] at h
  exact q.get' h
end
end Dm
end Vq
section Vt
namespace Dm
open PySem PySem.Spec PyProof.Rows L2
section
variable {X:Cx}{C:Cfg}{G0:Hp}{Γ:List SK}{E:L2.St->XK}{e a b c:Expr}{f fa fb:DF}{κ κ' aA bC:Kd}{es rest:List Expr}{fs:DA}{pos:Pos}
theorem Qd{K:Frag}{H:Hp}{a d:D}{x:V}{i:Int}(qa:Rep K C H a x)(h:cZ a (.int i) = .ok d):(∃p xs v,x = .ref p/\(ko K H p xs\/lQ K H p xs)/\AG xs i=some v/\Rep K C H d v):=by
 cases a with
 | lst ds=>
  unfold cZ at h
  dsimp only at h
  cases hz:AG ds i with
  | none=>rw[hz] at h;cases h
  | some d'=>
   rw[hz] at h;cases h
   refine b6 qa.items fun p xs aR h2 h3=>?_
   walk_at"#"
   refine aM (Ba h3 hz) fun v h4 h5=>?_
   exact⟨p,xs,v,rfl,.inl h2,h4,h5⟩
 | tup ds=>
  unfold cZ at h
  dsimp only at h
  cases hz:AG ds i with
  | none=>rw[hz] at h;cases h
  | some d'=>
   rw[hz] at h;cases h
   rw[Rep] at qa
   refine b6 qa fun p xs aR h2 h3=>?_
   clear qa
   walk_at"#"
   refine aM (Ba h3 hz) fun v h4 h5=>?_
   exact⟨p,xs,v,rfl,.inr h2,h4,h5⟩
 | _=>cases h
def Vu(K:Frag):R2:=fun x y H Q=>Uo K x y H Q\/Up K x y H Q
theorem ag4:KP X (Vu X.K):=KQ.or P7
theorem ko.part{K:Frag}{G H:Hp}(e:aB G H){p:Addr}{xs:List V}(h:ko K G p xs\/lQ K G p xs):ko K H p xs\/lQ K H p xs:=h.imp (fun h=>e.seq h) fun h=>aB.tup e h
def Kd.item:Kd->Kd
 | .uF=>.old
 | .new=>.old
 | .loc=>.old
 | .old=>.old
 | _=>.aE
theorem Lr{a b d:D}(h:cZ a b = .ok d):∃i,b = .int i:=by
 cases b with
 | int i=>exact⟨i,rfl⟩
 | _=>cases a <;> cases h
theorem Qe{a b:D}{c:Addr}{p:Option Int}:cZ a b≠ .ex c p:=by
 unfold cZ
 split
 ·split <;> exact fun h=>(by cases h)
 ·split <;> exact fun h=>(by cases h)
 ·exact fun h=>(by cases h)
theorem Ih(ha:PE X a (tD X.K C G0 Γ E fa aA))(hb:PE X b (tD X.K C G0 Γ E fb bC))(hs:rO b):PE X (.Subscript a b pos) (tD X.K C G0 Γ E (aQ cZ fa fb) aA.item):=(NJ ag4 ha hb hs).imp fun σ H Q zz=>by
 walk_at".01"
 unfold aQ R.bind at q
 cases ha:fa st with
 | bad=>rw[ha] at q;exact q
 | ex c p=>rw[ha] at q;exact q
 | ok a=>
  rw[ha] at q
  intro x H1 e1 w1
  walk_at"D,"
  cases hb:fb st with
  | bad=>rw[hb] at q;exact q
  | ex c p=>rw[hb] at q;exact fun H' e'=>q H' (e1.trans e')
  | ok b=>
   rw[hb] at q
   intro y H2 e2 w2
   walk_at","
   cases hg:cZ a b with
   | bad=>rw[hg] at q;exact q.elim
   | ex c p=>exact absurd hg Qe
   | ok d=>
    rw[hg] at q
    obtain ⟨i,rfl⟩:=Lr hg
    have xC:=e1.trans e2
    have w:=w1.later e2
    obtain rfl:y = .int i:=by have:=w2.rep;rw[Rep] at this;exact this
    have fin:∀G:Hp,aB G H2->Rep X.K C G a x->(∀v,Rep X.K C G d v->Val X.K C aA.item G0 A H H2 d v)->Vu X.K x (.int i) H2 Q:=fun G e qa k=>by
     refine Kq (Qd qa hg) fun p xs v rM s at' rv=>?_
     obtain rfl:=rM
     rcases ko.part e s with s | s
     ·exact .inl ⟨p,xs,i,v,rfl,rfl,s,at',q v H2 xC (k v rv)⟩
     ·exact .inr ⟨p,xs,i,v,rfl,rfl,s,at',q v H2 xC (k v rv)⟩
    cases aA with
    | new=>exact fin _ (aF _ _) (w.le r xC (κ':=.old) rfl) fun v z=>z
    | uF=>exact fin _ (aF _ _) (w.le r xC (κ':=.old) rfl) fun v z=>z
    | loc=>exact fin _ (aF _ _) (w.le r xC (κ':=.old) rfl) fun v z=>z
    | old=>exact fin _ (aF _ _) w fun v z=>z
    | lN=>exact fin _ (.refl _) w.rep fun v z=>z
    | aE=>exact fin _ (.refl _) w fun v z=>z
theorem ay:PA X [] (Ft X.K C G0 Γ E au κ):=iM.imp fun σ H Q jg=>jg.elim fun A oG=>oG.elim fun st ux=>ux.elim fun r q=>q [] H (.refl _) .nil
theorem af(ha:PE X e (tD X.K C G0 Γ E f aA))(hr:PA X es (Ft X.K C G0 Γ E fs κ))(l:aA.le κ=true:=by rfl)(hs:starEach (e::es) X.env=(false,eval e X.env)::starEach es X.env:=by rfl):PA X (e::es) (Ft X.K C G0 Γ E (aa f fs) κ):=(eN ha hr hs).imp fun σ H Q zz=>by
 walk_at".01"
 unfold aa R.bind at q
 cases hf:f st with
 | bad=>rw[hf] at q;exact q
 | ex c p=>rw[hf] at q;exact q
 | ok a=>
  walk_at"2"
  intro x H1 e1 w1
  walk_at"D,"
  cases hb:fs st with
  | bad=>rw[hb] at q;exact q
  | ex c p=>rw[hb] at q;exact fun H' e'=>q H' (e1.trans e')
  | ok b=>
   rw[hb] at q
   intro y H2 e2 w2
   exact q (x::y) H2 (e1.trans e2) (.cons ((w1.le r e1 l).hp.same (Kd.sj e2) _) (w2.same (Kd.I8 e1) _))
theorem wo{α:Type}{l:List α}(h:l.length<=100):l.length<=sizeLine:=aD5 h (by rw[aG6];decide)
def bX(n:Nat)(f:DA):DF:=fun st=>(f st).bind fun ds=>if ds.length<=n/\oQ (.tup ds)=true then .ok (.tup ds) else .bad
theorem eS{x1}(h:PA X es (Ft X.K C G0 Γ E fs κ)):PE X (.Tuple es x1 pos) (tD X.K C G0 Γ E (bX 100 fs) κ):=(OY h).imp fun σ H Q zz=>by
 walk_at".01"
 unfold bX R.bind at q
 cases hf:fs st with
 | bad=>rw[hf] at q;exact q
 | ex c p=>rw[hf] at q;exact q
 | ok ds=>
  walk_at"2,"
  split at q
  ·rename_i d hz
   split at hz
   ·rename_i hl
    cases hz
    exact fun vs H1 e1 w1=>⟨wo (by rw[w1.len];exact hl.1),fun p hp=>q _ _ (e1.trans (cz hp)) (.tup r e1 hp hl.2 w1)⟩
   ·cases hz
  ·rename_i hz;split at hz <;> cases hz
  ·exact q.elim
def cB(n:Nat)(f:DA):DF:=fun st=>(f st).bind fun ds=>if ds.length<=n then .ok (.lst ds) else .bad
theorem fC(h:PA X es (Ft X.K C G0 Γ E fs κ)):PE X (.List es pos) (tD X.K C G0 Γ E (cB 100 fs) κ):=(OZ h).imp fun σ H Q zz=>by
 walk_at".01"
 unfold cB R.bind at q
 cases hf:fs st with
 | bad=>rw[hf] at q;exact q
 | ex c p=>rw[hf] at q;exact q
 | ok ds=>
  walk_at"2,"
  split at q
  ·rename_i d hz
   split at hz
   ·rename_i hl
    cases hz
    exact fun vs H1 e1 w1=>⟨wo (by rw[w1.len];exact hl),fun p hp=>q _ _ (e1.trans (cz hp)) (.lst r e1 hp w1)⟩
   ·cases hz
  ·rename_i hz;split at hz <;> cases hz
  ·exact q.elim
def Qf(K:Frag)(C:Cfg)(r1:List V->Hp->VK->Prop)(g:List D->R D)(κ:Kd):Prop:=∀(G0:Hp) (Γ:List SK) (E:XK) (σ:L2.St) (A:List Addr) (st:dX) (H:Hp) (ds:List D) (xs:List V) (Q:VK),RS K C G0 Γ σ H A st->aH K C H ds xs->
 (match g ds with | .ok d=>∀v H',aB H H'->Val K C κ G0 A H H' d v->Q v H' | .ex c p=>∀H',aB H H'->Gm E c p H' | .bad=>False)->r1 xs H Q
theorem dz{r1:List V->Hp->VK->Prop}{g:List D->R D}(ho:Qf X.K C r1 g κ)(h:PE X e (P6 r1 (Ft X.K C G0 Γ E fs aA))):PE X e (tD X.K C G0 Γ E (br g fs) κ):=h.imp fun σ H Q zz=>by
 walk_at".01"
 unfold br R.bind at q
 cases hf:fs st with
 | bad=>rw[hf] at q;exact q
 | ex c p=>rw[hf] at q;exact q
 | ok ds=>
  walk_at"2,"
  intro vs H1 e1 w1
  refine ho G0 Γ (E σ) σ A st H1 ds vs Q (r.mono e1) (w1.same Kd.wm _) ?_
  cases hg:g ds with
  | bad=>rw[hg] at q;exact q
  | ex c p=>rw[hg] at q;exact fun H' e'=>q H' (e1.trans e')
  | ok d=>rw[hg] at q;exact fun v H' e' w=>q v H' (e1.trans e') (w.early e1)
theorem ou{K:Frag}{H:Hp}{d:D}{xs:List V}(h:aH K C H [d] xs):∃v,xs=[v]/\Rep K C H d v:=by
 rw[aH] at h
 refine b6 h fun v r aR q z=>?_
 clear h
 walk_at"#"
 rw[aH] at z;subst z
 exact⟨v,rfl,q⟩
def iO:List D->R D:=fun ds=>match ds with | [.lst xs]=>.ok (.int xs.length) | [.tup xs]=>.ok (.int xs.length) | _=>.bad
theorem iT{K:Frag}:Qf K C (fun xs H Q=>∃p ys,xs=[.ref p]/\(ko K H p ys\/lQ K H p ys)/\Q (.int ys.length) H) iO .new:=fun G0 Γ E σ A st H ds xs Q r w q=>by
 unfold iO at q
 split at q
 ·rename_i z
  split at z
  ·cases z
   walk_at"J7"
   refine b6 w1.items fun p ys aR s t=>?_
   walk_at"#"
   exact⟨p,ys,rfl,.inl s,q _ H (.refl _) (.flat r (.refl _) (by rw[fR] <;> simp) (by rw[t.len];exact xQ) _)⟩
  ·cases z
   walk_at"J7"
   rw[Rep] at w1
   refine b6 w1 fun p ys aR s t=>?_
   clear w1
   walk_at"#"
   exact⟨p,ys,rfl,.inr s,q _ H (.refl _) (.flat r (.refl _) (by rw[fR] <;> simp) (by rw[t.len];exact xQ) _)⟩
  ·cases z
 ·rename_i z;split at z <;> cases z
 ·exact q.elim
def jN:List D->R D:=fun ds=>match ds with | [.lst xs]=>if d9 xs=true then .ok (.lst xs) else .bad | [.tup xs]=>if d9 xs=true then .ok (.lst xs) else .bad | _=>.bad
theorem m8{K:Frag}:Qf K C (fun xs H Q=>∃p ys,xs=[.ref p]/\(ko K H p ys\/lQ K H p ys)/\∀l,H l=none->Q (.ref l) (upd H l (.lst ys))) jN .new:=fun G0 Γ E σ A st H ds xs Q r w q=>by
 have fin:∀(es:List D) (p:Addr) (ys:List V),(ko K H p ys\/lQ K H p ys)->aH K C H es ys->d9 es=true->(∀v H',aB H H'->Val K C .new G0 A H H' (.lst es) v->Q v H')->∃p' DG,[V.ref p]=[.ref p']/\(ko K H p' DG\/lQ K H p' DG)/\∀l,H l=none->Q (.ref l) (upd H l (.lst DG)):=fun es p ys s t n q=>
  ⟨p,ys,rfl,s,fun l hl=>q _ _ (cz hl) (.lst r (.refl _) hl (t.part (.nw (.refl _)) _ n))⟩
 unfold jN at q
 split at q
 ·rename_i z
  split at z
  ·split at z
   ·rename_i n
    cases z
    walk_at"J7"
    refine b6 w1.items fun p ys aR s t=>?_
    walk_at"#"
    exact fin _ _ _ (.inl s) t n q
   ·cases z
  ·split at z
   ·rename_i n
    cases z
    walk_at"J7"
    rw[Rep] at w1
    refine b6 w1 fun p ys aR s t=>?_
    clear w1
    walk_at"#"
    exact fin _ _ _ (.inr s) t n q
   ·cases z
  ·cases z
 ·rename_i z;split at z <;> (try split at z) <;> cases z
 ·exact q.elim
theorem E4(h:PE X e (tD X.K C G0 Γ E f κ))(he:∀whole,isTrue e X.env whole=(do let v <- whole;standAt e.pos;holding [v] (truthy v)):=by intro _;rfl):PT X e (An X.K C G0 Γ E f):=(OB h he).imp fun σ H Q zz=>by
 walk_at".01"
 cases hf:f st with
 | bad=>rw[hf] at q;exact q
 | ex c p=>rw[hf] at q;exact q
 | ok d=>
  walk_at"2"
  cases d with
  | bl b=>exact fun v H' e' w=>⟨b,by have:=w.rep;rw[Rep] at this;exact this,q H' e'⟩
  | _=>exact q.elim
theorem dH{op:CmpOp}{r2:R2}{g:D->D->R D}(hr:rG X (compareOp op) r2)(ho:vm X.K C r2 g .new)(ha:PE X a (tD X.K C G0 Γ E fa aA))(hb:PE X b (tD X.K C G0 Γ E fb bC))(hm:behindInMarks op b=false):PT X (.Compare a [op] [b] pos) (An X.K C G0 Γ E (aQ g fa fb)):=(Kz hr ha hb hm).imp fun σ H Q zz=>by
 walk_at".0"
 refine two (κ:=.new) ho σ H _ ⟨A,st,r,?_⟩
 cases hf:aQ g fa fb st with
 | bad=>rw[hf] at q;exact q
 | ex c p=>rw[hf] at q;exact q
 | ok d=>
  walk_at"2"
  cases d with
  | bl b=>exact fun v H' e' w=>⟨b,by have:=w.rep;rw[Rep] at this;exact this,q H' e'⟩
  | _=>exact q.elim
theorem zD(h:PT X a (An X.K C G0 Γ E fa)):PT X (.UnaryOp .Not a pos) (An X.K C G0 Γ E (tP fa)):=(OC h).imp fun σ H Q zz=>by
 walk_at".01"
 unfold tP R.bind at q
 cases hf:fa st with
 | bad=>rw[hf] at q;exact q
 | ex c p=>rw[hf] at q;exact q
 | ok d=>
  walk_at"2"
  cases d with
  | bl b=>exact q
  | _=>exact q.elim
theorem vn(ha:PT X a (An X.K C G0 Γ E fa)):PW X (.BoolOp .And [a] pos) (An X.K C G0 Γ E fa):=pw_and1 ha
theorem wu(ha:PT X a (An X.K C G0 Γ E fa))(hb:PW X (.BoolOp .And (b::rest) pos) (An X.K C G0 Γ E fb)):PW X (.BoolOp .And (a::b::rest) pos) (An X.K C G0 Γ E (ic fa fb)):=(pw_and ha hb).imp fun σ H Q zz=>by
 walk_at".01"
 unfold ic R.bind at q
 cases hf:fa st with
 | bad=>rw[hf] at q;exact q
 | ex c p=>rw[hf] at q;exact q
 | ok d=>
  walk_at"2"
  cases d with
  | bl b=>
   intro H1 e1
   cases b with
   | false=>rw[aC3 aF8];exact q H1 e1
   | true=>
    rw[aC2 rfl]
    walk_at"D,"
    cases hb:fb st with
    | bad=>rw[hb] at q;exact q
    | ex c p=>rw[hb] at q;exact fun H' e'=>q H' (e1.trans e')
    | ok d=>
     rw[hb] at q
     cases d with
     | bl b=>exact fun H' e'=>q H' (e1.trans e')
     | _=>exact q.elim
  | _=>exact q.elim
theorem zE{op}(ha:PE X a (tD X.K C G0 Γ E fa κ)):PE X (.BoolOp op [a] pos) (tD X.K C G0 Γ E fa κ):=OD ha
theorem XR{K:Frag}{A:List Addr}{H H':Hp}{b:Bool}{v:V}(w:Val K C κ G0 A H H' (.bl b) v):v = .bl b:=by have:=w.rep;rw[Rep] at this;exact this
theorem tR(ha:PE X a (tD X.K C G0 Γ E fa aA))(hb:PE X (.BoolOp .And (b::rest) pos) (tD X.K C G0 Γ E fb κ)):PE X (.BoolOp .And (a::b::rest) pos) (tD X.K C G0 Γ E (ic fa fb) κ):=(OE ha hb).imp fun σ H Q zz=>by
 walk_at".01"
 unfold ic R.bind at q
 cases hf:fa st with
 | bad=>rw[hf] at q;exact q
 | ex c p=>rw[hf] at q;exact q
 | ok d=>
  walk_at"2"
  cases d with
  | bl b=>
   intro v H1 e1 w1
   refine⟨b,XR w1,?_⟩
   cases b with
   | false=>rw[aC3 aF8];exact q _ H1 e1 (.flat r e1 (by rw[fR] <;> simp) xR _)
   | true=>
    rw[aC2 rfl]
    walk_at"D,"
    cases hb:fb st with
    | bad=>rw[hb] at q;exact q
    | ex c p=>rw[hb] at q;exact fun H' e'=>q H' (e1.trans e')
    | ok d=>rw[hb] at q;exact fun v H' e' w=>q v H' (e1.trans e') (w.early e1)
  | _=>exact q.elim
theorem Qg(ha:PE X a (tD X.K C G0 Γ E fa aA)):PE X (.UnaryOp .Not a pos) (tD X.K C G0 Γ E (tP fa) .new):=(OF ha).imp fun σ H Q zz=>by
 walk_at".01"
 unfold tP R.bind at q
 cases hf:fa st with
 | bad=>rw[hf] at q;exact q
 | ex c p=>rw[hf] at q;exact q
 | ok d=>
  walk_at"2"
  cases d with
  | bl b=>exact fun v H1 e1 w1=>⟨b,XR w1,q _ H1 e1 (.flat r e1 (by rw[fR] <;> simp) xR _)⟩
  | _=>exact q.elim
end
end Dm
end Vt
section Vv
namespace Dm
open PySem PySem.Spec PyProof.Rows L2
def Ls(K:Frag)(C:Cfg)(gx:Bool)(G0 H':Hp)(d:D)(v:V):Prop:=match gx with
 | true=>Rep K C (nw G0 H') d v/\mT K C G0 (nw G0 H') d v
 | false=>Rep K C H' d v
section
variable (K:Frag)(C:Cfg)(G0:Hp)(Γ:List SK)(E:L2.St->XK)(gx:Bool)
def r9(F:DS):TS:=fun D σ H=>∃A st,RS K C G0 Γ σ H A st/\match F st with
 | .nx st'=>∀cN H' A',RS K C G0 Γ cN H' A' st'->aB (er H A) (er H' A')->D.nx cN H'
 | .bk st'=>∀cN H' A',RS K C G0 Γ cN H' A' st'->aB (er H A) (er H' A')->D.bk cN H'
 | .ct st'=>∀cN H' A',RS K C G0 Γ cN H' A' st'->aB (er H A) (er H' A')->D.ct cN H'
 | .rt d=>∀v H',aB G0 H'->Ls K C gx G0 H' d v->D.rt v H'
 | .ex c p st'=>∀cN H' A',RS K C G0 Γ cN H' A' st'->aB (er H A) (er H' A')->Gm (E cN) c p H'
 | .bad=>False
end
def bD(F G:DS):DS:=fun st=>match F st with | .nx st'=>G st' | o=>o
def cC:DS:=fun st=>.nx st
def bP(i:Nat)(f:DF):DS:=fun st=>match f st with | .ok d=>.nx (st.set i (some d)) | .ex c p=>.ex c p st | .bad=>.bad
def yx(f:DF):DS:=fun st=>match f st with | .ok _=>.nx st | .ex c p=>.ex c p st | .bad=>.bad
def gO(f:DF):DS:=fun st=>match f st with | .ok d=>.rt d | .ex c p=>.ex c p st | .bad=>.bad
def eG(fc:DF)(F G:DS):DS:=fun st=>match fc st with | .ok (.bl true)=>F st | .ok (.bl false)=>G st | .ok _=>.bad | .ex c p=>.ex c p st | .bad=>.bad
section
variable {X:Cx}{C:Cfg}{G0:Hp}{Γ:List SK}{E:L2.St->XK}{gx:Bool}{e a b c:Expr}{f fc:DF}{κ:Kd}{es:List Expr}{pos:Pos}{s:Stmt}{ss:List Stmt}{F G:DS}
theorem gn:uu X [] (r9 X.K C G0 Γ E gx cC):=Kv.imp fun D σ H jg=>jg.elim fun A oG=>oG.elim fun st ux=>ux.elim fun r q=>q σ H A r (.refl _)
theorem aL(h1:PS X s (r9 X.K C G0 Γ E gx F))(h2:uu X ss (r9 X.K C G0 Γ E gx G)):uu X (s::ss) (r9 X.K C G0 Γ E gx (bD F G)):=(Aw h1 h2).imp fun D σ H zz=>by
 walk_at".01"
 unfold bD at q
 cases hf:F st with
 | nx st'=>
  walk_at"2"
  intro cN H' A' r' e'
  refine⟨A',st',r',?_⟩
  walk_at","
  cases hg:G st' with
  | nx lR=>rw[hg] at q;exact fun z4 H2 A2 r2 e2=>q z4 H2 A2 r2 (e'.trans e2)
  | bk lR=>rw[hg] at q;exact fun z4 H2 A2 r2 e2=>q z4 H2 A2 r2 (e'.trans e2)
  | ct lR=>rw[hg] at q;exact fun z4 H2 A2 r2 e2=>q z4 H2 A2 r2 (e'.trans e2)
  | rt d=>rw[hg] at q;exact q
  | ex c p lR=>rw[hg] at q;exact fun z4 H2 A2 r2 e2=>q z4 H2 A2 r2 (e'.trans e2)
  | bad=>rw[hg] at q;exact q
 | bk st'=>rw[hf] at q;exact q
 | ct st'=>rw[hf] at q;exact q
 | rt d=>rw[hf] at q;exact q
 | ex c p st'=>rw[hf] at q;exact q
 | bad=>rw[hf] at q;exact q
theorem aU(h1:PS X s (r9 X.K C G0 Γ E gx F)):uu X [s] (r9 X.K C G0 Γ E gx F):=Dr h1
theorem bG{i:Nat}{k:SK}{x:Str}{pos':Pos}(hN:X.N.Nodup)(he:PE X e (tD X.K C G0 Γ E f κ))(hk:Γ[i]?=some k:=by rfl)(hl:k.takes κ=true:=by rfl)(hi:X.N[i]?=some x:=by rfl)(hx:Loc X.env.scope x:=by first | exact Or.inl rfl | exact Or.inr rfl)(hs:swapsWith e (some (.Name x pos')) pos.line X.env=pure false:=by rfl)
  (hf:X.fn x=true\/X.env.scope.names.lookup x=some .local:=by first | exact .inl rfl | exact .inr rfl | assumption):PS X (.Assign [.Name x pos'] e pos) (r9 X.K C G0 Γ E gx (bP i f)):=(OM hN hi hx he hs hf).imp fun D σ H zz=>by
 walk_at".01"
 unfold bP at q
 cases hf:f st with
 | bad=>rw[hf] at q;exact q
 | ex c p=>rw[hf] at q;exact fun H' e'=>q σ H' A (r.mono e') (aG e')
 | ok d=>
  walk_at"2"
  intro v H' e' w
  refine bM (r.set e' hk hl w) fun A' r' e2 _=>?_
  exact q _ _ A' r' e2
theorem E5(he:PE X e (tD X.K C G0 Γ E f κ))(hs:swapsWith e none pos.line X.env=pure false:=by rfl):PS X (.Expr e pos) (r9 X.K C G0 Γ E gx (yx f)):=(yY he hs).imp fun D σ H zz=>by
 walk_at".01"
 unfold yx at q
 cases hf:f st with
 | bad=>rw[hf] at q;exact q
 | ex c p=>rw[hf] at q;exact fun H' e'=>q σ H' A (r.mono e') (aG e')
 | ok d=>rw[hf] at q;exact fun v H' e' w=>q σ H' A (r.mono e') (aG e')
def ag5:Bool->Kd | true=>.lN | false=>.aE
theorem cS(he:PE X e (tD X.K C G0 Γ E f κ))(l:κ.le (ag5 gx)=true:=by rfl):PS X (.Return (some e) pos) (r9 X.K C G0 Γ E gx (gO f)):=(OH he).imp fun D σ H zz=>by
 walk_at".01"
 unfold gO at q
 cases hf:f st with
 | bad=>rw[hf] at q;exact q
 | ex c p=>rw[hf] at q;exact fun H' e'=>q σ H' A (r.mono e') (aG e')
 | ok d=>
  walk_at"2"
  intro v H' e' w
  have w':=w.le r e' l
  refine q v H' (r.g0.trans e') ?_
  cases gx with
  | true=>exact w'
  | false=>exact w'
theorem ji(hc:PT X c (An X.K C G0 Γ E fc))(ha:uu X ss (r9 X.K C G0 Γ E gx F)){ss':List Stmt}(hb:uu X ss' (r9 X.K C G0 Γ E gx G)):PS X (.If c ss ss' pos) (r9 X.K C G0 Γ E gx (Dm.eG fc F G)):=(Sq hc ha hb).imp fun D σ H zz=>by
 walk_at".01"
 unfold Dm.eG at q
 have sub:∀{H1:Hp} (e1:aB H H1) {G:DS},(match G st with
   | .nx st'=>∀cN H' A',RS X.K C G0 Γ cN H' A' st'->aB (er H A) (er H' A')->D.nx cN H'
   | .bk st'=>∀cN H' A',RS X.K C G0 Γ cN H' A' st'->aB (er H A) (er H' A')->D.bk cN H'
   | .ct st'=>∀cN H' A',RS X.K C G0 Γ cN H' A' st'->aB (er H A) (er H' A')->D.ct cN H'
   | .rt d=>∀v H',aB G0 H'->Ls X.K C gx G0 H' d v->D.rt v H'
   | .ex c p st'=>∀cN H' A',RS X.K C G0 Γ cN H' A' st'->aB (er H A) (er H' A')->Gm (E cN) c p H'
   | .bad=>False)->r9 X.K C G0 Γ E gx G D σ H1:=fun {H1} e1 {G} q=>by
  walk_at"D"
  cases hg:G st with
  | nx lR=>rw[hg] at q;exact fun z4 H2 A2 r2 e2=>q z4 H2 A2 r2 ((aG e1).trans e2)
  | bk lR=>rw[hg] at q;exact fun z4 H2 A2 r2 e2=>q z4 H2 A2 r2 ((aG e1).trans e2)
  | ct lR=>rw[hg] at q;exact fun z4 H2 A2 r2 e2=>q z4 H2 A2 r2 ((aG e1).trans e2)
  | rt d=>rw[hg] at q;exact q
  | ex c p lR=>rw[hg] at q;exact fun z4 H2 A2 r2 e2=>q z4 H2 A2 r2 ((aG e1).trans e2)
  | bad=>rw[hg] at q;exact q
 cases hf:fc st with
 | bad=>rw[hf] at q;exact q
 | ex c p=>rw[hf] at q;exact fun H' e'=>q σ H' A (r.mono e') (aG e')
 | ok d=>
  walk_at"2"
  cases d with
  | bl b=>
   intro H1 e1
   cases b with
   | true=>rw[aC2 rfl];exact sub e1 q
   | false=>rw[aC3 aF8];exact sub e1 q
  | _=>exact q.elim
def uG:List SK->Bool:=fun Γ=>Γ.all fun k=>match k with | .any=>false | .pr=>false | _=>true
theorem Ii{Γ:List SK}(h:uG Γ=true){i:Nat}:Γ[i]?≠some .any:=fun z=>by
 unfold uG at h
 have:=aI0.mp h _ (aG7 z)
 cases this
theorem Ij{Γ:List SK}(h:uG Γ=true){i:Nat}:Γ[i]?≠some .pr:=fun z=>by
 unfold uG at h
 have:=aI0.mp h _ (aG7 z)
 cases this
theorem RS.Vx{K:Frag}{σ:L2.St}{H:Hp}{A:List Addr}{st:dX}(r:RS K C G0 Γ σ H A st)(na:uG Γ=true){i:Nat}{n:Bool}{p:Addr}{ob:HO}{d' d0:D}(hk:Γ[i]?=some (.own n))(hs:st[i]?=some (some d0))(hv:σ[i]?=some (some (.ref p)))(hp:p∈A)(g0:G0 p=none)
  (xS:mS d0=true) (hM:Qa ob=true) (q:m6 K C (eh n G0 A H) (upd H p ob) p d'):RS K C G0 Γ σ (upd H p ob) A (st.set i (some d'))/\aB (er H A) (er (upd H p ob) A):=by
 have ee:er (upd H p ob) A=er H A:=by
  funext b
  by_cases mb:b∈A
  ·rw[dM mb,dM mb]
  ·rw[aS mb,aS mb,aX (fun z:b=p=>mb (by rw[z];exact hp))]
 have Ib:∀m,eh m G0 A (upd H p ob)=eh m G0 A H:=fun m=>by unfold eh;rw[ee]
 refine⟨⟨by rw[ee];exact r.base,fun a m=>?_,by simp[r.len],fun j d h=>?_,fun a b n' m' p' ds es uy g1 g2 s1 s2 o1 o2 w1 w2=>?_⟩,by rw[ee];exact .refl _⟩
 ·by_cases ha:a=p
  ·subst ha;exact⟨ob,bN,hM⟩
  ·rw[aX ha];exact r.lists a m
 ·by_cases hj:i=j
  ·subst hj
   rw[aF4 (aD7.mp hs).1] at h
   cases h
   exact⟨_,_,hk,hv,.inl ⟨p,rfl,hp,g0,by rw[Ib];exact q⟩⟩
  ·rw[aF5 hj] at h
   refine b6 (r.slot j d h) fun k v h1 h2 h3=>?_
   refine⟨k,v,h1,h2,?_⟩
   cases k with
   | par=>show Rep K C (er _ A) d v;rw[ee];exact h3
   | loc=>show _/\_;rw[ee];exact h3
   | any=>exact absurd h1 (Ii na)
   | pr=>exact absurd h1 (Ij na)
   | own m=>
    rcases h3 with ⟨p2,b,c,f,q2⟩ | ⟨a,b⟩
    ·subst b
     have np:p2≠p:=fun z=>by
      subst z
      exact r.apart i j n m p2 d0 d hj hk h1 hs h xS q2.mS hv h2
     exact .inl ⟨p2,rfl,c,f,by rw[Ib];exact q2.mono (.refl _) (aX np)⟩
    ·exact .inr ⟨a,by rw[Ib];exact b⟩
 ·have back:∀{c:Nat} {x:D},(st.set i (some d'))[c]?=some (some x)->mS x=true->∃y,st[c]?=some (some y)/\mS y=true:=fun {c x} h ho=>by
   by_cases hc:i=c
   ·subst hc
    exact⟨d0,hs,xS⟩
   ·rw[aF5 hc] at h;exact⟨_,h,ho⟩
  obtain ⟨ds1,s1,o1⟩:=back s1 o1
  obtain ⟨es1,s2,o2⟩:=back s2 o2
  exact r.apart a b n' m' p' ds1 es1 uy g1 g2 s1 s2 o1 o2 w1 w2
theorem RS.mut{K:Frag}{σ:L2.St}{H:Hp}{A:List Addr}{st:dX}(r:RS K C G0 Γ σ H A st)(na:uG Γ=true){i:Nat}{n:Bool}{p:Addr}{E2:List D}{rX:List V}{d0:D}(hk:Γ[i]?=some (.own n))(hs:st[i]?=some (some d0))(hv:σ[i]?=some (some (.ref p)))(hp:p∈A)(g0:G0 p=none)
  (xS:∃ds,d0 = .lst ds) (q:aH K C (eh n G0 A H) E2 rX):RS K C G0 Γ σ (upd H p (.lst rX)) A (st.set i (some (.lst E2)))/\aB (er H A) (er (upd H p (.lst rX)) A):=by
 obtain ⟨ds,rfl⟩:=xS
 exact r.Vx na hk hs hv hp g0 rfl rfl ⟨rX,bN,q⟩
theorem RS.Ik{K:Frag}{σ:L2.St}{H:Hp}{A:List Addr}{st:dX}(r:RS K C G0 Γ σ H A st){i:Nat}{n:Bool}{d:D}(hk:Γ[i]?=some (.own n))(hs:st[i]?=some (some d))(hd:mS d=true) :
  ∃p,σ[i]?=some (some (.ref p))/\p∈A/\G0 p=none/\m6 K C (eh n G0 A H) H p d:=by
 refine b6 (r.slot i _ hs) fun k v h1 h2 h3=>?_
 rw[hk] at h1;cases h1
 rcases h3 with ⟨p2,b,c,f,q2⟩ | ⟨a,b⟩
 ·cases b
  exact⟨p2,h2,c,f,q2⟩
 ·rw[hd] at a;cases a
theorem RS.owned{K:Frag}{σ:L2.St}{H:Hp}{A:List Addr}{st:dX}(r:RS K C G0 Γ σ H A st){i:Nat}{n:Bool}{ds:List D}(hk:Γ[i]?=some (.own n))(hs:st[i]?=some (some (.lst ds))) :
  ∃p xs,σ[i]?=some (some (.ref p))/\p∈A/\G0 p=none/\H p=some (.lst xs)/\aH K C (eh n G0 A H) ds xs:=by
 refine Zp (r.Ik hk hs rfl) fun p a b c q=>?_
 exact aM q fun xs e w=>⟨p,xs,a,b,c,e,w⟩
def Vy:Bool->Kd | true=>.loc | false=>.old
theorem Val.Vy{K:Frag}{σ:L2.St}{H H':Hp}{A:List Addr}{st:dX}{n:Bool}{d:D}{v:V}(r:RS K C G0 Γ σ H A st)(e:aB H H')(l:κ.le (Vy n)=true)(w:Val K C κ G0 A H H' d v):Rep K C (eh n G0 A H') d v:=by
 have:=w.le r e l
 cases n with
 | true=>exact this.1
 | false=>exact this
def jt(i:Nat)(f:DF):DS:=fun st=>match st[i]? with
 | some (some (.lst ds))=>match f st with
  | .ok d=>if ds.length<=5000 then .nx (st.set i (some (.lst (ds++[d])))) else .bad
  | .ex c p=>.ex c p st
  | .bad=>.bad
 | _=>.bad
theorem tT{i:Nat}{n:Bool}{to:TE}(h:PE X e (tBM X.K "list" Du (qT i) (AB (tD X.K C G0 Γ E f κ) GO)))(na:uG Γ=true)(hk:Γ[i]?=some (.own n):=by rfl)(hl:κ.le (Vy n)=true:=by rfl)(hs:swapsWith e none pos.line X.env=pure false:=by rfl):PS X (.Expr e pos) (r9 X.K C G0 Γ E gx (jt i f)):=(yY h hs).imp fun D σ H zz=>by
 walk_at".0"
 unfold jt at q
 split at q
 all_goals first
  | (rename_i z;split at z <;> (try split at z) <;> (try split at z) <;> cases z;done)
  | skip
 ·rename_i st' z
  split at z
  ·rename_i ds hs
   cases hf:f st with
   | bad=>rw[hf] at z;cases z
   | ex c p=>rw[hf] at z;cases z
   | ok d=>
    rw[hf] at z
    dsimp only at z
    split at z
    ·rename_i hlen
     cases z
     refine EB (r.owned hk hs) fun p xs h1 h2 h3 h4 h5=>?_
     refine⟨_,h1,.inl ⟨rfl,xs,.of h4⟩,A,st,r,?_⟩
     rw[hf]
     intro v H' e' w
     have r':=r.mono e'
     have q5:aH X.K C (eh n G0 A H') ds xs:=h5.same (by
      unfold eh;cases n
      ·exact aG e'
      ·exact bK (aG e')) _
     refine⟨p,xs,v,rfl,rfl,e' _ _ h4,?_,?_⟩
     ·rw[h5.len]
      have:5001<=sizeLine:=by rw[aG6];decide
      lia
     ·obtain ⟨r2,e2⟩:=r'.mut na hk hs h1 h2 h3 ⟨ds,rfl⟩ (q5.app (.cons (w.Vy r e' hl) .nil))
      exact q _ _ A r2 ((aG e').trans e2)
    ·cases z
  ·cases z
 ·rename_i c p st' z
  split at z
  ·rename_i ds hs
   cases hf:f st with
   | bad=>rw[hf] at z;cases z
   | ok d=>rw[hf] at z;dsimp only at z;split at z <;> cases z
   | ex c p=>
    rw[hf] at z
    cases z
    refine EB (r.owned hk hs) fun p' xs h1 h2 h3 h4 h5=>?_
    refine⟨_,h1,.inl ⟨rfl,xs,.of h4⟩,A,st,r,?_⟩
    rw[hf]
    exact fun H' e'=>q σ H' A (r.mono e') (aG e')
  ·cases z
 ·exact q.elim
end
end Dm
end Vv
section Vz
namespace Dm
open PySem PySem.Spec PyProof.Rows L2
def XS(K:Frag)(C:Cfg)(n:Nat)(F:List D->R D)(gx:Bool):Sp:=fun vs H Q E=>∃ds,ds.length=n/\aH K C H ds vs/\match F ds with
 | .ok d=>∀v H',aB H H'->Ls K C gx H H' d v->Q v H'
 | .ex c p=>∀H',aB H H'->Gm E c p H'
 | .bad=>False
def bS(m:Nat)(Fb:DS):List D->R D:=fun ds=>match Fb (ds.map some++List.replicate (m - ds.length) none) with
 | .rt d=>.ok d | .nx _=>.ok .cF | .ex c p _=>.ex c p | _=>.bad
section
variable {K:Frag}{C:Cfg}{Γ:List SK}{H:Hp}
theorem mV:er H []=H:=by funext a;exact aS (by simp)
theorem Il{n:Nat}{N:List Str}{ds:List D}{vs:List V}(hn:ds.length=n)(AK:∀i,i < n->Γ[i]?=some .par)(q:aH K C H ds vs):RS K C H Γ (L2.start N vs) H [] (ds.map some++List.replicate (N.length - ds.length) none) where
 base:=by rw[mV];exact .refl _
 lists:=fun a m=>by cases m
 len:=by unfold L2.start;simp[q.len]
 slot:=fun i d h=>by
  have hi:i < ds.length:=by
   apply Decidable.byContradiction
   intro iI
   rw[aG2 (by simp;lia)] at h
   simp at h
   rw[List.getElem?_replicate] at h
   split at h <;> cases h
  rw[aG3 (by simpa using hi),aE3] at h
  cases hd:ds[i]? with
  | none=>rw[hd] at h;cases h
  | some d'=>
   rw[hd] at h;cases h
   refine aM (q.get' hd) fun v h1 h2=>?_
   refine⟨.par,v,AK i (by lia),?_,?_⟩
   ·unfold L2.start
    rw[aG3 (by rw[aC8,q.len];exact hi),aE3,h1];rfl
   ·show Rep K C (er H []) d v
    rw[mV];exact h2
 apart:=fun i j a b p E2 es oq g1 g2 s1 s2 w1 w2=>by
  have hi:i < ds.length:=by
   apply Decidable.byContradiction
   intro iI
   rw[aG2 (by simp;lia)] at s1
   simp at s1
   rw[List.getElem?_replicate] at s1
   split at s1 <;> cases s1
  rw[AK i (by lia)] at g1;cases g1
theorem Qh{P:Program}{w:World}{mg:Str->Option Value}{base:Heap}{x qual:Str}{st:Stmt}{f:Addr}{fd:FuncData}{N ps:List Str}{k n:Nat}{gx:Bool}{Fb:DS}(F:GW K x qual st f fd)(S:bA N ps (az st))(hn:ps.length=n)(AK:∀i,i < n->Γ[i]?=some .par)
  (body:∀(f9:Value) (A:Around) (outer:List Env) (s:Shared) (H:Hp) (E:XK),iH k (A.deeper (envOfC qual (az st) s.heap.objs.size f f9))->
   uu ((qy (qg P w) P w K mg base N qual (az st) f f9 A outer s H E).dj (kI (qy (qg P w) P w K mg base N qual (az st) f f9 A outer s H E) fun _=>E)) (b9 st) (r9 K C H Γ (fun _=>E) gx Fb)) :
  j7 P w K mg base (qg P w) (k+1) f fd ps (XS K C n (bS N.length Fb) gx):=by
 refine yo F S (fun vs H Q E jg=>by obtain ⟨ds,h1,h2,_⟩:=jg;rw[h2.len,h1,hn]) fun f9 A outer s H vs Q E hr oG=>?_
 refine bM oG fun ds h1 h2 q=>?_
 clear oG
 refine⟨_,body f9 A outer s H E hr,[],_,Il h1 AK h2,?_⟩
 unfold bS at q
 cases hf:Fb (ds.map some++List.replicate (N.length - ds.length) none) with
 | nx st'=>
  walk_at"2"
  intro cN H' A' r' e'
  refine q .cF H' (r'.g0) ?_
  have R:∀H:Hp,Rep K C H .cF .cF:=fun H=>by rw[Rep]
  cases gx with
  | true=>exact⟨R (nw H H'),.not rfl rfl⟩
  | false=>exact R H'
 | bk st'=>rw[hf] at q;exact q.elim
 | ct st'=>rw[hf] at q;exact q.elim
 | rt d=>rw[hf] at q;exact q
 | ex c p st'=>rw[hf] at q;exact fun cN H' A' r' e'=>q H' r'.g0
 | bad=>rw[hf] at q;exact q.elim
end
section
variable {X:Cx}{C:Cfg}{G0:Hp}{Γ:List SK}{E:L2.St->XK}{gx:Bool}{e a b c:Expr}{f:DF}{κ κ':Kd}{es:List Expr}{fs:DA}{pos:Pos}{ss:List Stmt}{F:DS}
def Im:Bool->Kd | true=>.new | false=>.aE
theorem Io{n:Nat}{Fd:List D->R D}{xD:Bool}{K:Frag}:∀σ H Q,tD K C G0 Γ E (br Fd fs) (Im xD) σ H Q->(∀st ds,fs st = .ok ds->ds.length=n)->Hf (XS K C n Fd xD) E (Ft K C G0 Γ E fs κ) σ H Q:=fun σ H Q ux hlen=>by
 refine cP ux fun A st r q=>?_
 clear ux
 walk_at"1"
 unfold br R.bind at q
 cases hf:fs st with
 | bad=>rw[hf] at q;exact q
 | ex c p=>rw[hf] at q;exact q
 | ok ds=>
  walk_at"2,"
  intro vs H1 e1 w1
  refine⟨ds,hlen st ds hf,w1.same Kd.wm _,?_⟩
  cases hg:Fd ds with
  | bad=>rw[hg] at q;exact q
  | ex c p=>rw[hg] at q;exact fun H' e'=>q H' (e1.trans e')
  | ok d=>
   rw[hg] at q
   refine fun v H' e' w=>q v H' (e1.trans e') ?_
   cases xD with
   | true=>
    have w':Val K C .new G0 A H1 H' d v:=w
    exact w'.early e1
   | false=>exact w
theorem aO:∀st ds,au st = .ok ds->ds.length=0:=fun st ds h=>by cases h;rfl
theorem ao{n:Nat}(h:∀st ds,fs st = .ok ds->ds.length=n):∀st ds,aa f fs st = .ok ds->ds.length=n+1:=fun st ds q=>by
 unfold aa R.bind at q
 cases hf:f st with
 | bad=>rw[hf] at q;cases q
 | ex c p=>rw[hf] at q;cases q
 | ok d=>
  walk_at"2,"
  cases hg:fs st with
  | bad=>rw[hg] at q;cases q
  | ex c p=>rw[hg] at q;cases q
  | ok E2=>
   rw[hg] at q;cases q
   rw[aD1,h st _ hg]
theorem Lu{X:Cx}{x:Str}{k n:Nat}{ff:Addr}{fd:FuncData}{ps:List Str}{Fd:List D->R D}{xD:Bool}{p:Pos}(Fn:j7 X.prog X.w X.K X.mg X.base (qg X.prog X.w) k ff fd ps (XS X.K C n Fd xD))(hr:iH k X.A)(hm:X.mg x=some (.ref ff))(hk:PySem.W.keepIn X.K (.ref ff)=true)(hb:Binds X.K fd ps [])
  (ha:PA (X.dj (kI X E)) (e::es) (Ft X.K C G0 Γ E fs κ)) (hlen:∀st ds,fs st = .ok ds->ds.length=n) (hg:Gl X x:=by rfl) (ET:(x==("__debug__" : Str))=false:=by decide) (he:starEach (e::es) X.env=(false,eval e X.env)::starEach es X.env:=by rfl) (vM:(backTo pos (starEach es X.env)).any (·.1)=false:=by rfl) :
  PE (X.dj (kI X E)) (.Call (.Name x p) (e::es) [] pos) (tD X.K C G0 Γ E (br Fd fs) (Im xD)):=(Hg Fn hr hg hm hk hb ha ET he vM).imp fun σ H Q q=>Io σ H Q q hlen
abbrev DB:=D->dX->Option dX
def dY(bind:DB)(F:DS):List D->dX->Out
 | [],st=>.nx st
 | d::ds,st=>match bind d st with
  | none=>.bad
  | some jh=>match F jh with
   | .nx st'=>dY bind F ds st'
   | .ct st'=>dY bind F ds st'
   | .bk st'=>.nx st'
   | o=>o
abbrev DI:=dX->R (List D)
def dP(g:DI)(bind:DB)(F:DS):DS:=fun st=>match g st with | .ok ds=>dY bind F ds st | .ex c p=>.ex c p st | .bad=>.bad
def qG(K:Frag)(C:Cfg)(G0:Hp)(Γ:List SK)(t:TG)(bind:DB):Prop:=∀(σ:L2.St) (H:Hp) (A:List Addr) (st jh:dX) (d:D) (v:V) (Q:L2.St->Hp->Prop),RS K C G0 Γ σ H A st->Rep K C (er H A) d v->bind d st=some jh->
 (∀cN A',RS K C G0 Γ cN H A' jh->aB (er H A) (er H A')->(∀a∈A,a∈A')->Q cN H)->t v σ H Q
def bW(i:Nat):DB:=fun d st=>some (st.set i (some d))
def iK(i j:Nat):DB:=fun d st=>match d with | .tup [a,b]=>some ((st.set i (some a)).set j (some b)) | _=>none
theorem eT{K:Frag}{i:Nat}{k:SK}(hk:Γ[i]?=some k:=by rfl)(l:k.takes .old=true:=by rfl):qG K C G0 Γ (Ax i) (bW i):=fun σ H A st jh d v Q r w hb q=>by
 cases hb
 refine bM (r.set (.refl _) hk l (κ:=.old) w) fun A' r' e' sb=>?_
 exact q _ A' r' e' sb
theorem qj{K:Frag}{i j:Nat}{k k':SK}(hk:Γ[i]?=some k:=by rfl)(hj:Γ[j]?=some k':=by rfl)(l:k.takes .old=true:=by rfl)(l':k'.takes .old=true:=by rfl):qG K C G0 Γ (SA K 2 (Gy (Ax i) (Gy (Ax j) Sy))) (iK i j):=fun σ H A st jh d v Q r w hb q=>by
 unfold iK at hb
 split at hb
 ·rename_i a b
  cases hb
  rw[Rep] at w
  refine b6 w fun p xs aR h2 h3=>?_
  clear w
  walk_at"#"
  have Gi:=aB.tup (aF _ _) h2
  rw[aH] at h3
  obtain ⟨x,r1,rfl,wx,h3⟩:=h3
  rw[aH] at h3
  obtain ⟨y,r2,rfl,wy,h3⟩:=h3
  rw[aH] at h3
  subst h3
  refine⟨p,_,rfl,Gi,rfl,x,[y],rfl,y,[],rfl,rfl,?_⟩
  refine bM (r.set (.refl _) hk l (κ:=.old) wx) fun A1 s1 e1 b1=>?_
  refine bM (s1.set (.refl _) hj l' (κ:=.old) (wy.same e1 _)) fun A2 s2 e2 b2=>?_
  exact q _ A2 s2 (e1.trans e2) fun a m=>b2 a (b1 a m)
 ·cases hb
def Fv(K:Frag)(C:Cfg)(A:List Addr)(H1:Hp)(J:It)(ds:List D):Prop:=∀(i:Nat) (H:Hp) (A':List Addr),aB (er H1 A) (er H A')->(∀a∈A',H a≠none)->
 (∀d,ds[i]?=some d->J.go i H/\∀x H',J.Xx i H x H'->aB H H'/\Rep K C (er H' A') d x)/\(ds[i]?=none->J.stop i H)
theorem tU{K:Frag}{J:It}{ds:List D}{bind:DB}{g:TG}{A:List Addr}{H H1:Hp}{σ:L2.St}{st:dX}{D:Ends}(hB:qG K C G0 Γ g bind)(hJ:Fv K C A H1 J ds)(r:RS K C G0 Γ σ H A st)(e1:aB H H1)(q:match dY bind F ds st with
   | .nx st'=>∀cN H' A',RS K C G0 Γ cN H' A' st'->aB (er H A) (er H' A')->D.nx cN H'
   | .bk st'=>∀cN H' A',RS K C G0 Γ cN H' A' st'->aB (er H A) (er H' A')->D.bk cN H'
   | .ct st'=>∀cN H' A',RS K C G0 Γ cN H' A' st'->aB (er H A) (er H' A')->D.ct cN H'
   | .rt d=>∀v H',aB G0 H'->Ls K C gx G0 H' d v->D.rt v H'
   | .ex c p st'=>∀cN H' A',RS K C G0 Γ cN H' A' st'->aB (er H A) (er H' A')->Gm (E cN) c p H'
   | .bad=>False) :
  ∃W:Nat->Nat->L2.St->Hp->Prop,(∃m,W 0 m σ H1)/\∀i m σ H,W i m σ H->
   (J.stop i H/\D.nx σ H)\/(J.go i H/\∃N:L2.St->Hp->Prop,(∀cN H',N cN H'->∃m',m' < m/\W (i+1) m' cN H')/\∀x H',J.Xx i H x H'->g x σ H' fun z4 H2=>r9 K C G0 Γ E gx F { D with nx:=N,ct:=N,bk:=D.nx } z4 H2):=by
 refine⟨fun i m cN H'=>m=ds.length - i/\i<=ds.length/\∃A' st',RS K C G0 Γ cN H' A' st'/\aB (er H1 A) (er H' A')/\dY bind F (ds.drop i) st'=dY bind F ds st,⟨ds.length,rfl,aI2 _,A,st,r.mono e1,.refl _,rfl⟩,?_⟩
 rintro i m Ay H3 ⟨rfl,hi,A3,Az,r3,e3,g3⟩
 obtain ⟨m9,EH⟩:=hJ i H3 A3 e3 (fun a m=>by obtain ⟨xs,q,_⟩:=r3.lists a m;rw[q];simp)
 cases hd:ds[i]? with
 | none=>
  have:ds.drop i=[]:=List.drop_eq_nil_iff.mpr (aH6.mp hd)
  rw[this] at g3
  rw[<- g3] at q
  exact .inl ⟨EH hd,q Ay H3 A3 r3 ((aG e1).trans e3)⟩
 | some d=>
  obtain ⟨go,yl⟩:=m9 d hd
  have iI:i < ds.length:=(aD7.mp hd).1
  have hdr:ds.drop i=d::ds.drop (i+1):=by
   rw[List.drop_eq_getElem_cons iI]
   congr 1
   exact(aD7.mp hd).2
  refine .inr ⟨go,fun cN H'=>∃A' st',RS K C G0 Γ cN H' A' st'/\aB (er H1 A) (er H' A')/\dY bind F (ds.drop (i+1)) st'=dY bind F ds st,fun cN H' Dv=>Dv.elim fun A' EZ=>EZ.elim fun st' Gh=>Gh.elim fun h1 BY=>BY.elim fun h2 h3=>⟨ds.length - (i+1),by lia,rfl,iI,A',st',h1,h2,h3⟩,fun x H' hy=>?_⟩
  obtain ⟨e4,wx⟩:=yl x H' hy
  rw[hdr,dY] at g3
  cases hb:bind d Az with
  | none=>rw[hb] at g3;rw[<- g3] at q;exact q.elim
  | some NT=>
   rw[hb] at g3
   dsimp only at g3
   refine hB Ay H' A3 Az NT d x _ (r3.mono e4) wx hb fun σ5 A5 r5 e5 _=>⟨A5,NT,r5,?_⟩
   have Lv:aB (er H1 A) (er H' A5):=(e3.trans (aG e4)).trans e5
   cases hf:F NT with
   | nx z5=>rw[hf] at g3;exact fun OS H6 A6 r6 e6=>⟨A6,z5,r6,Lv.trans e6,g3⟩
   | ct z5=>rw[hf] at g3;exact fun OS H6 A6 r6 e6=>⟨A6,z5,r6,Lv.trans e6,g3⟩
   | bk z5=>rw[hf] at g3;rw[<- g3] at q;exact fun OS H6 A6 r6 e6=>q OS H6 A6 r6 (((aG e1).trans Lv).trans e6)
   | rt d=>rw[hf] at g3;rw[<- g3] at q;exact q
   | ex c p z5=>rw[hf] at g3;rw[<- g3] at q;exact fun OS H6 A6 r6 e6=>q OS H6 A6 r6 (((aG e1).trans Lv).trans e6)
   | bad=>rw[hf] at g3;rw[<- g3] at q;exact q.elim
def eK(f:DF):DI:=fun st=>match f st with | .ok (.lst ds)=>.ok ds | .ok _=>.bad | .ex c p=>.ex c p | .bad=>.bad
theorem cK{tg iter:Expr}{bind:DB}{g:TG}(hp:PassesOwn (model X.prog X.w) X.A X.env X.xe)(hc:X.calm=true)(he:PE X iter (tD X.K C G0 Γ E f κ))(l:κ.le .old=true)(hg:PG X tg g)(hB:qG X.K C G0 Γ g bind)(hb:uu X ss (r9 X.K C G0 Γ E gx F))(hs:∀x,foldedSetIterable iter X.env x=pure x:=by intro _;rfl) :
  PS X (.For tg iter ss [] pos) (r9 X.K C G0 Γ E gx (dP (eK f) bind F)):=(C1 hp hc (Ds he) hg hb hs).imp fun D σ H zz=>by
 walk_at".01"
 unfold dP eK at q
 cases hf:f st with
 | bad=>rw[hf] at q;exact q.elim
 | ex c p=>rw[hf] at q;exact fun H' e'=>q σ H' A (r.mono e') (aG e')
 | ok d=>
  walk_at"2"
  cases d with
  | lst ds=>
   walk_at","
   intro v H1 e1 w
   have w':Rep X.K C (er H1 A) (.lst ds) v:=w.le r e1 (κ':=.old) l
   rw[Rep] at w'
   refine b6 w' fun a xs aR h2 h3=>?_
   clear w'
   walk_at"#"
   refine⟨a,rfl,⟨xs,(aF _ _).seq h2⟩,?_⟩
   refine tU hB (fun i H3 A3 e3 _=>⟨fun d hd=>?_,fun hd=>?_⟩) r e1 q
   ·refine aM (h3.get' hd) fun v hv rv=>?_
    have s3:ko X.K H3 a xs:=(e3.trans (aF _ _)).seq h2
    refine⟨⟨xs,v,s3,hv⟩,fun x H' Dq=>?_⟩
    obtain ⟨hH,hx⟩:=Dq
    subst hH
    have:=hx xs s3
    rw[hv] at this;cases this
    exact⟨.refl _,rv.same ((aF _ _).trans e3) _⟩
   ·exact⟨xs,(e3.trans (aF _ _)).seq h2,by rw[h3.len];exact aH6.mp hd⟩
  | _=>exact q.elim
def sC(fs:DA):DI:=fun st=>match fs st with | .ok [.int j]=>if (decide (-(2 ^ 62)<=j)&&decide (j < 2 ^ 62))=true then .ok ((List.range j.toNat).map fun i=>.int (i:Nat)) else .bad | .ok _=>.bad | .ex c p=>.ex c p | .bad=>.bad
theorem mW{tg:Expr}{bind:DB}{g:TG}{p:Pos}(hp:PassesOwn (model X.prog X.w) X.A X.env X.xe)(hc:X.calm=true)(hm:X.mg "range" =none)(ha:PA X [a] (Ft X.K C G0 Γ E fs κ))(hg:PG X tg g)(hB:qG X.K C G0 Γ g bind)(hb:uu X ss (r9 X.K C G0 Γ E gx F))(hgl:Gl X "range":=by rfl)
  (XT:starEach [a] X.env=[(false,eval a X.env)]:=by rfl) (hs:∀x,foldedSetIterable (.Call (.Name "range" p) [a] [] pos) X.env x=pure x:=by intro _;rfl) {pos':Pos} :
  PS X (.For tg (.Call (.Name "range" p) [a] [] pos) ss [] pos') (r9 X.K C G0 Γ E gx (dP (sC fs) bind F)):=(C1 hp hc (EJ hgl hm ha XT) hg hb hs).imp fun D σ H zz=>by
 walk_at".01"
 unfold dP at q
 cases hg:sC fs st with
 | bad=>rw[hg] at q;exact q.elim
 | ex c p=>
  rw[hg] at q
  have hf:fs st = .ex c p:=by
   unfold sC at hg
   split at hg
   ·split at hg <;> cases hg
   ·cases hg
   ·rename_i z;rw[z];cases hg;rfl
   ·cases hg
  rw[hf]
  exact fun H' e'=>q σ H' A (r.mono e') (aG e')
 | ok E2=>
  rw[hg] at q
  unfold sC at hg
  split at hg
  ·rename_i j hf
   rw[hf]
   split at hg
   ·rename_i hc
    cases hg
    simp only[aD4,aG0] at hc
    intro vs H1 e1 w1
    refine aM (ou w1) fun v iG wv=>?_
    walk_at"7"
    obtain rfl:v = .int j:=by rw[Rep] at wv;exact wv
    refine⟨j,rfl,hc.1,hc.2,?_⟩
    refine tU hB (fun i H3 A3 e3 _=>⟨fun d hd=>?_,fun hd=>?_⟩) r e1 q
    ·rw[aE3] at hd
     have hi:i < j.toNat:=by
      apply Decidable.byContradiction
      intro iI
      rw[List.getElem?_eq_none (by simpa using iI)] at hd
      cases hd
     rw[List.getElem?_range hi] at hd
     cases hd
     refine⟨hi,fun x H' Hh=>?_⟩
     obtain ⟨hH,hx⟩:=Hh
     subst hH;subst hx
     refine⟨.refl _,?_⟩
     rw[Rep,Int.zero_add]
    ·show j.toNat<=i
     have:=aH6.mp hd
     simpa using this
   ·cases hg
  ·cases hg
  ·cases hg
  ·cases hg
end
end Dm
end Vz
section VA
namespace Dm
open PySem PySem.Spec PyProof.Rows L2
section
variable {X:Cx}{C:Cfg}{G0:Hp}{Γ:List SK}{E:L2.St->XK}{e a b c:Expr}{f fa fb fc:DF}{κ aA bC xD:Kd}{es:List Expr}{pos:Pos}{s:Stmt}{F:DS}
def mX(g g':D->D->R D)(fa fb fc:DF):DF:=fun st=>(fa st).bind fun a=>(fb st).bind fun b=>(g a b).bind fun z=>match z with
 | .bl true=>(fc st).bind fun c=>g' b c
 | .bl false=>.ok (.bl false)
 | _=>.bad
theorem yy{K:Frag}{r2 O8:R2}{g g':D->D->R D}(ho:vm K C r2 g .new)(As:vm K C O8 g' .new):∀σ H Q,tD K C G0 Γ E (mX g g' fa fb fc) .new σ H Q->C2 r2 O8 (tD K C G0 Γ E fa aA) (tD K C G0 Γ E fb bC) (tD K C G0 Γ E fc xD) σ H Q:=fun σ H Q zz=>by
 walk_at".01"
 unfold mX R.bind at q
 cases ha:fa st with
 | bad=>rw[ha] at q;exact q
 | ex c p=>rw[ha] at q;exact q
 | ok a=>
  rw[ha] at q
  intro x H1 e1 w1
  walk_at"D,"
  cases hb:fb st with
  | bad=>rw[hb] at q;exact q
  | ex c p=>rw[hb] at q;exact fun H' e'=>q H' (e1.trans e')
  | ok b=>
   rw[hb] at q
   intro y H2 e2 w2
   walk_at","
   have xC:=e1.trans e2
   refine ho G0 Γ (E σ) σ A st H2 a b x y _ (r.mono xC) (w1.rep.same e2 _) w2.rep ?_
   cases hg:g a b with
   | bad=>rw[hg] at q;exact q
   | ex c p=>rw[hg] at q;exact fun H' e'=>q H' (xC.trans e')
   | ok z=>
    rw[hg] at q
    cases z with
    | bl k=>
     intro v H3 e3 w3
     refine⟨k,XR w3,?_⟩
     have wz:=xC.trans e3
     cases k with
     | false=>rw[aC3 aF8];exact q _ H3 wz (.flat r wz (by rw[fR] <;> simp) xR _)
     | true=>
      rw[aC2 rfl]
      refine⟨A,st,r.mono wz,?_⟩
      walk_at","
      cases hc:fc st with
      | bad=>rw[hc] at q;exact q
      | ex c p=>rw[hc] at q;exact fun H' e'=>q H' (wz.trans e')
      | ok c=>
       rw[hc] at q
       intro w' H4 e4 w4
       walk_at","
       refine As G0 Γ (E σ) σ A st H4 b c y w' Q (r.mono (wz.trans e4)) (w2.rep.same (e3.trans e4) _) w4.rep ?_
       cases HL:g' b c with
       | bad=>rw[HL] at q;exact q
       | ex c p=>rw[HL] at q;exact fun H' e'=>q H' ((wz.trans e4).trans e')
       | ok d=>rw[HL] at q;exact fun v H' e' w=>q v H' ((wz.trans e4).trans e') (w.early (wz.trans e4))
    | _=>exact q.elim
theorem Bb{op C3:CmpOp}{r2 O8:R2}{g g':D->D->R D}(hr:rG X (compareOp op) r2)(Ip:rG X (compareOp C3) O8)(ho:vm X.K C r2 g .new)(As:vm X.K C O8 g' .new)(ha:PE X a (tD X.K C G0 Γ E fa aA))(hb:PE X b (tD X.K C G0 Γ E fb bC))(hc:PE X c (tD X.K C G0 Γ E fc xD))
  (hm:lastMarks [op,C3] [b,c]=false:=by with_unfolding_all rfl):PE X (.Compare a [op,C3] [b,c] pos) (tD X.K C G0 Γ E (mX g g' fa fb fc) .new):=(GJ hr Ip ha hb hc hm).imp (yy ho As)
theorem Iq{op C3:CmpOp}{r2 O8:R2}{g g':D->D->R D}(hr:rG X (compareOp op) r2)(Ip:rG X (compareOp C3) O8)(ho:vm X.K C r2 g .new)(As:vm X.K C O8 g' .new)(ha:PE X a (tD X.K C G0 Γ E fa aA))(hb:PE X b (tD X.K C G0 Γ E fb bC))(hc:PE X c (tD X.K C G0 Γ E fc xD))
  (hm:lastMarks [op,C3] [b,c]=false:=by with_unfolding_all rfl):PT X (.Compare a [op,C3] [b,c] pos) (An X.K C G0 Γ E (mX g g' fa fb fc)):=(GK hr Ip ha hb hc hm).imp fun σ H Q zz=>by
 walk_at".0"
 refine yy ho As σ H _ ⟨A,st,r,?_⟩
 cases hf:mX g g' fa fb fc st with
 | bad=>rw[hf] at q;exact q
 | ex c p=>rw[hf] at q;exact q
 | ok d=>
  walk_at"2"
  cases d with
  | bl b=>exact fun v H' e' w=>⟨b,XR w,q H' e'⟩
  | _=>exact q.elim
def ag6:D->R D:=fun a=>match a with | .int i=>.ok (.int (-i)) | _=>.bad
def cutD(ds:List D)(lo hi:Option Int):List D:=(ds.drop (HT.yi ds.length 0 lo)).take (HT.yi ds.length ds.length hi - HT.yi ds.length 0 lo)
def qH(o:Option DF):dX->R (Option Int):=fun st=>match o with
 | none=>.ok none
 | some f=>(f st).bind fun d=>match d with | .int i=>.ok (some i) | _=>.bad
def Gn(fa:DF)(lo hi:Option DF):DF:=fun st=>(fa st).bind fun a=>(qH lo st).bind fun l=>(qH hi st).bind fun h=>match a with
 | .lst ds=>if d9 ds=true then .ok (.lst (cutD ds l h)) else .bad
 | _=>.bad
def XU(K:Frag)(C:Cfg)(G0:Hp)(Γ:List SK)(E:L2.St->XK)(o:Option DF):TO:=fun σ H Q=>∃A st,RS K C G0 Γ σ H A st/\match qH o st with
 | .ok i=>∀H',aB H H'->Q i H'
 | .ex c p=>∀H',aB H H'->Gm (E σ) c p H'
 | .bad=>False
theorem zF:PO X none (XU X.K C G0 Γ E none):=fun pins s σ H Q I jg=>jg.elim fun A oG=>oG.elim fun st ux=>ux.elim fun r q=>KI pins s σ H Q I (q H (.refl _))
theorem zG(h:PE X e (tD X.K C G0 Γ E f κ)):PO X (some e) (XU X.K C G0 Γ E (some f)):=fun pins s σ H Q I Dv=>Dv.elim fun A EZ=>EZ.elim fun st Gh=>Gh.elim fun r q=>KJ h pins s σ H Q I ⟨A,st,r,by
 unfold qH R.bind at q
 cases hf:f st with
 | bad=>simp only[hf] at q
 | ex c p=>simp only[hf] at q;exact q
 | ok d=>
  simp only[hf] at q
  cases d with
  | int i=>exact fun v H' e' w=>⟨i,by have:=w.rep;rw[Rep] at this;exact this,q H' e'⟩
  | _=>exact q.elim⟩
theorem Ir{K:Frag}{H:Hp}{ds:List D}{xs:List V}{lo hi:Option Int}(q:aH K C H ds xs):aH K C H (cutD ds lo hi) (EU xs lo hi):=by
 unfold cutD EU
 rw[q.len]
 exact(q.drop _).take _
theorem Fw:∀{ds:List D} (n:Nat),d9 ds=true->d9 (ds.take n)=true:=fun n h=>fV fun d hd=>jL h (aJ2 hd)
theorem Fx:∀{ds:List D} (n:Nat),d9 ds=true->d9 (ds.drop n)=true:=fun n h=>fV fun d hd=>jL h (List.mem_of_mem_drop hd)
theorem Iu{ds es:List D}(h:d9 ds=true)(h':d9 es=true):d9 (ds++es)=true:=fV fun d hd=>(aF9.mp hd).elim (jL h) (jL h')
theorem wA{lo hi:Option Expr}{fl fh:Option DF}{p2:Pos}(he:PE X e (tD X.K C G0 Γ E fa aA))(hl:PO X lo (XU X.K C G0 Γ E fl))(hu:PO X hi (XU X.K C G0 Γ E fh)):PE X (.Subscript e (.Slice lo hi none p2) pos) (tD X.K C G0 Γ E (Gn fa fl fh) .new):=(GR KS he hl hu).imp fun σ H Q zz=>by
 walk_at".01"
 unfold Gn R.bind at q
 cases ha:fa st with
 | bad=>rw[ha] at q;exact q
 | ex c p=>rw[ha] at q;exact q
 | ok a=>
  rw[ha] at q
  intro x H1 e1 w1
  walk_at"D,"
  cases hb:qH fl st with
  | bad=>rw[hb] at q;exact q
  | ex c p=>rw[hb] at q;exact fun H' e'=>q H' (e1.trans e')
  | ok l=>
   rw[hb] at q
   intro H2 e2
   refine⟨A,st,r.mono (e1.trans e2),?_⟩
   walk_at","
   cases hc:qH fh st with
   | bad=>rw[hc] at q;exact q
   | ex c p=>rw[hc] at q;exact fun H' e'=>q H' ((e1.trans e2).trans e')
   | ok h=>
    rw[hc] at q
    intro H3 e3
    walk_at","
    cases a with
    | lst ds=>
     walk_at","
     by_cases n:d9 ds=true
     ·rw[aC2 n] at q
      refine b6 ((w1.rep.same (e2.trans e3) _).items) fun p xs aR h2 h3=>?_
      walk_at"#"
      have wz:=(e1.trans e2).trans e3
      refine⟨p,xs,rfl,h2,fun l' DO=>q _ _ (wz.trans (cz DO)) (.lst r wz DO ?_)⟩
      exact(Ir h3).part (.nw wz) _ (Fw _ (Fx _ n))
     ·rw[aC3 n] at q;exact q.elim
    | _=>exact q.elim
def O9(K:Frag):R2:=fun x y H Q=>∃l b xs zs,x = .ref l/\y = .ref b/\ko K H l xs/\ko K H b zs/\xs.length+zs.length<=sizeLine/\∀p,H p=none->Q (.ref p) (upd H p (.lst (xs++zs)))
theorem zH:rG X (binaryOp .Add) (O9 X.K):=by
 intro pins s σ H x y v u Q I rx ry h
 refine Zv h fun l b xs zs GS KR hH hB hz q=>?_
 clear h
 obtain rfl:=GS
 obtain rfl:=KR
 cases rx
 cases ry
 refine bM (I.list hH) fun bf r p1 _=>?_
 refine bM (I.list hB) fun Qi r2 p2 _=>?_
 obtain ⟨⟨cls,dd,data,sl⟩,ho,hc,n,hd⟩:=id p1.isList
 obtain ⟨⟨UX,RM,data2,NU⟩,NW,Kg,n2,hd2⟩:=id p2.isList
 simp only at hc hd Kg hd2
 subst hc hd Kg hd2
 have l1:=r.length
 have l2:=r2.length
 refine concat_meets ⟨_,ho,rfl⟩ ⟨_,NW,rfl⟩ noFill_list_add seq_list_add PySem.F.slot_list_add PySem.F.entry_list_add (PySem.F.args_list_add_2 _ _) (list_addW l b bf.toArray Qi.toArray n n2 dd RM sl NU (by simp;lia)) ⟨ho,NW,?_⟩
 have ea:bf.toArray++Qi.toArray=(bf++Qi).toArray:=by simp
 rw[ea]
 exact⟨.ref _,_,I.ae1 (t':=s.toks) (r.append r2) (by rw[aD0];lia),rfl,q _ I.fresh⟩
def zI:D->D->R D:=fun a b=>match a,b with
 | .lst ds,.lst es=>if (d9 ds&&d9 es&&decide (ds.length+es.length<=5000))=true then .ok (.lst (ds++es)) else .bad
 | _,_=>.bad
theorem zJ{K:Frag}:vm K C (O9 K) zI .new:=fun G0 Γ E σ A st H a b x y Q r qa qb q=>by
 cases hg:zI a b with
 | bad=>rw[hg] at q;exact q.elim
 | ex c p=>unfold zI at hg;split at hg <;> (try split at hg) <;> cases hg
 | ok d=>
  rw[hg] at q
  unfold zI at hg
  split at hg
  ·rename_i ds es
   split at hg
   ·rename_i hc
    cases hg
    simp only[aD4,aG0] at hc
    refine b6 qa.items fun p xs aR h2 h3=>?_
    walk_at"#"
    refine b6 qb.items fun p' ys aR Gi h3'=>?_
    walk_at"#"
    refine⟨p,p',xs,ys,rfl,rfl,h2,Gi,?_,fun l hl=>q _ _ (cz hl) (.lst r (.refl _) hl ?_)⟩
    ·rw[h3.len,h3'.len]
     have:5000<=sizeLine:=by rw[aG6];decide
     lia
    ·exact(h3.app h3').part (.nw (.refl _)) _ (Iu hc.1.1 hc.1.2)
   ·cases hg
  ·cases hg
def Fy:D->Option (List Int)
 | .tup ds=>ds.mapM fun d=>match d with | .int i=>some i | _=>none
 | _=>none
theorem Lw:∀{d:D} {ns:List Int},Fy d=some ns->d = .tup (ns.map D.int)
 | .tup ds,ns,h=>by
  rw[Fy] at h
  congr 1
  revert ns
  induction ds with
  | nil=>intro ns h;simp at h;subst h;rfl
  | cons d ds ih=>
   intro ns h
   rw[List.mapM_cons] at h
   cases d with
   | int i=>
    dsimp only at h
    cases hm:ds.mapM fun d=>match d with | .int i=>some i | _=>(none:Option Int) with
    | none=>rw[hm] at h;cases h
    | some ms=>
     rw[hm] at h
     have h':i::ms=ns:=aE1 h
     subst h'
     rw[aC1,<- ih ms hm]
   | _=>cases h
def yz(ds:List D):Option (List (List Int)):=ds.mapM Fy
theorem Bc:∀{ds:List D} {j5:List (List Int)},yz ds=some j5->ds=j5.map fun ns=>.tup (ns.map D.int)
 | [],j5,h=>by
  have h':some []=some j5:=h
  cases h';rfl
 | d::ds,j5,h=>by
  unfold yz at h
  rw[List.mapM_cons] at h
  cases hd:Fy d with
  | none=>rw[hd] at h;cases h
  | some ns=>
   rw[hd] at h
   cases hm:ds.mapM Fy with
   | none=>rw[hm] at h;cases h
   | some ms=>
    rw[hm] at h
    have h':ns::ms=j5:=aE1 h
    subst h'
    rw[aC1,<- Bc (ds:=ds) hm,Lw hd]
def mh(j5:List (List Int)):Bool:=match j5 with | []=>true | ns::_=>decide (ns.length≠0)&&j5.all fun ms=>decide (ms.length=ns.length)
theorem Bd{j5:List (List Int)}(h:mh j5=true):Rows j5:=by
 cases j5 with
 | nil=>exact⟨0,fun ns hm=>by cases hm⟩
 | cons ns j5=>
  unfold mh at h
  rw[aD4] at h
  have h1:ns.length≠0:=by simpa using h.1
  refine⟨ns.length - 1,fun ms hm=>?_⟩
  have:=aI0.mp h.2 ms hm
  have:ms.length=ns.length:=by simpa using this
  lia
def qA(ns:List Int):D:=.tup (ns.map D.int)
theorem Lx(ns:List Int):fR (qA ns)=true:=by
 unfold qA
 rw[fR]
 exact fV fun d hd=>by
  refine aM (aC5.mp hd) fun n _ aR=>?_
  walk_at"#"
  rw[fR] <;> simp
theorem Fz(j5:List (List Int)):d9 (j5.map qA)=true:=fV fun d hd=>by
 refine aM (aC5.mp hd) fun n _ aR=>?_
 walk_at"#"
 exact Lx n
def ay5:List D->R D:=fun ds=>match ds with
 | [.lst es]=>match yz es with
  | some j5=>if (mh j5&&decide (j5.length < 64))=true then .ok (.lst (dm es)) else .bad
  | none=>.bad
 | _=>.bad
def dd{α:Type}[DecidableEq α]:List α->List α
 | []=>[]
 | x::xs=>if x∈xs then dd xs else x::dd xs
theorem tV{α:Type}[DecidableEq α]{x:α}:∀{xs:List α},x∈dd xs↔x∈xs
 | []=>Iff.rfl
 | y::ys=>by
  rw[dd]
  split
  ·rename_i h
   rw[tV,aC6]
   constructor
   ·exact .inr
   ·rintro (rfl | q)
    ·exact h
    ·exact q
  ·rw[aC6,aC6,tV]
theorem sD{α:Type}[DecidableEq α]:∀(xs:List α),(dd xs).Nodup
 | []=>.nil
 | y::ys=>by
  rw[dd]
  split
  ·exact sD ys
  ·rename_i h
   exact aH4.mpr ⟨fun q=>h (tV.mp q),sD ys⟩
def jO:D->R D:=fun a=>match a with
 | .lst es=>match yz es with
  | some j5=>if (mh j5&&decide (j5.length<=50))=true then .ok (.lst (dm ((dd j5).map qA))) else .bad
  | none=>.bad
 | _=>.bad
theorem Be{ds es:List D}(hs:∀a∈ds,∀b∈ds,fG a b=true)(hp:es.Perm ds):dm es=dm ds:=i7 hs ((cG es).trans hp) (lV es)
end
end Dm
end VA
section VB
namespace Dm
open PySem PySem.Spec PyProof.Rows L2
section
variable {X:Cx}{C:Cfg}{G0:Hp}{Γ:List SK}{E:L2.St->XK}{gx:Bool}{e a b c:Expr}{f:DF}{κ κ':Kd}{es:List Expr}{fs:DA}{pos:Pos}{s:Stmt}
theorem Qj:bootBuiltins "set" =some (.type "set"):=by decide +kernel
theorem jy:bootBuiltins "sorted" =some (.builtin "sorted"):=by decide +kernel
theorem Iv{j5:List (List Int)}(h:Rows j5):∀a∈j5.map qA,∀b∈j5.map qA,fG a b=true:=fun a ha b hb=>by
 obtain ⟨n,hn⟩:=h
 refine aM (aC5.mp ha) fun x hx aR=>?_
 walk_at"#"
 refine aM (aC5.mp hb) fun y hy aR=>?_
 walk_at"#"
 unfold qA
 rw[fG]
 exact tO (by rw[hn x hx,hn y hy])
theorem Qk(l:List (List Int)):(dd l).length<=l.length:=by
 induction l with
 | nil=>exact aC4 _
 | cons x l ih=>
  rw[dd]
  split
  ·exact Nat.le_succ_of_le ih
  ·rw[aD1,aD1];lia
theorem CD{p1 p2 Iw:Pos}(hh:X.A.handled=none)(hu:X.A.units+64 < cLine)(hm:X.mg "sorted" =none)(XQ:X.mg "set" =none)(he:PE X e (tD X.K C G0 Γ E f κ))(hg:Gl X "sorted":=by rfl)(hg2:Gl X "set":=by rfl)
  (h1:starEach [Expr.Call (.Name "set" p2) [e] [] Iw] X.env=[(false,eval (.Call (.Name "set" p2) [e] [] Iw) X.env)]:=by rfl) (h2:starEach [e] X.env=[(false,eval e X.env)]:=by rfl) :
  PE X (.Call (.Name "sorted" p1) [.Call (.Name "set" p2) [e] [] Iw] [] pos) (tD X.K C G0 Γ E (vj jO f) .new):=by
 have P1:PE X (.Call (.Name "set" p2) [e] [] Iw) (P6 (DV X C) (AB (tD X.K C G0 Γ E f κ) GO)):=cQ (Fo hh hu) hg2 XQ Qj (eN he iM h2) (by decide) (by decide) h2
 have P2:PE X (.Call (.Name "sorted" p1) [.Call (.Name "set" p2) [e] [] Iw] [] pos) (P6 (CA X C) (AB (P6 (DV X C) (AB (tD X.K C G0 Γ E f κ) GO)) GO)):=bZ (zA hh hu) hg hm jy (eN P1 iM h1) (by decide) (by decide) h1
 refine P2.imp fun σ H Q jg=>jg.elim fun A oG=>oG.elim fun st ux=>ux.elim fun r q=>⟨A,st,r,?_⟩
 unfold vj R.bind at q
 cases hf:f st with
 | bad=>rw[hf] at q;exact q
 | ex c p=>rw[hf] at q;exact q
 | ok d=>
  walk_at"2,"
  intro v H1 e1 w1
  show DV X C [v] H1 (fun x H2=>CA X C [x] H2 Q)
  cases hg:jO d with
  | bad=>rw[hg] at q;exact q.elim
  | ex c p=>unfold jO at hg;split at hg <;> (try split at hg) <;> (try split at hg) <;> cases hg
  | ok d'=>
   rw[hg] at q
   unfold jO at hg
   split at hg
   ·rename_i es
    split at hg
    ·rename_i j5 hr
     split at hg
     ·rename_i hc
      cases hg
      simp only[aD4,aG0] at hc
      have he:=Bc hr
      have VC:=Bd hc.1
      refine⟨v,j5,rfl,by rw[<- he];exact w1.rep,hc.2,fun p zs hp zx nod mm=>?_⟩
      have pz:(zs.map (·.1)).Perm (dd j5):=(List.perm_ext_iff_of_nodup nod (sD j5)).mpr fun ns=>by rw[mm ns,tV]
      have hl:zs.length<=50:=by
       have h1:=pz.length_eq
       rw[aC8] at h1
       have:=Qk j5
       lia
      have hR:Rows (zs.map (·.1)):=by
       obtain ⟨n,hn⟩:=VC
       exact⟨n,fun ns h=>hn ns ((mm ns).mp h)⟩
      have e2:aB H1 (upd H1 p (.ext (HX X.prog X.w p zs))):=cz hp
      refine⟨p,zs,rfl,bN,fun z hz=>aB.tup e2 (zx z hz),hl,hR,fun p' ws Gx BS xK GB=>?_⟩
      have wz:=e1.trans e2
      refine q _ _ (wz.trans (cz BS)) (.lst r wz BS ?_)
      have hs:dm (Gx.map qA)=dm ((dd j5).map qA):=Be (Iv (by obtain ⟨n,hn⟩:=VC;exact⟨n,fun ns h=>hn ns (tV.mp h)⟩)) ((xK.trans pz).map _)
      have rw2:aH X.K C (upd H1 p (.ext (HX X.prog X.w p zs))) (dm ((dd j5).map qA)) ws:=by rw[<- hs];exact GB
      exact rw2.part (.nw wz) _ (fV fun d hd=>jL (Fz _) ((cG _).mem_iff.mp hd))
     ·cases hg
    ·cases hg
   ·cases hg
def aA9(i:Nat)(fi f:DF):DS:=fun st=>match f st with
 | .ok d=>match st[i]? with
  | some (some (.lst ds))=>match fi st with
   | .ok (.int k)=>match K8 ds.length k with
    | some j=>.nx (st.set i (some (.lst (ds.set j d))))
    | none=>.bad
   | .ok _=>.bad
   | .ex c p=>.ex c p st
   | .bad=>.bad
  | _=>.bad
 | .ex c p=>.ex c p st
 | .bad=>.bad
def Bf(i j:Nat)(fs:DA):DS:=fun st=>match fs st with | .ok [a,b]=>.nx ((st.set i (some a)).set j (some b)) | .ok _=>.bad | .ex c p=>.ex c p st | .bad=>.bad
theorem Iz{i j:Nat}{x y:Str}{k k':SK}{px py pt:Pos}{kt k2 OO}(hc:X.calm=true)(hN:X.N.Nodup)(ha:PA X [a,b] (Ft X.K C G0 Γ E fs .new))(oq:i≠j)(hk:Γ[i]?=some k:=by rfl)(hk':Γ[j]?=some k':=by rfl)
  (hl:k.takes .old=true:=by rfl) (DO:k'.takes .old=true:=by rfl) (hi:X.N[i]?=some x:=by rfl) (hj:X.N[j]?=some y:=by rfl) (hx:X.env.scope.names.lookup x=some .local:=by rfl) (hy:X.env.scope.names.lookup y=some .local:=by rfl)
  (hw:swappedStores [.Tuple [.Name x px,.Name y py] kt pt] (.Tuple [a,b] k2 OO) X.env=pure (some [x,y]):=by rfl)
  (hs:swapsWithSole [.Tuple [.Name x px,.Name y py] kt pt] (.Tuple [a,b] k2 OO) pos.line X.env=pure false:=by rfl) :
  PS X (.Assign [.Tuple [.Name x px,.Name y py] kt pt] (.Tuple [a,b] k2 OO) pos) (r9 X.K C G0 Γ E gx (Bf i j fs)):=(ON hc hN hi hj oq hx hy ha hw hs).imp fun D σ H zz=>by
 walk_at".01"
 unfold Bf at q
 cases hf:fs st with
 | bad=>rw[hf] at q;exact q
 | ex c p=>rw[hf] at q;exact fun H' e'=>q σ H' A (r.mono e') (aG e')
 | ok ds=>
  walk_at"2"
  match ds,q with
  | [a,b],q=>
   intro vs H1 e1 w
   rw[aH] at w
   obtain ⟨v,r1,rfl,wa,w⟩:=w
   obtain ⟨v',rfl,wb⟩:=ou w
   refine⟨v,v',rfl,?_⟩
   have wa':Rep X.K C (er H1 A) a v:=wa.same (r.wj e1) _
   have wb':Rep X.K C (er H1 A) b v':=wb.same (r.wj e1) _
   refine bM ((r.mono e1).set (.refl _) hk hl (κ:=.old) wa') fun A1 s1 ee1 _=>?_
   refine bM (s1.set (.refl _) hk' DO (κ:=.old) (wb'.same ee1 _)) fun A2 s2 ee2 _=>?_
   exact q _ _ A2 s2 (((aG e1).trans ee1).trans ee2)
  | [],q=>exact q.elim
  | [_],q=>exact q.elim
  | _::_::_::_,q=>exact q.elim
def yC(bind:DB)(f:DF):DS:=fun st=>match f st with | .ok d=>(match bind d st with | some st'=>.nx st' | none=>.bad) | .ex c p=>.ex c p st | .bad=>.bad
theorem Ly{tg:Expr}{g:TG}{bind:DB}(he:PE X e (tD X.K C G0 Γ E f κ))(l:κ.le .old=true)(hg:PG X tg g)(hB:qG X.K C G0 Γ g bind)(hs:swapsWithSole [tg] e pos.line X.env=pure false:=by rfl)(hw:swappedStores [tg] e X.env=pure none:=by rfl)
  (h1:(assignEach [tg] X.env).map (·.2)=[assign tg X.env]:=by rfl):PS X (.Assign [tg] e pos) (r9 X.K C G0 Γ E gx (yC bind f)):=(GA he hg hs hw h1).imp fun D σ H zz=>by
 walk_at".01"
 unfold yC at q
 cases hf:f st with
 | bad=>rw[hf] at q;exact q
 | ex c p=>rw[hf] at q;exact fun H' e'=>q σ H' A (r.mono e') (aG e')
 | ok d=>
  walk_at"2,"
  intro v H1 e1 w
  cases hb:bind d st with
  | none=>rw[hb] at q;exact q.elim
  | some st'=>
   rw[hb] at q
   exact hB σ H1 A st st' d v _ (r.mono e1) (w.le r e1 (κ':=.old) l) hb fun cN A' r' e' _=>q cN H1 A' r' ((aG e1).trans e')
def xT(X:Cx)(P:L2.St->Prop)(n:Nat)(e:Expr):Prop:=∀(pins:List (Addr×Obj)) (s:Shared) (σ:L2.St) (H:Hp) (Q:Value->Shared->Prop) (Ex:Value->Shared->Prop),L2.Inv X pins σ H s->P σ->(∀x t s',L2.Inv X pins σ H s'->x.length<=n->Q (.str x t) s')->wpAny (model X.prog X.w) X.A (eval e X.env) Q Ex s
theorem jz{P:L2.St->Prop}{x:Str}{j}{n:Nat}(h:x.length<=n:=by decide):xT X P n (.Constant (.str x) j pos):=fun pins s σ H Q Ex I p q=>Calls.Constant_str (q _ _ _ (I.tok _) h)
theorem Bg{P:L2.St->Prop}{x:Str}{i:Int}{t:Tok}{n:Nat}{p:Pos}(hm:X.mg x=some (.int i t))(hs:i.natAbs.log2 < 1920)(hl:(toString i:Str).length<=n)(hg:Gl X x:=by rfl)(hd:(x==("__debug__" : Str))=false:=by decide):xT X P n (.FormattedValue (.Name x p) (-1) none pos):=fun pins s σ H Q Ex I pp q=>
 FormattedValue_plain (rL I hg hm (formatField_int_small hs (q _ _ _ (I.tok _) hl)) hd)
end
end Dm
end VB
section ag7
namespace Dm
open PySem PySem.Spec PyProof.Rows L2 PySem.W
def Ql(c:Addr):Nat:=c+3
end Dm
end ag7
section ag8
namespace Dm
open PySem PySem.Spec PyProof.Rows L2
abbrev wB(X:Cx)(scope:Scope)(cl:List (Str×Addr))(N':List Str)(fp:List Addr)(s:Shared)(H:Hp)(L:Addr):Cx:=
 { X with N:=N',gW:=s,Gv:=H,env:=compEnvC scope cl L X.env,outer:=X.stack,ex:=fp,fn:=fun _=>false,pn:=[],xe:=fun _ _=>False }
def RP(X:Cx)(scope:Scope)(cl:List (Str×Addr)):List (Nat×Str)->Prop
 | []=>True
 | (i,x)::r=>(X.N[i]?=some x/\X.env.kindOf x=some .cell/\cl.lookup x=X.env.cells.lookup x/\(relabel scope X.env).names.lookup x=some .cell)/\RP X scope cl r
theorem RP.get{X:Cx}{scope:Scope}{cl:List (Str×Addr)}:∀{l:List (Nat×Str)} {p:Nat×Str},RP X scope cl l->p∈l->X.N[p.1]?=some p.2/\X.env.kindOf p.2=some .cell/\cl.lookup p.2=X.env.cells.lookup p.2/\(relabel scope X.env).names.lookup p.2=some .cell
 | _::_,_,h,.head _=>h.1
 | _::_,_,h,.tail _ m=>h.2.get m
section
variable {X:Cx}{pins:List (Addr×Obj)}{σ:L2.St}{H:Hp}{s:Shared}{scope:Scope}{cl:List (Str×Addr)}{N':List Str}{fp:List Addr}{L:Addr}
theorem Qm(I:L2.Inv X pins σ H s)(hk:scope.kind = .function)(hL:s.heap.objs.size<=L)(Al:∀x c,cl.lookup x=some c->X.env.cells.lookup x=some c)(FA:∀x,((relabel scope X.env).names.lookup x=some .cell\/(relabel scope X.env).names.lookup x=some .free)->∃c,cl.lookup x=some c)
  (hf:∀b∈fp,yZ X pins H b) (XW:∀b∈fp,b < s.heap.objs.size):(wB X scope cl N' fp s H L).Ok where
 mod:=I.ok.mod
 kind:=hk
 glob:=I.ok.glob
 blt:=I.ok.blt
 above:=hL
 inj:=fun x y c h1 h2=>I.ok.inj x y c (Al _ _ h1) (Al _ _ h2)
 has:=FA
 Rz:=fun x c z=>(nomatch z)
 hd:=I.ok.hd
 frames:=I.ok.frames
 Gw:=.inl rfl
 Se:=fun b hb=>⟨aE5 (aE8 (XW b hb) hL),fun x c h=>(hf b hb).2.2.2.2.1 x c (Al _ _ h)⟩
 bs:=I.bs
 K6:=aD5 I.ok.K6 I.sz
 ED:=fun b o e hb=>by
  rcases (hf b hb).2.2.2.1 with z | z
  ·exact I.ok.ED b o e z
  ·exact absurd (aE8 (aD9 e) (aD5 I.ok.K6 z)) (Nat.lt_irrefl _)
 EE:=fun b hb z=>by
  rcases aC6.mp (I.BX b z) with e | e
  ·exact(hf b hb).2.1 e
  ·exact(hf b hb).2.2.1 e
 tu:=I.stack
 Ny:=I.Dl
def oR{α:Type}(k:Nat)(fr:List Nat)(σ:List (Option α)):List (Option α):=List.replicate k none++fr.map fun i=>(σ[i]?).join
theorem Bh{α:Type}{k:Nat}{fr:List Nat}{σ:List (Option α)}{j:Nat}{v:α}(h:(oR k fr σ)[j]?=some (some v)):∃i,k<=j/\fr[j - k]?=some i/\σ[i]?=some (some v):=by
 unfold oR at h
 by_cases hj:j < k
 ·rw[aG3 (by simpa using hj),List.getElem?_replicate,aC2 hj] at h;cases h
 ·rw[aG2 (by simpa using Nat.le_of_not_lt hj),List.length_replicate,aE3] at h
  cases hi:fr[j - k]? with
  | none=>rw[hi] at h;cases h
  | some i=>
   rw[hi] at h
   have h':(σ[i]?).join=some v:=aE1 h
   refine⟨i,Nat.le_of_not_lt hj,rfl,?_⟩
   cases hs:σ[i]? with
   | none=>rw[hs] at h';cases h'
   | some o=>rw[hs] at h';rw[show o=some v from h']
theorem IA{α:Type}{k:Nat}{fr:List Nat}{σ:List (Option α)}{j i:Nat}{v:α}(hj:k<=j)(hi:fr[j - k]?=some i)(h:σ[i]?=some (some v)):(oR k fr σ)[j]?=some (some v):=by
 unfold oR
 rw[aG2 (by simpa using hj),List.length_replicate,aE3,hi]
 show some ((σ[i]?).join)=_
 rw[h];rfl
theorem Lz{s1:Shared}{H1:Hp}{gy:List Str}{caps:List (Nat×Str)}{m:Str->Option Value}(I:L2.Inv X pins σ H s)(ok:(wB X scope cl (gy++caps.map (·.2)) fp s H L).Ok)(FE:RP X scope cl caps)(Al:∀x c,cl.lookup x=some c->X.env.cells.lookup x=some c)
  (ho:s1.os=s.os) (hb:AllBare s1.gens) (un:Un (vF X.stack) fp H H1 s.heap s1.heap) (kc:∀b o,s.heap.get? b=some o->s1.heap.get? b=some o) (hn:s1.heap.Ns L m) (hL:H1 L=none) (Dp:∀x c,cl.lookup x=some c->H1 c=none) (eE:t9 X.prog X.w H1 s1.heap) :
  L2.Inv (wB X scope cl (gy++caps.map (·.2)) fp s H L) [] (oR gy.length (caps.map (·.1)) σ) H1 s1:=by
 refine⟨ok,ho,hb,un,⟨m,hn,fun j x v h1 h2 h3=>?_⟩,fun x c h=>?_,hL,Dp,fun p hp=>(by cases hp),eE,(by unfold oR;simp)⟩
 ·refine bM (Bh h2) fun i hj hi hs=>?_
  rw[aG2 hj,aE3] at h1
  rw[aE3] at hi
  cases hc:caps[j - gy.length]? with
  | none=>rw[hc] at h1;cases h1
  | some p=>
   rw[hc] at h1 hi
   cases h1;cases hi
   refine BV (FE.get (aG7 hc)) fun c1 c2 c3 c4=>?_
   refine aM I.loc fun m0 hn0 Q6=>?_
   refine aM (Q6 p.1 p.2 v c1 hs (.inr (.inl c2))) fun u ru lk=>?_
   refine⟨u,ru,.inr ⟨.inl c4,?_⟩⟩
   rcases lk with ⟨z,_⟩ | ⟨_,c,e1,e2⟩
   ·rw[c2] at z;cases z
   ·refine aM e2 fun o e3 e4=>?_
    clear e2
    exact⟨c,c3.trans e1,o,kc _ _ e3,e4⟩
 ·obtain ⟨v,q⟩:=I.cell x c (Al _ _ h)
  refine aM q fun o e3 e4=>?_
  clear q
  exact⟨v,o,kc _ _ e3,e4⟩
end
end Dm
end ag8
section VD
namespace Dm
open PySem PySem.Spec PyProof.Rows L2
abbrev wC:L2.St->XK:=fun _ _ _ _=>False
theorem vo{X:Cx}{e:Value}{s:Shared}(h:kI X wC e s):False:=by
 obtain ⟨_,_,_,_,_,_,_,_,q,_⟩:=h
 exact q
def ig(bind:DB)(test elt:DF):List D->dX->R (List D)
 | [],_=>.ok []
 | d::ds,st=>match bind d st with
  | none=>.bad
  | some jh=>match test jh with
   | .ok (.bl true)=>(match elt jh with
    | .ok e=>(match ig bind test elt ds jh with | .ok r=>.ok (e::r) | _=>.bad)
    | _=>.bad)
   | .ok (.bl false)=>ig bind test elt ds jh
   | _=>.bad
def zK(Γ:List SK):Prop:=∀(i:Nat) (k:SK),Γ[i]?=some k->k=SK.par
section
variable {K:Frag}{C:Cfg}{G0:Hp}{Γ:List SK}{σ:L2.St}{H:Hp}{A B:List Addr}{st:dX}
theorem CF{A B:List Addr}(h:∀a∈B,a∈A):aB (er H A) (er H B):=fun b o e=>by
 by_cases ha:b∈A
 ·rw[dM ha] at e;cases e
 ·rw[aS ha] at e
  rw[aS fun z=>ha (h b z)];exact e
theorem RS.VE(r:RS K C G0 Γ σ H A st)(AK:zK Γ)(sub:∀a∈B,a∈A):RS K C G0 Γ σ H B st where
 base:=r.base.trans (CF sub)
 lists:=fun a m=>r.lists a (sub a m)
 len:=r.len
 slot:=fun i d h=>by
  refine b6 (r.slot i d h) fun k v h1 h2 h3=>?_
  obtain rfl:=AK i k h1
  exact⟨.par,v,h1,h2,Rep.same (CF sub) _ h3⟩
 apart:=fun i j n m p ds es oq g1=>by have:=AK i _ g1;cases this
theorem RS.Qn(r:RS K C G0 Γ σ H A st)(AK:zK Γ){a:Addr}{ys:List V}(ha:a∈A):RS K C G0 Γ σ (upd H a (.lst ys)) A st:=by
 have ee:er (upd H a (.lst ys)) A=er H A:=by
  funext b
  by_cases mb:b∈A
  ·rw[dM mb,dM mb]
  ·rw[aS mb,aS mb,aX (fun z:b=a=>mb (by rw[z];exact ha))]
 refine⟨by rw[ee];exact r.base,fun b m=>?_,r.len,fun i d h=>?_,fun i j n m p ds es oq g1=>by have:=AK i _ g1;cases this⟩
 ·by_cases hb:b=a
  ·subst hb;exact⟨_,bN,rfl⟩
  ·rw[aX hb];exact r.lists b m
 ·refine b6 (r.slot i d h) fun k v h1 h2 h3=>?_
  obtain rfl:=AK i k h1
  exact⟨.par,v,h1,h2,by show Rep K C (er _ A) d v;rw[ee];exact h3⟩
end
def part(n:Bool)(H2:Hp)(acc:Addr)(B:List Addr)(H:Hp):Hp:=if n=true then nw H2 (er H [acc]) else er H (acc::B)
theorem yD{n:Bool}{H2 H H':Hp}{acc:Addr}{B:List Addr}(e:aB H H'):aB (part n H2 acc B H) (part n H2 acc B H'):=by
 unfold part;cases n
 ·exact aG e
 ·exact bK (aG e)
theorem IB{n:Bool}{H2 H:Hp}{acc:Addr}{B:List Addr}{o:HO}:part n H2 acc B (upd H acc o)=part n H2 acc B H:=by
 have e:∀A:List Addr,acc∈A->er (upd H acc o) A=er H A:=fun A m=>by
  funext b
  by_cases mb:b∈A
  ·rw[dM mb,dM mb]
  ·rw[aS mb,aS mb,aX (fun z:b=acc=>mb (by rw[z];exact m))]
 unfold part
 rw[e [acc] (.head _),e (acc::B) (.head _)]
theorem FF{X:Cx}{ft:DF}{C:Cfg}{G0:Hp}{Γ:List SK}{E:L2.St->XK}:∀(pins:List (Addr×Obj)) (s:Shared) (σ:L2.St) (H:Hp) (Q:Bool->Hp->Prop),L2.Inv X pins σ H s->An X.K C G0 Γ E (dC (.bl true)) σ H Q->
  wpAny (model X.prog X.w) X.A (forIn ([]:List Expr) true fun c r=>if r=true then do let ok <- isTrue c X.env (eval c X.env);pure (ForInStep.yield ok) else pure (ForInStep.yield r)) (TP X pins σ Q) X.xe s:=fun pins s σ H Q I jg=>jg.elim fun A oG=>oG.elim fun st ux=>ux.elim fun r q=>wpAny_tests_nil ⟨H,I,q H (.refl _)⟩
theorem qk{X:Cx}{c:Expr}{ft:DF}{C:Cfg}{G0:Hp}{Γ:List SK}{E:L2.St->XK}(h:PT X c (An X.K C G0 Γ E ft)):∀(pins:List (Addr×Obj)) (s:Shared) (σ:L2.St) (H:Hp) (Q:Bool->Hp->Prop),L2.Inv X pins σ H s->An X.K C G0 Γ E ft σ H Q->
  wpAny (model X.prog X.w) X.A (forIn [c] true fun c r=>if r=true then do let ok <- isTrue c X.env (eval c X.env);pure (ForInStep.yield ok) else pure (ForInStep.yield r)) (TP X pins σ Q) X.xe s:=fun pins s σ H Q I q=>wpAny_tests_one (h pins s σ H Q I q)
section
variable {X:Cx}{C:Cfg}{G0:Hp}{Γ:List SK}{tg iter elt:Expr}{ifs:List Expr}{scope:Scope}{pos:Pos}{fp:List Addr}{it acc:Addr}{tn:Nat->Heap->Prop}{J:It}{g:TG}{bind:DB}{ft fe:DF}{vp:Kd}{n:Bool}{H2:Hp}{B:List Addr}{ds total:List D}{R:Result->Shared->Prop}
def wD(X:Cx)(C:Cfg)(G0:Hp)(Γ:List SK)(acc:Addr)(bind:DB)(ft fe:DF)(n:Bool)(H2:Hp)(B:List Addr)(ds total:List D)(i:Nat)(s:Shared)(σ:L2.St)(H:Hp):Prop:=
 ∃st ys es,L2.Inv X [] σ H s/\H acc=some (.lst ys)/\RS X.K C G0 Γ σ H (acc::B) st/\aB H2 (er H [acc])/\aH X.K C (part n H2 acc B H) es ys/\es.length<=i/\
  ∃rest,ig bind ft fe (ds.drop i) st = .ok rest/\es++rest=total
theorem FG(T:Turn X.prog X.w X.K tg J fp it tn)(E6:X.calm=true)(XX:∀b∈fp,b∈X.ex/\b≠X.env.locals/\b∉X.fs/\(∀x c,X.env.cells.lookup x=some c->c≠b))(hpn:X.pn=[])(AK:zK Γ)(hJ:Fv X.K C B H2 J ds)(hB:qG X.K C G0 Γ g bind)(hG:PG (X.dj (kI X wC)) tg g)
  (hT:∀(pins:List (Addr×Obj)) (s:Shared) (σ:L2.St) (H:Hp) (Q:Bool->Hp->Prop),L2.Inv (X.dj (kI X wC)) pins σ H s->An X.K C G0 Γ wC ft σ H Q->
   wpAny (model X.prog X.w) X.A (forIn ifs true fun c r=>if r=true then do let ok <- isTrue c X.env (eval c X.env);pure (ForInStep.yield ok) else pure (ForInStep.yield r)) (TP (X.dj (kI X wC)) pins σ Q) (kI X wC) s)
  (hE:PE (X.dj (kI X wC)) elt (tD X.K C G0 Γ wC fe vp)) (hn:n=true->vp = .new) (yW:n=false->vp.le .old=true) (CG:H2 acc=none) (mJ:ds.length<=5000)
  (fin:∀s σ H,wD X C G0 Γ acc bind ft fe n H2 B ds total ds.length s σ H->R (.ok .next) s) :
  ∀s σ H,wD X C G0 Γ acc bind ft fe n H2 B ds total 0 s σ H->tn 0 s.heap->(∀b∈fp,H b=none)->codeAny (model X.prog X.w) X.A (.compLoop (.ListComp elt [⟨tg,iter,ifs,0⟩] scope pos) 0 (.ref it) (.ref acc) X.env) R s:=fun s0 σ0 H0 h0 t0 f0=>by
 refine codeAny_loop rfl (fun m s=>∃i σ H,m=ds.length - i/\i<=ds.length/\wD X C G0 Γ acc bind ft fe n H2 B ds total i s σ H/\tn i s.heap/\∀b∈fp,H b=none) (fun m s Dv=>?_) ds.length ⟨0,σ0,H0,rfl,aI2 _,h0,t0,f0⟩
 refine Ao Dv fun i σ H hm hi iv RQ RA=>?_
 clear Dv
 subst hm
 show wpAny _ X.A ((compTurn (.ListComp elt [⟨tg,iter,ifs,0⟩] scope pos) 0 (.ref it) (.ref acc) X.env).onRaise (fun x=>do noteFrame x X.env;theTreesLotGoes x)) _ _ s
 refine wpAny_noted ?_
 rw[compTurn_list]
 obtain ⟨st,ys,es,I,hH,r,e2,rp,hl,rest,m9,Qo⟩:=id iv
 have Qp:∀{H':Hp},(∀b∈fp,H' b=none)->∀b∈fp,yZ X [] H' b:=fun hn b hb=>⟨hn b hb,(XX b hb).2.1,(XX b hb).2.2.1,.inl (XX b hb).1,(XX b hb).2.2.2,fun p hp=>by rw[hpn] at hp;cases hp⟩
 have hJi:=hJ i H (acc::B) (fun b o e=>by
  by_cases hb:b∈B
  ·rw[dM hb] at e;cases e
  ·rw[aS hb] at e
   have z:=e2 b o e
   by_cases ha:b=acc
   ·subst ha;rw[CG] at e;cases e
   ·rw[aS (by simpa using ha)] at z
    rw[aS (by simp[ha,hb])];exact z) (fun a m=>by obtain ⟨xs,q,_⟩:=r.lists a m;rw[q];simp)
 cases hd:ds[i]? with
 | none=>
  have hge:=aH6.mp hd
  obtain rfl:i=ds.length:=Nat.le_antisymm hi hge
  refine aB8 (wpAny_standAt (aB8 (aI3 (T.done X rfl rfl rfl E6 _ [] s σ H _ I (Qp RA) RQ (hJi.2 hd)) (fun rr s1 EZ=>?_) fun _ _ h=>h)))
  obtain ⟨hr,I1⟩:=EZ
  subst hr
  exact aB9 (fin s1 σ H ⟨st,ys,es,I1,hH,r,e2,rp,hl,rest,m9,Qo⟩)
 | some d=>
  have iI:i < ds.length:=(aD7.mp hd).1
  have hdr:ds.drop i=d::ds.drop (i+1):=by
   rw[List.drop_eq_getElem_cons iI]
   congr 1
   exact(aD7.mp hd).2
  rw[hdr,ig] at m9
  obtain ⟨go,yl⟩:=hJi.1 d hd
  refine aB8 (wpAny_standAt (aB8 (aI3 (T.item X rfl rfl rfl E6 i [] s σ H _ I (Qp RA) RQ go) (fun rr s1 Gh=>?_) fun _ _ h=>h)))
  refine aM Gh fun u hr h1=>?_
  clear Gh
  subst hr
  refine aB8 (aI3 h1 (fun _ s3 BY=>?_) fun _ _ h=>h)
  refine EB BY fun x H3 I3 rx hy tn3 XY=>?_
  clear BY
  obtain ⟨e3,wx⟩:=yl x H3 hy
  have I3p:=I3.pinned (Qp XY) (T.obj _ _ tn3)
  cases hb:bind d st with
  | none=>rw[hb] at m9;cases m9
  | some jh=>
   rw[hb] at m9
   dsimp only at m9
   have r3:=r.mono e3
   refine aB8 (aI3 (hG _ s3 σ H3 x u (fun Gp H4=>H4=H3/\∃A4,RS X.K C G0 Γ Gp H3 A4 jh/\∀a∈acc::B,a∈A4) (I3p.dj _) rx (hB σ H3 (acc::B) st jh d x _ r3 wx hb fun Gp A4 r4 _ sb=>⟨rfl,A4,r4,sb⟩)) (fun _ s4 Dq=>?_) fun _ _ h=>(vo h).elim)
   obtain ⟨Gp,H4,I4,hH4,A4,r4,sb⟩:=Dq
   subst hH4
   have VF:=r4.VE AK sb
   have hH3:H4 acc=some (.lst ys):=e3 _ _ hH
   have again:∀{s9:Shared} {XZ:L2.St} {H9:Hp},L2.Inv X ([]++vJ fp s3.heap) XZ H9 s9->wD X C G0 Γ acc bind ft fe n H2 B ds total (i+1) s9 XZ H9->∃m,m < ds.length - i/\∃i' cN H',m=ds.length - i'/\i'<=ds.length/\wD X C G0 Γ acc bind ft fe n H2 B ds total i' s9 cN H'/\tn i' s9.heap/\∀b∈fp,H' b=none:=fun {s9 XZ H9} I9 c9=>by
    refine⟨ds.length - (i+1),by lia,i+1,XZ,H9,rfl,iI,c9,T.keep _ _ _ tn3 fun b hb o e=>(I9.pin (b,o) (aF7 _ (aF7 _ (mK hb e)))).1,fun b hb=>?_⟩
    refine aM (T.obj _ _ tn3 b hb) fun o e _=>?_
    exact(I9.pin (b,o) (aF7 _ (aF7 _ (mK hb e)))).2.1
   have ep:aB H2 (er H4 [acc]):=e2.trans (aG e3)
   refine aB8 (aI3 (hT _ s4 Gp H4 (fun b H5=>aB H4 H5/\ft jh = .ok (.bl b)) I4 ⟨acc::B,jh,VF,?_⟩) (fun ok s5 Hh=>Hh.elim fun H5 yX=>yX.elim fun I5 Cf=>Cf.elim fun e5 eE=>?_) fun _ _ h=>(vo h).elim)
   ·cases hf:ft jh with
    | bad=>rw[hf] at m9;cases m9
    | ex c p=>rw[hf] at m9;cases m9
    | ok t=>
     rw[hf] at m9
     cases t with
     | bl b=>exact fun H' e'=>⟨e',rfl⟩
     | _=>cases m9
   ·rw[eE] at m9
    have ep5:=ep.trans (aG e5)
    cases ok with
    | false=>
     dsimp only at m9
     exact aB9 ⟨rfl,again I5.gZ ⟨jh,ys,es,(I5.gZ).rJ (fun p hp=>by cases hp),e5 _ _ hH3,VF.mono e5,ep5,rp.same (yD (e3.trans e5)) _,by lia,rest,m9,Qo⟩⟩
    | true=>
     dsimp only at m9
     cases Y0:fe jh with
     | bad=>rw[Y0] at m9;cases m9
     | ex c p=>rw[Y0] at m9;cases m9
     | ok de=>
      rw[Y0] at m9
      dsimp only at m9
      refine aB8 (aB8 (aI3 (hE _ s5 Gp H5 (fun v H6=>aB H5 H6/\Val X.K C vp G0 (acc::B) H5 H6 de v) I5 ⟨acc::B,jh,VF.mono e5,?_⟩) (fun ue s6 xF=>xF.elim fun v Cg=>Cg.elim fun H6 Hj=>Hj.elim fun I6 Pj=>Pj.elim fun rv Pn=>Pn.elim fun e6 wv=>?_) fun _ _ h=>(vo h).elim))
      ·rw[Y0];exact fun v H' e' w=>⟨e',w⟩
      ·have Y3:=e5.trans e6
       have hH6:H6 acc=some (.lst ys):=Y3 _ _ hH3
       have wp:Rep X.K C (part n H2 acc B H6) de v:=by
        cases n with
        | true=>
         obtain rfl:=hn rfl
         refine wv.1.same (fun b o z=>?_) _
         unfold nw at z
         split at z
         ·rename_i kk
          have hb:b≠acc:=fun w=>by subst w;rw[e5 _ _ hH3] at kk;cases kk
          show nw H2 (er H6 [acc]) b=_
          unfold nw
          rw[aC2 (mR (ep5.trans (aF _ _)) kk),aS (by simpa using hb)]
          exact z
         ·cases z
        | false=>exact Val.le (VF.mono e5) e6 (κ':=.old) (yW rfl) wv
       refine aB8 (aI3 (iN (X:=X.dj (kI X wC)) _ s6 Gp H6 (.ref acc) [v] (.ref acc) [ue] (fun z H7=>H7=upd H6 acc (.lst (ys++[v]))) I6 rfl (.cons rv .nil) ⟨acc,ys,v,rfl,rfl,hH6,?_,rfl⟩) (fun _ s7 Po=>Po.elim fun z ag9=>ag9.elim fun H7 ah0=>ah0.elim fun I7w OG=>OG.elim fun _ hH7=>?_) fun _ _ h=>(vo h).elim)
       ·rw[rp.len]
        have:5001<=sizeLine:=by rw[aG6];decide
        lia
       ·subst hH7
        have I7:=I7w.gZ
        refine aB9 (aB9 ⟨rfl,again I7 ?_⟩)
        cases Y4:ig bind ft fe (ds.drop (i+1)) jh with
        | bad=>rw[Y4] at m9;cases m9
        | ex c p=>rw[Y4] at m9;cases m9
        | ok VG=>
         rw[Y4] at m9
         cases m9
         refine⟨jh,ys++[v],es++[de],I7.rJ (fun p hp=>by cases hp),bN,((VF.mono Y3)).Qn AK (.head _),?_,?_,by simp;lia,VG,Y4,by simpa using Qo⟩
         ·have:er (upd H6 acc (.lst (ys++[v]))) [acc]=er H6 [acc]:=by
           funext b
           by_cases mb:b∈[acc]
           ·rw[dM mb,dM mb]
           ·rw[aS mb,aS mb,aX (by simpa using mb)]
          rw[this]
          exact ep.trans (aG Y3)
         ·rw[IB]
          exact(rp.same (yD (e3.trans Y3)) _).app (.cons wp .nil)
end
end Dm
end VD
section VH
namespace Dm
open PySem PySem.Spec PyProof.Rows L2
def zB(z:Bool)(A:List Addr):List Addr:=if z=true then A else []
def LA(K:Frag)(C:Cfg)(G0:Hp)(Γ:List SK)(E:L2.St->XK)(z:Bool)(gi:DI):TI:=fun σ H Rr=>∃A st,RS K C G0 Γ σ H A st/\match gi st with
 | .ok ds=>∀J H',aB H H'->Fv K C (zB z A) H' J ds->Rr J H'
 | .ex c p=>∀H',aB H H'->Gm (E σ) c p H'
 | .bad=>False
theorem _root_.L2.PI.imp{X:Cx}{tg e:Expr}{t t':TI}(h:PI X tg e t)(i:∀σ H Q,t' σ H Q->t σ H Q):PI X tg e t':=fun pins s σ H Q I q=>h pins s σ H Q I (i σ H Q q)
section
variable {X:Cx}{C:Cfg}{G0:Hp}{Γ:List SK}{E:L2.St->XK}{tg iter a:Expr}{f:DF}{κ:Kd}{z:Bool}
theorem IC{A:List Addr}:∀a∈zB z A,a∈A:=fun a h=>by unfold zB at h;cases z with | true=>exact h | false=>cases h
theorem zL(he:PE X iter (tD X.K C G0 Γ E f κ))(l:z=true->κ.le .old=true):PI X tg iter (LA X.K C G0 Γ E z (eK f)):=(Ds he).imp fun σ H Q zz=>by
 walk_at".01"
 unfold eK at q
 cases hf:f st with
 | bad=>rw[hf] at q;exact q
 | ex c p=>rw[hf] at q;exact q
 | ok d=>
  walk_at"2"
  cases d with
  | lst ds=>
   walk_at","
   intro v H1 e1 w
   have w':Rep X.K C (er H1 (zB z A)) (.lst ds) v:=by
    unfold zB
    cases z with
    | true=>exact w.le r e1 (κ':=.old) (l rfl)
    | false=>rw[aC3 (by decide),mV];exact w.rep
   rw[Rep] at w'
   refine b6 w' fun a xs aR h2 h3=>?_
   clear w'
   walk_at"#"
   refine⟨a,rfl,⟨xs,(aF _ _).seq h2⟩,q _ _ e1 fun i H3 A3 e3 _=>⟨fun d hd=>?_,fun hd=>?_⟩⟩
   ·refine aM (h3.get' hd) fun v hv rv=>?_
    have s3:ko X.K H3 a xs:=(e3.trans (aF _ _)).seq h2
    refine⟨⟨xs,v,s3,hv⟩,fun x H' jg=>?_⟩
    obtain ⟨hH,hx⟩:=jg
    subst hH
    have:=hx xs s3
    rw[hv] at this;cases this
    exact⟨.refl _,rv.same ((aF _ _).trans e3) _⟩
   ·exact⟨xs,(e3.trans (aF _ _)).seq h2,by rw[h3.len];exact aH6.mp hd⟩
  | _=>exact q.elim
theorem Bj{pins:List (Addr×Obj)}{σ:L2.St}{H:Hp}{s:Shared}{L:Addr}{h':Heap}(I:L2.Inv X pins σ H s)(hH:H L=none)(hL:L≠X.env.locals)(hS:X.gW.heap.objs.size<=L)(hc:∀x c,X.env.cells.lookup x=some c->c≠L)(hp:∀p∈X.pn++pins,p.1≠L)(hs:Heap.SameBut L s.heap h'):L2.Inv X pins σ H { s with heap:=h' }:=by
 have kp:∀b o,b≠L->s.heap.get? b=some o->h'.get? b=some o:=fun b o hb e=>(hs.2 b hb).trans e
 refine Inv.Av I (s':={ s with heap:=h' }) (ch:=[L]) rfl ⟨fun b o e n nf nx=>kp b o (by simpa using nx) e,fun b o e n nf nx=>⟨o.slots,kp b o (by simpa using nx) e⟩,fun b o e n nx=>n,fun b o e nx=>⟨o,kp b o (by simpa using nx) e⟩,fun b xs q=>q,fun b o u q=>q,fun b ps q=>⟨#[],by rw[q];simp⟩⟩ (fun b u e=>?_) I.bare (fun b hb=>?_)
 ·refine(I.eE b u e).yS (fun c v uT q=>kp c v ?_ q) (fun _ q=>q) fun _ _ q=>q
  rintro rfl
  rcases uT with rfl | uT
  ·rw[hH] at e;cases e
  ·rw[hH] at uT;cases uT
 ·obtain rfl:b=L:=by simpa using hb
  exact⟨.inr hS,hL,hc,hp⟩
end
section
variable {X:Cx}{C:Cfg}{G0:Hp}{Γ:List SK}{E0:Value->Shared->Prop}{pins:List (Addr×Obj)}{σ:L2.St}{H2:Hp}{s2:Shared}{A:List Addr}{st:dX}{tg iter elt:Expr}{ifs:List Expr}{scope:Scope}{cl:List (Str×Addr)}{pos:Pos}{fp:List Addr}{it:Addr}{tn:Nat->Heap->Prop}{J:It}{g:TG}{bind:DB}{ft fe:DF}{vp:Kd}{n z:Bool}{ds total:List D}
 {gy:List Str} {caps:List (Nat×Str)} {RR:Value->Addr->Result->Shared->Prop}
def qI(m:Nat):List SK:=List.replicate m .par
theorem yE(m:Nat):zK (qI m):=fun i k h=>by unfold qI at h;rw[List.getElem?_replicate] at h;split at h <;> cases h;rfl
structure wF(X:Cx)(C:Cfg)(pins:List (Addr×Obj))(σ:L2.St)(n:Bool)(H2:Hp)(B:List Addr)(total:List D)(acc L:Addr)(s':Shared)(H':Hp)(ys:List V):Prop where
 inv:L2.Inv X pins σ H' s'
 ns:∃m,s'.heap.Ns L m
 hL:H' L=none
 lL:L≠X.env.locals
 sL:X.gW.heap.objs.size<=L
 cL:∀x c,X.env.cells.lookup x=some c->c≠L
 pL:∀p∈X.pn++pins,p.1≠L
 new:H2 acc=none
 at':H' acc=some (.lst ys)
 same:aB H2 (er H' [acc])
 ah1:aH X.K C (part n H2 acc B H') total ys
theorem wH(I2:L2.Inv X pins σ H2 s2)(E6:X.calm=true)(r2:RS X.K C G0 Γ σ H2 A st)(T:Turn X.prog X.w X.K tg J fp it tn)(RQ:tn 0 s2.heap)(hf:∀b∈fp,yZ X pins H2 b)(hJ:Fv X.K C (zB z A) H2 J ds)(hz:z=true->∀p∈caps,Γ[p.1]?=some .par\/Γ[p.1]?=some .loc)
  (m9:ig bind ft fe ds (oR gy.length (caps.map (·.1)) st) = .ok total) (mJ:ds.length<=5000) (hk:scope.kind = .function) (vG:∀y∈scope.names,y.2≠ .cell) (Al:∀x c,cl.lookup x=some c->X.env.cells.lookup x=some c)
  (FA:∀x,((relabel scope X.env).names.lookup x=some .cell\/(relabel scope X.env).names.lookup x=some .free)->∃c,cl.lookup x=some c) (FE:RP X scope cl caps)
  (hB:qG X.K C G0 (qI (gy.length+caps.length)) g bind)
  (hG:∀s H L,PG ((wB X scope cl (gy++caps.map (·.2)) fp s H L).dj (kI (wB X scope cl (gy++caps.map (·.2)) fp s H L) wC)) tg g)
  (hT:∀s0 H0 L (pins:List (Addr×Obj)) (s:Shared) (σ:L2.St) (H:Hp) (Q:Bool->Hp->Prop),L2.Inv ((wB X scope cl (gy++caps.map (·.2)) fp s0 H0 L).dj (kI (wB X scope cl (gy++caps.map (·.2)) fp s0 H0 L) wC)) pins σ H s->An X.K C G0 (qI (gy.length+caps.length)) wC ft σ H Q->
   wpAny (model X.prog X.w) X.A (forIn ifs true fun c r=>if r=true then do let ok <- isTrue c (compEnvC scope cl L X.env) (eval c (compEnvC scope cl L X.env));pure (ForInStep.yield ok) else pure (ForInStep.yield r)) (TP ((wB X scope cl (gy++caps.map (·.2)) fp s0 H0 L).dj (kI (wB X scope cl (gy++caps.map (·.2)) fp s0 H0 L) wC)) pins σ Q) (kI (wB X scope cl (gy++caps.map (·.2)) fp s0 H0 L) wC) s)
  (hE:∀s H L,PE ((wB X scope cl (gy++caps.map (·.2)) fp s H L).dj (kI (wB X scope cl (gy++caps.map (·.2)) fp s H L) wC)) elt (tD X.K C G0 (qI (gy.length+caps.length)) wC fe vp)) (hn:n=true->vp = .new) (yW:n=false->vp.le .old=true)
  (hRR:∀acc L s' H' ys,wF X C pins σ n H2 (zB z A) total acc L s' H' ys->RR (.ref acc) L (.ok .next) s') :
  wpAny (model X.prog X.w) X.A (newList []) (fun acc Qq=>wpAny (model X.prog X.w) X.A (newFunctionEnv scope X.env.globals cl [] X.env.qual none .none (some X.env)) (fun VI ah2=>
   codeAny (model X.prog X.w) X.A (.compStart (.ListComp elt [⟨tg,iter,ifs,0⟩] scope pos) 0 (.ref it) acc { VI with scope:=relabel scope X.env }) (RR acc VI.locals) ah2) E0 Qq) E0 s2:=by
 refine wpAny_newObj_type (wpAny_newFunctionEnv vG (by intro y hy;simp at hy) (fun FH CH zM=>?_) hk)
 dsimp only at CH zM ⊢
 generalize hH2:s2.heap.push { cls:=.type "list",dict:=none,data:=.seq ([]:List Value).toArray }=G2 at CH zM ⊢
 have hC:G2.objs.size=s2.heap.objs.size+1:=by rw[<- hH2,Heap.size_push]
 have hDC:s2.heap.objs.size≠G2.objs.size:=by rw[hC];exact aE5 (Nat.lt_succ_self _)
 have below:∀b,b < s2.heap.objs.size->b≠G2.objs.size/\b≠s2.heap.objs.size:=fun b hb=>⟨by rw[hC];exact aE5 (Nat.lt_succ_of_lt hb),aE5 hb⟩
 have old:∀b o,s2.heap.get? b=some o->FH.get? b=some o:=fun b o e=>zM.extBut b o (below b (aD9 e)).1 (aC0 _ (hH2▸aC0 _ e))
 have CG:FH.get? s2.heap.objs.size=some { cls:=.type "list",data:=.seq ([]:List Value).toArray 0 }:=zM.extBut _ _ hDC (aC0 _ (hH2▸aE2 _ rfl))
 have FI:H2 s2.heap.objs.size=none:=I2.eE.fresh (aC4 _)
 have Qs:s2.heap.objs.size<=G2.objs.size:=by rw[hC];exact Nat.le_succ _
 have nL:H2 G2.objs.size=none:=I2.eE.fresh Qs
 have XW:∀b∈fp,b < s2.heap.objs.size:=fun b hb=>by obtain ⟨o,e,_⟩:=T.obj _ _ RQ b hb;exact aD9 e
 have ok:=Qm (N':=gy++caps.map (·.2)) (L:=G2.objs.size) I2 hk Qs Al FA hf XW
 have un:Un (vF X.stack) fp H2 (upd H2 s2.heap.objs.size (.lst [])) s2.heap FH:=Un.laid old (aC4 _) FI
 have eE:t9 X.prog X.w (upd H2 s2.heap.objs.size (.lst [])) FH:=I2.eE.laid old (aC4 _) ⟨aI2 _,[],0,.nil,CG⟩
 have inn:L2.Inv (wB X scope cl (gy++caps.map (·.2)) fp s2 H2 G2.objs.size) [] (oR gy.length (caps.map (·.1)) σ) (upd H2 s2.heap.objs.size (.lst [])) { s2 with heap:=FH,toks:=s2.toks+([]:List (Str×Value)).length }:=by
  refine Lz I2 ok FE Al rfl I2.bare un old CH (by rw[aX (Ne.symm hDC)];exact nL) (fun x c h=>?_) eE
  have hc:=I2.qD x c (Al _ _ h)
  have Kg:c≠s2.heap.objs.size:=fun w=>by
   obtain ⟨v,q⟩:=I2.cell x c (Al _ _ h)
   exact absurd q.lt (by rw[w];exact Nat.lt_irrefl _)
  rw[aX Kg];exact hc
 have e2:aB H2 (upd H2 s2.heap.objs.size (.lst [])):=cz FI
 have ee:aB H2 (er (upd H2 s2.heap.objs.size (.lst [])) [s2.heap.objs.size]):=fun b o e=>by
  have:b≠s2.heap.objs.size:=fun w=>by rw[w,FI] at e;cases e
  rw[aS (by simpa using this)];exact e2 b o e
 have eB:aB (er H2 (zB z A)) (er (upd H2 s2.heap.objs.size (.lst [])) (s2.heap.objs.size::zB z A)):=fun b o e=>by
  by_cases mb:b∈zB z A
  ·rw[dM mb] at e;cases e
  ·rw[aS mb] at e
   have:b≠s2.heap.objs.size:=fun w=>by rw[w,FI] at e;cases e
   rw[aS (by simp[this,mb])];exact e2 b o e
 have rin:RS X.K C G0 (qI (gy.length+caps.length)) (oR gy.length (caps.map (·.1)) σ) (upd H2 s2.heap.objs.size (.lst [])) (s2.heap.objs.size::zB z A) (oR gy.length (caps.map (·.1)) st):=by
  refine⟨(r2.base.trans (CF IC)).trans eB,fun a m=>?_,by unfold oR;simp,fun j d h=>?_,fun i j n' m' p E2 es oq g1=>by have:=yE _ i _ g1;cases this⟩
  ·rcases aC6.mp m with rfl | m
   ·exact⟨_,bN,rfl⟩
   ·obtain ⟨o,q,hM⟩:=r2.lists a (IC a m)
    exact⟨o,e2 _ _ q,hM⟩
  ·refine bM (Bh h) fun i hj hi hs=>?_
   refine b6 (r2.slot i d hs) fun k v h1 h2 h3=>?_
   have iI:j - gy.length < caps.length:=by have:=(aD7.mp hi).1;simpa using this
   refine⟨.par,v,?_,IA hj hi h2,?_⟩
   ·unfold qI;rw[List.getElem?_replicate,aC2 (by lia)]
   ·refine Rep.same eB _ ?_
    refine aM (r2.read h1 hs) fun v' w1 w2=>?_
    rw[h2] at w1;cases w1
    unfold zB
    cases z with
    | false=>rw[aC3 (by decide),mV];exact w2.rep
    | true=>
     rw[aE3] at hi
     cases hc:caps[j - gy.length]? with
     | none=>rw[hc] at hi;cases hi
     | some p=>
      rw[hc] at hi;cases hi
      rcases hz rfl p (aG7 hc) with q | q
      ·rw[h1] at q;cases q;exact h3
      ·rw[h1] at q;cases q;exact h3.1.same (dw _ _) _
 have loop:∀s3:Shared,s3={ s2 with heap:=FH,toks:=s2.toks+([]:List (Str×Value)).length }->
   codeAny (model X.prog X.w) X.A (.compLoop (.ListComp elt [⟨tg,iter,ifs,0⟩] scope pos) 0 (.ref it) (.ref s2.heap.objs.size) (compEnvC scope cl G2.objs.size X.env)) (RR (.ref s2.heap.objs.size) G2.objs.size) s3:=by
  rintro s3 rfl
  refine FG (X:=wB X scope cl (gy++caps.map (·.2)) fp s2 H2 G2.objs.size) (C:=C) (G0:=G0) (B:=zB z A) (H2:=H2) (total:=total) T E6 (fun b hb=>⟨hb,(ok.Se b hb).1,ok.EE b hb,(ok.Se b hb).2⟩) rfl (yE _) hJ hB (hG _ _ _) (hT _ _ _) (hE _ _ _) hn yW FI mJ
   (fun s' cN H' ux=>ux.elim fun st' Dv=>Dv.elim fun ys EZ=>EZ.elim fun es Gh=>Gh.elim fun I' BY=>BY.elim fun hy Dq=>Dq.elim fun r' Hh=>Hh.elim fun e' yX=>yX.elim fun rp Cf=>Cf.elim fun hl xF=>xF.elim fun rest Cg=>Cg.elim fun hg ht=>?_) _ _ _ ⟨_,[],[],inn,bN,rin,ee,.nil,aI2 _,total,by simpa using m9,rfl⟩ (T.keep _ _ _ RQ fun b hb o e=>old b o e) (fun b hb=>by rw[aX (below b (XW b hb)).2];exact(hf b hb).1)
  have hr:rest=[]:=by
   rw[List.drop_length] at hg
   exact(R.ok.inj hg).symm
  subst hr
  rw[aJ0] at ht
  subst ht
  have ah3:L2.Inv X pins σ H' s':=Inv.Av I2 I'.os I'.base I'.eE I'.bare fun b hb=>⟨(hf b hb).2.2.2.1,(hf b hb).2.1,(hf b hb).2.2.2.2.1,(hf b hb).2.2.2.2.2⟩
  refine hRR _ _ s' H' ys ⟨ah3,I'.loc.imp fun m h=>h.1,I'.free,?_,aD5 I2.sz Qs,fun x c h w=>?_,fun p hp w=>?_,FI,hy,e',rp⟩
  ·exact Ne.symm (below _ I2.lt).1
  ·obtain ⟨v,q⟩:=I2.cell x c h
   exact(below _ q.lt).1 w
  ·exact(below _ (aD9 (I2.pin p hp).1)).1 w
 exact codeAny_compStart_list (loop _ rfl) (T.self X.A 0 _ _ _ (T.keep _ _ _ RQ fun b hb o e=>old b o e) (loop _ rfl))
end
end Dm
end VH
section VJ
namespace Dm
open PySem PySem.Spec PyProof.Rows L2
def wI(z n:Bool):Kd:=if n=true then .new else if z=true then .uF else .aE
def jk(gi:DI)(k:Nat)(fr:List Nat)(bind:DB)(ft fe:DF):DF:=fun st=>match gi st with
 | .ok ds=>if ds.length<=5000 then (match ig bind ft fe ds (oR k fr st) with | .ok es=>.ok (.lst es) | _=>.bad) else .bad
 | .ex c p=>.ex c p
 | .bad=>.bad
section
variable {X:Cx}{C:Cfg}{G0:Hp}{Γ:List SK}{E:L2.St->XK}{gx:Bool}{tg iter elt:Expr}{ifs:List Expr}{scope:Scope}{cl:List (Str×Addr)}{pos:Pos}{g:TG}{bind:DB}{gi:DI}{ft fe:DF}{vp:Kd}{n z:Bool}{gy:List Str}{caps:List (Nat×Str)}
theorem wF.val{pins:List (Addr×Obj)}{σ:L2.St}{H H2:Hp}{A:List Addr}{total:List D}{acc L:Addr}{s':Shared}{H':Hp}{ys:List V}{st:dX}(b:wF X C pins σ n H2 (zB z A) total acc L s' H' ys)(r:RS X.K C G0 Γ σ H A st)(e:aB H H2):aB H H'/\Val X.K C (wI z n) G0 A H H' (.lst total) (.ref acc):=by
 have e2:aB H2 H':=b.same.trans (aF _ _)
 have eH:=e.trans e2
 refine⟨eH,?_⟩
 have h0:H acc=none:=e.free b.new
 have rp:=b.ah1
 unfold wI
 cases n with
 | true=>
  rw[aC2 rfl]
  have R0:aH X.K C (er (nw H H') [acc]) total ys:=rp.same (fun c o z=>by
   unfold part at z
   rw[aC2 rfl] at z
   by_cases hc:c=acc
   ·subst hc
    have:=dw _ _ _ _ z
    rw[dM (.head _)] at this;cases this
   ·rw[aS (by simpa using hc)]
    exact vh e _ _ (bK (aF _ _) _ _ z)) _
  have ha:nw H H' acc=some (.lst ys):=by rw[kJ h0];exact b.at'
  exact⟨by rw[Rep];exact⟨acc,ys,rfl,.of ha,R0⟩,⟨fun _=>⟨acc,rfl,h0,ys,ha,R0⟩,.not rfl⟩⟩
 | false=>
  rw[aC3 (by decide)]
  cases z with
  | true=>
   rw[aC2 rfl]
   have hA:acc∉A:=fun m=>by obtain ⟨xs,q,_⟩:=r.lists acc m;rw[h0] at q;cases q
   have R0:aH X.K C (er (er H' A) [acc]) total ys:=rp.same (fun c o z=>by
    unfold part zB at z
    rw[aC3 (by decide),aC2 rfl] at z
    by_cases hc:c∈acc::A
    ·rw[dM hc] at z;cases z
    ·rw[aS hc] at z
     have h1:c≠acc:=fun w=>hc (by rw[w];exact .head _)
     have h2:c∉A:=fun w=>hc (.tail _ w)
     rw[aS (by simpa using h1),aS h2];exact z) _
   have ha:er H' A acc=some (.lst ys):=by rw[aS hA];exact b.at'
   exact⟨by rw[Rep];exact⟨acc,ys,rfl,.of ha,R0⟩,⟨fun _=>⟨acc,rfl,h0,ys,ha,R0⟩,.not rfl⟩⟩
  | false=>
   rw[aC3 (by decide)]
   show Rep X.K C H' _ _
   rw[Rep]
   refine⟨acc,ys,rfl,.of b.at',rp.same (fun c o z=>?_) _⟩
   unfold part zB at z
   rw[aC3 (by decide),aC3 (by decide)] at z
   exact z
structure LB(X:Cx)(C:Cfg)(G0:Hp)(Γ:List SK)(tg elt:Expr)(ifs:List Expr)(scope:Scope)(cl:List (Str×Addr))(g:TG)(bind:DB)(ft fe:DF)(vp:Kd)(n z:Bool)(gy:List Str)(caps:List (Nat×Str)):Prop where
 calm:X.calm=true
 hk:scope.kind = .function
 vG:∀y∈scope.names,y.2≠ .cell
 Al:∀x c,cl.lookup x=some c->X.env.cells.lookup x=some c
 FA:∀x,((relabel scope X.env).names.lookup x=some .cell\/(relabel scope X.env).names.lookup x=some .free)->∃c,cl.lookup x=some c
 Oa:closureFor scope X.env=pure cl
 ID:∀y∈scope.names,y.2 = .local->scope.names.lookup y.1=some .local
 FE:RP X scope cl caps
 hz:z=true->∀p∈caps,Γ[p.1]?=some .par\/Γ[p.1]?=some .loc
 hB:qG X.K C G0 (qI (gy.length+caps.length)) g bind
 hG:∀fp s H L,PG ((wB X scope cl (gy++caps.map (·.2)) fp s H L).dj (kI (wB X scope cl (gy++caps.map (·.2)) fp s H L) wC)) tg g
 hT:∀fp s0 H0 L (pins:List (Addr×Obj)) (s:Shared) (σ:L2.St) (H:Hp) (Q:Bool->Hp->Prop),L2.Inv ((wB X scope cl (gy++caps.map (·.2)) fp s0 H0 L).dj (kI (wB X scope cl (gy++caps.map (·.2)) fp s0 H0 L) wC)) pins σ H s->An X.K C G0 (qI (gy.length+caps.length)) wC ft σ H Q->
   wpAny (model X.prog X.w) X.A (forIn ifs true fun c r=>if r=true then do let ok <- isTrue c (compEnvC scope cl L X.env) (eval c (compEnvC scope cl L X.env));pure (ForInStep.yield ok) else pure (ForInStep.yield r)) (TP ((wB X scope cl (gy++caps.map (·.2)) fp s0 H0 L).dj (kI (wB X scope cl (gy++caps.map (·.2)) fp s0 H0 L) wC)) pins σ Q) (kI (wB X scope cl (gy++caps.map (·.2)) fp s0 H0 L) wC) s
 hE:∀fp s H L,PE ((wB X scope cl (gy++caps.map (·.2)) fp s H L).dj (kI (wB X scope cl (gy++caps.map (·.2)) fp s H L) wC)) elt (tD X.K C G0 (qI (gy.length+caps.length)) wC fe vp)
 hn:n=true->vp = .new
 yW:n=false->vp.le .old=true
theorem LC(CI:PI X tg iter (LA X.K C G0 Γ E z gi))(b:LB X C G0 Γ tg elt ifs scope cl g bind ft fe vp n z gy caps)(hs:∀x,foldedSetIterable iter X.env x=pure x:=by intro _;rfl) :
  PE X (.ListComp elt [⟨tg,iter,ifs,0⟩] scope pos) (tD X.K C G0 Γ E (jk gi gy.length (caps.map (·.1)) bind ft fe) (wI z n)):=fun pins s σ H Q I zz=>by
 walk_at".0"
 rw[eval_ListComp]
 unfold jk at q
 refine wpAny_comprehension_free (use:=none) rfl hs b.Oa b.hk b.ID (aI3 (CI pins s σ H (fun J H'=>∃ds total,aB H H'/\Fv X.K C (zB z A) H' J ds/\ds.length<=5000/\ig bind ft fe ds (oR gy.length (caps.map (·.1)) st) = .ok total/\∀v H',aB H H'->Val X.K C (wI z n) G0 A H H' (.lst total) v->Q v H') I ⟨A,st,r,?_⟩) (fun xv s1 h1=>aI3 h1 (fun Xy s2 h2=>?_) fun _ _ e=>e) fun _ _ e=>e)
 ·cases hg:gi st with
  | bad=>rw[hg] at q;exact q
  | ex c p=>rw[hg] at q;exact q
  | ok ds=>
   rw[hg] at q
   walk_at","
   by_cases hl:ds.length<=5000
   ·rw[aC2 hl] at q
    cases hc:ig bind ft fe ds (oR gy.length (caps.map (·.1)) st) with
    | bad=>rw[hc] at q;exact q.elim
    | ex c p=>rw[hc] at q;exact q.elim
    | ok total=>rw[hc] at q;exact fun J H' e' hJ=>⟨ds,total,e',hJ,hl,hc,q⟩
   ·rw[aC3 hl] at q;exact q.elim
 ·obtain ⟨it,fp,tn,J,H2,rfl,I2,T,t0,f0,ds,total,e2,hJ,hl,m9,hq⟩:=h2
  refine wH (RR:=fun acc L=>compPost (model X.prog X.w) X.A X.xe none (EP X pins σ Q) acc L) I2 b.calm (r.mono e2) T t0 f0 hJ b.hz m9 hl b.hk b.vG b.Al b.FA b.FE b.hB (b.hG fp) (b.hT fp) (b.hE fp) b.hn b.yW fun acc L s' H' ys be=>?_
  obtain ⟨e',w⟩:=be.val r e2
  obtain ⟨m,hm⟩:=be.ns
  exact⟨m,hm,fun h' hsb=>⟨.ref acc,H',Bj be.inv be.hL be.lL be.sL be.cL be.pL hsb,rfl,hq _ _ e' w⟩⟩
theorem LD{i:Nat}{k:SK}{x:Str}{pos' IE:Pos}(hN:X.N.Nodup)(CI:PI X tg iter (LA X.K C G0 Γ E z gi))(b:LB X C G0 Γ tg elt ifs scope cl g bind ft fe vp n z gy caps)(hk:Γ[i]?=some k:=by rfl)(hl:k.takes (wI z n)=true:=by rfl)(hi:X.N[i]?=some x:=by rfl)(hx:X.env.scope.names.lookup x=some .local:=by rfl)
  (hsw:swapsWith (.ListComp elt [⟨tg,iter,ifs,0⟩] scope pos) (some (.Name x pos')) IE.line X.env=pure true:=by rfl) (hs:∀x,foldedSetIterable iter X.env x=pure x:=by intro _;rfl) :
  PS X (.Assign [.Name x pos'] (.ListComp elt [⟨tg,iter,ifs,0⟩] scope pos) IE) (r9 X.K C G0 Γ E gx (bP i (jk gi gy.length (caps.map (·.1)) bind ft fe))):=fun pins s σ H D I zz=>by
 walk_at".0"
 rw[exec_Assign_Name_used _ _ _ _ hsw]
 refine aB8 (wpAny_standAt (aB8 ?_))
 show wpAny _ X.A (do let _ <- comprehension (.ListComp elt [⟨tg,iter,ifs,0⟩] scope pos) scope X.env _ (newList []) false (eval iter X.env) (some (assign (.Name x pos') X.env))) _ _ s
 unfold bP jk at q
 refine aB8 (aI3 (wpAny_comprehension_free (use:=some (assign (.Name x pos') X.env)) (Q:=fun _ s'=>SP X pins D .next s') rfl hs b.Oa b.hk b.ID (aI3 (CI pins s σ H (fun J H'=>∃ds total,aB H H'/\Fv X.K C (zB z A) H' J ds/\ds.length<=5000/\ig bind ft fe ds (oR gy.length (caps.map (·.1)) st) = .ok total/\∀cN H' A',RS X.K C G0 Γ cN H' A' (st.set i (some (.lst total)))->aB (er H A) (er H' A')->D.nx cN H') I ⟨A,st,r,?_⟩) (fun xv s1 h1=>aI3 h1 (fun Xy s2 h2=>?_) fun _ _ e=>e) fun _ _ e=>e))
  (fun _ s' hq=>aB9 (aB9 hq)) fun _ _ e=>e)
 ·cases hg:gi st with
  | bad=>rw[hg] at q;exact q
  | ex c p=>rw[hg] at q;exact fun H' e'=>q σ H' A (r.mono e') (aG e')
  | ok ds=>
   rw[hg] at q
   walk_at","
   by_cases hl:ds.length<=5000
   ·rw[aC2 hl] at q
    cases hc:ig bind ft fe ds (oR gy.length (caps.map (·.1)) st) with
    | bad=>rw[hc] at q;exact q.elim
    | ex c p=>rw[hc] at q;exact q.elim
    | ok total=>rw[hc] at q;exact fun J H' e' hJ=>⟨ds,total,e',hJ,hl,hc,q⟩
   ·rw[aC3 hl] at q;exact q.elim
 ·obtain ⟨it,fp,tn,J,H2,rfl,I2,T,t0,f0,ds,total,e2,hJ,hlen,m9,hq⟩:=h2
  refine wH (RR:=fun acc L=>compPost (model X.prog X.w) X.A X.xe (some (assign (.Name x pos') X.env)) (fun _ s'=>SP X pins D .next s') acc L) I2 b.calm (r.mono e2) T t0 f0 hJ b.hz m9 hlen b.hk b.vG b.Al b.FA b.FE b.hB (b.hG fp) (b.hT fp) (b.hE fp) b.hn b.yW fun acc L s' H' ys be=>?_
  obtain ⟨e',w⟩:=be.val r e2
  obtain ⟨m,hm⟩:=be.ns
  refine bM (r.set e' hk hl w) fun A' r' ea _=>?_
  refine wpAny_assign_Name (yc be.inv hN hi (.inl hx) (v:=.ref acc) rfl (fun s3 I3 jg=>?_) (.inr hx))
  refine aM jg fun c hsb hc=>?_
  clear jg
  have hcL:L≠c:=by
   rcases hc with rfl | hc
   ·exact be.lL
   ·exact fun z=>be.cL x c hc z.symm
  exact⟨m,hm.sameBut hsb hcL,fun h' Kh=>⟨_,H',Bj I3 be.hL be.lL be.sL be.cL be.pL Kh,hq _ _ A' r' ea⟩⟩
end
end Dm
end VJ
section VL
namespace Dm
open PySem PySem.Spec PyProof.Rows L2
abbrev DP:=(Int×Int)×Addr×Int×Tok
def dxs(ps:List DP):List (List Int×Addr×Value):=ps.map fun p=>([p.1.1,p.1.2],p.2.1,.int p.2.2.1 p.2.2.2)
def DX(a:Addr)(ps:List DP)(h:Heap):Prop:=∃o es ep,h.get? a=some o/\o.ExactDict/\o.data = .dict es ep/\(∀(P:Program) (w:World),es.toList=(dxs ps).map (entryOfKey (tupleKind (intKind P w))))/\((dxs ps).map (·.1)).Nodup
def dvs(ps:List DP):List V:=ps.flatMap fun p=>[.int p.1.1,.int p.1.2,.int p.2.2.1]
def LF(K:Frag)(H:Hp)(a:Addr)(vs:List V):Prop:=∃ps,vs=dvs ps/\H a=some (.ext (DX a ps))/\∀p∈ps,lQ K H p.2.1 [.int p.1.1,.int p.1.2]
theorem LF.mono{K:Frag}{H H':Hp}{a:Addr}{vs:List V}(e:aB H H')(h:LF K H a vs):LF K H' a vs:=by
 refine bM h fun ps h1 h2 h3=>?_
 clear h
 exact⟨ps,h1,e _ _ h2,fun p hp=>aB.tup e (h3 p hp)⟩
end Dm
end VL
section ah5
namespace Hk
open PySem
section
variable {prog:Program}{w:World}{K:Type}[DecidableEq K](kh:HeapKind prog w K)
def Refs(h:Heap):List K->List Value->Prop
 | [],vs=>vs=[]
 | k::ks,vs=>∃a r,vs = .ref a::r/\kh.is h k a/\Refs h ks r
def sE(h:Heap)(ks:List K)(a:Addr):Prop:=∃o bf n,h.get? a=some o/\o.cls = .type "tuple" /\o.data = .seq bf n/\Refs kh h ks bf.toList
def CJ(ks:List K):Int:=reduceHash (Builtin.Tuple.tupleHashOf (ks.map kh.hash))
def eU:List K->Nat
 | []=>0
 | k::ks=>kh.draws k+eU ks
variable {kh}
theorem Refs.inj{h:Heap}:∀{x y:List K} {vs:List Value},Refs kh h x vs->Refs kh h y vs->x=y
 | [],[],_,_,_=>rfl
 | [],_::_,_,e,⟨_,_,z,_⟩=>by rw[Refs] at e;rw[e] at z;cases z
 | _::_,[],_,⟨_,_,z,_⟩,e=>by rw[Refs] at e;rw[e] at z;cases z
 | _::_,_::_,_,⟨_,_,z,p,r⟩,⟨_,_,z',p',r'⟩=>by rw[z] at z';cases z';rw[kh.inj p p',r.inj r']
theorem Refs.keeps{h h':Heap}{d:Addr}{o:Obj}{es ep}(ho:h.get? d=some o)(hd:o.data = .dict es ep)(hs:Heap.SameBut d h h'):∀{x:List K} {vs:List Value},Refs kh h x vs->Refs kh h' x vs
 | [],_,e=>e
 | _::_,_,⟨a,r,z,p,q⟩=>⟨a,r,z,kh.keeps p ho hd hs,q.keeps ho hd hs⟩
theorem yF:∀(x y:List K),eU kh (x++y)=eU kh x+eU kh y
 | [],y=>by rw[eU,Nat.zero_add];rfl
 | k::x,y=>by rw[List.cons_append,eU,eU,yF x y,Nat.add_assoc]
theorem sE.tuple{s:Shared}{ks:List K}{a:Addr}(x:sE kh s.heap ks a):s.TypeIs (.ref a) "tuple":=x.elim fun o z=>z.elim fun _ z=>z.elim fun _ z=>⟨o,z.1,z.2.1⟩
theorem sE.inj{h:Heap}{a:Addr}{x y:List K}(hx:sE kh h x a)(hy:sE kh h y a):x=y:=by
 obtain ⟨o,bf,n,e,_,d,r⟩:=hx
 obtain ⟨o',its',n',e',_,d',r'⟩:=hy
 rw[e] at e';cases e'
 rw[d] at d';cases d'
 exact r.inj r'
theorem sE.keeps{h h':Heap}{ks:List K}{a d:Addr}{o:Obj}{es ep}(x:sE kh h ks a)(ho:h.get? d=some o)(hd:o.data = .dict es ep)(hs:Heap.SameBut d h h'):sE kh h' ks a:=by
 obtain ⟨u,bf,n,e,c,q,r⟩:=x
 refine⟨u,bf,n,(hs.2 a fun z=>?_).trans e,c,q,r.keeps ho hd hs⟩
 rw[z,ho] at e;cases e
 rw[hd] at q;cases q
variable {A:Around}{E:Value->Shared->Prop}{s:Shared}
theorem LG{ks:List K}{a:Addr}{Q:Int->Shared->Prop}(hu:A.units < cLine)(hr:kh.room A.in1)(hk:sE kh s.heap ks a)(h:Q (CJ kh ks) { s with toks:=s.toks+(eU kh ks+1) }):wpAny (model prog w) A (pyHash (.ref a)) Q E s:=by
 have hT:=hk.tuple
 have sl:=F.slot_tuple_hash
 obtain ⟨o,bf,n,ho,_,hd,hi⟩:=hk
 (unfold pyHash);(first | unfold pyHashByItsType | skip);(first | refine aB8 (wpAny_cRoomFor_or (.inr hu) ?_) | skip)
 (refine aB8 (wpAny_specialOf hT sl.lookup ?_));(show wpAny _ _ (if (some (Value.builtin "tuple.__hash__")==some Value.none)=true then _ else _) Q E s)
 (rw[aC3 (by rw[beq_builtin_none];exact aF8)]);(refine aB8 (wpAny_specialOf hT sl.lookup ?_));(show wpAny _ _ (callSpecialIfBoundUnlessNone? (.ref a) "__hash__" _>>=_) Q E s)
 refine aB8 (wpAny_callSpecialIfBoundUnlessNone?_slot hT sl (aH9 sl hT F.entry_tuple_hash ?_ (F.args_tuple_hash_1 _)))
 (show wpAny _ _ (Builtin.Tuple.tupleItemsOf (.ref a)>>=_) _ _ s);(refine aB8 (wpAny_tupleItemsOf ho hd (aB8 ?_)));(rw[<- Array.forIn_toList])
 refine wpAny_forIn_list _ (fun rest (b:Array Int) s'=>∃x y,ks=x++y/\Refs kh s.heap y rest/\b.toList=x.map kh.hash/\s'={ s with toks:=s.toks+eU kh x }) _ ?_ ?_ _ _ ⟨[],ks,rfl,hi,rfl,rfl⟩
 ·rintro v rest b s' ⟨x,y,rfl,hl,hb,rfl⟩
  cases y with
  | nil=>rw[Refs] at hl;cases hl
  | cons k y=>
   obtain ⟨c,r,z,p,q⟩:=hl
   cases z
   have e:eU kh (x++[k])=eU kh x+kh.draws k:=by rw[yF];rfl
   have nx:∃x' y',x++k::y=x'++y'/\Refs kh s.heap y' rest/\(b.push (kh.hash k)).toList=x'.map kh.hash/\({ s with toks:=s.toks+eU kh x+kh.draws k }:Shared)={ s with toks:=s.toks+eU kh x' }:=⟨x++[k],y,by simp,q,by simp[hb],by rw[e,Nat.add_assoc]⟩
   refine aB8 (kh.pyHash (s:={ s with toks:=s.toks+eU kh x }) hr p ?_)
   first
    | exact aB9 nx
    | exact aB8 (aB9 (aB9 nx))
 ·rintro b s' ⟨x,y,rfl,hl,hb,rfl⟩
  cases y with
  | cons k y=>obtain ⟨_,_,z,_⟩:=hl;cases z
  | nil=>
   rw[aJ0] at h
   (show wpAny _ _ (retInt (Builtin.Tuple.tupleHashOf b.toList)) _ _ _);(rw[hb]);(refine wpAny_ret_mkInt ?_)
   show wpAny _ _ (if (decide (-(2:Int) ^ 63<=Builtin.Tuple.tupleHashOf (x.map kh.hash))&&decide (Builtin.Tuple.tupleHashOf (x.map kh.hash) < 2 ^ 63))=true then _ else _) Q E _
   unfold CJ reduceHash at h
   split
   ·rename_i c
    rw[aC2 c] at h
    exact aB9 (by simpa[Nat.add_assoc] using h)
   ·rename_i c
    rw[aC3 c] at h
    exact aB8 (wpAny_rule (aB9 (by simpa[Nat.add_assoc] using h)))
theorem VM{x y:List K}{a b:Addr}{P:Fin->Shared->Prop}(hr:kh.room A)(hx:sE kh s.heap x a)(hy:sE kh s.heap y b)(h:P (.done (.ret (.bool (decide (x=y))))) s):wpAny (model prog w) A (Builtin.«tuple.__eq__» ⟨[.ref a,.ref b],[]⟩) P E s:=by
 have hT:=hy.tuple
 obtain ⟨oa,us,na,ea,_,da,ra⟩:=hx
 obtain ⟨ob,vs,nb,eb,_,db,rb⟩:=hy
 (show wpAny _ _ (isInstance (.ref b) (.type "tuple")>>=_) _ _ s);(refine aB8 (wpAny_isInstance hT isSubtype_tuple_tuple ?_));(simp only[Bool.not_true,aE0,if_false])
 refine aB8 (wpAny_tupleItemsOf ea da (aB8 (wpAny_tupleItemsOf eb db (aB8 ?_))))
 refine wpAny_forIn_list _ (fun rest r s'=>r.1=none/\s'=s/\∃x' y' VN vs',rest=List.zip VN vs'/\Refs kh s.heap x' VN/\Refs kh s.heap y' vs'/\decide (x'=y')=decide (x=y)/\(VN.length==vs'.length)=(us.size==vs.size)) _ ?_ ?_ _ _ ⟨rfl,rfl,x,y,us.toList,vs.toList,rfl,ra,rb,rfl,by simp⟩
 ·rintro ⟨u,v⟩ rest r s' ⟨Ip,rfl,x',y',VN,vs',hz,tE,Gq,LH,hlen⟩
  cases x' with
  | nil=>rw[Refs] at tE;subst tE;simp at hz
  | cons k1 x1=>
   obtain ⟨c1,r1,z1,p1,q1⟩:=tE
   subst z1
   cases y' with
   | nil=>rw[Refs] at Gq;subst Gq;simp at hz
   | cons k2 y1=>
    obtain ⟨c2,r2,z2,p2,q2⟩:=Gq
    subst z2
    rw[List.zip_cons_cons] at hz
    cases hz
    refine aB8 (kh.eqBool (x:=k1) (y:=k2) hr p1 p2 ?_)
    by_cases hk:k1=k2
    ·subst hk
     (rw[aD6 rfl]);(simp only[Bool.not_true,aE0,if_false])
     exact aB9 ⟨rfl,rfl,x1,y1,r1,r2,rfl,q1,q2,by rw[<- LH];simp,by simpa using hlen⟩
    ·(rw[aE4 hk]);(simp only[Bool.not_false,if_true])
     rw[show decide (x=y)=false by rw[<- LH];simp[hk]] at h
     exact aB8 (aB9 (aB9 (aB9 h)))
 ·rintro ⟨r1,r2⟩ s' ⟨Ip,rfl,x',y',VN,vs',hz,tE,Gq,LH,hlen⟩
  dsimp only at Ip
  subst Ip
  refine aB9 ?_
  have e:(us.size==vs.size)=decide (x=y):=by
   rw[<- LH,<- hlen]
   cases x' with
   | nil=>
    rw[Refs] at tE;subst tE
    cases y' with
    | nil=>rw[Refs] at Gq;subst Gq;rfl
    | cons k2 y1=>obtain ⟨c2,r2,rfl,_⟩:=Gq;simp
   | cons k1 x1=>
    obtain ⟨c1,r1,rfl,_⟩:=tE
    cases y' with
    | nil=>rw[Refs] at Gq;subst Gq;simp
    | cons k2 y1=>obtain ⟨c2,r2,rfl,_⟩:=Gq;simp at hz
  show P (.done (.ret (.bool (us.size==vs.size)))) s'
  rw[e];exact h
theorem FJ{x y:List K}{a b:Addr}{Q:Bool->Shared->Prop}(hu:A.units < cLine)(hr:kh.room A.in1)(hx:sE kh s.heap x a)(hy:sE kh s.heap y b)(h:Q (decide (x=y)) s):wpAny (model prog w) A (eqBool (.ref a) (.ref b)) Q E s:=by
 (unfold eqBool);(try with_reducible refine wpAny_holding ?_);(show wpAny _ _ (if (Value.ref a==Value.ref b)=true then _ else _) Q E s)
 by_cases c:(Value.ref a==Value.ref b)=true
 ·rw[aC2 c]
  cases eq_of_beq c
  obtain rfl:=hx.inj hy
  exact aB8 (wpAny_rule (aB9 (by simpa using h)))
 ·(rw[aC3 c]);(refine aB8 (wpAny_richCompare_same_room (op:=.Eq) hx.tuple hy.tuple F.slot_tuple_eq (aH9 F.slot_tuple_eq hx.tuple F.entry_tuple_eq (VM hr hx hy ⟨_,rfl,(fun e=>nomatch e),wpAny_truthy_bool h⟩) (F.args_tuple_eq_2 _ _)) hu))
theorem Bk{a:Addr}{o:Obj}{bf:Array Value}{m n:Nat}{Q:Bool->Shared->Prop}(ho:s.heap.get? a=some o)(hc:o.cls = .type "tuple")(hd:o.data = .seq bf m)(q:∀v∈bf.toList,∀{A:Around} {R:Bool->Shared->Prop},R true s->wpAny (model prog w) A (eqIsQuiet n v) R E s)(h:Q true s):wpAny (model prog w) A (eqIsQuiet (n+1) (.ref a)) Q E s:=by
 have hT:s.TypeIs (.ref a) "tuple":=⟨o,ho,hc⟩
 (unfold eqIsQuiet);(refine aB8 (wpAny_specialOf hT F.slot_tuple_eq.lookup ?_));(show wpAny _ _ (isInstance (.ref a) (.type "tuple")>>=_) _ _ s)
 (refine aB8 (wpAny_isInstance hT isSubtype_tuple_tuple ?_));(simp only[Bool.not_true,aE0,if_false]);(refine aB8 (wpAny_seqItems ho hd (aB8 ?_)))
 (show wpAny _ _ (forIn bf _ _) _ _ s);(rw[<- Array.forIn_toList])
 refine wpAny_forIn_list _ (fun rest r s'=>r.1=none/\s'=s/\∀v∈rest,v∈bf.toList) _ ?_ ?_ _ _ ⟨rfl,rfl,fun _ m=>m⟩
 ·rintro v rest r s' ⟨hr,rfl,qz⟩
  (refine aB8 (q v (qz v (.head _)) ?_));(simp only[Bool.not_true,aE0,if_false])
  exact aB9 ⟨rfl,rfl,fun u m=>qz u (.tail _ m)⟩
 ·rintro ⟨r1,r2⟩ s' ⟨hr,rfl,_⟩
  dsimp only at hr
  subst hr
  exact aB9 h
end
theorem Refs.mem{prog:Program}{w:World}{K:Type}[DecidableEq K]{kh:HeapKind prog w K}{h:Heap}:∀{ks:List K} {vs:List Value} {v:Value},Refs kh h ks vs->v∈vs->∃k a,v = .ref a/\kh.is h k a
 | [],_,_,e,m=>by rw[Refs] at e;rw[e] at m;cases m
 | k::ks,_,v,⟨a,r,z,p,q⟩,m=>by
  rw[z] at m
  rcases aC6.mp m with rfl | m
  ·exact⟨k,a,rfl,p⟩
  ·exact q.mem m
def mY{prog:Program}{w:World}{K:Type}[DecidableEq K](knd:KeyKind prog w K):HeapKind prog w (List (List K)) where
 is:=sE (tupleKind knd)
 hash:=CJ (tupleKind knd)
 draws:=fun ks=>eU (tupleKind knd) ks+1
 room:=fun A=>A.units+1 < cLine
 inj:=fun hx hy=>hx.inj hy
 keeps:=fun x ho hd hs=>x.keeps ho hd hs
 pyHash:=fun hu hk h=>LG (Nat.lt_of_succ_lt hu) hu hk h
 eqBool:=fun hu hx hy h=>FJ (Nat.lt_of_succ_lt hu) hu hx hy h
 quiet:=fun {A E s k a Q} hk h=>by
  obtain ⟨o,bf,n,ho,hc,hd,hi⟩:=hk
  refine Bk (n:=7) ho hc hd (fun v m A' R hR=>?_) h
  obtain ⟨k1,c,rfl,o1,aB1,n1,XM,hc1,hd1,hi1⟩:=hi.mem m
  refine Bk (n:=6) XM hc1 hd1 (fun v m A'' R' hR'=>?_) hR
  rw[eqIsQuiet_byValue _ (hi1.byValue v m)]
  exact aB9 hR'
end Hk
end ah5
section VO
namespace Dm
open PySem PySem.Spec PyProof.Rows L2
abbrev SP:=List (List Int)×Addr×Value
def DY(a:Addr)(o:Obj)(ps:List SP)(h:Heap):Prop:=(a==sysModules)=false/\ps.length<=sizeLine/\h.get? a=some o/\o.ExactDict/\∃es ep,o.data = .dict es ep/\(∀(P:Program) (w:World),es.toList=ps.map (entryOfKey (Hk.mY (intKind P w))))/\(ps.map (·.1)).Nodup
def mq(K:Frag)(H:Hp)(ks:List (List Int))(a:Addr):Prop:=∃cs:List Addr,lQ K H a (cs.map V.ref)/\cs.length=ks.length/\∀z∈ks.zip cs,lQ K H z.2 (z.1.map V.int)
def qB(ps:List SP)(vs:List V):List V:=(ps.zip vs).flatMap fun z=>[.ref z.1.2.1,z.2]
def VP(K:Frag)(F H:Hp)(a:Addr)(xs:List V):Prop:=∃o ps vs,xs=qB ps vs/\Vals vs (ps.map (·.2.2))/\H a=some (.ext (DY a o ps))/\(∀p∈ps,mq K F p.1 p.2.1)/\∀l,V.ref l∈vs->∃ys,F l=some (.lst ys)
theorem mq.mono{K:Frag}{H H':Hp}{ks:List (List Int)}{a:Addr}(e:aB H H')(h:mq K H ks a):mq K H' ks a:=by
 refine bM h fun cs h1 h2 h3=>?_
 exact⟨cs,aB.tup e h1,h2,fun z m=>aB.tup e (h3 z m)⟩
theorem VP.mono{K:Frag}{F F' H H':Hp}{a:Addr}{xs:List V}(f:aB F F')(e:H' a=H a)(h:VP K F H a xs):VP K F' H' a xs:=by
 refine Ao h fun o ps vs h1 h2 h3 h4 h5=>?_
 exact⟨o,ps,vs,h1,h2,e.trans h3,fun p m=>(h4 p m).mono f,fun l m=>let ⟨ys,q⟩:=h5 l m;⟨ys,f _ _ q⟩⟩
theorem DY.of{P:Program}{w:World}{a:Addr}{ps:List SP}{h:Heap}(z:(a==sysModules)=false)(hl:ps.length<=sizeLine)(q:h.DictOfH (Hk.mY (intKind P w)) a ps):∃o,DY a o ps h:=by
 refine Zu q fun o es ep h1 h2 h3 h4 _ h6=>?_
 exact⟨o,z,hl,h1,h2,es,ep,h3,fun P' w'=>h4,h6⟩
theorem DY.dict{P:Program}{w:World}{a:Addr}{o:Obj}{ps:List SP}{h:Heap}(q:DY a o ps h)(k:∀p∈ps,(Hk.mY (intKind P w)).is h p.1 p.2.1):h.DictOfH (Hk.mY (intKind P w)) a ps:=by
 obtain ⟨_,_,h1,h2,es,ep,h3,h4,h6⟩:=q
 exact⟨o,es,ep,h1,h2,h3,h4 P w,k,h6⟩
theorem DY.keep{a:Addr}{o:Obj}{ps:List SP}{h h':Heap}(q:DY a o ps h)(e:∀o,h.get? a=some o->h'.get? a=some o):DY a o ps h':=⟨q.1,q.2.1,e o q.2.2.1,q.2.2.2⟩
theorem E7{P:Program}{w:World}{H:Hp}{a:Addr}{o:Obj}{ps:List SP}{h:Heap}(q:DY a o ps h):gr P w H h a (.ext (DY a o ps)):=⟨q,⟨o,q.2.2.1⟩,fun h1 h2 z e=>z.keep e⟩
section
variable {X:Cx}{pins:List (Addr×Obj)}{σ:L2.St}{H:Hp}{s:Shared}{a:Addr}
theorem IF(I:L2.Inv X pins σ H s){ns:List Int}(h:lQ X.K H a (ns.map V.int)):(tupleKind (intKind X.prog X.w)).is s.heap ns a:=by
 refine bM (I.tuple h) fun bf rv aR hsz=>?_
 clear hsz
 obtain ⟨o,e,hc,n,hd⟩:=aR
 refine⟨o,bf.toArray,n,e,hc,hd,?_⟩
 show ItemsAre _ ns bf
 clear h e hd
 induction ns generalizing bf with
 | nil=>cases rv;exact .nil
 | cons i ns ih=>
  cases rv with
  | cons r1 t1=>
   obtain ⟨t,rfl⟩:=r1
   exact .cons (by simp[intKind,Value.isInt]) (ih _ t1)
theorem rf(I:L2.Inv X pins σ H s){ks:List (List Int)}(h:mq X.K H ks a):(Hk.mY (intKind X.prog X.w)).is s.heap ks a:=by
 refine bM h fun cs h1 h2 h3=>?_
 refine bM (I.tuple h1) fun bf rv aR hsz=>?_
 clear hsz
 obtain ⟨o,e,hc,n,hd⟩:=aR
 refine⟨o,bf.toArray,n,e,hc,hd,?_⟩
 show Hk.Refs _ s.heap ks bf
 clear h h1 e hd
 induction ks generalizing cs bf with
 | nil=>
  cases cs with
  | nil=>cases rv;exact rfl
  | cons c cs=>cases h2
 | cons k ks ih=>
  cases cs with
  | nil=>cases h2
  | cons c cs=>
   cases rv with
   | cons r1 t1=>
    cases r1
    exact⟨c,_,rfl,IF I (h3 (k,c) (.head _)),ih cs (by simpa using h2) (fun z m=>h3 z (.tail _ m)) _ t1⟩
theorem vq(I:L2.Inv X pins σ H s){o:Obj}{ps:List SP}(ha:H a=some (.ext (DY a o ps)))(hk:∀p∈ps,mq X.K H p.1 p.2.1):s.heap.DictOfH (Hk.mY (intKind X.prog X.w)) a ps/\(a==sysModules)=false/\ps.length<=sizeLine:=by
 refine vD ((show gr X.prog X.w H s.heap a (.ext (DY a o ps)) from I.eE a _ ha)) fun dx _ _=>?_
 exact⟨dx.dict fun p m=>rf I (hk p m),dx.1,dx.2.1⟩
end
end Dm
end VO
section ah6
namespace Dm
open PySem PySem.Spec PyProof.Rows L2 PySem.W
def aV(Cb:Addr):Cfg where
 ob:=fun t K H a vs=>((t=0/\∃dx fs l,H a=some (.ins Cb dx fs)/\fs.lookup ("cells" : Str)=some (.ref l)/\H l=some (.lst vs))\/(∃c,t=Ql c/\((vs=[]/\H a=some (.ext (ClsAt a (.ref c))))\/∃n dx,vs=[.int n]/\H a=some (.ext (Pp a c dx))/\H dx=some (.xd [("at",.int n)]))))\/(t=1/\LF K H a vs)\/(t=2/\VP K H H a vs)
 mono:=fun {t K H H' a vs} e h=>by
  rcases h with (⟨h0,dx,fs,l,h1,h2,h3⟩ | ⟨c,h0,⟨h1,h2⟩ | ⟨n,dx,h1,h2,h3⟩⟩) | ⟨h0,h1⟩ | ⟨h0,h1⟩
  ·exact .inl (.inl ⟨h0,dx,fs,l,e _ _ h1,h2,e _ _ h3⟩)
  ·exact .inl (.inr ⟨c,h0,.inl ⟨h1,e _ _ h2⟩⟩)
  ·exact .inl (.inr ⟨c,h0,.inr ⟨n,dx,h1,e _ _ h2,e _ _ h3⟩⟩)
  ·exact .inr (.inl ⟨h0,h1.mono e⟩)
  ·exact .inr (.inr ⟨h0,h1.mono e (by
    refine Ao h1 fun o ps vs _ _ z _ _=>?_
    exact(e _ _ z).trans z.symm)⟩)
 own:=VP
 DU:=fun f e h=>h.mono f e
 O6:=fun h f e=>.inr (.inr ⟨rfl,h.mono f e⟩)
 Vl:=fun h=>by
  refine Ao h fun o ps vs _ _ z _ _=>?_
  exact⟨_,z⟩
section
variable {X:Cx}{Cb:Addr}{G0:Hp}{Γ:List SK}{E:L2.St->XK}{e a b c:Expr}{f fa:DF}{κ κ' aA:Kd}{es:List Expr}{fs:DA}{pos:Pos}{s:Stmt}{F G:DS}
def dc:D->R D:=fun a=>match a with | .cu 0 ds=>if d9 ds=true then .ok (.lst ds) else .bad | _=>.bad
theorem FL{a d:D}(h:dc a = .ok d):∃ds,a = .cu 0 ds/\d9 ds=true/\d = .lst ds:=by
 unfold dc at h
 split at h
 ·split at h
  ·rename_i n;cases h;exact⟨_,rfl,n,rfl⟩
  ·cases h
 ·cases h
theorem FN{a:D}{c:Addr}{p:Option Int}:dc a≠ .ex c p:=by
 unfold dc
 split
 ·split <;> exact fun h=>(by cases h)
 ·exact fun h=>(by cases h)
theorem FO{K:Frag}{H:Hp}{ds:List D}{x:V}(n:d9 ds=true)(q:Rep K (aV Cb) H (.cu 0 ds) x):∃a dx fs l,x = .ref a/\H a=some (.ins Cb dx fs)/\fs.lookup ("cells" : Str)=some (.ref l)/\Rep K (aV Cb) H (.lst ds) (.ref l):=by
 rw[Rep] at q
 refine b6 q fun a xs aR h2 h3=>?_
 clear q
 walk_at"#"
 rcases h2 with (⟨_,dx,fs,l,h4,h5,h6⟩ | ⟨c,z,_⟩) | ⟨z,_⟩ | ⟨z,_⟩
 ·refine⟨a,dx,fs,l,rfl,h4,h5,?_⟩
  rw[Rep]
  exact⟨l,xs,rfl,.of h6,h3.part (.er fun b m=>by rw[aF2.mp m];exact⟨_,h6,rfl⟩) _ n⟩
 ·unfold Ql at z;lia
 ·cases z
 ·cases z
theorem IG(hC:GN X.K Cb)(hA:jG X.K Cb "cells")(ha:PE X a (tD X.K (aV Cb) G0 Γ E fa aA))(hb:attributeBase a ("cells" : Str) X.env (eval a X.env)=eval a X.env:=by rfl):PE X (.Attribute a "cells" pos) (tD X.K (aV Cb) G0 Γ E (vj dc fa) aA.item):=(OW ha hb).imp fun σ H Q zz=>by
 walk_at".01"
 unfold vj R.bind at q
 cases ha:fa st with
 | bad=>rw[ha] at q;exact q
 | ex c p=>rw[ha] at q;exact q
 | ok a=>
  rw[ha] at q
  walk_at","
  intro x H1 e1 w1
  cases hg:dc a with
  | bad=>rw[hg] at q;exact q.elim
  | ex c p=>exact absurd hg FN
  | ok d=>
   rw[hg] at q
   refine bM (FL hg) fun ds iG n rM=>?_
   walk_at"7"
   obtain rfl:=rM
   have fin:∀G:Hp,aB G H1->Rep X.K (aV Cb) G (.cu 0 ds) x->(∀v,Rep X.K (aV Cb) G (.lst ds) v->Val X.K (aV Cb) aA.item G0 A H H1 (.lst ds) v)->∃a C dx fs v,x = .ref a/\H1 a=some (.ins C dx fs)/\GN X.K C/\jG X.K C "cells" /\fs.lookup ("cells" : Str)=some v/\Q v H1:=fun G e qa k=>by
    refine S7 (FO n qa) fun a dx fs l GS h1 h2 h3=>?_
    obtain rfl:=GS
    exact⟨a,Cb,dx,fs,.ref l,rfl,e _ _ h1,hC,hA,h2,q _ _ e1 (k _ h3)⟩
   cases aA with
   | new=>exact fin _ (aF _ _) (w1.le r e1 (κ':=.old) rfl) fun v z=>z
   | uF=>exact fin _ (aF _ _) (w1.le r e1 (κ':=.old) rfl) fun v z=>z
   | loc=>exact fin _ (aF _ _) (w1.le r e1 (κ':=.old) rfl) fun v z=>z
   | old=>exact fin _ (aF _ _) w1 fun v z=>z
   | lN=>exact fin _ (.refl _) w1.rep fun v z=>z
   | aE=>exact fin _ (.refl _) w1 fun v z=>z
def zN(K:Frag)(Cb:Addr)(Fc:List D->R D):Sp:=fun vs H Q E=>∃x dx ds v,vs=[.ref x,v]/\H x=some (.ins Cb dx [])/\Rep K (aV Cb) H (.lst ds) v/\match Fc [.lst ds] with
 | .ok _=>d9 ds=true/\∀l H' ys,H l=none->(∀b o,b≠x->H b=some o->H' b=some o)->H' x=some (.ins Cb dx [("cells",.ref l)])->H' l=some (.lst ys)->aH K (aV Cb) H' ds ys->Q .cF H'
 | .ex c p=>∀H',aB H H'->Gm E c p H'
 | .bad=>False
theorem LJ{P:Program}{w:World}{K:Frag}{mg:Str->Option Value}{base:Heap}{x qual:Str}{st:Stmt}{f:Addr}{fd:FuncData}{k:Nat}{Fc:List D->R D}(F:GW K x qual st f fd)(S:bA ["self","cells"] ["self","cells"] (az st))(hC:GN K Cb)(hA:jG K Cb "cells")
  (AE:∀(f9:Value) (A:Around) (outer:List Env) (s:Shared) (H:Hp) (E:XK),iH k (A.deeper (envOfC qual (az st) s.heap.objs.size f f9))->
   uu ((qy (qg P w) P w K mg base ["self","cells"] qual (az st) f f9 A outer s H E).dj (kI (qy (qg P w) P w K mg base ["self","cells"] qual (az st) f f9 A outer s H E) fun _=>E)) (b9 st)
    (Sn (NB (tD K (aV Cb) H [.par,.par] (fun _=>E) (br Fc (aa (ak 1) au)) κ)) (Tu K (qT 0) (tD K (aV Cb) H [.par,.par] (fun _=>E) (br jN (aa (ak 1) au)) .new) "cells"))) :
  j7 P w K mg base (qg P w) (k+1) f fd ["self","cells"] (zN K Cb Fc):=by
 refine yo F S (fun vs H Q E jg=>by obtain ⟨x,dx,ds,v,h,_⟩:=jg;rw[h];rfl) fun f9 A outer s H vs Q E hr oG=>?_
 refine S7 oG fun x dx ds v hvs hx hd q=>?_
 clear oG
 subst hvs
 have r0:RS K (aV Cb) H [.par,.par] [some (.ref x),some v] H [] [none,some (.lst ds)]:=⟨by rw[mV];exact .refl _,fun a m=>(by cases m),rfl,fun i d h=>(by
  match i,h with
  | 1,h=>
   cases h
   exact⟨.par,v,rfl,rfl,by show Rep _ _ (er H []) _ _;rw[mV];exact hd⟩),fun i j n m p ds es oq g1=>(by
  match i,g1 with
  | 0,g1=>cases g1
  | 1,g1=>cases g1)⟩
 refine⟨_,AE f9 A outer s H E hr,[],[none,some (.lst ds)],r0,?_⟩
 have hf:br Fc (aa (ak 1) au) [none,some (.lst ds)]=Fc [.lst ds]:=rfl
 rw[hf]
 cases hF:Fc [.lst ds] with
 | bad=>rw[hF] at q;exact q
 | ex c p=>rw[hF] at q;exact q
 | ok d0=>
  rw[hF] at q
  obtain ⟨n,q⟩:=q
  intro v1 H1 e1 w1
  refine⟨[],[none,some (.lst ds)],r0.mono e1,?_⟩
  have hg:br jN (aa (ak 1) au) [none,some (.lst ds)] = .ok (.lst ds):=by
   show jN [.lst ds]=_
   unfold jN
   dsimp only
   rw[aC2 n]
  rw[hg]
  intro y H2 e2 w2
  refine bM (w2.2.1 rfl) fun l aR nl ow=>?_
  refine aM ow fun ys hl rl=>?_
  walk_at"#"
  have hl2:H2 l=some (.lst ys):=dw _ _ _ _ hl
  have xC:=e1.trans e2
  have DQ:H2 x=some (.ins Cb dx []):=xC _ _ hx
  have nlx:l≠x:=fun z=>by rw[z,e1 _ _ hx] at nl;cases nl
  refine⟨.ref x,rfl,x,Cb,dx,[],rfl,DQ,hC,hA,by show 0 < 1000;decide,?_⟩
  have keep:aB (er H2 [x]) (upd H2 x (.ins Cb dx (oB "cells" (.ref l) []))):=fun b o z=>by
   by_cases hb:b=x
   ·rw[hb,dM (.head _)] at z;cases z
   ·rw[aX hb]
    rw[aS (by simpa using hb)] at z;exact z
  refine q l _ ys (e1.free nl) (fun b o hb z=>by rw[aX hb];exact xC _ _ z) bN (by rw[aX nlx];exact hl2) ?_
  have rl2:aH K (aV Cb) H2 ds ys:=rl.same ((aF _ _).trans (dw _ _)) _
  refine aH.same keep _ (rl2.part ⟨aF _ _,fun b xs z=>?_⟩ _ n)
  unfold Rd
  have:b≠x:=fun w=>by
   subst w
   rcases z with z | ⟨o,z⟩
   ·rw[DQ] at z;cases z
   ·rw[DQ] at z;cases z
  rw[aS (by simpa using this)];exact z
def rg(Fc:List D->R D):List D->R D:=fun ds=>match ds with
 | [.lst es]=>(match Fc [.lst es] with | .ok _=>if d9 es=true then .ok (.cu 0 es) else .bad | .ex c p=>.ex c p | .bad=>.bad)
 | _=>.bad
theorem II{X:Cx}{x:Str}{k:Nat}{fi:Addr}{fd:FuncData}{Fc:List D->R D}{p:Pos}(M:Mk X.K Cb fi)(Fn:j7 X.prog X.w X.K X.mg X.base (qg X.prog X.w) k fi fd ["self","cells"] (zN X.K Cb Fc))(hr:iH (k+1) X.A)(hm:X.mg x=some (.ref Cb))(hb:Binds X.K fd ["self","cells"] [])
  (ha:PA (X.dj (kI X E)) [e] (Ft X.K (aV Cb) G0 Γ E fs κ)) (hg:Gl X x:=by rfl) (ET:(x==("__debug__" : Str))=false:=by decide) (he:starEach [e] X.env=[(false,eval e X.env)]:=by rfl) :
  PE (X.dj (kI X E)) (.Call (.Name x p) [e] [] pos) (tD X.K (aV Cb) G0 Γ E (br (rg Fc) fs) .new):=(Hi M Fn hr hg hm hb ha ET he).imp fun σ H Q zz=>by
 walk_at".01"
 unfold br R.bind at q
 cases hf:fs st with
 | bad=>rw[hf] at q;exact q
 | ex c p=>rw[hf] at q;exact q
 | ok ds=>
  walk_at"2,"
  intro vs H1 e1 w1 y dx hy hdx XN
  have s0:aB H1 (upd (upd H1 dx (.own y)) y (.ins Cb dx [])):=fun b o z=>by
   rw[aX (bF z hy),aX (bF z hdx)];exact z
  match ds,q,w1 with
  | [.lst es],q,w1=>
   refine aM (ou w1) fun v iG wv=>?_
   walk_at"7"
   refine⟨y,dx,es,v,rfl,bN,(wv.same Kd.wm _).same s0 _,?_⟩
   unfold rg at q
   walk_at","
   cases hF:Fc [.lst es] with
   | bad=>rw[hF] at q;exact q
   | ex c p=>rw[hF] at q;exact fun H' e'=>q H' ((e1.trans s0).trans e')
   | ok d0=>
    rw[hF] at q
    walk_at","
    by_cases n:d9 es=true
    ·rw[aC2 n] at q
     refine⟨n,fun l H' ys nl kp tE DO rp=>⟨rfl,?_⟩⟩
     have e':aB H1 H':=fun b o z=>kp b o (bF z hy) (s0 b o z)
     have eH:=e1.trans e'
     have hy0:H y=none:=e1.free hy
     have Q6:H l=none:=e1.free (s0.free nl)
     refine q _ _ eH ⟨?_,.not rfl rfl⟩
     rw[Rep]
     refine⟨y,ys,rfl,.inl (.inl ⟨rfl,dx,_,l,by rw[kJ hy0];exact tE,rfl,by rw[kJ Q6];exact DO⟩),rp.part (.nw eH) _ n⟩
    ·rw[aC3 n] at q;exact q.elim
  | [],q,_=>exact q.elim
  | [.cF],q,_=>exact q.elim
  | [.bl _],q,_=>exact q.elim
  | [.int _],q,_=>exact q.elim
  | [.str _],q,_=>exact q.elim
  | [.tup _],q,_=>exact q.elim
  | [.cu _ _],q,_=>exact q.elim
  | d1::d2::dr,q,_=>
   have:rg Fc (d1::d2::dr) = .bad:=by unfold rg;cases d1 <;> rfl
   rw[this] at q;exact q.elim
end
end Dm
end ah6
section ah7
namespace Dm
open PySem PySem.Spec PyProof.Rows L2 PySem.W
section
variable {X:Cx}{C:Cfg}{G0:Hp}{Γ:List SK}{E:L2.St->XK}{gx:Bool}{e a b c:Expr}{fa:DF}{aA:Kd}{es rest:List Expr}{pos:Pos}{s:Stmt}
theorem wJ{P:L2.St->Prop}{n:Nat}:∀(es:List Expr) (out:Str) (m:Nat),(∀e∈es,xT X P n e)->out.length+es.length * n<=m->m<=100000->∀(pins:List (Addr×Obj)) (s:Shared) (σ:L2.St) (H:Hp) (Q:Value->Shared->Prop) (Ex:Value->Shared->Prop),L2.Inv X pins σ H s->P σ->(∀x t s',L2.Inv X pins σ H s'->x.length<=m->Q (.str x t) s')->wpAny (model X.prog X.w) X.A (joinParts out (evalEach es X.env)) Q Ex s
 | [],out,m,_,hl,hm,pins,s,σ,H,Q,Ex,I,p,q=>joinParts_nil (q _ _ _ (I.tok _) (by simp at hl;lia)) (by rw[aG6];simp at hl;lia)
 | e::es,out,m,h,hl,hm,pins,s,σ,H,Q,Ex,I,p,q=>by
  show wpAny _ _ (joinParts out (eval e X.env::evalEach es X.env)) Q Ex s
  refine joinParts_cons (h e (.head _) pins s σ H _ Ex I p fun x t s' I' hx=>?_)
  have hlen:(out++x).length=out.length+x.length:=strLen_append out x
  rw[aD1,Nat.add_mul,Nat.one_mul] at hl
  refine⟨by rw[hlen,aG6];lia,?_⟩
  exact wJ es (out++x) m (fun e' m'=>h e' (.tail _ m')) (by rw[hlen];lia) hm pins s' σ H Q Ex I' p q
theorem Bl{P:L2.St->Prop}{n:Nat}{v1 v2:Expr}{rest:List Expr}(h:∀e∈v1::v2::rest,xT X P n e)(hm:(v1::v2::rest).length * n<=100000):xT X P ((v1::v2::rest).length * n) (.JoinedStr (v1::v2::rest) pos):=fun pins s σ H Q Ex I p q=>
 JoinedStr_many (wJ (v1::v2::rest) Str.empty _ h (by show 0+_<=_;lia) hm pins s σ H Q Ex I p q)
theorem all_nil{P:L2.St->Prop}{n:Nat}:∀e∈([]:List Expr),xT X P n e:=fun e h=>by cases h
theorem all_cons{P:L2.St->Prop}{n:Nat}{e:Expr}{es:List Expr}(h:xT X P n e)(t:∀e∈es,xT X P n e):∀e'∈e::es,xT X P n e':=fun e' m=>by
 rcases aC6.mp m with rfl | m
 ·exact h
 ·exact t e' m
def gM(c:Addr):DS:=fun st=>.ex c none st
theorem mw{x:Str}{K0:Addr}{B newId Ce:String}{bm:List Value}{np fU:Pos}{xH:Expr}{X:Cx}{n:Nat}(FB:ExcBaseFacts B newId Ce bm)(hh:X.A.handled=none)(hm:X.mg x=some (.ref K0))(hc:NN X.K K0 bm newId=true)(ha:xT (X.dj (kI X E)) (fun _=>True) n xH)(hg:Gl X x:=by rfl)
  (he:starEach [xH] X.env=[(false,eval xH X.env)]:=by rfl) (hd:(x==("__debug__" : Str))=false:=by decide) :
  PS (X.dj (kI X E)) (.Raise (some (.Call (.Name x np) [xH] [] fU)) none pos) (r9 X.K C G0 Γ E gx (gM K0)):=by
 have P1:PE (X.dj (kI X E)) xH (fun σ H Q=>∀x:Str,Q (.str x) H):=fun pins s σ H Q I q=>ha pins s σ H _ _ I trivial fun x t s' I' _=>⟨.str x,H,I',⟨t,rfl⟩,q x⟩
 refine(H8 FB hh hm hc hg (eN P1 iM he) he rfl hd).imp fun D σ H jg=>?_
 refine cP jg fun A st r q=>?_
 clear jg
 intro x
 exact⟨wo (by show 1<=100;decide),q σ H A r (.refl _)⟩
def VQ:D->Option String
 | .cF=>some "NoneType" | .bl _=>some "bool" | .int _=>some "int" | .str _=>some "str" | .tup _=>some "tuple" | .lst _=>some "list" | .cu _ _=>none
theorem VR{pins:List (Addr×Obj)}{σ:L2.St}{H:Hp}{s:Shared}{d:D}{x:V}{u c:Value}{t:String}{b:Bool}{Q:Value->Shared->Prop}{Ex:Value->Shared->Prop}(I:L2.Inv X pins σ H s)(q:Rep X.K C H d x)(rx:RelV x u)(ht:VQ d=some t)(e:kitOne X.K (.type t) c=some b)(h:∀tk,Q (.bool b) { s with toks:=tk }) :
  wpAny (model X.prog X.w) X.A (call (.builtin "isinstance") [u,c]) Q Ex s:=by
 cases d with
 | cF=>rw[Rep] at q;subst q;cases ht;cases (show u=Value.none from rx);exact kia_one kitx_none I.Ar True.intro e (fun z=>nomatch z) h
 | bl y=>rw[Rep] at q;subst q;cases ht;cases (show u=Value.bool y from rx);exact kia_one kitx_bool I.Ar True.intro e (fun z=>nomatch z) h
 | int i=>rw[Rep] at q;subst q;cases ht;obtain ⟨t,q⟩:=(show ∃t,u=Value.int i t from rx);cases q;exact kia_one kitx_int I.Ar True.intro e (fun z=>nomatch z) h
 | str y=>rw[Rep] at q;subst q;cases ht;obtain ⟨t,q⟩:=(show ∃t,u=Value.str y t from rx);cases q;exact kia_one kitx_str I.Ar True.intro e (fun z=>nomatch z) h
 | tup ds=>
  rw[Rep] at q
  refine b6 q fun a xs aR h2 _=>?_
  clear q
  walk_at"#"
  cases ht
  cases (show u=Value.ref a from rx)
  refine bM (I.tuple h2) fun bf _ aR _=>?_
  obtain ⟨o,h1,h3,_⟩:=aR
  exact kia_one kitx_tuple I.Ar ⟨o,h1,h3⟩ e (fun z=>nomatch z) h
 | lst ds=>
  refine b6 q.items fun a xs aR h2 _=>?_
  walk_at"#"
  cases ht
  cases (show u=Value.ref a from rx)
  refine bM (I.list h2) fun bf _ aR _=>?_
  obtain ⟨o,n,h1,h3,_⟩:=aR
  exact kia_one kitx_list I.Ar ⟨o,h1,h3⟩ e (fun z=>nomatch z) h
 | cu _ _=>cases ht
def IJ(RT:String->Option Bool):D->R D:=fun d=>match VQ d with | some t=>(match RT t with | some b=>.ok (.bl b) | none=>.bad) | none=>.bad
theorem IK{T:String}{tx:Str}{p1 p2:Pos}{RT:String->Option Bool}(ah8:∀t b,RT t=some b->kitOne X.K (.type t) (.type T)=some b)(hm:X.mg "isinstance" =none)(hmT:X.mg tx=none)(hvT:bootBuiltins tx=some (.type T))(ha:PE X a (tD X.K C G0 Γ E fa aA))
  (hg:Gl X "isinstance":=by rfl) (hgT:Gl X tx:=by rfl) (XF:tx≠ "__name__":=by decide) (RC:(tx==("__debug__" : Str))=false:=by decide)
  (h1:starEach [a,Expr.Name tx p2] X.env=[(false,eval a X.env),(false,eval (.Name tx p2) X.env)]:=by rfl) (h2:starEach [Expr.Name tx p2] X.env=[(false,eval (.Name tx p2) X.env)]:=by rfl) :
  PE X (.Call (.Name "isinstance" p1) [a,.Name tx p2] [] pos) (tD X.K C G0 Γ E (vj (IJ RT) fa) .new):=by
 have VS:lS X (.builtin "isinstance") (fun xs H Q=>∃x d t b,xs=[x,.ty T]/\Rep X.K C H d x/\VQ d=some t/\RT t=some b/\Q (.bl b) H):=fun pins s σ H xs us Q I r oG=>by
  refine Oj oG fun x d t b hx hr ht hb q=>?_
  clear oG
  subst hx
  refine b6 (vals2 r) fun u w' aR ru GB=>?_
  walk_at"#"
  cases (show w'=Value.type T from GB)
  exact VR I hr ru ht (ah8 t b hb) fun tk=>⟨.bl b,H,I.tok _,rfl,q⟩
 have P2:PE X (.Name tx p2) (tC (.ty T)):=Ku hgT hmT hvT rfl XF RC
 refine(bZ VS hg hm (by decide +kernel) (eN ha (eN P2 iM h2) (by rw[h1,h2])) (by decide) (by decide) (by rw[h1,h2]) (by rw[h2];rfl)).imp fun σ H Q ux=>ux.elim fun A Dv=>Dv.elim fun st EZ=>EZ.elim fun r q=>⟨A,st,r,?_⟩
 unfold vj R.bind at q
 cases hf:fa st with
 | bad=>rw[hf] at q;exact q
 | ex c p=>rw[hf] at q;exact q
 | ok d=>
  walk_at"2,"
  intro x H1 e1 w1
  unfold IJ at q
  cases ht:VQ d with
  | none=>rw[ht] at q;exact q.elim
  | some t=>
   rw[ht] at q
   walk_at","
   cases hb:RT t with
   | none=>rw[hb] at q;exact q.elim
   | some b=>
    rw[hb] at q
    exact⟨x,d,t,b,rfl,w1.rep,ht,hb,q _ H1 e1 (.flat r e1 (by rw[fR] <;> simp) xR _)⟩
end
end Dm
end ah7
section ah9
namespace Dm
open PySem PySem.Spec PyProof.Rows L2 PySem.W
theorem ah{X:Cx}{C:Cfg}{G0:Hp}{Γ:List SK}{E:L2.St->XK}{e:Expr}(i:Nat)(h:PE X e (qT i))(hk:Γ[i]?=some .par:=by rfl):PE X e (tD X.K C G0 Γ E (ak i) .old):=CB i h hk
theorem iU{X:Cx}{C:Cfg}{G0:Hp}{Γ:List SK}{E:L2.St->XK}{e:Expr}(i:Nat)(h:PE X e (qT i))(hk:Γ[i]?=some .loc:=by rfl):PE X e (tD X.K C G0 Γ E (ak i) .loc):=CB i h hk
theorem eV{X:Cx}{C:Cfg}{G0:Hp}{Γ:List SK}{E:L2.St->XK}{e:Expr}(i:Nat)(h:PE X e (qT i))(hk:Γ[i]?=some (.own true):=by rfl):PE X e (tD X.K C G0 Γ E (ak i) .lN):=CB i h hk
theorem bH{X:Cx}{C:Cfg}{G0:Hp}{Γ:List SK}{E:L2.St->XK}{a b:Expr}{fa fb:DF}{aA bC:Kd}{pos:Pos}(ha:PE X a (tD X.K C G0 Γ E fa aA))(hb:PE X b (tD X.K C G0 Γ E fb bC))(hs:rO b)(hk:aA.item = .old:=by rfl):PE X (.Subscript a b pos) (tD X.K C G0 Γ E (aQ cZ fa fb) .old):=hk▸Ih ha hb hs
theorem IL{X:Cx}{C:Cfg}{G0:Hp}{Γ:List SK}{E:L2.St->XK}{a b:Expr}{fa fb:DF}{aA bC:Kd}{pos:Pos}(ha:PE X a (tD X.K C G0 Γ E fa aA))(hb:PE X b (tD X.K C G0 Γ E fb bC))(hs:rO b)(hk:aA.item = .aE:=by rfl):PE X (.Subscript a b pos) (tD X.K C G0 Γ E (aQ cZ fa fb) .aE):=hk▸Ih ha hb hs
theorem sF{X:Cx}{Cb:Addr}{G0:Hp}{Γ:List SK}{E:L2.St->XK}{a:Expr}{fa:DF}{aA:Kd}{pos:Pos}(hC:GN X.K Cb)(hA:jG X.K Cb "cells")(ha:PE X a (tD X.K (aV Cb) G0 Γ E fa aA))(hb:attributeBase a ("cells" : Str) X.env (eval a X.env)=eval a X.env:=by rfl)(hk:aA.item = .old:=by rfl):PE X (.Attribute a "cells" pos) (tD X.K (aV Cb) G0 Γ E (vj dc fa) .old):=hk▸IG hC hA ha hb
def tW(K:Frag)(mg:Str->Option Value)(x qual:Str)(st:Stmt)(ps:List Str):Prop:=∃a fd,GW K x qual st a fd/\mg x=some (.ref a)/\Binds K fd ps []
def LK(n:Nat)(P:List Value->Prop):Prop:=match n with | 0=>P [] | n+1=>∀u,LK n fun us=>P (u::us)
theorem ai0{n:Nat}{P:List Value->Prop}(h:LK n P){us:List Value}(hl:us.length=n):P us:=by
 subst hl
 induction us generalizing P with
 | nil=>exact h
 | cons u us ih=>exact ih (h u)
theorem yG{K:Frag}{x qual:Str}{st:Stmt}{f:Addr}{fd:FuncData}{ps:List Str}(F:GW K x qual st f fd)(h:∀(kV doc pm:Value) (an:Option Addr) (f9 ct:Value),LK ps.length fun us=>bindArgs (PySem.W.fnOf x qual (bz st) (b9 st) (az st) .none kV doc pm an f9 ct) ⟨us,[]⟩=pure (ps.zip us)):Binds K fd ps []:=F.binds fun kV doc pm an f9 ct us hl=>ai0 (h kV doc pm an f9 ct) hl
theorem cT{K:Frag}{h:Heap}{mg:Str->Option Value}{x:Str}{st:Stmt}{ps:List Str}{f:Addr}{oc:Value}{od an:Option Addr}{Gg:Array (Option Value)}{kV doc pm f9 ct:Value}(X:K.In h)(G:h.Ns mainGlobals mg)(a:nsIn K mainGlobals x=some (some (.ref f)))(l:K.lookup f=some ⟨oc,od,.func (PySem.W.fnOf x x (bz st) (b9 st) (az st) .none kV doc pm an f9 ct),Gg⟩)
  (c:PySem.W.codeIn K f9 x=true) (k:PySem.W.keepIn K (.ref f)=true) (hb:∀(kV doc pm:Value) (an:Option Addr) (f9 ct:Value),LK ps.length fun us=>bindArgs (PySem.W.fnOf x x (bz st) (b9 st) (az st) .none kV doc pm an f9 ct) ⟨us,[]⟩=pure (ps.zip us)):tW K mg x x st ps:=
 ⟨_,_,z7 (st:=st) l c k,mg_of X G a,yG (z7 (st:=st) l c k) hb⟩
structure FD(P:Program)(w:World)(K:Frag)(mg:Str->Option Value)(base:Heap)(C:Cfg)(k:Nat)(x:Str)(ps:List Str)(n:Nat)(F:List D->R D)(κ:Bool):Prop where
 ex:∃a fd,j7 P w K mg base (qg P w) k a fd ps (XS K C n F κ)/\mg x=some (.ref a)/\keepIn K (.ref a)=true/\Binds K fd ps []/\∃o,K.lookup a=some o/\o.data = .func fd
theorem Bm{K:Frag}{x qual:Str}{st:Stmt}{a:Addr}{fd:FuncData}(F:GW K x qual st a fd):∃o,K.lookup a=some o/\o.data = .func fd:=by
 refine Ol F.ex fun oc od kV doc pm an f9 ct Gg e lk EF=>?_
 exact⟨_,lk,rfl⟩
theorem fm{P:Program}{w:World}{K:Frag}{mg:Str->Option Value}{base:Heap}{C:Cfg}{x qual:Str}{st:Stmt}{N ps:List Str}{Γ:List SK}{k n:Nat}{gx:Bool}{Fb:DS}(T:tW K mg x qual st ps)(S:bA N ps (az st))(hn:ps.length=n)(AK:∀i,i < n->Γ[i]?=some .par)
  (body:∀(f:Addr) (f9:Value) (A:Around) (outer:List Env) (s:Shared) (H:Hp) (E:XK),iH k (A.deeper (envOfC qual (az st) s.heap.objs.size f f9))->
   uu ((qy (qg P w) P w K mg base N qual (az st) f f9 A outer s H E).dj (kI (qy (qg P w) P w K mg base N qual (az st) f f9 A outer s H E) fun _=>E)) (b9 st) (r9 K C H Γ (fun _=>E) gx Fb)) :
  FD P w K mg base C (k+1) x ps n (bS N.length Fb) gx:=by
 refine b6 T fun a fd Fu hm hb=>?_
 clear T
 exact⟨a,fd,Qh Fu S hn AK (body a),hm,Fu.kp,hb,Bm Fu⟩
theorem aK{X:Cx}{C:Cfg}{G0:Hp}{Γ:List SK}{E:L2.St->XK}{e:Expr}{es:List Expr}{fs:DA}{κ:Kd}{pos p:Pos}{x:Str}{k j n:Nat}{ps:List Str}{F:List D->R D}{xD:Bool}{VT:Kd}(Fn:FD X.prog X.w X.K X.mg X.base C k x ps n F xD)(hr:iH j X.A)(hj:k<=j)
  (ha:PA (X.dj (kI X E)) (e::es) (Ft X.K C G0 Γ E fs κ)) (hlen:∀st ds,fs st = .ok ds->ds.length=n) (hkc:Im xD=VT:=by rfl) (hg:Gl X x:=by rfl) (ET:(x==("__debug__" : Str))=false:=by decide) (he:starEach (e::es) X.env=(false,eval e X.env)::starEach es X.env:=by rfl) (vM:(backTo pos (starEach es X.env)).any (·.1)=false:=by rfl) :
  PE (X.dj (kI X E)) (.Call (.Name x p) (e::es) [] pos) (tD X.K C G0 Γ E (br F fs) VT):=by
 refine EB Fn.ex fun a fd h1 h2 h3 h4 _=>?_
 subst hkc
 exact Lu h1 (hr.mono hj) h2 h3 h4 ha hlen hg ET he vM
theorem wK{cl cs:List (Str×Addr)}(h:∀p∈cl,cs.lookup p.1=some p.2):∀x c,cl.lookup x=some c->cs.lookup x=some c:=fun x c e=>by
 induction cl with
 | nil=>cases e
 | cons p cl ih=>
  obtain ⟨n,a⟩:=p
  rw[List.lookup_cons] at e
  by_cases hx:(x==n)=true
  ·rw[hx] at e
   cases e
   rw[aF0.mp hx]
   exact h (n,c) (.head _)
  ·rw[Bool.not_eq_true] at hx
   rw[hx] at e
   exact ih (fun q m=>h q (.tail _ m)) e
theorem lookup_mem{β:Type}{x:Str}{k:β}:∀{names:List (Str×β)},names.lookup x=some k->(x,k)∈names
 | [],e=>by cases e
 | (n,k')::ns,e=>by
  rw[List.lookup_cons] at e
  by_cases hx:(x==n)=true
  ·rw[hx] at e
   cases e
   rw[aF0.mp hx];exact .head _
  ·rw[Bool.not_eq_true] at hx
   rw[hx] at e
   exact .tail _ (lookup_mem e)
theorem sG{names:List (Str×NameKind)}{cl:List (Str×Addr)}(h:(names.all fun p=>(p.2 != .cell&&p.2 != .free) || (cl.lookup p.1).isSome)=true):∀x,(names.lookup x=some .cell\/names.lookup x=some .free)->∃c,cl.lookup x=some c:=fun x e=>by
 have go:∀{k:NameKind},names.lookup x=some k->(k != .cell&&k != .free)=false->∃c,cl.lookup x=some c:=fun {k} e hk=>by
  have:=aI0.mp h _ (lookup_mem e)
  dsimp only at this
  rw[hk,Bool.false_or] at this
  exact Option.isSome_iff_exists.mp this
 rcases e with e | e
 ·exact go e rfl
 ·exact go e rfl
theorem sH{X:Cx}{C:Cfg}{G0:Hp}{Γ:List SK}{E:L2.St->XK}{tg iter elt:Expr}{ifs:List Expr}{scope:Scope}{cl:List (Str×Addr)}{pos:Pos}{g:TG}{bind:DB}{gi:DI}{ft fe:DF}{vp xD:Kd}{n z:Bool}{gy:List Str}{caps:List (Nat×Str)}{kk:Nat}{fr:List Nat}
  (CI:PI X tg iter (LA X.K C G0 Γ E z gi)) (b:LB X C G0 Γ tg elt ifs scope cl g bind ft fe vp n z gy caps) (hs:∀x,foldedSetIterable iter X.env x=pure x:=by intro _;rfl) (hk:wI z n=xD:=by rfl) (h1:gy.length=kk:=by rfl) (h2:caps.map (·.1)=fr:=by rfl) :
  PE X (.ListComp elt [⟨tg,iter,ifs,0⟩] scope pos) (tD X.K C G0 Γ E (jk gi kk fr bind ft fe) xD):=by
 subst hk;subst h1;subst h2
 exact LC CI b hs
theorem IM{X:Cx}{C:Cfg}{G0:Hp}{Γ:List SK}{E:L2.St->XK}{gx:Bool}{tg iter elt:Expr}{ifs:List Expr}{scope:Scope}{cl:List (Str×Addr)}{pos:Pos}{g:TG}{bind:DB}{gi:DI}{ft fe:DF}{vp:Kd}{n z:Bool}{gy:List Str}{caps:List (Nat×Str)}{kk:Nat}{fr:List Nat}
  {i:Nat} {k:SK} {x:Str} {pos' IE:Pos} (hN:X.N.Nodup) (CI:PI X tg iter (LA X.K C G0 Γ E z gi)) (b:LB X C G0 Γ tg elt ifs scope cl g bind ft fe vp n z gy caps) (hk:Γ[i]?=some k:=by rfl) (hl:k.takes (wI z n)=true:=by rfl) (hi:X.N[i]?=some x:=by rfl) (hx:X.env.scope.names.lookup x=some .local:=by rfl)
  (hsw:swapsWith (.ListComp elt [⟨tg,iter,ifs,0⟩] scope pos) (some (.Name x pos')) IE.line X.env=pure true:=by rfl) (hs:∀x,foldedSetIterable iter X.env x=pure x:=by intro _;rfl) (h1:gy.length=kk:=by rfl) (h2:caps.map (·.1)=fr:=by rfl) :
  PS X (.Assign [.Name x pos'] (.ListComp elt [⟨tg,iter,ifs,0⟩] scope pos) IE) (r9 X.K C G0 Γ E gx (bP i (jk gi kk fr bind ft fe))):=by
 subst h1;subst h2
 exact LD hN CI b hk hl hi hx hsw hs
end Dm
end ah9
section ai1
namespace Dm
open PySem PySem.Spec PyProof.Rows L2
def Ite(K:Frag)(a:Addr):It:=
 ⟨fun i H=>∃xs x,ko K H a xs/\xs[i]?=some x,fun i H x H'=>∃T y,H T=none/\H'=upd H T (.tup [.int i,y])/\x = .ref T/\∀xs,ko K H a xs->xs[i]?=some y,fun i H=>∃xs,ko K H a xs/\xs.length<=i⟩
theorem FP{P:Program}{w:World}{K:Frag}{elts:List Expr}{x1}{pos:Pos}(a e it:Addr)(hei:e≠it):Turn P w K (.Tuple elts x1 pos) (Ite K a) [e,it] e (fun i h=>(∃old,IsEnum h e it i old)/\h.IsListIter it a i) where
 mem:=by simp
 obj:=fun i h st b hb=>by
  obtain ⟨⟨old,he⟩,o,ho,c,d⟩:=st
  rcases aC6.mp hb with rfl | hb
  ·exact⟨_,he,fun v z=>by cases z⟩
  ·obtain rfl:b=it:=by simpa using hb
   exact⟨o,ho,fun v z=>by rw[d] at z;cases z⟩
 keep:=fun i h h' st k=>⟨st.1.imp fun old he=>k e (by simp) _ he,st.2.at fun o z=>k it (by simp) o z⟩
 item:=by
  walk_at"A"
  subst hP hw hK
  obtain ⟨⟨old,he⟩,hit⟩:=st
  refine cP hg fun xs x hq hx=>?_
  clear hg
  refine bM (I.list hq) fun bf rv p hz=>?_
  refine aM (rv.get hx) fun u hu ru=>?_
  have fe:=hf e (by simp)
  have fi:=hf it (by simp)
  have hn:H s.heap.objs.size=none:=I.eE.fresh (aC4 _)
  refine wpAny_pyNext_enum_item he hit p.isList (x:=u) (by simpa using hu) hei fun h' ho Qt hT hsz hk=>⟨_,rfl,?_⟩
  have kp:∀b o,b∉[e,it]->s.heap.get? b=some o->h'.get? b=some o:=fun b o hb q=>hk b o (fun z=>hb (by simp[z])) (fun z=>hb (by simp[z])) q
  have lt:∀b o,s.heap.get? b=some o->b≠s.heap.objs.size:=fun b o q=>aE5 (aD9 q)
  have I1:L2.Inv X pins σ (upd H s.heap.objs.size (.tup [.int i,x])) { s with heap:=h',toks:=s.toks+1 }:=by
   refine Inv.Av I (s':={ s with heap:=h',toks:=s.toks+1 }) (ch:=[e,it]) rfl ⟨fun b o q n nf nx=>kp b o nx q,fun b o q n nf nx=>⟨o.slots,kp b o nx q⟩,fun b o q n nx=>?_,fun b o q nx=>⟨o,kp b o nx q⟩,fun b ys q=>?_,fun b o u' q=>?_,fun b ps q=>⟨#[],?_⟩⟩ (fun b o q=>?_) I.bare (fun b hb=>?_)
   ·rw[aX (lt b o q)];exact n
   ·rw[aX (bF q hn)];exact q
   ·rw[aX (bF q hn)];exact q
   ·rw[aX (bF q hn),q];simp
   ·by_cases hb:b=s.heap.objs.size
    ·subst hb
     rw[bN] at q;cases q
     exact⟨by simp only[aD1,List.length_nil];rw[aG6];decide,[.int i s.toks,u],.cons ⟨_,rfl⟩ (.cons ru .nil),⟨_,hT,rfl,0,rfl⟩⟩
    ·rw[aX hb] at q
     refine(I.eE b o q).yS (fun c v uT z=>kp c v ?_ z) (fun c z=>by rw[aX (bF z hn)];exact z) fun c ys z=>by rw[aX (bF z hn)];exact z
     intro hm
     rcases aC6.mp hm with rfl | hm
     ·rcases uT with rfl | uT
      ·rw[fe.1] at q;cases q
      ·rw[fe.1] at uT;cases uT
     ·obtain rfl:c=it:=by simpa using hm
      rcases uT with rfl | uT
      ·rw[fi.1] at q;cases q
      ·rw[fi.1] at uT;cases uT
   ·refine uR (hf b hb) fun f0 f1 f2 f3 f4 f5=>?_
    exact⟨f3,f1,f4,f5⟩
  have ne:e≠s.heap.objs.size:=lt e _ he
  have ni:it≠s.heap.objs.size:=by obtain ⟨o,z,_⟩:=hit;exact lt it _ z
  refine uR fe fun f0 f1 f2 f3 f4 f5=>?_
  clear fe
  refine wpAny_letOwnedTupleGo_enum ho fun h2 RU OV=>?_
  have I2:L2.Inv X pins σ (upd H s.heap.objs.size (.tup [.int i,x])) { s with heap:=h2,toks:=s.toks+1 }:=I1.turned (t':=s.toks+1) (fun b o hb q=>(OV.2 b hb).trans q) (by rw[aX ne];exact f0) f1 f3 f4 f5
  refine⟨.ref s.heap.objs.size,_,I2,rfl,⟨_,x,hn,rfl,rfl,fun ys hy=>by rw[I.vI hy hq];exact hx⟩,⟨⟨u,by simpa using RU⟩,Qt.at fun o z=>(OV.2 it (Ne.symm hei)).trans z⟩,fun b hb=>?_⟩
  rcases aC6.mp hb with rfl | hb
  ·rw[aX ne];exact f0
  ·obtain rfl:b=it:=by simpa using hb
   rw[aX ni];exact fi.1
 done:=by
  walk_at"A"
  subst hP hw hK
  obtain ⟨⟨old,he⟩,hit⟩:=st
  refine aM hg fun xs hq hx=>?_
  clear hg
  refine bM (I.list hq) fun bf rv p hz=>?_
  walk_at"F"
  have hl:=rv.length
  exact wpAny_pyNext_enum_end (I.ok.hd hc) he hit p.isList (Array.getElem?_eq_none (by simp;lia)) fun h' eb=>⟨rfl,I.turned (t':=s.toks) (fun b o hb e=>eb b o hb e) f0 f1 f3 f4 f5⟩
 self:=fun _ _ _ _ _ st h=>by
  obtain ⟨⟨old,he⟩,_⟩:=st
  exact wpAny_pyIter_enum he h
def iEn(K:Frag)(ta:TA):TI:=fun σ H R=>ta σ H fun vs H1=>∃a,vs=[.ref a]/\(∃xs,ko K H1 a xs)/\R (Ite K a) H1
theorem FQ:bootBuiltins "enumerate" =some (.type "enumerate"):=by decide +kernel
section
variable {X:Cx}{C:Cfg}{G0:Hp}{Γ:List SK}{E:L2.St->XK}{iter a tg:Expr}{f:DF}{κ:Kd}{pos:Pos}{z:Bool}{elts:List Expr}{x1:Nat}{F:DS}{gx:Bool}{ss:List Stmt}
theorem LL{p pos tp:Pos}{ta:TA}(hg:Gl X "enumerate")(hm:X.mg "enumerate" =none)(ha:PA X [a] ta)(hs:starEach [a] X.env=[(false,eval a X.env)]:=by rfl):PI X (.Tuple elts x1 tp) (.Call (.Name "enumerate" p) [a] [] pos) (iEn X.K ta):=by
 intro pins s σ H R I h
 refine Call_ (vH I hg hm FQ (PyProof.Rows.callWith_type1 (fS (ha pos pins s σ H _ I h) fun us s1 jg=>?_) hs rfl))
 refine b6 jg fun vs H1 I1 r1 q1=>?_
 clear jg
 refine bM q1 fun a e aR q=>?_
 clear q1
 obtain ⟨xs,hq⟩:=aR
 subst e
 cases r1 with
 | cons r rr=>
  cases rr
  cases r
  refine bM (I1.list hq) fun bf rv p hz=>?_
  refine call_enumerate_list p.isList fun h' he hit hsz hk=>wpAny_pyIter_enum he ?_
  have I2:L2.Inv X pins σ H1 { s1 with heap:=h' }:=I1.kept (t':=s1.toks) hk
  refine⟨s1.heap.objs.size+1,[s1.heap.objs.size+1,s1.heap.objs.size],_,_,H1,rfl,I2,FP a _ _ (Nat.succ_ne_self _),⟨⟨.none,he⟩,hit⟩,fun b hb=>?_,q⟩
  have qi:s1.heap.objs.size<=b:=by
   rcases aC6.mp hb with rfl | hb
   ·exact Nat.le_succ _
   ·obtain rfl:b=s1.heap.objs.size:=by simpa using hb
    exact aC4 _
  exact I1.GD qi (I1.eE.fresh qi)
def VU(ds:List D):List D:=ds.mapIdx fun i d=>.tup [.int i,d]
def LM(f:DF):DI:=fun st=>match f st with | .ok (.lst ds)=>.ok (VU ds) | .ok _=>.bad | .ex c p=>.ex c p | .bad=>.bad
theorem LN{p tp:Pos}(hm:X.mg "enumerate" =none)(ha:PE X a (tD X.K C G0 Γ E f κ))(l:z=true->κ.le .old=true)(hgl:Gl X "enumerate":=by rfl)(XT:starEach [a] X.env=[(false,eval a X.env)]:=by rfl):PI X (.Tuple elts x1 tp) (.Call (.Name "enumerate" p) [a] [] pos) (LA X.K C G0 Γ E z (LM f)):=(LL hgl hm (eN ha iM XT) XT).imp fun σ H Q zz=>by
 walk_at".01"
 unfold LM at q
 cases hf:f st with
 | bad=>rw[hf] at q;exact q
 | ex c p=>rw[hf] at q;exact q
 | ok d=>
  walk_at"2"
  cases d with
  | lst ds=>
   walk_at","
   intro v H1 e1 w
   have w':Rep X.K C (er H1 (zB z A)) (.lst ds) v:=by
    unfold zB
    cases z with
    | true=>exact w.le r e1 (κ':=.old) (l rfl)
    | false=>rw[aC3 (by decide),mV];exact w.rep
   rw[Rep] at w'
   refine b6 w' fun a xs aR h2 h3=>?_
   clear w'
   walk_at"#"
   refine⟨a,rfl,⟨xs,(aF _ _).seq h2⟩,q _ _ e1 fun i H3 A3 e3 nA=>⟨fun d hd=>?_,fun hd=>?_⟩⟩
   ·unfold VU at hd
    rw[List.getElem?_mapIdx] at hd
    cases xS:ds[i]? with
    | none=>rw[xS] at hd;cases hd
    | some d0=>
     rw[xS] at hd;cases hd
     refine aM (h3.get' xS) fun v hv rv=>?_
     have s3:ko X.K H3 a xs:=(e3.trans (aF _ _)).seq h2
     refine⟨⟨xs,v,s3,hv⟩,fun x H' oG=>?_⟩
     refine uS oG fun T y hT hH ex hx=>?_
     clear oG
     subst hH ex
     have:=hx xs s3
     rw[hv] at this;cases this
     have nT:T∉A3:=fun m=>nA T m hT
     refine⟨cz hT,?_⟩
     have up:aB (er H3 A3) (er (upd H3 T (.tup [.int i,v])) A3):=aG (cz hT)
     rw[Rep]
     refine⟨T,_,rfl,.inl (.inl (by rw[aS nT,bN])),?_⟩
     rw[aH]
     refine⟨.int i,[v],rfl,xQ,?_⟩
     rw[aH]
     refine⟨v,[],rfl,rv.same ((aF _ _).trans (e3.trans up)) _,?_⟩
     rw[aH]
   ·unfold VU at hd
    rw[List.getElem?_mapIdx] at hd
    refine⟨xs,(e3.trans (aF _ _)).seq h2,by rw[h3.len];exact aH6.mp (by cases xS:ds[i]? with | none=>rfl | some d=>rw[xS] at hd;cases hd)⟩
  | _=>exact q.elim
theorem LO{bind:DB}{g:TG}{gi:DI}(hp:PassesOwn (model X.prog X.w) X.A X.env X.xe)(hc:X.calm=true)(hI:PI X tg iter (LA X.K C G0 Γ E true gi))(hg:PG X tg g)(hB:qG X.K C G0 Γ g bind)(hb:uu X ss (r9 X.K C G0 Γ E gx F))(hs:∀x,foldedSetIterable iter X.env x=pure x:=by intro _;rfl) :
  PS X (.For tg iter ss [] pos) (r9 X.K C G0 Γ E gx (dP gi bind F)):=(C1 hp hc hI hg hb hs).imp fun D σ H zz=>by
 walk_at".01"
 unfold dP at q
 cases hg:gi st with
 | bad=>rw[hg] at q;exact q.elim
 | ex c p=>rw[hg] at q;exact fun H' e'=>q σ H' A (r.mono e') (aG e')
 | ok ds=>
  rw[hg] at q
  intro J H1 e1 hJ
  exact tU hB hJ r e1 q
end
end Dm
end ai1
section ai2
namespace Dm
open PySem PySem.Spec PyProof.Rows L2 PySem.W
section
variable {C:Cfg}{G0:Hp}{Γ:List SK}{E:L2.St->XK}{a b:Expr}
def aB2:D->D->R D:=fun a b=>match a,b with
 | .lst ds,.int k=>if (d9 ds&&decide (0<=k)&&decide (k < 5000)&&decide (ds.length * k.toNat<=5000))=true then .ok (.lst (List.replicate k.toNat ds).flatten) else .bad
 | _,_=>.bad
def tX:List D->R D:=fun ds=>match ds with | [.int i]=>.ok (.int (if i < 0 then -i else i)) | _=>.bad
theorem IP:bootBuiltins "abs" =some (.builtin "abs"):=by decide +kernel
theorem mz:bootBuiltins "tuple" =some (.type "tuple"):=by decide +kernel
theorem E8{K:Frag}:Qf K C (fun xs H Q=>∃i,xs=[.int i]/\Q (.int (if i < 0 then -i else i)) H) tX .new:=fun G0 Γ E σ A st H ds xs Q r w q=>by
 unfold tX at q
 split at q
 ·rename_i z
  split at z
  ·rename_i i
   cases z
   walk_at"J7"
   rw[Rep] at w1
   subst w1
   exact⟨i,rfl,q _ H (.refl _) (.flat r (.refl _) (by rw[fR] <;> simp) xQ _)⟩
  ·cases z
 ·rename_i z;split at z <;> cases z
 ·exact q.elim
def isI:D->Bool | .int _=>true | _=>false
def VV:D->Bool | .tup (.int _::_)=>true | _=>false
def VW:D->Bool | .tup (.tup _::_)=>true | _=>false
def qJ(ds:List D):Bool:=decide (ds.length < 64)&&d9 ds&&ds.all (fun d=>nl d&&decide (dep d<=50))&&ds.all (fun a=>ds.all fun b=>fG a b)&&(ds.all isI || ds.all VV || ds.all VW)
theorem IQ{ds:List D}(h:qJ ds=true):sd ds:=by
 unfold qJ at h
 simp only[aD4,Bool.or_eq_true,aG0,aI0] at h
 obtain ⟨⟨⟨⟨h1,h2⟩,h3⟩,h4⟩,h5⟩:=h
 refine⟨?_,h1,fun a ha b hb=>h4 a ha b hb,fun a ha=>(h3 a ha).1,fun a ha=>(h3 a ha).2⟩
 rcases h5 with (h5 | h5) | h5
 ·exact⟨_,.nums fun d hd=>by have:=h5 d hd;unfold isI at this;split at this;exact⟨_,rfl⟩;cases this⟩
 ·exact⟨_,.qx fun d hd=>by have:=h5 d hd;unfold VV at this;split at this;exact⟨_,_,rfl⟩;cases this⟩
 ·exact⟨_,.PV fun d hd=>by have:=h5 d hd;unfold VW at this;split at this;exact⟨_,_,rfl⟩;cases this⟩
def eW:List D->R D:=fun ds=>match ds with
 | [.lst es]=>if qJ es=true then .ok (.lst (dm es)) else .bad
 | _=>.bad
theorem qm{K:Frag}:Qf K C (HV K C) eW .new:=fun G0 Γ E σ A st H ds xs Q r w q=>by
 cases hg:eW ds with
 | bad=>rw[hg] at q;exact q.elim
 | ex c p=>unfold eW at hg;split at hg <;> (try split at hg) <;> cases hg
 | ok d=>
  rw[hg] at q
  unfold eW at hg
  split at hg
  ·rename_i es
   split at hg
   ·rename_i hc
    cases hg
    walk_at"J7"
    have n:d9 es=true:=by unfold qJ at hc;simp only[aD4] at hc;exact hc.1.1.1.2
    refine⟨v,es,rfl,w1,IQ hc,fun p ws hp GB=>q _ _ (cz hp) (.lst r (.refl _) hp (GB.part (.nw (.refl _)) _ ?_))⟩
    exact fV fun d hd=>jL n ((cG es).mem_iff.mp hd)
   ·cases hg
  ·cases hg
end
end Dm
end ai2
section ai3
namespace Dm
open PySem PySem.Spec PyProof.Rows L2 PySem.W
theorem IS{K:Frag}{a b:String}{r:Bool}(h0:(Value.type a==Value.type b)=false)(h1:kitMeta b=true)(h2:(fastBuiltinMro a).map (·.contains (.type b))=some r):kitOne K (.type a) (.type b)=some r:=by
 unfold kitOne
 rw[aC3 (by rw[h0];exact aF8)]
 unfold kitCls
 dsimp only
 rw[aC2 h1]
 exact h2
section
variable {X:Cx}{C:Cfg}{G0:Hp}{Γ:List SK}{E:L2.St->XK}{a e iter tg:Expr}{f:DF}{κ:Kd}{z:Bool}
def ir:List D->R D:=fun ds=>match ds with | [.lst es]=>if d9 es=true then .ok (.tup es) else .bad | _=>.bad
theorem jA{K:Frag}:Qf K C (fun xs H Q=>∃p ys,xs=[.ref p]/\((ko K H p ys/\∀l,H l=none->Q (.ref l) (upd H l (.tup ys)))\/(lQ K H p ys/\Q (.ref p) H))) ir .new:=fun G0 Γ E σ A st H ds xs Q r w q=>by
 unfold ir at q
 split at q
 ·rename_i zz
  split at zz
  ·rename_i es
   split at zz
   ·rename_i n
    cases zz
    walk_at"J7"
    refine b6 w1.items fun p ys aR s t=>?_
    walk_at"#"
    refine⟨p,ys,rfl,.inl ⟨s,fun l hl=>q _ _ (cz hl) (.flat r (cz hl) (by rw[fR];exact n) ?_ _)⟩⟩
    rw[Rep]
    exact⟨l,ys,rfl,.inl (.inl bN),t.same (cz hl) _⟩
   ·cases zz
  ·cases zz
 ·rename_i zz
  split at zz
  ·split at zz <;> cases zz
  ·cases zz
 ·exact q.elim
def Y5(f:DF):DI:=fun st=>match f st with | .ok (.tup ds)=>.ok ds | .ok _=>.bad | .ex c p=>.ex c p | .bad=>.bad
theorem Qu(he:PE X iter (tD X.K C G0 Γ E f κ))(l:z=true->κ.le .old=true):PI X tg iter (LA X.K C G0 Γ E z (Y5 f)):=(OQ he).imp fun σ H Q zz=>by
 walk_at".01"
 unfold Y5 at q
 cases hf:f st with
 | bad=>rw[hf] at q;exact q
 | ex c p=>rw[hf] at q;exact q
 | ok d=>
  walk_at"2"
  cases d with
  | tup ds=>
   walk_at","
   intro v H1 e1 w
   have w':Rep X.K C (er H1 (zB z A)) (.tup ds) v:=by
    unfold zB
    cases z with
    | true=>exact w.le r e1 (κ':=.old) (l rfl)
    | false=>rw[aC3 (by decide),mV];exact w.rep
   rw[Rep] at w'
   refine b6 w' fun a xs aR h2 h3=>?_
   clear w'
   walk_at"#"
   have sq:∀{F F':Hp},aB F F'->lQ X.K F a xs->lQ X.K F' a xs:=fun e h=>aB.tup e h
   refine⟨a,rfl,⟨xs,sq (aF _ _) h2⟩,q _ _ e1 fun i H3 A3 e3 _=>⟨fun d hd=>?_,fun hd=>?_⟩⟩
   ·refine aM (h3.get' hd) fun v hv rv=>?_
    have s3:lQ X.K H3 a xs:=sq (e3.trans (aF _ _)) h2
    refine⟨⟨xs,v,s3,hv⟩,fun x H' jg=>?_⟩
    obtain ⟨hH,hx⟩:=jg
    subst hH
    have:=hx xs s3
    rw[hv] at this;cases this
    exact⟨.refl _,rv.same e3 _⟩
   ·exact⟨xs,sq (e3.trans (aF _ _)) h2,by rw[h3.len];exact aH6.mp hd⟩
  | _=>exact q.elim
end
end Dm
end ai3
section ai4
namespace Dm
open PySem PySem.Spec PyProof.Rows L2
def cellsOf:List D->Option (List (Int×Int))
 | []=>some []
 | .tup [.int r,.int c]::ds=>(cellsOf ds).map ((r,c) :: ·)
 | _=>none
def intsOf:List D->Option (List Int)
 | []=>some []
 | .int i::ds=>(intsOf ds).map (i :: ·)
 | _=>none
section
variable {K:Frag}{C:Cfg}{H:Hp}
theorem yH:∀{ds:List D} {cs:List Int},intsOf ds=some cs->ds=cs.map D.int
 | [],cs,h=>by cases h;rfl
 | .int r::ds,cs,h=>by
  rw[intsOf] at h
  refine aM (Option.map_eq_some_iff.mp h) fun cs' h1 aR=>?_
  walk_at"#"
  rw[yH h1];rfl
theorem yI:∀{ns:List Int} {vs:List V},aH K C H (ns.map D.int) vs->vs=ns.map V.int
 | [],_,h=>by rw[List.map_nil,aH] at h;exact h
 | n::ns,_,h=>by
  rw[aC1,aH] at h
  refine b6 h fun v r aR q t=>?_
  clear h
  walk_at"#"
  rw[Rep] at q
  subst q
  rw[yI t];rfl
end
end Dm
end ai4
section ai5
namespace Dm
open PySem PySem.Spec PyProof.Rows L2
end Dm
namespace Dm
theorem tY{u c:Nat}(h:u+64 < c):u+2 < c:=by lia
theorem Qv{u c:Nat}(h:u+64 < c):u+1 < c:=by lia
end Dm
end ai5
section VX
namespace Dm
open PySem PySem.Spec PyProof.Rows L2
def KL(K:Frag)(H:Hp)(ps:List SP)(xU:List (List (List Int))):Prop:=xU.length=ps.length/\∀z∈ps.zip xU,mq K H z.2 z.1.2.1
section
variable {X:Cx}
theorem keys_eq{pins:List (Addr×Obj)}{σ:L2.St}{H:Hp}{s:Shared}(I:L2.Inv X pins σ H s):∀{ps:List SP} {xU:List (List (List Int))},(∀p∈ps,mq X.K H p.1 p.2.1)->KL X.K H ps xU->ps.map (·.1)=xU
 | [],[],_,_=>rfl
 | [],_::_,_,h=>by cases h.1
 | _::_,[],_,h=>by cases h.1
 | p::ps,k::xU,hk,h=>by
  rw[aC1,keys_eq I (fun q m=>hk q (.tail _ m)) ⟨by simpa using h.1,fun z m=>h.2 z (.tail _ m)⟩]
  rw[(Hk.mY (intKind X.prog X.w)).inj (rf I (hk p (.head _))) (rf I (h.2 (p,k) (.head _)))]
def VY(K:Frag):R2:=fun x y H Q=>∃a b ob ps ks xU,x = .ref a/\y = .ref b/\H a=some (.ext (DY a ob ps))/\(∀p∈ps,mq K H p.1 p.2.1)/\KL K H ps xU/\mq K H ks b/\(ps.map (·.1)=xU->(∀l ys xs,ko K H l ys->ko K H l xs->ys=xs)->∃p v,atKey ps ks=some p/\RelV v p.2/\Q v H)
theorem ai6(hu:X.A.units+2 < cLine):KP X (VY X.K):=by
 intro value slice pins s σ H x y v u Q I rx ry h hs
 obtain ⟨a,b,ob,ps,ks,xU,rfl,rfl,ha,hk,VZ,hb,q⟩:=h
 cases rx;cases ry
 obtain ⟨p,z,hp,rz,q⟩:=q (keys_eq I hk VZ) fun l ys xs h1 h2=>I.vI h1 h2
 obtain ⟨dd,hd,_⟩:=vq I ha hk
 have hT:s.TypeIs (.ref a) "dict":=dd.typeIs
 unfold subscriptTail
 refine aB8 ?_
 rw[getitemInPython_of_ne hT.not_modules]
 refine aB8 (wpAny_specialOf hT PySem.F.slot_dict_getitem.lookup ?_)
 have fin:wpAny (model X.prog X.w) X.A (subscripted slice false (.ref a) (.ref b)) (fun r Qq=>wpAny (model X.prog X.w) X.A (letTemporaryGo value (.ref a) r>>=fun _=>pure r) (EP X pins σ Q) X.xe Qq) X.xe s:=by
  rw[hs]
  refine wpAny_operating (wpAny_getItem_heap (show X.A.units+1+1 < cLine from hu) (rf I hb) dd hp ?_)
  exact aB8 (wpAny_letTemporaryGo (aB9 ⟨z,H,I.tok _,rz,q⟩))
 first
  | exact aB9 (aB8 fin)
  | exact aB8 (aB9 (aB8 fin))
  | exact aB8 fin
def W0(K:Frag):V->V->V->Hp->(Hp->Prop)->Prop:=fun o i v H Q=>∃a b ob ps ks xU,o = .ref a/\i = .ref b/\H a=some (.ext (DY a ob ps))/\(∀p∈ps,mq K H p.1 p.2.1)/\KL K H ps xU/\mq K H ks b/\ps.length < sizeLine/\∀u Q7,RelV v u->ps.map (·.1)=xU->Q (upd H a (.ext (DY a Q7 (storedH ps ks b u))))
theorem CK{ps:List SP}{ks:List (List Int)}{b:Addr}{u:Value}:(storedH ps ks b u).length<=ps.length+1:=by
 unfold storedH
 split
 ·rw[aC8];exact Nat.le_succ _
 ·rw[aD0];exact aC4 _
theorem W6(hu:X.A.units+2 < cLine):Sw X (W0 X.K):=by
 intro pins s σ H o i v ov iv u Q I ro ri rv h
 obtain ⟨a,b,ob,ps,ks,xU,rfl,rfl,ha,hk,VZ,hb,hl,q⟩:=h
 cases ro;cases ri
 obtain ⟨dd,hd,hz⟩:=vq I ha hk
 refine wpAny_setItem_heap (hsz:=hz) (show X.A.units+1+1 < cLine from hu) (rf I hb) dd fun h' W7 hs=>?_
 have he:∃q,h'.get? a=some q:=let ⟨q,_,_,hq,_⟩:=W7;⟨q,hq⟩
 obtain ⟨Q7,dy⟩:=DY.of hd (aD5 CK hl) W7
 exact⟨_,I.write (x:=a) (e:=a) (by rw[ha];trivial) (.inl rfl) (fun c w hc z=>(hs.2 c hc).trans z) he (E7 dy),q u _ rv (keys_eq I hk VZ)⟩
theorem Inv.W8{pins:List (Addr×Obj)}{σ:L2.St}{H:Hp}{s:Shared}(I:L2.Inv X pins σ H s):sysModules < s.heap.objs.size:=
 Nat.lt_trans (by decide) (show mainGlobals < s.heap.objs.size from (I.mod.glob.keeps I.bk).lt)
def W9:TE:=fun σ H Q=>∀p o,H p=none->Q (.ref p) (upd H p (.ext (DY p o [])))
theorem IT{h:Heap}(hb:(h.objs.size==sysModules)=false):DY h.objs.size { cls:=.type "dict",data:=.dict #[] } [] (h.push { cls:=.type "dict",data:=.dict #[] }):=
 ⟨hb,aI2 _,aE2 _ rfl,⟨rfl,rfl,rfl⟩,#[],0,rfl,fun _ _=>rfl,List.nodup_nil⟩
theorem LP{pos:Pos}:PE X (.Dict [] [] pos) W9:=fun pins s σ H Q I h=>
 wpAny_Dict_empty ⟨.ref s.heap.objs.size,_,I.laid (a:=s.heap.objs.size) (o:=.ext (DY s.heap.objs.size _ [])) (t':=s.toks) (fun _ _ q=>aC0 _ q) (aC4 _) (E7 (IT (aI1.mpr (Ne.symm (aE5 (Inv.W8 I)))))),rfl,h _ _ (I.eE.fresh (aC4 _))⟩
end
end Dm
end VX
section Wa
namespace Dm
open PySem PySem.Spec PyProof.Rows L2
def Bo:D->Option (List Int) | .tup ds=>intsOf ds | _=>none
def kK:List D->Option (List (List Int))
 | []=>some []
 | d::ds=>match Bo d,kK ds with | some a,some r=>some (a::r) | _,_=>none
def qC:D->Option (List (List Int)) | .tup ds=>kK ds | _=>none
def fD:List D->Option (List (List (List Int)×D×D))
 | []=>some []
 | k::v::r=>match qC k,fD r with | some a,some l=>some ((a,k,v)::l) | _,_=>none
 | _=>none
section
variable {K:Frag}{C:Cfg}{H:Hp}
theorem Bp{d:D}{a:List Int}(h:Bo d=some a):d = .tup (a.map D.int):=by
 cases d with
 | tup ds=>rw[Bo] at h;rw[yH h]
 | _=>cases h
theorem uH:∀{ds:List D} {ks:List (List Int)} {xs:List V},kK ds=some ks->aH K C H ds xs->∃cs:List Addr,xs=cs.map V.ref/\cs.length=ks.length/\∀z∈ks.zip cs,lQ K H z.2 (z.1.map V.int)
 | [],ks,xs,h,q=>by cases h;rw[aH] at q;subst q;exact⟨[],rfl,rfl,fun z m=>nomatch m⟩
 | d::ds,ks,xs,h,q=>by
  rw[kK] at h
  cases ha:Bo d with
  | none=>rw[ha] at h;cases h
  | some a=>
   cases hr:kK ds with
   | none=>rw[ha,hr] at h;cases h
   | some r=>
    rw[ha,hr] at h
    cases h
    rw[aH] at q
    obtain ⟨v,vs,rfl,q1,q2⟩:=q
    obtain ⟨cs,rfl,hl,hz⟩:=uH hr q2
    rw[Bp ha,Rep] at q1
    obtain ⟨c,ys,rfl,sq,rs⟩:=q1
    have e:=yI rs
    subst e
    exact⟨c::cs,rfl,by simp[hl],fun z m=>by
     rcases aC6.mp (show z∈(a,c)::r.zip cs from m) with rfl | m
     ·exact sq
     ·exact hz z m⟩
theorem mZ{d:D}{v:V}{ks:List (List Int)}(h:Rep K C H d v)(hk:qC d=some ks):∃b,v = .ref b/\mq K H ks b:=by
 cases d with
 | tup ds=>
  rw[Rep] at h
  obtain ⟨a,xs,rfl,sq,rs⟩:=h
  obtain ⟨cs,rfl,hl,hz⟩:=uH hk rs
  exact⟨a,rfl,cs,sq,hl,hz⟩
 | _=>cases hk
theorem yJ(p:SP)(ps:List SP)(v:V)(vs:List V):qB (p::ps) (v::vs) = .ref p.2.1::v::qB ps vs:=rfl
theorem Bq{vs:List V}{us:List Value}(h:Vals vs us):vs.length=us.length:=h.length
theorem wL:∀{ps:List SP} {vs:List V} {ds:List D} {l:List (List (List Int)×D×D)},vs.length=ps.length->aH K C H ds (qB ps vs)->fD ds=some l->
  ds=l.flatMap (fun z=>[z.2.1,z.2.2])/\KL K H ps (l.map (·.1))/\aH K C H (l.map (·.2.2)) vs/\aH K C H (l.map (·.2.1)) (ps.map fun p=>.ref p.2.1)
 | [],[],ds,l,_,q,h=>by
  have:qB [] []=[]:=rfl
  rw[this] at q
  cases ds with
  | nil=>cases h;exact⟨rfl,⟨rfl,fun z m=>nomatch m⟩,by rw[List.map_nil,aH],by rw[List.map_nil,aH];rfl⟩
  | cons d ds=>rw[aH] at q;obtain ⟨_,_,z,_⟩:=q;cases z
 | [],_::_,_,_,e,_,_=>by cases e
 | _::_,[],_,_,e,_,_=>by cases e
 | p::ps,v::vs,ds,l,e,q,h=>by
  rw[yJ] at q
  cases ds with
  | nil=>rw[aH] at q;cases q
  | cons k ds=>
   cases ds with
   | nil=>rw[aH] at q;obtain ⟨_,_,z,_,q⟩:=q;cases z;rw[aH] at q;cases q
   | cons w ds=>
    rw[fD] at h
    cases ha:qC k with
    | none=>rw[ha] at h;cases h
    | some a=>
     cases hr:fD ds with
     | none=>rw[ha,hr] at h;cases h
     | some r=>
      rw[ha,hr] at h
      cases h
      rw[aH] at q
      obtain ⟨_,_,z,q1,q⟩:=q
      cases z
      rw[aH] at q
      obtain ⟨_,_,z,q2,q⟩:=q
      cases z
      obtain ⟨i1,i2,i3,i4⟩:=wL (by simpa using e) q hr
      obtain ⟨b,z,hb⟩:=mZ q1 ha
      cases z
      refine⟨by rw[List.flatMap_cons,<- i1];rfl,⟨by simpa using i2.1,fun z m=>?_⟩,?_,?_⟩
      ·rcases aC6.mp (show z∈(p,a)::ps.zip (r.map (·.1)) from m) with rfl | m
       ·exact hb
       ·exact i2.2 z m
      ·rw[aC1];exact .cons q2 i3
      ·rw[aC1,aC1];exact .cons q1 i4
theorem wM{Cb:Addr}{ds:List D}{v:V}{l:List (List (List Int)×D×D)}(h:Rep K (aV Cb) H (.cu 2 ds) v)(hp:fD ds=some l):∃a o ps vs,v = .ref a/\Vals vs (ps.map (·.2.2))/\H a=some (.ext (DY a o ps))/\(∀p∈ps,mq K H p.1 p.2.1)/\(∀l,V.ref l∈vs->∃ys,H l=some (.lst ys))/\
  KL K H ps (l.map (·.1))/\aH K (aV Cb) H (l.map (·.2.2)) vs/\aH K (aV Cb) H (l.map (·.2.1)) (ps.map fun p=>.ref p.2.1):=by
 rw[Rep] at h
 obtain ⟨a,xs,rfl,ob,rs⟩:=h
 rcases ob with (⟨z,_⟩ | ⟨c,z,_⟩) | ⟨z,_⟩ | ⟨_,o,ps,vs,rfl,h2,h3,h4,h5⟩
 ·cases z
 ·unfold Ql at z;lia
 ·cases z
 ·obtain ⟨_,i2,i3,i4⟩:=wL (by rw[Bq h2,aC8]) rs hp
  exact⟨a,o,ps,vs,rfl,h2,h3,h4,h5,i2,i3,i4⟩
end
theorem CL{ps:List SP}{xU:List (List (List Int))}(h:ps.map (·.1)=xU)(ks:List (List Int)):(atKey ps ks).isSome=xU.any (fun k=>decide (k=ks)):=by
 subst h
 unfold atKey
 rw[Option.isSome_map]
 induction ps with
 | nil=>rfl
 | cons p ps ih=>
  rw[List.find?_cons,aC1,List.any_cons]
  cases decide (p.1=ks) with
  | true=>rfl
  | false=>rw[Bool.false_or];exact ih
end Dm
end Wa
section ai7
namespace Dm
open PySem PySem.Spec PyProof.Rows L2
def uV(f:DF)(F:DS):Nat->DS
 | 0,_=>.bad
 | n+1,st=>match f st with
  | .ok (.bl true)=>(match F st with
   | .nx st'=>uV f F n st'
   | .ct st'=>uV f F n st'
   | .bk st'=>.nx st'
   | o=>o)
  | .ok (.bl false)=>.nx st
  | .ok _=>.bad
  | .ex c p=>.ex c p st
  | .bad=>.bad
section
variable {X:Cx}{C:Cfg}{G0:Hp}{Γ:List SK}{E:L2.St->XK}{gx:Bool}{c:Expr}{f:DF}{pos:Pos}{ss:List Stmt}{F:DS}
theorem IU(n:Nat)(hp:PassesOwn (model X.prog X.w) X.A X.env X.xe)(hc:PT X c (An X.K C G0 Γ E f))(hb:uu X ss (r9 X.K C G0 Γ E gx F)):PS X (.While c ss [] pos) (r9 X.K C G0 Γ E gx (uV f F n)):=(GC hp hc hb).imp fun D σ H zz=>by
 walk_at".0"
 refine⟨fun m Gz H1=>∃A1 jh,RS X.K C G0 Γ Gz H1 A1 jh/\aB (er H A) (er H1 A1)/\uV f F m jh=uV f F n st,⟨n,A,st,r,.refl _,rfl⟩,?_⟩
 intro m Gz H1 w1
 refine b6 w1 fun A1 jh r1 e1 g1=>?_
 clear w1
 refine⟨A1,jh,r1,?_⟩
 rw[<- g1] at q
 cases m with
 | zero=>exact q.elim
 | succ m=>
  rw[uV] at q g1
  cases hf:f jh with
  | bad=>rw[hf] at q;exact q
  | ex cl p=>rw[hf] at q;exact fun H' e'=>q Gz H' A1 (r1.mono e') (e1.trans (aG e'))
  | ok d=>
   rw[hf] at q g1
   cases d with
   | bl b=>
    intro H2 e2
    cases b with
    | false=>rw[aC3 aF8];exact q Gz H2 A1 (r1.mono e2) (e1.trans (aG e2))
    | true=>
     rw[aC2 rfl]
     refine⟨fun Ay H3=>∃A3 Az,RS X.K C G0 Γ Ay H3 A3 Az/\aB (er H A) (er H3 A3)/\uV f F m Az=uV f F n st,fun Ay H3 w=>⟨m,Nat.lt_succ_self m,w⟩,A1,jh,r1.mono e2,?_⟩
     dsimp only at q g1
     cases hF:F jh with
     | nx lR=>rw[hF] at g1;exact fun Gp H4 A4 r4 e4=>⟨A4,lR,r4,(e1.trans (aG e2)).trans e4,g1⟩
     | ct lR=>rw[hF] at g1;exact fun Gp H4 A4 r4 e4=>⟨A4,lR,r4,(e1.trans (aG e2)).trans e4,g1⟩
     | bk lR=>rw[hF] at q;exact fun Gp H4 A4 r4 e4=>q Gp H4 A4 r4 ((e1.trans (aG e2)).trans e4)
     | rt d=>rw[hF] at q;exact q
     | ex cl p lR=>rw[hF] at q;exact fun Gp H4 A4 r4 e4=>q Gp H4 A4 r4 ((e1.trans (aG e2)).trans e4)
     | bad=>rw[hF] at q;exact q
   | _=>exact q.elim
end
end Dm
end ai7
section Wb
namespace Dm
open PySem PySem.Spec PyProof.Rows L2
section
variable {K:Frag}{Cb:Addr}{G0:Hp}{Γ:List SK}{σ:L2.St}{H H':Hp}{A:List Addr}{st:dX}{κ:Kd}
theorem Val.dct(r:RS K (aV Cb) G0 Γ σ H A st)(e:aB H H'){p:Addr}{o:Obj}{ps:List SP}{vs:List V}{ds:List D}(h:H' p=none)(rel:Vals vs (ps.map (·.2.2)))(hk:∀q∈ps,mq K (κ.hp G0 A H H') q.1 q.2.1)
  (hl:∀l,V.ref l∈vs->∃ys,κ.hp G0 A H H' l=some (.lst ys)) (q:aH K (aV Cb) (κ.hp G0 A H H') ds (qB ps vs)):Val K (aV Cb) κ G0 A H (upd H' p (.ext (DY p o ps))) (.cu 2 ds) (.ref p):=by
 have h0:H p=none:=e.free h
 have S:aB (κ.hp G0 A H H') (er (κ.hp G0 A H (upd H' p (.ext (DY p o ps)))) [p]):=fun b u z=>by
  have nb:b≠p:=fun w=>by
   have:=Kd.wm _ _ z
   rw[w,h] at this;cases this
  rw[aS (by simpa using nb)]
  exact Kd.sj (cz h) _ _ z
 have at_:κ.hp G0 A H (upd H' p (.ext (DY p o ps))) p=some (.ext (DY p o ps)):=DZ r e h
 have own:m6 K (aV Cb) (er (κ.hp G0 A H (upd H' p (.ext (DY p o ps)))) [p]) (κ.hp G0 A H (upd H' p (.ext (DY p o ps)))) p (.cu 2 ds):=
  ⟨rfl,qB ps vs,⟨o,ps,vs,rfl,rel,at_,fun x m=>(hk x m).mono S,fun l m=>let ⟨ys,z⟩:=hl l m;⟨ys,S _ _ z⟩⟩,q.same S _⟩
 have R:Rep K (aV Cb) (κ.hp G0 A H (upd H' p (.ext (DY p o ps)))) (.cu 2 ds) (.ref p):=own.rep (.refl _) rfl
 have T:∀G,G p=none->mT K (aV Cb) G (κ.hp G0 A H (upd H' p (.ext (DY p o ps)))) (.cu 2 ds) (.ref p):=fun G g=>⟨fun _=>⟨p,rfl,g,own⟩,.not rfl⟩
 cases κ with
 | new=>exact⟨R,T _ h0⟩
 | uF=>exact⟨R,T _ h0⟩
 | loc=>exact⟨R,T _ (r.g0.free h0)⟩
 | old=>exact R
 | lN=>exact⟨R,T _ (r.g0.free h0)⟩
 | aE=>exact R
end
section
variable {X:Cx}{Cb:Addr}{G0:Hp}{Γ:List SK}{E:L2.St->XK}{a:Expr}{pos:Pos}
theorem E9:PE X (.Dict [] [] pos) (tD X.K (aV Cb) G0 Γ E (dC (.cu 2 [])) .new):=LP.imp fun σ H Q zz=>by
 obtain ⟨A,st,r,q⟩:=zz
 intro p o hp
 exact q _ _ (cz hp) (Val.dct (ps:=[]) (vs:=[]) r (.refl _) hp .nil (fun _ m=>nomatch m) (fun _ m=>nomatch m) (by rw[aH];rfl))
def jP(o:Option (Option D)):Option (List D×List (List (List Int)×D×D)):=match o with
 | some (some (.cu 2 ds))=>(fD ds).map fun l=>(ds,l)
 | _=>none
theorem tZ{o:Option (Option D)}{z:List D×List (List (List Int)×D×D)}(h:jP o=some z):o=some (some (.cu 2 z.1))/\fD z.1=some z.2:=by
 unfold jP at h
 split at h
 ·rename_i ds
  cases hp:fD ds with
  | none=>rw[hp] at h;cases h
  | some l=>rw[hp] at h;cases h;exact⟨rfl,hp⟩
 ·cases h
theorem wN{o:Option (Option D)}{ds:List D}{l:List (List (List Int)×D×D)}(h:o=some (some (.cu 2 ds)))(hp:fD ds=some l):jP o=some (ds,l):=by
 subst h;show (fD ds).map _=_;rw[hp];rfl
def RV:D->Bool
 | .lst _=>true
 | .int _=>true
 | _=>false
theorem zO{kd:D}{ks:List (List Int)}(h:qC kd=some ks):fR kd=true:=by
 cases kd with
 | tup es=>
  rw[fR]
  refine fV ?_
  replace h:kK es=some ks:=h
  induction es generalizing ks with
  | nil=>intro x m;cases m
  | cons y es ih=>
   intro x m
   rw[kK] at h
   cases h1:Bo y with
   | none=>rw[h1] at h;cases h
   | some a=>
    cases h2:kK es with
    | none=>rw[h1,h2] at h;cases h
    | some r=>
     rcases aC6.mp m with rfl | m
     ·rw[Bp h1,fR]
      exact fV fun z hz=>by obtain ⟨w,_,rfl⟩:=aC5.mp hz;rw[fR] <;> simp
     ·exact ih h2 x m
 | _=>cases h
theorem aH.Wc{K:Frag}{C:Cfg}{H:Hp}:∀{ds es:List D} {xs ys:List V},aH K C H ds xs->aH K C H es ys->aH K C H (ds++es) (xs++ys)
 | [],es,xs,ys,h,h'=>by rw[aH] at h;subst h;exact h'
 | d::ds,es,xs,ys,h,h'=>by
  rw[aH] at h
  obtain ⟨v,r,rfl,q,t⟩:=h
  exact .cons q (aH.Wc t h')
theorem FT{ps:List SP}{vs:List V}{p:SP}{v:V}(h:vs.length=ps.length):qB (ps++[p]) (vs++[v])=qB ps vs++[.ref p.2.1,v]:=by
 unfold qB
 rw[List.zip_append h.symm,List.flatMap_append]
 rfl
theorem Vals.snoc:∀{vs:List V} {us:List Value} {v:V} {u:Value},Vals vs us->RelV v u->Vals (vs++[v]) (us++[u])
 | _,_,v,u,.nil,h=>.cons h .nil
 | _,_,v,u,.cons r t,h=>.cons r (Vals.snoc t h)
end
end Dm
end Wb
section Wd
namespace Dm
open PySem PySem.Spec PyProof.Rows L2
section
variable {C:Cfg}{a b:Expr}
def ay6:List D->R D:=fun ds=>match ds with
 | [.cu 2 xs]=>(match fD xs with | some l=>.ok (.int l.length) | none=>.bad)
 | _=>.bad
def yK:D->D->R D:=fun a b=>match a,qC b with
 | .cu 2 ds,some ks=>(match fD ds with
  | some l=>(match l.find? (fun z=>decide (z.1=ks)) with | some z=>if RV z.2.2=true then .ok z.2.2 else .bad | none=>.bad)
  | none=>.bad)
 | _,_=>.bad
theorem IV{a b d:D}(h:yK a b = .ok d):∃ds ks l z,a = .cu 2 ds/\qC b=some ks/\fD ds=some l/\l.find? (fun z=>decide (z.1=ks))=some z/\RV z.2.2=true/\d=z.2.2:=by
 unfold yK at h
 split at h
 ·rename_i ds ks hk
  split at h
  ·rename_i l hl
   split at h
   ·rename_i z hz
    split at h
    ·rename_i ho;cases h;exact⟨ds,ks,l,z,rfl,hk,hl,hz,ho,rfl⟩
    ·cases h
   ·cases h
  ·cases h
 ·cases h
theorem zP:∀{ps:List SP} {vs:List V} {l:List (List (List Int)×D×D)} {K:Frag} {C:Cfg} {H:Hp} {ks:List (List Int)} {z:List (List Int)×D×D},ps.map (·.1)=l.map (·.1)->Vals vs (ps.map (·.2.2))->aH K C H (l.map (·.2.2)) vs->l.find? (fun z=>decide (z.1=ks))=some z->
  ∃p v,atKey ps ks=some p/\RelV v p.2/\Rep K C H z.2.2 v/\v∈vs
 | [],_,[],_,_,_,_,_,_,_,_,h=>by cases h
 | [],_,_::_,_,_,_,_,_,h,_,_,_=>by cases h
 | _::_,_,[],_,_,_,_,_,h,_,_,_=>by cases h
 | p::ps,vs,y::l,K,C,H,ks,z,h,rel,rs,hf=>by
  rw[aC1,aC1] at h
  injection h with h1 h2
  rw[aC1] at rel
  rw[aC1,aH] at rs
  obtain ⟨v,r,rfl,q1,q2⟩:=rs
  cases rel with
  | cons r1 t1=>
   rw[List.find?_cons] at hf
   unfold atKey
   rw[List.find?_cons,h1]
   cases hd:decide (y.1=ks) with
   | true=>
    rw[hd] at hf
    cases hf
    exact⟨p.2,v,rfl,r1,q1,.head _⟩
   | false=>
    rw[hd] at hf
    obtain ⟨p',v',e1,e2,e3,e4⟩:=zP h2 t1 q2 hf
    exact⟨p',v',e1,e2,e3,.tail _ e4⟩
end
end Dm
end Wd
section We
namespace Dm
open PySem PySem.Spec PyProof.Rows L2
section
variable {X:Cx}{o e:Expr}{es:List Expr}
def ai8(r:V->List V->Hp->VK->Prop)(to:TE)(t:TA):TE:=fun σ H Q=>to σ H fun x H1=>(∃a o ps,x = .ref a/\H1 a=some (.ext (DY a o ps)))/\t σ H1 fun xs H2=>r x xs H2 Q
theorem Qw{to:TE}{t:TA}{name:Str}{apos fU:Pos}{id:String}{r:V->List V->Hp->VK->Prop}(slot:PySem.Slot "dict" name id)(hty:typeOf (.builtin id)=pure (.type "method_descriptor"))(hm:MtR X id r)(ho:PE X o to)(ha:PA X (e::es) t)
  (rP:attributeBase o name X.env (eval o X.env)=eval o X.env:=by rfl)
  (GU:((backTo fU (starEach (e::es) X.env)).all (fun x=>!x.1)&&(backToKw fU (keywordEach [] X.env)).all (fun x=>x.1.isSome)
   && decide ((e::es).length+([]:List Keyword).length+(if ([]:List Keyword).isEmpty then 0 else 1) < 30))=true:=by rfl)
  (rQ:(apos.endLine==fU.line)=true:=by rfl) (hs:starEach (e::es) X.env=(false,eval e X.env)::starEach es X.env:=by rfl) (qV:(backTo fU (starEach es X.env)).any (·.1)=false:=by rfl) :
  PE X (.Call (.Attribute o name apos) (e::es) [] fU) (ai8 r to t):=by
 walk_at"9"
 refine wpAny_Call_method_late rP GU rQ rfl (fS (ho pins s σ H _ I h) fun v s1 zz=>?_)
 obtain ⟨x,H1,I1,r1,⟨a,oo,ps,rfl,hx⟩,q1⟩:=zz
 cases r1
 obtain ⟨⟨_,_,hg,tE,_⟩,_,_⟩:=(show gr X.prog X.w H1 s1.heap a (.ext (DY a oo ps)) from I1.eE a _ hx)
 refine⟨"dict",id,PySem.F.plainAttrs_dict,slot,hty,⟨oo,hg,tE.1⟩,fun b e=>?_,?_⟩
 ·cases e;exact⟨oo,hg,tE.2.1⟩
 have hA:=ha fU pins s1 σ H1 _ I1 q1
 rw[hs] at hA ⊢
 refine Calls.callWith_builtin (by show (false || (backTo fU (starEach es X.env)).any (·.1))=false;rw[qV] <;> rfl) (Calls.evalArgs_plain ?_)
 exact fS hA fun us s2 zz=>by
  obtain ⟨vs,H2,I2,r2,q2⟩:=zz
  exact hm pins s2 σ H2 (.ref a) vs (.ref a) us Q I2 rfl r2 q2
end
end Dm
end We
section ai9
namespace Hk
open PySem
section
variable {prog:Program}{w:World}{A:Around}{E:Value->Shared->Prop}{s:Shared}{d it:Addr}{od:Obj}{es:Array DictEntry}{ep:Nat}
theorem CM{Q:Value->Shared->Prop}(ho:s.heap.get? d=some od)(hx:od.ExactDict)(hd:(d==sysModules)=false)(hQ:Q (.ref s.heap.objs.size) { s with heap:=s.heap.push { cls:=.type "dict_items",data:=.fields #[.ref d] } }):wpAny (model prog w) A (call (.builtin "dict.items") [.ref d]) Q E s:=by
 have hT:s.TypeIs (.ref d) "dict":=⟨od,ho,hx.1⟩
 refine aH9 F.slot_dict_items hT F.entry_dict_items ?_ (F.args_dict_items_1 _)
 (unfold Builtin.«dict.items»);(refine aB8 ?_);(unfold Builtin.Dict.noArgs);(refine aB8 (wpAny_notOrdered_dict hT ?_));(show wpAny _ _ (pure d) _ _ s);(refine aB9 ?_)
 (show wpAny _ _ (Builtin.Dict.showsAll d>>=_) _ _ s);(unfold Builtin.Dict.showsAll);(rw[aC3 (by rw[hd];exact aF8)])
 exact aB8 (aB9 (aB8 (wpAny_newObj_type (aB9 ⟨_,rfl,hQ⟩))))
theorem CN{v:Addr}{Q:Value->Shared->Prop}(hv:s.heap.IsItemsView v d)(ho:s.heap.get? d=some od)(sI:od.data = .dict es ep)
  (hQ:Q (.ref s.heap.objs.size) { s with heap:=s.heap.push { cls:=.type "dict_itemiterator",data:=.fields #[.none,.bool false,.ref d,.int 0 0,.int es.size 0,.int ep 0,.none,.none] } }):wpAny (model prog w) A (pyIter (.ref v)) Q E s:=by
 obtain ⟨ov,hov,hcv,hdv⟩:=id hv
 refine wpAny_pyIter_slot hv.typeIs F.slot_dict_items_iter (aH9 F.slot_dict_items_iter hv.typeIs F.entry_dict_items_iter ?_ (F.args_dict_items_iter_1 _))
 (unfold Builtin.«dict_items.__iter__»);(refine aB8 (aB9 (aB8 ?_)));(unfold Builtin.Dict_items.dictOf);(refine aB8 (wpAny_field hov hdv (x:=.ref d) rfl (aB9 (aB8 ?_))))
 (unfold Builtin.Dict_items.newIterator);(refine aB8 (wpAny_dictEntries ho sI (aB8 (wpAny_dictEpoch ho sI ?_))))
 (have own:Builtin.Dict_items.ownsTuple "dict_itemiterator" =true:=by decide);(simp only[own,if_true])
 refine wpAny_newObj_type (aB9 ⟨_,rfl,"dict_itemiterator",_,⟨_,aE2 _ rfl,rfl⟩,F.slot_dict_itemiterator_next.lookup,by simpa[rawInt,Builtin.Dict_items.ownedTupleFields] using hQ⟩) (by
  simp only[sizeOk,Builtin.Dict_items.ownedTupleFields,aE6,aD0,aD1,List.length_nil,aG6];omega)
theorem CO{i:Nat}{e:DictEntry}{ok ov:Value}{Q:Option Value->Shared->Prop}(hit:IsItemIter s.heap it d i es.size ep ok ov)(ho:s.heap.get? d=some od)(sI:od.data = .dict es ep)(hx:es[i]?=some e)
  (hQ:∀h',IsItemIterOut h' it d (i+1) es.size ep e.key e.val s.heap.objs.size->h'.get? s.heap.objs.size=some { cls:=.type "tuple",data:=.seq #[e.key,e.val] }->h'.objs.size=s.heap.objs.size+1->
   (∀b o,b≠it->s.heap.get? b=some o->h'.get? b=some o)->Q (some (.ref s.heap.objs.size)) { s with heap:=h' }):wpAny (model prog w) A (pyNext (.ref it)) Q E s:=by
 obtain ⟨hp,g,dr,tk,os⟩:=s
 have hT:Shared.TypeIs ⟨hp,g,dr,tk,os⟩ (.ref it) "dict_itemiterator":=⟨_,hit,rfl⟩
 have own:Builtin.Dict_items.ownsTuple "dict_itemiterator" =true:=by decide
 have iI:i < es.size:=(Array.getElem?_eq_some_iff.mp hx).1
 have he:es[i]=e:=(Array.getElem?_eq_some_iff.mp hx).2
 unfold pyNext
 refine aB8 (wpAny_attempt (wpAny_callSpecial?_slot (name:=Str.ofString "__next__") hT F.slot_dict_itemiterator_next (aH9 F.slot_dict_itemiterator_next hT F.entry_dict_itemiterator_next ?_ (F.args_dict_itemiterator_next_1 _))))
 (refine aB8 (aB9 (aB8 (aB8 ?_))));(first | refine aB8 (wpAny_typeNameOfWhole_itemiter hT (aB9 ?_)) | refine aB8 (wpAny_typeNameOf_itemiter hT (aB9 ?_)))
 (refine aB8 (wpAny_fieldsOf hit rfl ?_));(simp only[own,if_true]);(show wpAny _ _ (if (Value.ref d==Value.none)=true then _ else _) _ _ _);(rw[aC3 (show ¬ ((Value.ref d==Value.none)=true) from aF8)])
 (refine aB8 (aB9 (aB8 (wpAny_dictEntries ho sI ?_))));(rw[aC3 (by simp)]);(refine aB8 (aB9 (aB8 (wpAny_dictEpoch ho sI ?_))));(rw[aC3 (by simp)]);(refine aB9 ?_)
 (simp only[show ¬ ((i:Int) < 0) from by omega,if_false,aI8,Array.getElem?_eq_getElem iI,he]);(refine aB8 ?_)
 (first | refine aB8 (wpAny_typeNameOfWhole_itemiter hT (aB9 ?_)) | refine aB8 (wpAny_typeNameOf_itemiter hT (aB9 ?_)));(refine aB8 (wpAny_isOneOf_itemiter hT ?_))
 (show wpAny _ _ (setField (.ref it) 3 (rawInt ((i:Int)+1))>>=_) _ _ ⟨hp,g,dr,tk,os⟩);(refine aB8 (wpAny_setField_rec hit (by simp) fun h1 f1 s1=>?_))
 replace s1:Heap.SameBut it hp h1:=s1
 replace f1:IsItemIter h1 it d (i+1) es.size ep ok ov:=by
  have z:((i+1:Nat):Int)=(i:Int)+1:=by omega
  unfold IsItemIter;rw[z];simpa[rawInt] using f1
 have hT1:Shared.TypeIs ⟨h1,g,dr,tk,os⟩ (.ref it) "dict_itemiterator":=⟨_,f1,rfl⟩
 refine aB8 (wpAny_holding (aB8 (wpAny_isOneOf_itemiter hT1 (aB8 (wpAny_isOneOf_itemiter hT1 ?_)))))
 (show wpAny _ _ (Builtin.Dict_items.pairFromOwner (.ref it) 6 e.key e.val) _ _ ⟨h1,g,dr,tk,os⟩);(unfold Builtin.Dict_items.pairFromOwner);(refine aB8 (wpAny_newTuple ?_))
 have f2:IsItemIter (h1.push { cls:=.type "tuple",data:=.seq #[e.key,e.val] }) it d (i+1) es.size ep ok ov:=aC0 _ f1
 have z1:h1.objs.size=hp.objs.size:=s1.1
 have Vc:hp.objs.size≠it:=Nat.ne_of_gt (aD9 hit)
 have t2:(h1.push { cls:=.type "tuple",data:=.seq #[e.key,e.val] }).get? hp.objs.size=some { cls:=.type "tuple",data:=.seq #[e.key,e.val] }:=by rw[<- z1];exact aE2 _ rfl
 have z2:(h1.push { cls:=.type "tuple",data:=.seq #[e.key,e.val] }).objs.size=hp.objs.size+1:=by rw[Heap.size_push,z1]
 have k2:∀b o,b≠it->hp.get? b=some o->(h1.push { cls:=.type "tuple",data:=.seq #[e.key,e.val] }).get? b=some o:=fun b o hb q=>aC0 _ (s1.extBut b o hb q)
 rw[z1]
 generalize h1.push { cls:=.type "tuple",data:=.seq #[e.key,e.val] }=h2 at f2 t2 z2 k2 ⊢
 (show wpAny _ _ (Builtin.Dict_items.ownedTupleIsFree (.ref it)>>=_) _ _ ⟨h2,g,dr,tk,os⟩);(refine aB8 ?_);(unfold Builtin.Dict_items.ownedTupleIsFree);(refine aB8 (wpAny_field f2 rfl (x:=.none) rfl (aB9 ?_)))
 simp only[if_true]
 refine aB8 (wpAny_field f2 rfl (x:=ok) rfl (aB8 (wpAny_field f2 rfl (x:=ov) rfl (aB8 (wpAny_setField_rec f2 (by simp) fun h3 f3 s3=>?_)))))
 replace s3:Heap.SameBut it h2 h3:=s3
 replace f3:IsItemIter h3 it d (i+1) es.size ep e.key ov:=f3
 refine aB8 (wpAny_setField_rec f3 (by simp) fun h4 f4 s4=>?_)
 replace s4:Heap.SameBut it h3 h4:=s4
 replace f4:IsItemIter h4 it d (i+1) es.size ep e.key e.val:=f4
 refine aB8 (wpAny_setField_rec f4 (by simp) fun h5 f5 s5=>?_)
 replace s5:Heap.SameBut it h4 h5:=s5
 replace f5:IsItemIterOut h5 it d (i+1) es.size ep e.key e.val hp.objs.size:=f5
 refine aB8 (wpAny_setField_rec f5 (by simp) fun h6 f6 s6=>?_)
 replace s6:Heap.SameBut it h5 h6:=s6
 replace f6:IsItemIterOut h6 it d (i+1) es.size ep e.key e.val hp.objs.size:=f6
 have all:∀b o,b≠it->h2.get? b=some o->h6.get? b=some o:=fun b o hb q=>s6.extBut b o hb (s5.extBut b o hb (s4.extBut b o hb (s3.extBut b o hb q)))
 exact aB8 (wpAny_letGo (aB9 (aB9 ⟨_,rfl,aB9 (hQ h6 f6 (all _ _ Vc t2) (by show h6.objs.size=_;rw[s6.1,s5.1,s4.1,s3.1,z2]) fun b o hb q=>all b o hb (k2 b o hb q))⟩)))
theorem FU{i:Nat}{ok ov:Value}{Q:Option Value->Shared->Prop}(hh:A.handled=none)(hit:IsItemIter s.heap it d i es.size ep ok ov)(ho:s.heap.get? d=some od)(sI:od.data = .dict es ep)(hx:es.size<=i)
  (hQ:∀h',Heap.ExtBut it s.heap h'->Q none { s with heap:=h' }):wpAny (model prog w) A (pyNext (.ref it)) Q E s:=by
 have hT:s.TypeIs (.ref it) "dict_itemiterator":=⟨_,hit,rfl⟩
 have own:Builtin.Dict_items.ownsTuple "dict_itemiterator" =true:=by decide
 unfold pyNext
 refine aB8 (wpAny_attempt (wpAny_callSpecial?_slot (name:=Str.ofString "__next__") hT F.slot_dict_itemiterator_next (aH9 F.slot_dict_itemiterator_next hT F.entry_dict_itemiterator_next ?_ (F.args_dict_itemiterator_next_1 _))))
 (refine aB8 (aB9 (aB8 (aB8 ?_))));(first | refine aB8 (wpAny_typeNameOfWhole_itemiter hT (aB9 ?_)) | refine aB8 (wpAny_typeNameOf_itemiter hT (aB9 ?_)))
 (refine aB8 (wpAny_fieldsOf hit rfl ?_));(simp only[own,if_true]);(show wpAny _ _ (if (Value.ref d==Value.none)=true then _ else _) _ _ s);(rw[aC3 (show ¬ ((Value.ref d==Value.none)=true) from aF8)])
 (refine aB8 (aB9 (aB8 (wpAny_dictEntries ho sI ?_))));(rw[aC3 (by simp)]);(refine aB8 (aB9 (aB8 (wpAny_dictEpoch ho sI ?_))));(rw[aC3 (by simp)]);(refine aB9 ?_)
 (simp only[show ¬ ((i:Int) < 0) from by omega,if_false,aI8,Array.getElem?_eq_none hx]);(refine aB8 ?_)
 (first | refine aB8 (wpAny_typeNameOfWhole_itemiter hT (aB9 ?_)) | refine aB8 (wpAny_typeNameOf_itemiter hT (aB9 ?_)))
 (show wpAny _ _ (setField (.ref it) 2 .none>>=_) _ _ s);(refine aB8 (wpAny_setField hit rfl (by simp) ?_));(show wpAny _ _ (newExc (.type "StopIteration") []>>=_) _ _ _);(refine aB8 ?_)
 (simp only[newExc,newTuple]);(refine aB8 (wpAny_newObj_type ?_ (by size_fits)));(refine aB8 (m:=firstArgMember _ _) (wpAny_of_eq (a:=Value.none) (by first | rfl | (simp only[firstArgMember];rfl)) ?_))
 (refine wpAny_newObj_type ?_ (by size_fits));(simp only[raiseNew]);(refine aB8 (wpAny_handled ?_));(rw[show A.in1.handled=none from hh])
 (refine aB8 (aB9 (wpAny_throw ?_)));(refine aB8 (wpAny_isInstance (T:="StopIteration") (b:=true) ⟨_,aE2 _ rfl,rfl⟩ isSubtype_stop ?_))
 exact aB9 (hQ _ (((aH3 ..).extBut.push _).push _))
end
end Hk
end ai9
section Wf
namespace Dm
open PySem PySem.Spec PyProof.Rows L2
def ItY(a:Addr)(o:Obj)(ps:List SP)(vs:List V):It:=
 ⟨fun i H=>H a=some (.ext (DY a o ps))/\i < ps.length,fun i H x H'=>∃T p y,ps[i]?=some p/\vs[i]?=some y/\H T=none/\H'=upd H T (.tup [.ref p.2.1,y])/\x = .ref T,fun i H=>H a=some (.ext (DY a o ps))/\ps.length<=i⟩
theorem CP:entryFor table "dict_itemiterator.__iter__" =some Builtin.«dict_keyiterator.__iter__» :=
 entryFor_alias (id':="dict_keyiterator.__iter__") (by kernel_rfl) (by first | rfl | decide +kernel) (by decide +kernel) (by kernel_rfl)
theorem Br:∀{vs:List V} {us:List Value} {i:Nat} {u:Value},Vals vs us->us[i]?=some u->∃v,vs[i]?=some v/\RelV v u
 | _,_,_,_,.nil,h=>by cases h
 | _,_,0,_,.cons r t,h=>by cases h;exact⟨_,rfl,r⟩
 | _,_,i+1,_,.cons r t,h=>let ⟨v,h1,h2⟩:=Br t (i:=i) h;⟨v,h1,h2⟩
theorem Bs{P:Program}{w:World}{K:Frag}{elts:List Expr}{x1}{pos:Pos}{a it:Addr}{o:Obj}{ps:List SP}{vs:List V}{es:Array DictEntry}{ep:Nat}(sI:o.data = .dict es ep)(rel:Vals vs (ps.map (·.2.2)))(O0:∀(P:Program) (w:World),es.toList=ps.map (entryOfKey (Hk.mY (intKind P w)))) :
  Turn P w K (.Tuple elts x1 pos) (ItY a o ps vs) [it] it (fun i h=>∃ok ov,IsItemIter h it a i es.size ep ok ov) where
 mem:=by simp
 obj:=fun i h st b hb=>by
  obtain ⟨ok,ov,he⟩:=st
  obtain rfl:b=it:=by simpa using hb
  exact⟨_,he,fun v z=>by cases z⟩
 keep:=fun i h h' st k=>by
  obtain ⟨ok,ov,he⟩:=st
  exact⟨ok,ov,k it (by simp) _ he⟩
 item:=by
  walk_at"A"
  subst hP hw hK
  obtain ⟨ok,ov,he⟩:=st
  obtain ⟨ha,hi⟩:=hg
  walk_at"["
  have O0:=O0 X.prog X.w
  obtain ⟨p,hp⟩:∃p,ps[i]?=some p:=⟨ps[i],aD2 hi⟩
  obtain ⟨y,hy,ry⟩:=Br rel (i:=i) (u:=p.2.2) (by rw[aE3,hp];rfl)
  have hen:es[i]?=some (entryOfKey (Hk.mY (intKind X.prog X.w)) p):=by rw[entry_at O0,hp];rfl
  have fi:=hf it (by simp)
  have hn:H s.heap.objs.size=none:=I.eE.fresh (aC4 _)
  refine Hk.CO he ho sI hen fun h' Qt hT hsz hk=>⟨_,rfl,?_⟩
  have kp:∀b o,b∉[it]->s.heap.get? b=some o->h'.get? b=some o:=fun b o hb q=>hk b o (fun z=>hb (by simp[z])) q
  have lt:∀b o,s.heap.get? b=some o->b≠s.heap.objs.size:=fun b o q=>aE5 (aD9 q)
  have I1:L2.Inv X pins σ (upd H s.heap.objs.size (.tup [.ref p.2.1,y])) { s with heap:=h' }:=by
   refine Inv.Av I (s':={ s with heap:=h' }) (ch:=[it]) rfl ⟨fun b o q n nf nx=>kp b o nx q,fun b o q n nf nx=>⟨o.slots,kp b o nx q⟩,fun b o q n nx=>?_,fun b o q nx=>⟨o,kp b o nx q⟩,fun b ys q=>?_,fun b o u' q=>?_,fun b ps q=>⟨#[],?_⟩⟩ (fun b o q=>?_) I.bare (fun b hb=>?_)
   ·rw[aX (lt b o q)];exact n
   ·rw[aX (bF q hn)];exact q
   ·rw[aX (bF q hn)];exact q
   ·rw[aX (bF q hn),q];simp
   ·by_cases hb:b=s.heap.objs.size
    ·subst hb
     rw[bN] at q;cases q
     exact⟨by simp only[aD1,List.length_nil];rw[aG6];decide,[.ref p.2.1,p.2.2],.cons rfl (.cons ry .nil),⟨_,hT,rfl,0,rfl⟩⟩
    ·rw[aX hb] at q
     refine(I.eE b o q).yS (fun c v uT z=>kp c v ?_ z) (fun c z=>by rw[aX (bF z hn)];exact z) fun c ys z=>by rw[aX (bF z hn)];exact z
     intro hm
     obtain rfl:c=it:=by simpa using hm
     rcases uT with rfl | uT
     ·rw[fi.1] at q;cases q
     ·rw[fi.1] at uT;cases uT
   ·refine uR (hf b hb) fun f0 f1 f2 f3 f4 f5=>?_
    exact⟨f3,f1,f4,f5⟩
  have ni:it≠s.heap.objs.size:=lt it _ he
  obtain ⟨f0,f1,f2,f3,f4,f5⟩:=fi
  refine wpAny_letOwnedTupleGo_items Qt fun h2 RU OV=>?_
  have I2:L2.Inv X pins σ (upd H s.heap.objs.size (.tup [.ref p.2.1,y])) { s with heap:=h2 }:=I1.turned (t':=s.toks) (fun b o hb q=>(OV.2 b hb).trans q) (by rw[aX ni];exact f0) f1 f3 f4 f5
  refine⟨.ref s.heap.objs.size,_,I2,rfl,⟨_,p,y,hp,hy,hn,rfl,rfl⟩,⟨_,_,RU⟩,fun b hb=>?_⟩
  obtain rfl:b=it:=by simpa using hb
  rw[aX ni];exact f0
 done:=by
  walk_at"A"
  subst hP hw hK
  obtain ⟨ok,ov,he⟩:=st
  obtain ⟨ha,hi⟩:=hg
  walk_at"["
  obtain ⟨f0,f1,f2,f3,f4,f5⟩:=hf it (by simp)
  exact Hk.FU (I.ok.hd hc) he ho sI (by rw[size_of_entries (O0 X.prog X.w)];exact hi) fun h' eb=>⟨rfl,I.turned (t':=s.toks) (fun b o hb e=>eb b o hb e) f0 f1 f3 f4 f5⟩
 self:=fun A i s Q E st h=>by
  obtain ⟨ok,ov,he⟩:=st
  have hT:s.TypeIs (.ref it) "dict_itemiterator":=⟨_,he,rfl⟩
  exact wpAny_pyIter_slot hT PySem.F.slot_dict_itemiterator_iter (aH9 PySem.F.slot_dict_itemiterator_iter hT CP (by
   show wpAny _ _ (ret (.ref it)) _ _ s
   exact aB9 ⟨_,rfl,"dict_itemiterator",_,hT,PySem.F.slot_dict_itemiterator_next.lookup,h⟩) (PySem.F.args_dict_itemiterator_iter_1 _))
def aj0(to:TE):TI:=fun σ H R=>to σ H fun x H1=>∃a o ps vs,x = .ref a/\H1 a=some (.ext (DY a o ps))/\Vals vs (ps.map (·.2.2))/\R (ItY a o ps vs) H1
section
variable {X:Cx}{Cb:Addr}{G0:Hp}{Γ:List SK}{E:L2.St->XK}{o e:Expr}{f:DF}{κ:Kd}{elts:List Expr}{x1:Nat}{z:Bool}
theorem FW{to:TE}{apos fU tp:Pos}(ho:PE X o to)(rP:attributeBase o "items" X.env (eval o X.env)=eval o X.env:=by rfl)(rQ:(apos.endLine==fU.line)=true:=by rfl):PI X (.Tuple elts x1 tp) (.Call (.Attribute o "items" apos) [] [] fU) (aj0 to):=by
 intro pins s σ H R I h
 refine wpAny_Call_method0_late rP rQ (fS (ho pins s σ H _ I h) fun v s1 zz=>?_)
 obtain ⟨x,H1,I1,r1,a,oo,ps,vs,rfl,hx,rel,q1⟩:=zz
 cases r1
 obtain ⟨⟨O3,hz,hg,tE,es,ep,sI,O0,hn⟩,_,_⟩:=(show gr X.prog X.w H1 s1.heap a (.ext (DY a oo ps)) from I1.eE a _ hx)
 refine⟨"dict","dict.items",PySem.F.plainAttrs_dict,PySem.F.slot_dict_items,PySem.F.type_dict_items,⟨oo,hg,tE.1⟩,fun b e=>?_,?_⟩
 ·cases e;exact⟨oo,hg,tE.2.1⟩
 refine Calls.callWith_builtin rfl (PySem.evalArgs_none (Hk.CM hg tE O3 ?_))
 refine Hk.CN (d:=a) (od:=oo) (es:=es) (ep:=ep) ⟨_,aE2 _ rfl,rfl,rfl⟩ (aC0 _ hg) sI ?_
 have k2:∀b u,s1.heap.get? b=some u->((s1.heap.push { cls:=.type "dict_items",data:=.fields #[.ref a] }).push { cls:=.type "dict_itemiterator",data:=.fields #[.none,.bool false,.ref a,.int 0 0,.int es.size 0,.int ep 0,.none,.none] }).get? b=some u:=fun b u z=>aC0 _ (aC0 _ z)
 refine⟨_,[_],_,_,H1,rfl,I1.kept (t':=s1.toks) k2,Bs sI rel O0,⟨_,_,aE2 _ rfl⟩,fun b hb=>?_,q1⟩
 have qi:s1.heap.objs.size<=b:=by
  obtain rfl:b=_:=by simpa using hb
  exact Nat.le_succ _
 exact I1.GD qi (I1.eE.fresh qi)
def FY(f:DF):DI:=fun st=>match f st with
 | .ok d=>(match jP (some (some d)) with | some y=>.ok (y.2.map fun t=>.tup [t.2.1,t.2.2]) | none=>.bad)
 | .ex c p=>.ex c p
 | .bad=>.bad
theorem IW{apos fU tp:Pos}(ha:PE X o (tD X.K (aV Cb) G0 Γ E f κ))(l:z=true->κ.le .old=true)(rP:attributeBase o "items" X.env (eval o X.env)=eval o X.env:=by rfl)(rQ:(apos.endLine==fU.line)=true:=by rfl) :
  PI X (.Tuple elts x1 tp) (.Call (.Attribute o "items" apos) [] [] fU) (LA X.K (aV Cb) G0 Γ E z (FY f)):=(FW ha rP rQ).imp fun σ H Q zz=>by
 obtain ⟨A,st,r,q⟩:=zz
 walk_at"1"
 unfold FY at q
 cases hf:f st with
 | bad=>rw[hf] at q;exact q
 | ex c p=>rw[hf] at q;exact q
 | ok d=>
  walk_at"2,"
  intro v H1 e1 w
  cases hy:jP (some (some d)) with
  | none=>rw[hy] at q;exact q.elim
  | some y=>
   rw[hy] at q
   obtain ⟨hd,Y6⟩:=tZ hy
   obtain ⟨ds,lp⟩:=y
   cases hd
   dsimp only at q Y6
   have w':Rep X.K (aV Cb) (er H1 (zB z A)) (.cu 2 ds) v:=by
    unfold zB
    cases z with
    | true=>exact w.le r e1 (κ':=.old) (l rfl)
    | false=>rw[aC3 (by decide),mV];exact w.rep
   obtain ⟨a,oo,ps,vs,rfl,g1,g2,g3,g5,g4,g6,g7⟩:=wM w' Y6
   have F6:ps.length=lp.length:=by rw[<- g4.1,aC8]
   refine⟨a,oo,ps,vs,rfl,aF _ _ _ _ g2,g1,q _ _ e1 fun i H3 A3 e3 nA=>⟨fun d hd=>?_,fun hd=>?_⟩⟩
   ·rw[aE3] at hd
    cases xS:lp[i]? with
    | none=>rw[xS] at hd;cases hd
    | some t=>
     rw[xS] at hd;cases hd
     have hi:i < ps.length:=by rw[F6];exact(aD7.mp xS).1
     have ga:H3 a=some (.ext (DY a oo ps)):=(e3.trans (aF _ _)) _ _ g2
     refine⟨⟨ga,hi⟩,fun x H' oG=>?_⟩
     obtain ⟨T,p,y,hp,Gq,hT,hH,ex⟩:=oG
     subst hH ex
     obtain ⟨v1,hv1,rv1⟩:=g6.get' (show (lp.map (·.2.2))[i]?=some t.2.2 by rw[aE3,xS];rfl)
     rw[Gq] at hv1;cases hv1
     obtain ⟨v2,hv2,rv2⟩:=g7.get' (show (lp.map (·.2.1))[i]?=some t.2.1 by rw[aE3,xS];rfl)
     rw[aE3,hp] at hv2;cases hv2
     have nT:T∉A3:=fun m=>nA T m hT
     refine⟨cz hT,?_⟩
     have up:aB (er H3 A3) (er (upd H3 T (.tup [.ref p.2.1,y])) A3):=aG (cz hT)
     rw[Rep]
     refine⟨T,_,rfl,.inl (.inl (by rw[aS nT,bN])),?_⟩
     rw[aH]
     refine⟨_,[y],rfl,rv2.same (e3.trans up) _,?_⟩
     rw[aH]
     refine⟨y,[],rfl,rv1.same (e3.trans up) _,?_⟩
     rw[aH]
   ·rw[aE3] at hd
    have hn:lp[i]?=none:=by cases xS:lp[i]? with | none=>rfl | some t=>rw[xS] at hd;cases hd
    exact⟨(e3.trans (aF _ _)) _ _ g2,by rw[F6];exact aH6.mp hn⟩
end
end Dm
end Wf
section Wg
namespace Dm
open PySem PySem.Spec PyProof.Rows L2
section
variable {X:Cx}{Cb:Addr}{G0:Hp}{Γ:List SK}{E:L2.St->XK}{c k e:Expr}{f fk:DF}{pos:Pos}
def ay7(s:Str)(f:DF):DF:=fun st=>match f st with
 | .ok d=>(match d with | .lst ds=>.ok (.tup [.str s,.lst ds]) | _=>.bad)
 | .ex c p=>.ex c p
 | .bad=>.bad
def Wh(K:Frag)(tk tv:TE):TE:=fun σ H Q=>∀p o,H p=none->tk σ (upd H p (.ext (DY p o []))) fun x H1=>tv σ H1 fun y H2=>H2 p=some (.ext (DY p o []))/\∃b ks,x = .ref b/\mq K H2 ks b/\∀u o',RelV y u->Q (.ref p) (upd H2 p (.ext (DY p o' [(ks,b,u)])))
theorem LQ{tk tv:TE}(hu:X.A.units+1 < cLine)(hk:PE X k tk)(hv:PE X e tv):PE X (.Dict [some k] [e] pos) (Wh X.K tk tv):=by
 intro pins s σ H Q I q
 have hn:=I.eE.fresh (aC4 s.heap.objs.size)
 have O3:(s.heap.objs.size==sysModules)=false:=aI1.mpr (Ne.symm (aE5 (Inv.W8 I)))
 have I1:=I.laid (a:=s.heap.objs.size) (o:=.ext (DY s.heap.objs.size _ [])) (h':=s.heap.push { cls:=.type "dict",data:=.dict #[] }) (t':=s.toks) (fun _ _ q=>aC0 _ q) (aC4 _) (E7 (IT O3))
 refine wpAny_Dict_any rfl rfl (by simp) (by simp) (pairTrees_cons_walk (fS (hk pins _ σ _ _ I1 (q _ _ hn)) fun u s1 zz=>?_))
 obtain ⟨x,H1,I2,rx,q1⟩:=zz
 refine fS (hv pins s1 σ H1 _ I2 q1) fun w2 s2 zz=>?_
 obtain ⟨y,H2,I3,ry,hp,b,ks,rfl,hb,q2⟩:=zz
 cases rx
 refine pairTrees_nil_walk ?_
 obtain ⟨dd,_,hz⟩:=vq I3 hp (fun _ m=>nomatch m)
 unfold storeAll
 refine wpAny_forIn_list _ (fun rest _ s'=>(rest=[(Value.ref b,w2)]/\s'=s2)\/(rest=[]/\∃o',L2.Inv X pins σ (upd H2 s.heap.objs.size (.ext (DY s.heap.objs.size o' [(ks,b,w2)]))) s')) _ ?_ ?_ _ _ (.inl ⟨rfl,rfl⟩)
 ·rintro z rest b0 s' (⟨hr,rfl⟩ | ⟨hr,_⟩)
  ·cases hr
   refine aB8 (wpAny_dictSet_heap (hsz:=hz) (show X.A.units+1 < cLine from hu) (rf I3 hb) dd fun h' W7 hs=>aB9 (.inr ⟨rfl,?_⟩))
   have he:∃q,h'.get? s.heap.objs.size=some q:=let ⟨q,_,_,hq,_⟩:=W7;⟨q,hq⟩
   obtain ⟨o',dy⟩:=DY.of O3 (by rw[storedH_new rfl];simp only[aE7,List.length_singleton];rw[aG6];decide) W7
   rw[storedH_new rfl,aE7] at dy
   exact⟨o',I3.write (x:=s.heap.objs.size) (e:=s.heap.objs.size) (by rw[hp];trivial) (.inl rfl) (fun c w hc z=>(hs.2 c hc).trans z) he (E7 dy)⟩
  ·cases hr
 ·rintro b0 s' (⟨hr,_⟩ | ⟨_,o',I4⟩)
  ·cases hr
  ·exact⟨.ref s.heap.objs.size,_,I4,rfl,q2 w2 o' ry⟩
def Ea(fk f:DF):DF:=fun st=>match fk st with
 | .ok kd=>(match f st with
  | .ok d=>(match qC kd with | some _=>if RV d=true then .ok (.cu 2 [kd,d]) else .bad | none=>.bad)
  | .ex c p=>.ex c p
  | .bad=>.bad)
 | .ex c p=>.ex c p
 | .bad=>.bad
theorem LR{κk:Kd}(hu:X.A.units+1 < cLine)(hk:PE X k (tD X.K (aV Cb) G0 Γ E fk κk))(hv:PE X e (tD X.K (aV Cb) G0 Γ E f .new)):PE X (.Dict [some k] [e] pos) (tD X.K (aV Cb) G0 Γ E (Ea fk f) .new):=(LQ hu hk hv).imp fun σ H Q zz=>by
 obtain ⟨A,st,r,q⟩:=zz
 intro p o hp
 have e0:aB H (upd H p (.ext (DY p o []))):=cz hp
 refine⟨A,st,r.mono e0,?_⟩
 unfold Ea at q
 cases hfk:fk st with
 | bad=>rw[hfk] at q;exact q
 | ex c p'=>rw[hfk] at q;exact fun H' e'=>q H' (e0.trans e')
 | ok kd=>
  rw[hfk] at q
  walk_at","
  intro x H1 e1 w1
  refine⟨A,st,(r.mono e0).mono e1,?_⟩
  cases hf:f st with
  | bad=>rw[hf] at q;exact q
  | ex c p'=>rw[hf] at q;exact fun H' e'=>q H' ((e0.trans e1).trans e')
  | ok d=>
   walk_at"2,"
   intro y H2 e2 w2
   cases Gr:qC kd with
   | none=>rw[Gr] at q;exact q.elim
   | some ks=>
    rw[Gr] at q
    walk_at","
    by_cases ho:RV d=true
    ·rw[aC2 ho] at q
     have xC:=e1.trans e2
     have e02:=e0.trans xC
     have Hy:H2 p=some (.ext (DY p o [])):=xC _ _ bN
     have wk:=w1.rep.same e2 _
     obtain ⟨b,rfl,hb⟩:=mZ wk Gr
     refine⟨Hy,b,ks,rfl,hb,fun u o' ru=>?_⟩
     have nz:∀b' w,nw H (upd H2 p (.ext (DY p o' [(ks,b,u)]))) b'=some w->True:=fun _ _ _=>trivial
     have S:aB (nw H1 H2) (er (nw H (upd H2 p (.ext (DY p o' [(ks,b,u)])))) [p]):=fun b' w z=>by
      unfold nw at z
      split at z
      ·rename_i kp
       have nb:b'≠p:=fun w'=>by
        subst w'
        rw[e1 _ _ bN] at kp;cases kp
       rw[aS (by simpa using nb)]
       unfold nw
       rw[aC2 (mR (e0.trans e1) kp),aX nb]
       exact z
      ·cases z
     have wv:Rep X.K (aV Cb) (er (nw H (upd H2 p (.ext (DY p o' [(ks,b,u)])))) [p]) d y:=w2.1.same S _
     have kt:jK H2 (er (nw H (upd H2 p (.ext (DY p o' [(ks,b,u)])))) [p]):=by
      refine⟨fun b' w z=>?_,fun a xs z=>?_⟩
      ·by_cases nb:b'=p
       ·rw[nb,dM (by simp)] at z;cases z
       ·rw[aS (by simpa using nb)] at z
        have:=dw _ _ _ _ z
        rwa [aX nb] at this
      ·have na:a≠p:=fun w=>by
        rcases z with z | ⟨u',z⟩
        ·rw[w,Hy] at z;cases z
        ·rw[w,Hy] at z;cases z
       have kn:uE (H a)=true:=by
        cases q':H a with
        | none=>rfl
        | some o''=>
         have:=e02 a o'' q'
         rcases z with z | ⟨u',z⟩
         ·rw[z] at this;cases this;rfl
         ·rw[z] at this;cases this;rfl
       unfold Rd
       rw[aS (by simpa using na)]
       unfold nw
       rw[aC2 kn,aX na]
       exact z
     have wk2:Rep X.K (aV Cb) (er (nw H (upd H2 p (.ext (DY p o' [(ks,b,u)])))) [p]) kd (.ref b):=Rep.part kt _ (zO Gr) wk
     obtain ⟨b2,RN,hbk⟩:=mZ wk2 Gr
     cases RN
     have at_:nw H (upd H2 p (.ext (DY p o' [(ks,b,u)]))) p=some (.ext (DY p o' [(ks,b,u)])):=by rw[kJ hp];exact bN
     have plv:∀l',y = .ref l'->∃ys,er (nw H (upd H2 p (.ext (DY p o' [(ks,b,u)])))) [p] l'=some (.lst ys):=fun l' zl=>by
      cases d with
      | lst es=>
       obtain ⟨p',z,h0,ys,hy,_⟩:=w2.2.1 rfl
       rw[zl] at z;cases z
       exact⟨ys,S _ _ hy⟩
      | int n=>have:=w2.1;rw[Rep] at this;rw[this] at zl;cases zl
      | _=>cases ho
     have own:m6 X.K (aV Cb) (er (nw H (upd H2 p (.ext (DY p o' [(ks,b,u)])))) [p]) (nw H (upd H2 p (.ext (DY p o' [(ks,b,u)])))) p (.cu 2 [kd,d]):=
      ⟨rfl,qB [(ks,b,u)] [y],⟨o',_,_,rfl,.cons ru .nil,at_,fun x m=>by obtain rfl:=aF2.mp m;exact hbk,fun l' m=>plv l' (aF2.mp m).symm⟩,.cons wk2 (.cons wv (by rw[aH];rfl))⟩
     refine q _ _ (fun b' w z=>?_) ⟨own.rep (.refl _) rfl,fun _=>⟨p,rfl,hp,own⟩,.not rfl⟩
     have nb:b'≠p:=fun w'=>by rw[w',hp] at z;cases z
     rw[aX nb];exact e02 _ _ z
    ·rw[aC3 ho] at q;exact q.elim
end
end Dm
end Wg
section Wi
namespace Dm
open PySem PySem.Spec PyProof.Rows L2
section
variable {X:Cx}{Cb:Addr}{G0:Hp}{Γ:List SK}{E:L2.St->XK}{o a b:Expr}{fo fa fb:DF}{κo aA bC:Kd}
def Qx(K:Frag):V->List V->Hp->VK->Prop:=fun x xs H Q=>∃a b ob ps ks xU dv,x = .ref a/\xs=[.ref b,dv]/\H a=some (.ext (DY a ob ps))/\(∀p∈ps,mq K H p.1 p.2.1)/\KL K H ps xU/\mq K H ks b/\
 (ps.map (·.1)=xU->∃v,(∀p,atKey ps ks=some p->RelV v p.2)/\(atKey ps ks=none->v=dv)/\Q v H)
theorem LS(hu:X.A.units+2 < cLine):MtR X "dict.get" (Qx X.K):=by
 intro pins s σ H x xs v us Q I rx rv h
 obtain ⟨a,b,ob,ps,ks,xU,dv,rfl,rfl,ha,hk,VZ,hb,q⟩:=h
 cases rx
 obtain ⟨u1,u2,rfl,r1,r2⟩:=rv.two
 cases r1
 obtain ⟨z,q1,q2,q0⟩:=q (keys_eq I hk VZ)
 obtain ⟨dd,hd,_⟩:=vq I ha hk
 refine aH9 PySem.F.slot_dict_get dd.typeIs PySem.F.entry_dict_get ?_ (PySem.F.args_dict_get_3 _ _ _)
 (show wpAny _ _ (dictGet a (.ref b)>>=_) _ _ s);(refine aB8 (wpAny_dictGet_heap (show X.A.units+1+1 < cLine from hu) (rf I hb) dd ?_))
 cases hf:atKey ps ks with
 | some p=>exact aB9 ⟨p.2,rfl,z,H,I.tok _,q1 p hf,q0⟩
 | none=>
  obtain rfl:=q2 hf
  (show wpAny _ _ (Builtin.Dict.missed a (.ref b)>>=_) _ _ _);exact aB8 (wpAny_missed_other hd (aB9 ⟨u2,rfl,z,H,I.tok _,r2,q0⟩))
def Wj:D->Bool | .int _=>true | _=>false
def LU(l:List (List (List Int)×D×D))(ks:List (List Int))(d:D):D:=match l.find? (fun z=>decide (z.1=ks)) with | some z=>z.2.2 | none=>d
def wO(l:List (List (List Int)×D×D))(k d:D):R D:=match qC k with
 | some ks=>if Wj (LU l ks d)=true then .ok (LU l ks d) else .bad
 | none=>.bad
theorem IX{l:List (List (List Int)×D×D)}{k d x:D}(h:wO l k d = .ok x):∃ks,qC k=some ks/\Wj (LU l ks d)=true/\x=LU l ks d:=by
 unfold wO at h
 split at h
 ·rename_i ks hk
  split at h
  ·rename_i hn;cases h;exact⟨ks,hk,hn,rfl⟩
  ·cases h
 ·cases h
theorem IY{l:List (List (List Int)×D×D)}{k d:D}{c:Addr}{p:Option Int}:wO l k d≠ .ex c p:=by
 unfold wO
 split
 ·split <;> exact fun h=>(by cases h)
 ·exact fun h=>(by cases h)
def sJ(fo fa fb:DF):DF:=fun st=>match fo st with
 | .ok o=>(match jP (some (some o)) with
  | some z=>(match fa st with
   | .ok k=>(match fb st with
    | .ok d=>wO z.2 k d
    | .ex c p=>.ex c p
    | .bad=>.bad)
   | .ex c p=>.ex c p
   | .bad=>.bad)
  | none=>.bad)
 | .ex c p=>.ex c p
 | .bad=>.bad
theorem find_none{ps:List SP}{l:List (List (List Int)×D×D)}{ks:List (List Int)}(h:ps.map (·.1)=l.map (·.1))(hf:l.find? (fun z=>decide (z.1=ks))=none):atKey ps ks=none:=by
 have e:=CL h ks
 cases hq:atKey ps ks with
 | none=>rfl
 | some p=>
  rw[hq,List.any_map] at e
  obtain ⟨z,zm,zd⟩:=List.any_eq_true.mp e.symm
  have:=List.find?_eq_none.mp hf z zm
  exact absurd zd this
theorem Ob{d:D}(h:Wj d=true):fR d=true:=by cases d <;> first | (cases h;done) | rfl
theorem Eb{apos fU:Pos}(hu:X.A.units+2 < cLine)(ho:PE X o (tD X.K (aV Cb) G0 Γ E fo κo))(ha:PE X a (tD X.K (aV Cb) G0 Γ E fa aA))(hb:PE X b (tD X.K (aV Cb) G0 Γ E fb bC))
  (rP:attributeBase o "get" X.env (eval o X.env)=eval o X.env:=by rfl)
  (GU:((backTo fU (starEach [a,b] X.env)).all (fun x=>!x.1)&&(backToKw fU (keywordEach [] X.env)).all (fun x=>x.1.isSome)&&decide ([a,b].length+([]:List Keyword).length+(if ([]:List Keyword).isEmpty then 0 else 1) < 30))=true:=by rfl)
  (rQ:(apos.endLine==fU.line)=true:=by rfl) (h1:starEach [a,b] X.env=(false,eval a X.env)::starEach [b] X.env:=by rfl) (h2:starEach [b] X.env=(false,eval b X.env)::starEach [] X.env:=by rfl) (qV:(backTo fU (starEach [b] X.env)).any (·.1)=false:=by rfl) :
  PE X (.Call (.Attribute o "get" apos) [a,b] [] fU) (tD X.K (aV Cb) G0 Γ E (sJ fo fa fb) .new):=(Qw PySem.F.slot_dict_get rfl (LS hu) ho (eN ha (eN hb iM h2) h1) rP GU rQ h1 qV).imp fun σ H Q zz=>by
 obtain ⟨A,st,r,q⟩:=zz
 walk_at"1"
 unfold sJ at q
 cases ho:fo st with
 | bad=>rw[ho] at q;exact q
 | ex c p=>rw[ho] at q;exact q
 | ok d0=>
  rw[ho] at q
  walk_at","
  cases hz:jP (some (some d0)) with
  | none=>rw[hz] at q;exact q.elim
  | some zz=>
  rw[hz] at q
  obtain ⟨xS,hl⟩:=tZ hz
  obtain ⟨ds,l⟩:=zz
  dsimp only at q hl xS
  cases xS
  intro x H1 e1 w1
  obtain ⟨p0,oo,ps,vs,rfl,g1,g2,g3,g5,g4,g6,_⟩:=wM w1.rep hl
  refine⟨⟨p0,oo,ps,rfl,g2⟩,A,st,r.mono e1,?_⟩
  cases h1:fa st with
  | bad=>rw[h1] at q;exact q
  | ex c p=>rw[h1] at q;exact fun H' e'=>q H' (e1.trans e')
  | ok k=>
   rw[h1] at q
   walk_at","
   intro y H2 e2 w2
   refine⟨A,st,r.mono (e1.trans e2),?_⟩
   cases h2:fb st with
   | bad=>rw[h2] at q;exact q
   | ex c p=>rw[h2] at q;exact fun H' e'=>q H' ((e1.trans e2).trans e')
   | ok d=>
    rw[h2] at q
    walk_at","
    intro z H3 e3 w3
    cases hg:wO l k d with
    | bad=>rw[hg] at q;exact q.elim
    | ex c p=>exact absurd hg IY
    | ok x=>
    rw[hg] at q
    obtain ⟨ks,hk,hn,rfl⟩:=IX hg
    have wz:=e2.trans e3
    obtain ⟨b',rfl,hb⟩:=mZ (w2.later e3).rep hk
    refine⟨p0,b',oo,ps,ks,_,z,rfl,rfl,wz _ _ g2,fun p m=>(g3 p m).mono wz,⟨g4.1,fun w m=>(g4.2 w m).mono wz⟩,hb,fun zk=>?_⟩
    have fin:∀v,Rep X.K (aV Cb) H3 (LU l ks d) v->Q v H3:=fun v rv=>q v H3 (e1.trans wz) (.flat r (e1.trans wz) (Ob hn) rv _)
    cases hf:l.find? (fun z=>decide (z.1=ks)) with
    | some w=>
     obtain ⟨p,v,f1,f2,f3,_⟩:=zP zk g1 g6 hf
     refine⟨v,fun p' BS=>?_,fun hx=>?_,fin v ?_⟩
     ·rw[f1] at BS;cases BS;exact f2
     ·rw[f1] at hx;cases hx
     ·unfold LU;rw[hf];exact f3.same wz _
    | none=>
     have hx:=find_none zk hf
     refine⟨z,fun p' BS=>?_,fun _=>rfl,fin z ?_⟩
     ·rw[hx] at BS;cases BS
     ·unfold LU;rw[hf];exact w3.rep
end
end Dm
end Wi
section Wk
namespace Dm
open PySem PySem.Spec PyProof.Rows L2
def FZ(ks:List (List Int))(d:D):List D->List D
 | k::v::r=>k::(if qC k=some ks then d else v)::FZ ks d r
 | l=>l
def putD(ds:List D)(l:List (List (List Int)×D×D))(ks:List (List Int))(kd d:D):List D:=if (l.map (·.1)).any (fun k=>decide (k=ks))=true then FZ ks d ds else ds++[kd,d]
def IZ(i:Nat)(st:dX)(z:List D×List (List (List Int)×D×D))(kd d:D):Out:=match qC kd with
 | some ks=>if z.2.length<=5000/\RV d=true then .nx (st.set i (some (.cu 2 (putD z.1 z.2 ks kd d)))) else .bad
 | none=>.bad
def qK(i:Nat)(fk f:DF):DS:=fun st=>match f st with
 | .ok d=>(match jP st[i]? with
  | some z=>(match fk st with
   | .ok kd=>IZ i st z kd d
   | .ex c p=>.ex c p st
   | .bad=>.bad)
  | none=>.bad)
 | .ex c p=>.ex c p st
 | .bad=>.bad
def pv(ks:List (List Int))(v:V):List SP->List V->List V
 | p::ps,w::vs=>(if p.1=ks then v else w)::pv ks v ps vs
 | _,_=>[]
theorem Ec{K:Frag}{C:Cfg}{H:Hp}{ks:List (List Int)}{d:D}{v:V}{u:Value}(wv:Rep K C H d v)(ru:RelV v u):∀{ps:List SP} {vs:List V} {ds:List D} {l:List (List (List Int)×D×D)},Vals vs (ps.map (·.2.2))->aH K C H ds (qB ps vs)->fD ds=some l->ps.map (·.1)=l.map (·.1)->
  Vals (pv ks v ps vs) ((ps.map (putAt ks u)).map (·.2.2))/\aH K C H (FZ ks d ds) (qB (ps.map (putAt ks u)) (pv ks v ps vs))/\∀w∈pv ks v ps vs,w=v\/w∈vs
 | [],_,ds,l,rel,q,h,e=>by
  cases rel
  have:l=[]:=by simpa using e.symm
  subst this
  rw[show qB [] []=[] from rfl] at q
  cases ds with
  | nil=>exact⟨.nil,q,fun w m=>nomatch m⟩
  | cons k ds=>rw[aH] at q;obtain ⟨_,_,z,_⟩:=q;cases z
 | p::ps,vs,ds,l,rel,q,h,e=>by
  rw[aC1] at rel
  cases rel with
  | @cons w _ vs _ r1 t1=>
   rw[yJ] at q
   cases ds with
   | nil=>rw[aH] at q;cases q
   | cons k ds=>
    cases ds with
    | nil=>rw[aH] at q;obtain ⟨_,_,z,_,q⟩:=q;cases z;rw[aH] at q;cases q
    | cons x ds=>
     rw[fD] at h
     cases ha:qC k with
     | none=>rw[ha] at h;cases h
     | some a=>
      cases hr:fD ds with
      | none=>rw[ha,hr] at h;cases h
      | some rr=>
       rw[ha,hr] at h
       cases h
       rw[aC1,aC1] at e
       injection e with e1 e2
       rw[aH] at q
       obtain ⟨_,_,z,q1,q⟩:=q
       cases z
       rw[aH] at q
       obtain ⟨_,_,z,q2,q⟩:=q
       cases z
       obtain ⟨i1,i2,i3⟩:=Ec wv ru t1 q hr e2
       have e1:p.1=a:=e1
       rw[FZ,ha,pv,aC1,aC1]
       by_cases c:p.1=ks
       ·have c':some a=some ks:=by rw[<- e1,c]
        rw[aC2 c,aC2 c',show putAt ks u p=(p.1,p.2.1,u) by unfold putAt;rw[aC2 c]]
        exact⟨.cons ru i1,.cons q1 (.cons wv i2),fun y m=>(aC6.mp m).elim .inl fun m=>(i3 y m).imp id (.tail _)⟩
       ·have c':¬ some a=some ks:=fun z=>c (by rw[e1];injection z)
        rw[aC3 c,aC3 c',show putAt ks u p=p by unfold putAt;rw[aC3 c]]
        exact⟨.cons r1 i1,.cons q1 (.cons q2 i2),fun y m=>(aC6.mp m).elim (fun z=>.inr (z ▸ .head _)) fun m=>(i3 y m).imp id (.tail _)⟩
section
variable {X:Cx}{Cb:Addr}{G0:Hp}{Γ:List SK}{E:L2.St->XK}{gx:Bool}{b e:Expr}{f:DF}{κ κ':Kd}{pos:Pos}
theorem Ed{i:Nat}{n:Bool}{x:Str}{p1 p2:Pos}{ix:Expr}{fi:DF}(hu:X.A.units+2 < cLine)(hx:PE X (.Name x p1) (qT i))(hi:PE X ix (tD X.K (aV Cb) G0 Γ E fi κ'))(he:PE X e (tD X.K (aV Cb) G0 Γ E f κ))(na:uG Γ=true)(hk:Γ[i]?=some (.own n):=by rfl)(hl:κ = .new:=by rfl)
  (ha:∀v,assign (.Subscript (.Name x p1) ix p2) X.env v=(do
   let ov <- holding [v] (eval (.Name x p1) X.env)
   let iv <- holding [v,ov] (eval ix X.env)
   standAt p2
   holding [v,ov,iv] (setItem ov iv v)
   release [v,ov,iv] []):=by intro _;rfl)
  (hs:swapsWithSole [Expr.Subscript (.Name x p1) ix p2] e pos.line X.env=pure false:=by rfl) (hw:swappedStores [Expr.Subscript (.Name x p1) ix p2] e X.env=pure none:=by rfl)
  (h1:(assignEach [Expr.Subscript (.Name x p1) ix p2] X.env).map (·.2)=[assign (.Subscript (.Name x p1) ix p2) X.env]:=by rfl) :
  PS X (.Assign [.Subscript (.Name x p1) ix p2] e pos) (r9 X.K (aV Cb) G0 Γ E gx (qK i fi f)):=(GA he (OL hx hi (W6 hu) ha) hs hw h1).imp fun D σ H zz=>by
 subst hl
 obtain ⟨A,st,r,q⟩:=zz
 walk_at"1"
 unfold qK at q
 cases hf:f st with
 | bad=>rw[hf] at q;exact q
 | ex c p=>rw[hf] at q;exact fun H' e'=>q σ H' A (r.mono e') (aG e')
 | ok d=>
  walk_at"2,"
  cases EH:jP st[i]? with
  | none=>rw[EH] at q;exact q.elim
  | some z=>
   obtain ⟨EH,Y7⟩:=tZ EH
   obtain ⟨ds,l⟩:=z
   rw[wN EH Y7] at q
   dsimp only at q EH Y7
   intro v H1 e1 w1
   obtain ⟨p,h1,h2,h3,t2,xs,ow,h5⟩:=r.Ik hk EH rfl
   refine⟨_,h1,A,st,r.mono e1,?_⟩
   cases hi:fi st with
   | bad=>rw[hi] at q;exact q
   | ex c p=>rw[hi] at q;exact fun H' e'=>q σ H' A (r.mono (e1.trans e')) (aG (e1.trans e'))
   | ok kd=>
    rw[hi] at q
    walk_at","
    intro vi H2 e2 w2
    unfold IZ at q
    cases Gr:qC kd with
    | none=>rw[Gr] at q;exact q.elim
    | some ks=>
     rw[Gr] at q
     walk_at","
     by_cases hc:l.length<=5000/\RV d=true
     ·rw[aC2 hc] at q
      have xC:=e1.trans e2
      have r':=r.mono xC
      have S:aB (eh n G0 A H) (eh n G0 A H2):=by
       unfold eh;cases n
       ·exact aG xC
       ·exact bK (aG xC)
      have S2:aB (eh n G0 A H2) H2:=by
       unfold eh;cases n
       ·exact aF _ _
       ·exact(dw _ _).trans (aF _ _)
      obtain ⟨ob,ps,vs,rfl,rel,hp,kp,pl⟩:=ow
      have q5:aH X.K (aV Cb) (eh n G0 A H2) ds (qB ps vs):=h5.same S _
      have hlen:vs.length=ps.length:=by rw[Bq rel,aC8]
      obtain ⟨_,i2,_,_⟩:=wL hlen q5 Y7
      have Y8:∀x∈ps,mq X.K (eh n G0 A H2) x.1 x.2.1:=fun x m=>(kp x m).mono S
      obtain ⟨b,rfl,hb⟩:=mZ w2.rep Gr
      have wk:Rep X.K (aV Cb) (eh n G0 A H2) kd (.ref b):=by
       unfold eh;cases n
       ·exact Rep.part r'.DW _ (zO Gr) w2.rep
       ·exact Rep.part r'.uE _ (zO Gr) w2.rep
      obtain ⟨b2,RN,hbk⟩:=mZ wk Gr
      cases RN
      have w1':=w1.later e2
      have wv:Rep X.K (aV Cb) (eh n G0 A H2) d v:=w1'.Vy r xC (by cases n <;> rfl)
      have plv:∀l',v = .ref l'->∃ys,eh n G0 A H2 l'=some (.lst ys):=fun l' zl=>by
       cases d with
       | lst es=>
        obtain ⟨p',z,h0,ys,hy,_⟩:=w1'.2.1 rfl
        rw[zl] at z;cases z
        have nA:l'∉A:=fun m=>by obtain ⟨o,w,_⟩:=r.lists l' m;rw[h0] at w;cases w
        have hy2:H2 l'=some (.lst ys):=dw _ _ _ _ hy
        refine⟨ys,?_⟩
        unfold eh;cases n
        ·show er H2 A l'=_;rw[aS nA];exact hy2
        ·show nw G0 (er H2 A) l'=_;rw[kJ (r.g0.free h0),aS nA];exact hy2
       | int k=>rw[Rep] at wv;rw[wv] at zl;cases zl
       | _=>cases hc.2
      have hlp:l.length=ps.length:=by have:=i2.1;rw[aC8] at this;exact this
      refine⟨p,b,ob,ps,ks,_,rfl,rfl,xC _ _ hp,fun x m=>(Y8 x m).mono S2,⟨i2.1,fun z m=>(i2.2 z m).mono S2⟩,hb,?_,fun u Q7 ru zk=>?_⟩
      ·rw[aG6];have:=hc.1;lia
      ·have fin:∀{E2 Hv vs'},putD ds l ks kd d=E2->storedH ps ks b u=Hv->Vals vs' (Hv.map (·.2.2))->(∀x∈Hv,mq X.K (eh n G0 A H2) x.1 x.2.1)->(∀w∈vs',w=v\/w∈vs)->aH X.K (aV Cb) (eh n G0 A H2) E2 (qB Hv vs')->D.nx _ _:=fun {E2 Hv vs'} z1 z2 w1 w2 w3 w4=>by
        subst z1;subst z2
        have own:m6 X.K (aV Cb) (eh n G0 A H2) (upd H2 p (.ext (DY p Q7 (storedH ps ks b u)))) p (.cu 2 (putD ds l ks kd d)):=by
         refine⟨rfl,_,⟨_,_,vs',rfl,w1,bN,w2,fun l' m=>?_⟩,w4⟩
         rcases w3 _ m with e | m
         ·exact plv l' e.symm
         ·obtain ⟨ys,z⟩:=pl l' m;exact⟨ys,S _ _ z⟩
        obtain ⟨r2,e3⟩:=r'.Vx na hk EH h1 h2 h3 rfl rfl own
        exact q _ _ A r2 ((aG xC).trans e3)
       cases hn:atKey ps ks with
       | none=>
        refine fin (aC3 fun z=>by rw[<- CL zk,hn] at z;cases z) (storedH_new hn b u) (vs':=vs++[v]) (by rw[aH8];exact Vals.snoc rel ru) (fun x m=>?_) (fun w m=>?_) (by rw[FT hlen];exact aH.Wc q5 (.cons wk (.cons wv (by rw[aH]))))
        ·rcases aF9.mp m with m | m
         ·exact Y8 x m
         ·obtain rfl:=aF2.mp m;exact hbk
        ·rcases aF9.mp m with m | m
         ·exact .inr m
         ·exact .inl (aF2.mp m)
       | some p0=>
        obtain ⟨y1,y2,y3⟩:=Ec (ks:=ks) wv ru rel q5 Y7 zk
        refine fin (aC2 (by rw[<- CL zk,hn];rfl)) (storedH_old hn b u) y1 (fun x m=>?_) y3 y2
        obtain ⟨y,ym,rfl⟩:=aC5.mp m
        unfold putAt
        split
        ·exact Y8 y ym
        ·exact Y8 y ym
     ·rw[aC3 hc] at q;exact q.elim
end
end Dm
end Wk
section Wl
namespace Dm
open PySem PySem.Spec PyProof.Rows L2
section
variable {X:Cx}{Cb:Addr}{G0:Hp}{Γ:List SK}{E:L2.St->XK}{a b:Expr}{fa fb:DF}{aA bC:Kd}{pos:Pos}
def mC:D->D->R D:=fun a b=>match yK a b with
 | .ok d=>if Wj d=true then .ok d else .bad
 | _=>.bad
theorem J0{a b d:D}(h:mC a b = .ok d):yK a b = .ok d/\Wj d=true:=by
 unfold mC at h
 split at h
 ·rename_i x hx
  split at h
  ·rename_i hn;cases h;exact⟨hx,hn⟩
  ·cases h
 ·cases h
theorem J1{a b:D}{c:Addr}{p:Option Int}:mC a b≠ .ex c p:=by
 unfold mC
 split
 ·split <;> exact fun h=>(by cases h)
 ·exact fun h=>(by cases h)
theorem Ef(hu:X.A.units+2 < cLine)(ha:PE X a (tD X.K (aV Cb) G0 Γ E fa aA))(hb:PE X b (tD X.K (aV Cb) G0 Γ E fb bC))(hs:rO b):PE X (.Subscript a b pos) (tD X.K (aV Cb) G0 Γ E (aQ mC fa fb) .new):=(NJ (ai6 hu) ha hb hs).imp fun σ H Q zz=>by
 obtain ⟨A,st,r,q⟩:=zz
 walk_at"1"
 unfold aQ R.bind at q
 cases h1:fa st with
 | bad=>rw[h1] at q;exact q
 | ex c p=>rw[h1] at q;exact q
 | ok da=>
  rw[h1] at q
  intro x H1 e1 w1
  walk_at"D,"
  cases h2:fb st with
  | bad=>rw[h2] at q;exact q
  | ex c p=>rw[h2] at q;exact fun H' e'=>q H' (e1.trans e')
  | ok db=>
   rw[h2] at q
   intro y H2 e2 w2
   walk_at","
   cases hg:mC da db with
   | bad=>rw[hg] at q;exact q.elim
   | ex c p=>exact absurd hg J1
   | ok d=>
    rw[hg] at q
    obtain ⟨hg,hn⟩:=J0 hg
    obtain ⟨ds,ks,l,z,rfl,hk,hl,hz,ho,rfl⟩:=IV hg
    obtain ⟨p,o,ps,vs,rfl,g1,g2,g3,_,g4,g6,_⟩:=wM (w1.later e2).rep hl
    obtain ⟨b',rfl,hb⟩:=mZ w2.rep hk
    refine⟨p,b',o,ps,ks,_,rfl,rfl,g2,g3,g4,hb,fun zk _=>?_⟩
    obtain ⟨pv,v,f1,f2,f3,_⟩:=zP zk g1 g6 hz
    exact⟨pv,v,f1,f2,q v H2 (e1.trans e2) (.flat r (e1.trans e2) (Ob hn) f3 _)⟩
end
end Dm
end Wl
section aj1
namespace Dm
open PySem PySem.W PySem.Spec PyProof.Rows L2
theorem G1{X:Cx}:lS X (.type "int") (fun xs H Q=>∃b,xs=[.bl b]/\Q (.int (if b=true then 1 else 0)) H):=by
 intro pins s σ H xs us Q I r h
 obtain ⟨b,rfl,q⟩:=h
 obtain ⟨u,rfl,ru⟩:=vals1 r
 cases (show u=Value.bool b from ru)
 exact call_int_bool ⟨.int (if b=true then 1 else 0),H,I.tok _,⟨_,rfl⟩,q⟩
def J2:List D->R D:=fun ds=>match ds with | [.bl b]=>.ok (.int (if b=true then 1 else 0)) | _=>.bad
theorem Qy:bootBuiltins "int" =some (.type "int"):=by decide +kernel
theorem LV{K:Frag}{C:Cfg}:Qf K C (fun xs H Q=>∃b,xs=[.bl b]/\Q (.int (if b=true then 1 else 0)) H) J2 .new:=fun G0 Γ E σ A st H ds xs Q r w q=>by
 unfold J2 at q
 split at q
 ·rename_i z
  split at z
  ·rename_i b
   cases z
   obtain ⟨v,rfl,w1⟩:=ou w
   rw[Rep] at w1
   subst w1
   exact⟨b,rfl,q _ H (.refl _) (.flat r (.refl _) (by rw[fR] <;> simp) xQ _)⟩
  ·cases z
 ·rename_i z;split at z <;> cases z
 ·exact q.elim
end Dm
end aj1
section aj2
namespace Dm
open PySem PyProof.Rows L2 HT PySem.SeqAt
open PySem.AutoSeq1 (wpAny_loadPart')
open PySem.MeetsSeq PySem.MeetsSeq2 PySem.MeetsSeq3
abbrev Y9(d:Option Addr)(us:Array Value)(m:Nat)(z:Array (Option Value)):Obj:={ cls:=.type "list",dict:=d,data:=.seq us m,slots:=z }
theorem Eg{p q:Addr}{us vs:Array Value}{m m':Nat}{d d':Option Addr}{z z':Array (Option Value)}(same:us.size=vs.size):∀(f j:Nat) (xs ys:List D),us.size=j+f->
  Meets (Builtin.«list.__eq__.loop» ⟨[.ref p,.ref q,rawInt j,rawInt 0],[]⟩) (fun A R s=>s.heap.get? p=some (Y9 d us m z)/\s.heap.get? q=some (Y9 d' vs m' z')/\PL A.in1 s (us.toList.drop j) (vs.toList.drop j) xs ys/\R (.ok (.ret (.bool (lexLt (j4 xs) (j4 ys))))) s)
 | 0,j,xs,ys,e=>fun prog w A R s hh=>by
  obtain ⟨h0,g0,d0,t0,o0⟩:=s
  obtain ⟨hp,hq,P,hR⟩:=hh
  rw[List.drop_of_length_le (by rw[aC9];lia),List.drop_of_length_le (by rw[aC9];lia)] at P
  cases P
  wp_walk using aG4 hp,aG4 hq
  rw[show us[((j:Nat):Int).toNat]?=none by rw[aI8];exact Array.getElem?_eq_none (by lia),show vs[((j:Nat):Int).toNat]?=none by rw[aI8];exact Array.getElem?_eq_none (by lia)]
  wp_walk using aG4 hp,aG4 hq
  rw[j4,gu] at hR
  show R (.ok (.ret (.bool (decide (us.size < vs.size))))) _
  rw[aE4 (by lia)]
  exact hR
 | f+1,j,xs,ys,e=>fun prog w A R s hh=>by
  obtain ⟨h0,g0,d0,t0,o0⟩:=s
  obtain ⟨hp,hq,P,hR⟩:=hh
  have ju:j < us.size:=by lia
  have jv:j < vs.size:=by lia
  have eu:us[((j:Nat):Int).toNat]?=some us[j]:=by rw[aI8];exact Array.getElem?_eq_getElem ju
  have ev:vs[((j:Nat):Int).toNat]?=some vs[j]:=by rw[aI8];exact Array.getElem?_eq_getElem jv
  rw[List.drop_eq_getElem_cons (show j < us.toList.length by rw[aC9];exact ju),List.drop_eq_getElem_cons (show j < vs.toList.length by rw[aC9];exact jv)] at P
  cases P with
  | @cons _ _ x0 y0 _ _ rX DG q1 q2 q3 q4=>
   rw[Array.getElem_toList] at q1 q2
   rw[j4,j4,vf q3] at hR
   wp_walk using aG4 hp,aG4 hq
   rw[eu,ev]
   refine aB8 (q1 prog w _ _ ?_)
   by_cases c:fl x0=fl y0
   ·rw[aC2 c] at hR
    rw[aD6 c]
    wp_walk
    rw[show ((j:Int)+1)=((j+1:Nat):Int) from rfl]
    refine⟨plainId_quiet plain_eq_loop _,codeAny_builtin entry_eq_loop ?_⟩
    rw[Around.under_plainId plain_eq_loop _]
    exact Eg same f (j+1) rX DG (by lia) prog w A R _ ⟨hp,hq,q4,hR⟩
   ·rw[aC3 c] at hR
    rw[aE4 c]
    wp_walk using aG4 hp,aG4 hq
    rw[eu,ev]
    refine aB8 (q2 prog w _ _ ?_)
    wp_walk
    simpa using hR
theorem G3{p q:Addr}{us vs:Array Value}{m m':Nat}{d d':Option Addr}{z z':Array (Option Value)}(same:us.size=vs.size)(xs ys:List D) :
  Meets (Builtin.«list.__lt__» ⟨[.ref p,.ref q],[]⟩) (fun A R s=>s.heap.get? p=some (Y9 d us m z)/\s.heap.get? q=some (Y9 d' vs m' z')/\PL A.in1 s us.toList vs.toList xs ys/\R (.ok (.ret (.bool (lexLt (j4 xs) (j4 ys))))) s):=fun prog w A R s hh=>by
 obtain ⟨h0,g0,d0,t0,o0⟩:=s
 obtain ⟨hp,hq,P,hR⟩:=hh
 have sub:=AutoSeq1.sub_list_list
 wp_walk using aG4 hp,aG4 hq
 refine⟨plainId_quiet plain_eq_loop _,codeAny_builtin entry_eq_loop ?_⟩
 rw[Around.under_plainId plain_eq_loop _]
 exact Eg same us.size 0 xs ys (Nat.zero_add _).symm prog w A R _ ⟨hp,hq,P,hR⟩
section
variable {s:Shared}
theorem Qz{xs ys:List D}{A:Around}{u v:Value}(sh:dS xs ys=true)(n:Cr xs=true)(hu:dO s.heap (.lst xs) u)(hv:dO s.heap (.lst ys) v)(hr:A.units+jm xs+1 < cLine):PN A s u v (lexLt (j4 xs) (j4 ys)):=by
 rw[dO] at hu hv
 refine b6 hu fun a it aR t1 p1=>?_
 clear hu
 walk_at"#"
 refine b6 hv fun b NV aR t2 p2=>?_
 clear hv
 walk_at"#"
 obtain ⟨⟨cls,dd,data,sl⟩,n1,ho,hc,hd,he⟩:=id t1
 obtain ⟨⟨UX,RM,data2,NU⟩,n2,NW,Kg,hd2,RU⟩:=id t2
 simp only at hc hd he Kg hd2 RU
 subst hc hd he Kg hd2 RU
 have P:=Lb xs ys (A:=A.in1) sh n p1 p2 (by show A.units+1+_ < _;lia)
 intro prog w E Q hq
 have F6:it.size=NV.size:=by simpa using P.len
 exact richCompare_meets_room (op:=.Lt) ⟨_,ho,rfl⟩ ⟨_,NW,rfl⟩ PySem.F.slot_list_lt PySem.F.entry_list_lt (PySem.F.args_list_lt_2 _ _) (G3 F6 xs ys)
  ⟨ho,NW,P,show Value.bool (lexLt (j4 xs) (j4 ys))≠Value.notImplemented/\Q _ s from ⟨(fun x=>nomatch x),hq⟩⟩ (by lia)
end
end Dm
end aj2
section Wm
namespace Dm
open PySem PySem.W PyProof.Rows L2 HT PySem.SeqAt So
def RW(ds:List D):Prop:=∀a∈ds,∀b∈ds,∃i j xs ys,a = .tup [.int i,.lst xs]/\b = .tup [.int j,.lst ys]/\Cr xs=true/\bL xs=true/\jm xs<=50/\(i=j->dS xs ys=true)
theorem qp(i:Int)(xs:List D):fl (.tup [.int i,.lst xs])=i::j4 xs:=by simp[fl,j4]
theorem LW{ds:List D}(h:RW ds){a b:D}(ha:a∈ds)(hb:b∈ds)(e:fl a=fl b):a=b:=by
 obtain ⟨i,j,xs,ys,rfl,rfl,_,_,_,sh⟩:=h a ha b hb
 rw[qp,qp] at e
 injection e with e1 e2
 subst e1
 rw[rY xs ys (sh rfl) e2]
section
variable {prog:Program}{w:World}{A:Around}{E:Value->Shared->Prop}{s:Shared}
theorem LX{ds:List D}{vs:List Value}{i j:Nat}{C:Bool->Shared->Prop}(k:RW ds)(hu:A.units+60 < cLine)(p:bh s.heap ds vs)(hi:i < ds.length)(hj:j < ds.length)(hc:C (decide (rk ds i < rk ds j)) s) :
  wpAny (model prog w) A (keyLt' (tuples' true) (vs.getD i Value.none) (vs.getD j Value.none)) C (fun _ _=>False) s:=by
 rw[<- HC ds hi] at hc
 obtain ⟨ai,mi⟩:=ku p hi
 obtain ⟨aj,mj⟩:=ku p hj
 generalize ds.getD i .cF=x at hc ai mi
 generalize ds.getD j .cF=y at hc aj mj
 obtain ⟨m,n,xs,ys,rfl,rfl,nx,fx,dx,sh⟩:=k x mi y mj
 obtain ⟨_,_,_,_,e1,_,_,fy,_,_⟩:=k _ mj _ mj
 injection e1 with e1
 injection e1 with _ e1
 injection e1 with e1
 injection e1 with e1
 subst e1
 rw[qp,qp] at hc
 rw[dO] at ai aj
 refine b6 ai fun a it e1 rM p1=>?_
 clear ai
 obtain ⟨o1,q1,_,n1,d1⟩:=rM
 refine b6 aj fun b' NV e2 rM p2=>?_
 clear aj
 obtain ⟨o2,q2,_,n2,d2⟩:=rM
 rw[e1,e2]
 rw[bh] at p1 p2
 obtain ⟨v0,r0,er0,a0,p1⟩:=p1
 obtain ⟨v1,r1,er1,a1,p2⟩:=p2
 rw[bh] at p1 p2
 obtain ⟨v2,r2,rfl,a2,p1⟩:=p1
 obtain ⟨v3,r3,rfl,a3,p2⟩:=p2
 rw[bh] at p1 p2
 subst p1;subst p2
 rw[dO] at a0 a1
 obtain ⟨t,rfl⟩:=a0
 obtain ⟨t',rfl⟩:=a1
 have sz:it.size=NV.size:=by rw[<- aC9,er0,<- aC9,er1];rfl
 refine kat_lt q1 d1 q2 d2 ?_
 rw[er0,er1]
 have E0:EqAt A s (.int m t) (.int n t') (decide (m=n)):=by
  have:=oH (s:=s) (.int m) (.int n) (A:=A) (by rw[flat] <;> simp) (by rw[flat] <;> simp) (u:=.int m t) (v:=.int n t') (by rw[dO];exact⟨t,rfl⟩) (by rw[dO];exact⟨t',rfl⟩) (by simp[dep];lia)
  rw[gq] at this
  exact this
 refine kat_cons (E0 prog w _ _ (kat_go (fun c=>kat_yes ?_) fun c=>kat_no ?_))
 ·have c:=aG8 c
  subst c
  rw[cj,aC2 rfl] at hc
  have sh:=sh rfl
  have E1:EqAt A s v2 v3 (decide (j4 xs=j4 ys)):=by
   have:=oH (s:=s) (.lst xs) (.lst ys) (A:=A) (by rw[flat];exact fx) (by rw[flat];exact fy) a2 a3 (by rw[dep];lia)
   rwa [gq,ve xs ys sh] at this
  refine kat_cons (E1 prog w _ _ (kat_go (fun c=>kat_yes ?_) fun c=>kat_no ?_))
  ·have c:=aG8 c
   rw[c,rZ] at hc
   show C (decide (it.size < NV.size)) s
   rw[aE4 (by lia)]
   exact hc
  ·refine kat_one _ _ (Qz sh nx a2 a3 (by lia) prog w _ _ (show PySem.W.BoolBack C (.bool (lexLt (j4 xs) (j4 ys))) s from hc))
 ·have c:=of_decide_eq_false c
  rw[cj,aC3 c] at hc
  exact oneLt_int hc
theorem sgT{es:List D}{vs:List Value}(sk:RW es)(l:es.length<=sizeLine)(hu:A.units+64 < cLine):SG prog w A es (tuples' true) vs:=
 ⟨l,fun a ha b hb=>LW sk ha hb,fun A' s e h2 p=>⟨fun E R hR=>AW (.qx fun d hd=>let ⟨i,_,xs,_,e,_⟩:=sk d hd d hd;⟨i,_,e⟩) h2 p hR,fun i j C=>LX sk (by rw[e];lia) p⟩⟩
end
end Dm
end Wm
section Wn
namespace Dm
open PySem PyProof.Rows L2 PySem.SeqAt Ts
section
variable {X:Cx}{C:Cfg}
abbrev J3(K:Frag)(C:Cfg):List V->Hp->VK->Prop:=HW K C RW
theorem G4{ds:List D}(h:RW ds):bL ds=true:=gv fun d hd=>by
 obtain ⟨i,_,xs,_,rfl,_,_,f,_⟩:=h d hd d hd
 simp[flat,bL,f]
theorem zQ(hu:X.A.units+64 < cLine):lS X (.builtin "sorted") (J3 X.K C):=sf fun ds S=>⟨G4 S,_,fun l bf=>sgT S l hu⟩
def Wo(ds:List D):Bool:=ds.all fun a=>ds.all fun b=>match a,b with
 | .tup [.int i,.lst xs],.tup [.int j,.lst ys]=>Cr xs&&bL xs&&decide (jm xs<=50)&&(decide (i≠j) || dS xs ys)
 | _,_=>false
theorem QA{ds:List D}(h:Wo ds=true):RW ds:=fun a ha b hb=>by
 unfold Wo at h
 have h:=aI0.mp (aI0.mp h a ha) b hb
 split at h
 ·rename_i i xs j ys
  simp only[aD4,Bool.or_eq_true,aG0] at h
  refine⟨i,j,xs,ys,rfl,rfl,h.1.1.1,h.1.1.2,h.1.2,fun e=>?_⟩
  rcases h.2 with z | z
  ·exact absurd e z
  ·exact z
 ·cases h
def rj:List D->R D:=fun ds=>match ds with
 | [.lst es]=>if Wo es=true then .ok (.lst (dm es)) else .bad
 | _=>.bad
variable {G0:Hp}{Γ:List SK}{E:L2.St->XK}{e:Expr}{fs:DA}
theorem J4(h:PE X e (P6 (J3 X.K C) (Ft X.K C G0 Γ E fs .old))):PE X e (tD X.K C G0 Γ E (br rj fs) .old):=h.imp fun σ H Q zz=>by
 walk_at".01"
 unfold br R.bind at q
 cases hf:fs st with
 | bad=>rw[hf] at q;exact q
 | ex c p=>rw[hf] at q;exact q
 | ok ds=>
  walk_at"2,"
  intro vs H1 e1 w1
  cases hg:rj ds with
  | bad=>rw[hg] at q;exact q.elim
  | ex c p=>unfold rj at hg;split at hg <;> (try split at hg) <;> cases hg
  | ok d=>
   rw[hg] at q
   unfold rj at hg
   split at hg
   ·rename_i es
    split at hg
    case isFalse=>cases hg
    rename_i hb
    cases hg
    obtain ⟨v,rfl,w2⟩:=ou w1
    replace w2:Rep X.K C (er H1 A) (.lst es) v:=w2
    rw[Rep] at w2
    obtain ⟨a,ws,rfl,sq,rs⟩:=w2
    refine⟨a,ws,es,rfl,aB.seq (aF _ _) sq,rs.same ((aF _ _).trans (aF _ _)) _,QA hb,fun p pm hp iI hs=>?_⟩
    refine q _ _ (e1.trans (cz hp)) ?_
    have nA:p∉A:=fun m=>by
     obtain ⟨o,z,_⟩:=(r.mono e1).lists p m
     rw[hp] at z;cases z
    show Rep X.K C (er (upd H1 p _) A) (.lst (dm es)) (.ref p)
    rw[Rep]
    refine⟨p,_,rfl,.of ((aS nA).trans bN),?_⟩
    rw[hs]
    refine(vg (rs.same (aF _ _) _) pm iI).same (fun b u z=>?_) _
    have nb:b≠p:=fun w=>by
     have:=aF _ _ _ _ z
     rw[w,hp] at this;cases this
    rw[aS (by simpa using nb)]
    exact aG (cz hp) b u z
   ·cases hg
end
end Dm
end Wn
section Wq
namespace Pk
open PySem PySem.Spec PyProof.Rows L2 PySem.W Dm
def top(i:Nat):Stmt:=PySem.Challenge.pw_pegleap_k12_rows_counted.main.body.getD i (.Pass ⟨0,0,0,0⟩)
abbrev iW:Stmt:=top 7
abbrev mD:Stmt:=top 8
abbrev gz:Stmt:=top 9
abbrev kC:Stmt:=inClass (top 10) 0
abbrev iu:Stmt:=top 11
abbrev iX:Stmt:=top 12
abbrev mE:Stmt:=top 13
abbrev sN:Stmt:=top 14
abbrev gC:Stmt:=top 16
abbrev gD:Stmt:=top 17
abbrev iw:Stmt:=top 19
abbrev gE:Stmt:=top 20
abbrev iY:Stmt:=top 21
abbrev fJ:Stmt:=top 23
abbrev jQ:Stmt:=top 24
abbrev iy:Stmt:=top 25
abbrev fq:Stmt:=top 26
abbrev fK:Stmt:=top 27
abbrev fL:Stmt:=top 28
abbrev iz:Stmt:=top 29
abbrev iZ:Stmt:=top 30
abbrev gF:Stmt:=top 31
abbrev j0:Stmt:=top 32
abbrev iA:Stmt:=top 33
abbrev iC:Stmt:=top 34
abbrev Bt:Stmt:=top 35
structure kE where
 CQ:Addr
 dI:Addr
 dg:Addr
 aD:Addr
 QB:Tok
 zR:Tok
structure Txt(K:Frag)(mg:Str->Option Value)(t:kE):Prop where
 uI:tW K mg "is_rising" "is_rising" iW ["cells"]
 yL:tW K mg "is_cell" "is_cell" mD ["cell"]
 qL:tW K mg "check_cells" "check_cells" gz ["cells"]
 sO:tW K mg "check_pegs" "check_pegs" iu ["board","pegs"]
 uJ:tW K mg "two_apart" "two_apart" iX ["cell"]
 yM:tW K mg "between" "between" mE ["cell","other"]
 Eh:tW K mg "leaps" "leaps" sN ["board"]
 qM:tW K mg "can_be_done" "can_be_done" gC ["pegs","leap"]
 qN:tW K mg "pegs_behind" "pegs_behind" gD ["pegs","leap"]
 sP:tW K mg "steps_from" "steps_from" iw ["all_leaps","standing"]
 qO:tW K mg "next_counts" "next_counts" gE ["all_leaps","layer"]
 uK:tW K mg "row_count" "row_count" iY ["board","pegs","others"]
 oS:tW K mg "_law_cell_at" "_law_cell_at" fJ ["script","k"]
 wQ:tW K mg "_law_mix" "_law_mix" jQ ["cell","k","many"]
 sQ:tW K mg "_law_whole" "_law_whole" iy ["found"]
 oz:tW K mg "_law_cells_by" "_law_cells_by" fq ["script","most"]
 oU:tW K mg "_law_pegs_by" "_law_pegs_by" fK ["cell","cells"]
 oV:tW K mg "_law_between" "_law_between" fL ["leap"]
 sR:tW K mg "_law_leaps" "_law_leaps" iz ["cells"]
 uL:tW K mg "_law_open" "_law_open" iZ ["cells","pegs"]
 qP:tW K mg "_law_behind" "_law_behind" gF ["pegs","leap"]
 uM:tW K mg "_law_gone" "_law_gone" j0 ["cells","pegs","cell","most"]
 sS:tW K mg "_law_reach" "_law_reach" iA ["cells","pegs"]
 sU:tW K mg "_law_count" "_law_count" iC ["cells","pegs","others"]
 J5:tW K mg "law" "law" Bt ["script"]
 J6:mg "abs" =none
 J7:mg "bool" =none
 uN:mg "enumerate" =none
 J8:mg "int" =none
 n5:mg "isinstance" =none
 oW:mg "len" =none
 rm:mg "list" =none
 vt:mg "range" =none
 Oc:mg "set" =none
 jR:mg "sorted" =none
 n6:mg "tuple" =none
 oX:mg "LAST" =some (.int (7) t.QB)
 eX:mg "MOST_CELLS" =some (.int (24) t.zR)
 jS:mg "PegError" =some (.ref t.CQ)
 fM:mg "BadBoard" =some (.ref t.dI)
 iP:mg "BadPegs" =some (.ref t.dg)
 qq:mg "Board" =some (.ref t.aD)
 fP:NN K t.dI [.type "ValueError",.type "Exception",.type "BaseException",.type "object"] "ValueError.__new__" =true
 iQ:NN K t.dg [.type "ValueError",.type "Exception",.type "BaseException",.type "object"] "ValueError.__new__" =true
 RX:GN K t.aD
 Kl:jG K t.aD "cells"
 iB:∃a fd,GW K "__init__" "Board.__init__" kC a fd/\Mk K t.aD a/\Binds K fd ["self","cells"] []
theorem Bu:ExcBaseFacts "ValueError" "ValueError.__new__" "ValueError.__init__" [.type "ValueError",.type "Exception",.type "BaseException",.type "object"]  :=PySem.F.excBase_ValueError
theorem kL:bootBuiltins "len" =some (.builtin "len"):=by decide +kernel
theorem qt:bootBuiltins "list" =some (.type "list"):=by decide +kernel
def sV:String->Option Bool:=fun x=>if x = "bool" then some true else if x = "int" then some false else if x = "tuple" then some false else if x = "list" then some false else if x = "str" then some false else if x = "NoneType" then some false else none
theorem Bv{K:Frag}:∀x b,sV x=some b->kitOne K (.type x) (.type "bool")=some b:=fun x b h=>by
 unfold sV at h
 repeat' (split at h)
 all_goals (first | cases h;done | (rename_i e;subst e;cases h;first | (unfold kitOne;rw[aC2 (by decide)]) | exact IS (by decide) (by decide +kernel) (by decide +kernel)))
def vz:String->Option Bool:=fun x=>if x = "int" then some true else if x = "bool" then some true else if x = "tuple" then some false else if x = "list" then some false else if x = "str" then some false else if x = "NoneType" then some false else none
theorem CS{K:Frag}:∀x b,vz x=some b->kitOne K (.type x) (.type "int")=some b:=fun x b h=>by
 unfold vz at h
 repeat' (split at h)
 all_goals (first | cases h;done | (rename_i e;subst e;cases h;first | (unfold kitOne;rw[aC2 (by decide)]) | exact IS (by decide) (by decide +kernel) (by decide +kernel)))
def cM(t:kE):List D->R D:=bS 1 (gO (aQ (lO false) (ak 0) (vj jO (ak 0))))
def jB(t:kE):List D->R D:=bS 1 (gO (ic (mX O7 O7 (dC (.int 0)) (aQ cZ (ak 0) (dC (.int 0))) (dC (.int (7)))) (mX O7 O7 (dC (.int 0)) (aQ cZ (ak 0) (dC (.int 1))) (dC (.int (7))))))
def bJ(t:kE):List D->R D:=bS 2 (bD (eG (tP (mX O7 O7 (dC (.int 1)) (br iO (aa (ak 0) au)) (dC (.int (24)))))
 (gM t.dI)
 cC)
 (bD (eG (tP (br (cM t) (aa (ak 0) au)))
 (gM t.dI)
 cC)
 (dP (eK (ak 0)) (bW 1)
 (eG (tP (br (jB t) (aa (ak 1) au)))
 (gM t.dI)
 cC))))
def dB(t:kE):List D->R D:=bS 3 (bD (eG (tP (br (cM t) (aa (ak 1) au)))
 (gM t.dg)
 cC)
 (dP (eK (ak 1)) (bW 2)
 (eG (aQ (lP true) (ak 2) (vj dc (ak 0)))
 (gM t.dg)
 cC)))
def fQ(t:kE):List D->R D:=bS 3 (bD (bP 1 (aZ (aQ cZ (ak 0) (dC (.int 0)))))
 (bD (bP 2 (aZ (aQ cZ (ak 0) (dC (.int 1)))))
 (gO (cB 100 (aa (bX 100 (aa (aQ jE (ak 1) (dC (.int 2))) (aa (aZ (ak 2)) au))) (aa (bX 100 (aa (aZ (ak 1)) (aa (aQ jE (ak 2) (dC (.int 2))) au))) (aa (bX 100 (aa (aZ (ak 1)) (aa (aQ eO (ak 2) (dC (.int 2))) au))) (aa (bX 100 (aa (aQ eO (ak 1) (dC (.int 2))) (aa (aZ (ak 2)) au))) au))))))))
def dh(t:kE):List D->R D:=bS 2 (gO (bX 100 (aa (aQ m7 (aQ eO (aQ cZ (ak 0) (dC (.int 0))) (aQ cZ (ak 1) (dC (.int 0)))) (dC (.int 2))) (aa (aQ m7 (aQ eO (aQ cZ (ak 0) (dC (.int 1))) (aQ cZ (ak 1) (dC (.int 1)))) (dC (.int 2))) au))))
def sW(t:kE):List D->R D:=bS 4 (bD (bP 1 (cB 100 au))
 (bD (dP (eK (vj dc (ak 0))) (bW 2)
 (dP (eK (br (fQ t) (aa (ak 2) au))) (bW 3)
 (eG (ic (aQ (lP false) (ak 3) (vj dc (ak 0))) (aQ (lP false) (br (dh t) (aa (ak 2) (aa (ak 3) au))) (vj dc (ak 0))))
 (jt 1 (bX 100 (aa (aZ (ak 2)) (aa (aZ (ak 3)) au))))
 cC)))
 (gO (ak 1))))
def gG(t:kE):List D->R D:=bS 2 (gO (ic (aQ (lP false) (aQ cZ (ak 1) (dC (.int 0))) (ak 0)) (ic (aQ (lP true) (aQ cZ (ak 1) (dC (.int 1))) (ak 0)) (aQ (lP false) (br (dh t) (aa (aQ cZ (ak 1) (dC (.int 0))) (aa (aQ cZ (ak 1) (dC (.int 1))) au))) (ak 0)))))
def gH(t:kE):List D->R D:=bS 3 (bD (bP 2 (bX 100 (aa (aZ (aQ cZ (ak 1) (dC (.int 0)))) (aa (br (dh t) (aa (aQ cZ (ak 1) (dC (.int 0))) (aa (aQ cZ (ak 1) (dC (.int 1))) au))) au))))
 (gO (br eW (aa (aQ zI (jk (Y5 (ak 0)) 1 [2] (bW 0) (aQ (lP true) (ak 0) (ak 1)) (aZ (ak 0))) (cB 100 (aa (aZ (aQ cZ (ak 1) (dC (.int 1)))) au))) au))))
def eY(t:kE):List D->R D:=bS 2 (gO (jk (eK (ak 0)) 1 [1] (bW 0) (br (gG t) (aa (ak 1) (aa (ak 0) au))) (bX 100 (aa (aZ (ak 0)) (aa (br ir (aa (br (gH t) (aa (ak 1) (aa (ak 0) au))) au)) au)))))
def fz(t:kE):List D->R D:=bS 7 (bD (bP 2 (dC (.cu 2 [])))
 (bD (dP (FY (ak 1)) (iK 3 4)
 (dP (eK (br (eY t) (aa (ak 0) (aa (ak 3) au)))) (iK 5 6)
 (qK 2 (ak 6) (aQ eO (sJ (ak 2) (ak 6) (dC (.int 0))) (ak 4)))))
 (gO (ak 2))))
def gQ(t:kE):List D->R D:=bS 6 (bD (yx (br (dB t) (aa (ak 0) (aa (ak 1) au))))
 (bD (yx (br (dB t) (aa (ak 0) (aa (ak 2) au))))
 (bD (bP 3 (br (sW t) (aa (ak 0) au)))
 (bD (bP 4 (Ea (br ir (aa (ak 1) au)) (dC (.int 1))))
 (bD (dP (sC (aa (aQ jE (br iO (aa (ak 1) au)) (br iO (aa (ak 2) au))) au)) (bW 5)
 (bP 4 (br (fz t) (aa (ak 3) (aa (ak 4) au)))))
 (gO (sJ (ak 4) (br ir (aa (ak 2) au)) (dC (.int 0)))))))))
def aN(t:kE):List D->R D:=bS 2 (bD (eG (aQ Vs (ak 1) (br iO (aa (ak 0) au)))
 (gO (aZ (aQ cZ (ak 0) (ak 1))))
 cC)
 (gO (dC (.int 0))))
def aP(t:kE):List D->R D:=bS 5 (bD (bP 3 (cB 100 (aa (dC (.int 48271)) (aa (dC (.int 69621)) (aa (dC (.int 16807)) (aa (dC (.int 39373)) (aa (dC (.int 30269)) (aa (dC (.int 40014)) (aa (dC (.int 40692)) (aa (dC (.int 50021)) (aa (dC (.int 61687)) (aa (dC (.int 71993)) (aa (dC (.int 83869)) (aa (dC (.int 95561)) (aa (dC (.int 30307)) au)))))))))))))))
 (bD (bP 4 (aQ su (aQ eO (aQ gU (ak 0) (dC (.int 2147483647))) (dC (.int 12345))) (aQ cZ (ak 3) (aQ gU (ak 1) (dC (.int 13))))))
 (bD (bP 4 (aQ eO (aQ su (ak 4) (aQ eO (aQ su (dC (.int 2)) (aQ m7 (ak 1) (dC (.int 13)))) (dC (.int 1)))) (aQ su (dC (.int 977)) (ak 1))))
 (gO (aQ gU (aQ m7 (aQ gU (ak 4) (dC (.int 1000000007))) (dC (.int 7))) (ak 2))))))
def fW(t:kE):List D->R D:=bS 1 (gO (ic (vj (IJ vz) (ak 0)) (tP (vj (IJ sV) (ak 0)))))
def cU(t:kE):List D->R D:=bS 9 (bD (bP 2 (br (aN t) (aa (ak 0) (aa (dC (.int 0)) au))))
 (bD (Bf 3 4 (aa (aQ eO (dC (.int 1)) (br (aP t) (aa (ak 2) (aa (dC (.int 1)) (aa (dC (.int 4)) au))))) (aa (aQ eO (dC (.int 1)) (br (aP t) (aa (ak 2) (aa (dC (.int 2)) (aa (dC (.int 6)) au))))) au)))
 (bD (eG (aQ (lO false) (aQ gU (ak 2) (dC (.int 4))) (dC (.int 1)))
 (yC (iK 3 4) (aZ (aQ cZ (cB 100 (aa (bX 100 (aa (aQ eO (dC (.int 1)) (aQ gU (ak 3) (dC (.int 3)))) (aa (dC (.int 8)) au))) (aa (bX 100 (aa (dC (.int 8)) (aa (aQ eO (dC (.int 1)) (aQ gU (ak 4) (dC (.int 3)))) au))) au))) (aQ gU (aQ m7 (ak 2) (dC (.int 4))) (dC (.int 2))))))
 cC)
 (bD (Bf 5 6 (aa (br (aP t) (aa (ak 2) (aa (dC (.int 3)) (aa (aQ jE (dC (.int 9)) (ak 3)) au)))) (aa (br (aP t) (aa (ak 2) (aa (dC (.int 4)) (aa (aQ jE (dC (.int 9)) (ak 4)) au)))) au)))
 (bD (bP 7 (cB 100 au))
 (bD (dP (sC (aa (aQ su (ak 3) (ak 4)) au)) (bW 8)
 (eG (aQ Qc (br (aP t) (aa (br (aN t) (aa (ak 0) (aa (dC (.int 1)) au))) (aa (ak 8) (aa (dC (.int 7)) au)))) (dC (.int 0)))
 (jt 7 (bX 100 (aa (aQ eO (ak 5) (aQ m7 (ak 8) (ak 4))) (aa (aQ eO (ak 6) (aQ gU (ak 8) (ak 4))) au))))
 cC))
 (bD (eG (aQ (lO false) (br iO (aa (ak 7) au)) (dC (.int 0)))
 (bP 7 (cB 100 (aa (bX 100 (aa (aZ (ak 5)) (aa (aZ (ak 6)) au))) au)))
 cC)
 (gO (Gn (ak 7) none (some (ak 1)))))))))))
def cX(t:kE):List D->R D:=bS 4 (bD (bP 2 (br (aP t) (aa (ak 0) (aa (dC (.int 40)) (aa (dC (.int 4)) au)))))
 (bD (eG (aQ (lO false) (ak 2) (dC (.int 0)))
 (bD (bP 3 (br (aP t) (aa (ak 0) (aa (dC (.int 41)) (aa (br iO (aa (ak 1) au)) au)))))
 (gO (aQ zI (Gn (ak 1) none (some (ak 3))) (Gn (ak 1) (some (aQ eO (ak 3) (dC (.int 1)))) none))))
 cC)
 (gO (jk (LM (ak 1)) 2 [0,2] (iK 0 1) (aQ Qc (br (aP t) (aa (ak 2) (aa (ak 0) (aa (aQ cZ (cB 100 (aa (dC (.int 0)) (aa (dC (.int 2)) (aa (dC (.int 3)) (aa (dC (.int 4)) au))))) (ak 3)) au)))) (dC (.int 0))) (aZ (ak 1))))))
def b8(t:kE):List D->R D:=bS 1 (gO (bX 100 (aa (aQ m7 (aQ eO (aQ cZ (aQ cZ (ak 0) (dC (.int 0))) (dC (.int 0))) (aQ cZ (aQ cZ (ak 0) (dC (.int 1))) (dC (.int 0)))) (dC (.int 2))) (aa (aQ m7 (aQ eO (aQ cZ (aQ cZ (ak 0) (dC (.int 0))) (dC (.int 1))) (aQ cZ (aQ cZ (ak 0) (dC (.int 1))) (dC (.int 1)))) (dC (.int 2))) au))))
def fY(t:kE):List D->R D:=bS 5 (bD (bP 1 (cB 100 au))
 (bD (dP (eK (ak 0)) (bW 2)
 (dP (eK (ak 0)) (bW 3)
 (bD (bP 4 (br eW (aa (cB 100 (aa (br tX (aa (aQ jE (aQ cZ (ak 2) (dC (.int 0))) (aQ cZ (ak 3) (dC (.int 0)))) au)) (aa (br tX (aa (aQ jE (aQ cZ (ak 2) (dC (.int 1))) (aQ cZ (ak 3) (dC (.int 1)))) au)) au))) au)))
 (eG (ic (aQ (lO false) (ak 4) (cB 100 (aa (dC (.int 0)) (aa (dC (.int 2)) au)))) (aQ (lP false) (br (b8 t) (aa (bX 100 (aa (aZ (ak 2)) (aa (aZ (ak 3)) au))) au)) (ak 0)))
 (jt 1 (bX 100 (aa (aZ (ak 2)) (aa (aZ (ak 3)) au))))
 cC))))
 (gO (br eW (aa (ak 1) au)))))
def bQ(t:kE):List D->R D:=bS 5 (bD (bP 2 (cB 100 au))
 (bD (dP (eK (br (fY t) (aa (ak 0) au))) (iK 3 4)
 (eG (ic (aQ (lP false) (ak 3) (ak 1)) (ic (aQ (lP false) (br (b8 t) (aa (bX 100 (aa (aZ (ak 3)) (aa (aZ (ak 4)) au))) au)) (ak 1)) (aQ (lP true) (ak 4) (ak 1))))
 (jt 2 (bX 100 (aa (aZ (ak 3)) (aa (aZ (ak 4)) au))))
 cC))
 (gO (ak 2))))
def bw(t:kE):List D->R D:=bS 3 (bD (bP 2 (jk (eK (ak 0)) 1 [1] (bW 0) (ic (aQ (lO true) (ak 0) (aQ cZ (ak 1) (dC (.int 0)))) (aQ (lO true) (ak 0) (br (b8 t) (aa (ak 1) au)))) (aZ (ak 0))))
 (gO (br eW (aa (aQ zI (ak 2) (cB 100 (aa (aZ (aQ cZ (ak 1) (dC (.int 1)))) au))) au))))
def gR(t:kE):List D->R D:=bS 9 (bD (bP 4 (cB 100 au))
 (bD (bP 5 (br jN (aa (ak 1) au)))
 (bD (dP (sC (aa (br (aP t) (aa (ak 2) (aa (dC (.int 60)) (aa (aQ eO (ak 3) (dC (.int 1))) au)))) au)) (bW 6)
 (bD (bP 7 (br (bQ t) (aa (ak 0) (aa (ak 5) au))))
 (eG (aQ Qc (br iO (aa (ak 7) au)) (dC (.int 0)))
 (bD (bP 8 (aZ (aQ cZ (ak 7) (br (aP t) (aa (ak 2) (aa (aQ eO (dC (.int 61)) (ak 6)) (aa (br iO (aa (ak 7) au)) au)))))))
 (bD (jt 4 (aZ (ak 8)))
 (bP 5 (br (bw t) (aa (ak 5) (aa (ak 8) au))))))
 cC)))
 (gO (bX 100 (aa (ak 4) (aa (ak 5) au)))))))
def gf(t:kE):List D->R D:=bS 6 (bD (bP 2 (cB 100 (aa (br jN (aa (ak 1) au)) au)))
 (bD (bP 3 (dC (.int 0)))
 (bD (uV (aQ Vs (ak 3) (br iO (aa (ak 2) au)))
 (bD (dP (eK (br (bQ t) (aa (ak 0) (aa (aQ cZ (ak 2) (ak 3)) au)))) (bW 4)
 (bD (bP 5 (br (bw t) (aa (aQ cZ (ak 2) (ak 3)) (aa (ak 4) au))))
 (eG (aQ (lP true) (ak 5) (ak 2))
 (jt 2 (ak 5))
 cC)))
 (bP 3 (aQ eO (ak 3) (dC (.int 1))))) 5000)
 (gO (ak 2)))))
def gh(t:kE):List D->R D:=bS 9 (bD (bP 3 (br rj (aa (jk (eK (br (gf t) (aa (ak 0) (aa (ak 1) au)))) 1 [] (bW 0) (dC (.bl true)) (bX 100 (aa (br iO (aa (ak 0) au)) (aa (ak 0) au)))) au)))
 (bD (bP 4 (dC (.cu 2 [])))
 (bD (dP (eK (ak 3)) (iK 5 6)
 (bD (bP 7 (br J2 (aa (aQ (lO false) (ak 6) (ak 2)) au)))
 (bD (dP (eK (br (bQ t) (aa (ak 0) (aa (ak 6) au)))) (bW 8)
 (bP 7 (aQ eO (ak 7) (aQ mC (ak 4) (br ir (aa (br (bw t) (aa (ak 6) (aa (ak 8) au))) au))))))
 (qK 4 (br ir (aa (ak 6) au)) (aZ (ak 7))))))
 (gO (aQ mC (ak 4) (br ir (aa (ak 1) au)))))))
def yN(t:kE):List D->R D:=bS 7 (bD (bP 1 (br (cU t) (aa (ak 0) (aa (aQ cZ (cB 100 (aa (dC (.int 8)) (aa (dC (.int 8)) (aa (dC (.int 8)) (aa (dC (.int 12)) au))))) (aQ gU (aQ m7 (br (aN t) (aa (ak 0) (aa (dC (.int 4)) au))) (dC (.int 4))) (dC (.int 4)))) au))))
 (bD (bP 2 (br (rg (bJ t)) (aa (br jN (aa (ak 1) au)) au)))
 (bD (bP 3 (br (cX t) (aa (br (aN t) (aa (ak 0) (aa (dC (.int 2)) au))) (aa (ak 1) au))))
 (bD (bP 4 (aQ cZ (br (gR t) (aa (ak 1) (aa (ak 3) (aa (br (aN t) (aa (ak 0) (aa (dC (.int 3)) au))) (aa (dC (.int 8)) au))))) (dC (.int 1))))
 (bD (eG (aQ (lO false) (aQ gU (br (aN t) (aa (ak 0) (aa (dC (.int 4)) au))) (dC (.int 4))) (dC (.int 1)))
 (bP 4 (br (cX t) (aa (br (aN t) (aa (ak 0) (aa (dC (.int 3)) au))) (aa (ak 1) au))))
 cC)
 (bD (bP 5 (cB 100 (aa (br jN (aa (ak 3) au)) (aa (br jN (aa (ak 4) au)) au))))
 (bD (bP 6 (br (gQ t) (aa (ak 2) (aa (aQ cZ (ak 5) (dC (.int 0))) (aa (aQ cZ (ak 5) (dC (.int 1))) au)))))
 (gO (ic (br (fW t) (aa (ak 6) au)) (ic (aQ (lO false) (ak 6) (br (gh t) (aa (ak 1) (aa (ak 3) (aa (ak 4) au))))) (aQ (lO false) (ak 5) (cB 100 (aa (ak 3) (aa (ak 4) au))))))))))))))
section
variable {P:Program}{w:World}{K:Frag}{mg:Str->Option Value}{base:Heap}{t:kE}
theorem zS:bA ["cells"] ["cells"] (az iW):=⟨rfl,rfl,rfl,by decide +kernel,rfl,by decide +kernel,by decide +kernel⟩
theorem zT(T:Txt K mg t):FD P w K mg base (aV t.aD) 1 "is_rising" ["cells"] 1 (cM t) true:=
 fm (Γ:=[.par]) T.uI zS rfl (fun i h=>by match i,h with | 0,_=>rfl) fun f f9 A outer s H E hr=>
 by
 walk_at"*8"
 refine r8 (aA:=.old) (bC:=.new) (mP hr.units) jM ?_ ?_ (gm _)
 walk_at"("
 refine CD (κ:=.old) hr.hd hr.units T.jR T.Oc ?_
 walk_at"("
theorem CT:bA ["cell"] ["cell"] (az mD):=⟨rfl,rfl,rfl,by decide +kernel,rfl,by decide +kernel,by decide +kernel⟩
theorem CU(T:Txt K mg t):FD P w K mg base (aV t.aD) 1 "is_cell" ["cell"] 1 (jB t) true:=
 fm (Γ:=[.par]) T.yL CT rfl (fun i h=>by match i,h with | 0,_=>rfl) fun f f9 A outer s H E hr=>
 by
 walk_at"*8"
 refine tR (aA:=.new) ?_ ?_
 refine Bb (aA:=.new) (bC:=.old) (xD:=.new) yd yd tQ tQ ?_ ?_ ?_
 walk_at"!3(!"
 exact zC rfl T.oX
 refine zE ?_
 refine Bb (aA:=.new) (bC:=.old) (xD:=.new) yd yd tQ tQ ?_ ?_ ?_
 walk_at"!3(!"
 exact zC rfl T.oX
theorem oY:bA ["cells","cell"] ["cells"] (az gz):=⟨rfl,rfl,rfl,by decide +kernel,rfl,by decide +kernel,by decide +kernel⟩
theorem wR(T:Txt K mg t)(gS:FD P w K mg base (aV t.aD) 1 "is_rising" ["cells"] 1 (cM t) true)(u0:FD P w K mg base (aV t.aD) 1 "is_cell" ["cell"] 1 (jB t) true):FD P w K mg base (aV t.aD) 2 "check_cells" ["cells"] 1 (bJ t) true:=
 fm (Γ:=[.par,.par]) T.qL oY rfl (fun i h=>by match i,h with | 0,_=>rfl) fun f f9 A outer s H E hr=>
 by
 walk_at")<"
 refine zD ?_
 refine Iq (aA:=.new) (bC:=.new) (xD:=.new) yd yd tQ tQ ?_ ?_ ?_
 walk_at"!CB%(&"
 exact zC rfl T.eX
 walk_at"*"
 exact mw Bu hr.hd T.fM T.fP (Bl (all_cons (jz (n:=500) (by decide +kernel)) (all_cons (Bg (n:=500) T.eX (by decide) (by decide +kernel)) (all_cons (jz (n:=500) (by decide +kernel)) all_nil))) (by decide))
 walk_at")<"
 refine zD ?_
 refine E4 (κ:=.new) ?_
 refine aK (κ:=.aE) gS hr (by decide) ?_ (ao aO)
 walk_at"%(&*"
 exact mw Bu hr.hd T.fM T.fP (jz (n:=500) (by decide +kernel))
 walk_at"*"
 refine cK (κ:=.old) (bg ⟨rfl,rfl⟩) rfl ?_ rfl (bT (i:=1) (by exact oY.nd) rfl (Or.inl rfl)) (eT (i:=1) (k:=.par))   ?_
 walk_at"(*<"
 refine zD ?_
 refine E4 (κ:=.new) ?_
 refine aK (κ:=.aE) u0 hr (by decide) ?_ (ao aO)
 walk_at"%+&*"
 exact mw Bu hr.hd T.fM T.fP (Bl (all_cons (jz (n:=500) (by decide +kernel)) (all_cons (Bg (n:=500) T.oX (by decide) (by decide +kernel)) all_nil)) (by decide))
theorem qQ:bA ["board","pegs","cell"] ["board","pegs"] (az iu):=⟨rfl,rfl,rfl,by decide +kernel,rfl,by decide +kernel,by decide +kernel⟩
theorem xV(T:Txt K mg t)(gS:FD P w K mg base (aV t.aD) 1 "is_rising" ["cells"] 1 (cM t) true):FD P w K mg base (aV t.aD) 2 "check_pegs" ["board","pegs"] 2 (dB t) true:=
 fm (Γ:=[.par,.par,.par]) T.sO qQ rfl (fun i h=>by match i,h with | 0,_=>rfl | 1,_=>rfl) fun f f9 A outer s H E hr=>
 by
 walk_at")<"
 refine zD ?_
 refine E4 (κ:=.new) ?_
 refine aK (κ:=.aE) gS hr (by decide) ?_ (ao aO)
 walk_at"%+&*"
 exact mw Bu hr.hd T.iP T.iQ (jz (n:=500) (by decide +kernel))
 walk_at"*"
 refine cK (κ:=.old) (bg ⟨rfl,rfl⟩) rfl ?_ rfl (bT (i:=2) (by exact qQ.nd) rfl (Or.inl rfl)) (eT (i:=2) (k:=.par))   ?_
 walk_at"+*<R5"
 refine sF (aA:=.old) T.RX T.Kl ?_
 walk_at"(*"
 exact mw Bu hr.hd T.iP T.iQ (jz (n:=500) (by decide +kernel))
theorem n8:bA ["cell","row","column"] ["cell"] (az iX):=⟨rfl,rfl,rfl,by decide +kernel,rfl,by decide +kernel,by decide +kernel⟩
theorem zU(T:Txt K mg t):FD P w K mg base (aV t.aD) 1 "two_apart" ["cell"] 1 (fQ t) true:=
 fm (Γ:=[.par,.par,.par]) T.uJ n8 rfl (fun i h=>by match i,h with | 0,_=>rfl) fun f f9 A outer s H E hr=>
 by
 walk_at")"
 refine bG (i:=1) (k:=.par) (κ:=.new) ?_ ?_
 exact n8.nd
 walk_at"43(!)N"
 exact n8.nd
 walk_at"43(!*8;':'"
 refine bx (aA:=.old) (bC:=.new) qU mU ?_ ?_
 walk_at"+!'45/':'4+'"
 refine bx (aA:=.old) (bC:=.new) qU mU ?_ ?_
 walk_at"5!/':'4+'E5!/':'E+!'45//"
theorem CV:bA ["cell","other"] ["cell","other"] (az mE):=⟨rfl,rfl,rfl,by decide +kernel,rfl,by decide +kernel,by decide +kernel⟩
theorem CW(T:Txt K mg t):FD P w K mg base (aV t.aD) 1 "between" ["cell","other"] 2 (dh t) true:=
 fm (Γ:=[.par,.par]) T.yM CV rfl (fun i h=>by match i,h with | 0,_=>rfl | 1,_=>rfl) fun f f9 A outer s H E hr=>
 by
 walk_at"*8:'K"
 refine bx (aA:=.old) (bC:=.old) dG cI ?_ ?_
 walk_at"3(!3+!!'K"
 refine bx (aA:=.old) (bC:=.old) dG cI ?_ ?_
 walk_at"3(!3+!!/"
theorem sZ:bA ["board","found","first","second"] ["board"] (az sN):=⟨rfl,rfl,rfl,by decide +kernel,rfl,by decide +kernel,by decide +kernel⟩
theorem J9(T:Txt K mg t)(oZ:FD P w K mg base (aV t.aD) 1 "two_apart" ["cell"] 1 (fQ t) true)(gk:FD P w K mg base (aV t.aD) 1 "between" ["cell","other"] 2 (dh t) true):FD P w K mg base (aV t.aD) 2 "leaps" ["board"] 1 (sW t) true:=
 fm (Γ:=[.par,.own true,.par,.par]) T.Eh sZ rfl (fun i h=>by match i,h with | 0,_=>rfl) fun f f9 A outer s H E hr=>
 by
 walk_at")"
 refine bG (i:=1) (k:=(.own true)) (κ:=.new) ?_ ?_
 exact sZ.nd
 walk_at";/)"
 refine cK (κ:=.old) (bg ⟨rfl,rfl⟩) rfl ?_ rfl (bT (i:=2) (by exact sZ.nd) rfl (Or.inl rfl)) (eT (i:=2) (k:=.par))   ?_
 refine sF (aA:=.old) T.RX T.Kl ?_
 walk_at"(*"
 refine cK (κ:=.new) (bg ⟨rfl,rfl⟩) rfl ?_ rfl (bT (i:=3) (by exact sZ.nd) rfl (Or.inl rfl)) (eT (i:=3) (k:=.par))   ?_
 refine aK (κ:=.aE) oZ hr (by decide) ?_ (ao aO)
 walk_at"%5&*<"
 refine PW.pt ?_
 refine wu ?_ ?_
 refine dH (aA:=.old) (bC:=.old) (qZ hr.units) j8 ?_ ?_ (by with_unfolding_all rfl)
 walk_at"6"
 refine sF (aA:=.old) T.RX T.Kl ?_
 walk_at"("
 refine vn ?_
 walk_at"S"
 refine aK (κ:=.aE) gk hr (by decide) ?_ (ao (ao aO))
 walk_at"%5%6&"
 refine sF (aA:=.old) T.RX T.Kl ?_
 walk_at"(*"
 refine tT (i:=1) (κ:=.new) (to:=qT 1) ?_ rfl
 walk_at"]"
 refine eN ?_ iM
 walk_at":'45'46/*"
 refine cS (κ:=.lN) ?_
 exact eV 1 (pv 1)
theorem wU:bA ["pegs","leap"] ["pegs","leap"] (az gC):=⟨rfl,rfl,rfl,by decide +kernel,rfl,by decide +kernel,by decide +kernel⟩
theorem wV(T:Txt K mg t)(gk:FD P w K mg base (aV t.aD) 1 "between" ["cell","other"] 2 (dh t) true):FD P w K mg base (aV t.aD) 2 "can_be_done" ["pegs","leap"] 2 (gG t) true:=
 fm (Γ:=[.par,.par]) T.qM wU rfl (fun i h=>by match i,h with | 0,_=>rfl | 1,_=>rfl) fun f f9 A outer s H E hr=>
 by
 walk_at"*8"
 refine tR (aA:=.new) ?_ ?_
 refine r8 (aA:=.old) (bC:=.old) (qZ hr.units) j8 ?_ ?_ (by with_unfolding_all rfl)
 walk_at"3+!("
 refine tR (aA:=.new) ?_ ?_
 refine r8 (aA:=.old) (bC:=.old) (lZ hr.units) j8 ?_ ?_ (by with_unfolding_all rfl)
 walk_at"3+!("
 refine zE ?_
 refine r8 (aA:=.new) (bC:=.old) (qZ hr.units) j8 ?_ ?_ (by with_unfolding_all rfl)
 refine aK (κ:=.aE) gk hr (by decide) ?_ (ao (ao aO))
 walk_at"%3+!%3+!&("
theorem p7:bA ["pegs","leap","taken"] ["pegs","leap"] (az gD):=⟨rfl,rfl,rfl,by decide +kernel,rfl,by decide +kernel,by decide +kernel⟩
theorem wW(T:Txt K mg t)(gk:FD P w K mg base (aV t.aD) 1 "between" ["cell","other"] 2 (dh t) true):FD P w K mg base (aV t.aD) 2 "pegs_behind" ["pegs","leap"] 2 (gH t) true:=
 fm (Γ:=[.par,.par,.par]) T.qN p7 rfl (fun i h=>by match i,h with | 0,_=>rfl | 1,_=>rfl) fun f f9 A outer s H E hr=>
 by
 walk_at")N"
 exact p7.nd
 walk_at":'43+!'"
 refine aK (κ:=.aE) gk hr (by decide) ?_ (ao (ao aO))
 walk_at"%3+!%3+!&/*8"
 refine dz (aA:=.aE) qm ?_
 refine bZ (jq hr.units) rfl T.jR jy ?_
 walk_at"-"
 refine bx (aA:=.new) (bC:=.new) zH zJ ?_ ?_
 refine sH (n:=true) (z:=true) (gy:=["cell"]) (caps:=[(2,"taken")]) ?_ (LB.mk (vp:=.new) (n:=true) (z:=true) (gy:=["cell"]) (caps:=[(2,"taken")]) rfl rfl (by decide +kernel) ?_ ?_ (by with_unfolding_all rfl) (by decide +kernel) ?_ (fun _ p hp=>by simp only[aC6,aF1,or_false] at hp;rcases hp with rfl <;> first | exact Or.inl rfl | exact Or.inr rfl) (eT (i:=0) (k:=.par)) (fun fp s0 H0 L=>bT (i:=0) (by exact(show List.Nodup (["cell","taken"]:List Str) from by decide +kernel)) rfl (Or.inl rfl) (Or.inr rfl)) (fun fp s0 H0 L=>qk ?_) (fun fp s0 H0 L=>?_) (fun _=>rfl) (fun h=>nomatch h))
 refine Qu (κ:=.old) ?_ (fun _=>rfl)
 walk_at"("
 exact wK (by intro p hp;simp only[aC6,aF1,or_false] at hp;rcases hp with rfl <;> rfl)
 exact sG (by rfl)
 exact⟨⟨rfl,rfl,rfl,rfl⟩,trivial⟩
 walk_at"R(+4(;'43+!/&"
theorem xW:bA ["all_leaps","standing"] ["all_leaps","standing"] (az iw):=⟨rfl,rfl,rfl,by decide +kernel,rfl,by decide +kernel,by decide +kernel⟩
theorem xX(T:Txt K mg t)(kM:FD P w K mg base (aV t.aD) 2 "pegs_behind" ["pegs","leap"] 2 (gH t) true)(kN:FD P w K mg base (aV t.aD) 2 "can_be_done" ["pegs","leap"] 2 (gG t) true):FD P w K mg base (aV t.aD) 3 "steps_from" ["all_leaps","standing"] 2 (eY t) true:=
 fm (Γ:=[.par,.par]) T.sP xW rfl (fun i h=>by match i,h with | 0,_=>rfl | 1,_=>rfl) fun f f9 A outer s H E hr=>
 by
 walk_at"*8"
 refine sH (n:=true) (z:=true) (gy:=["leap"]) (caps:=[(1,"standing")]) ?_ (LB.mk (vp:=.new) (n:=true) (z:=true) (gy:=["leap"]) (caps:=[(1,"standing")]) rfl rfl (by decide +kernel) ?_ ?_ (by with_unfolding_all rfl) (by decide +kernel) ?_ (fun _ p hp=>by simp only[aC6,aF1,or_false] at hp;rcases hp with rfl <;> first | exact Or.inl rfl | exact Or.inr rfl) (eT (i:=0) (k:=.par)) (fun fp s0 H0 L=>bT (i:=0) (by exact(show List.Nodup (["leap","standing"]:List Str) from by decide +kernel)) rfl (Or.inl rfl) (Or.inr rfl)) (fun fp s0 H0 L=>qk ?_) (fun fp s0 H0 L=>?_) (fun _=>rfl) (fun h=>nomatch h))
 refine zL (κ:=.old) ?_ (fun _=>rfl)
 walk_at"("
 exact wK (by intro p hp;simp only[aC6,aF1,or_false] at hp;rcases hp with rfl <;> rfl)
 exact sG (by rfl)
 exact⟨⟨rfl,rfl,rfl,rfl⟩,trivial⟩
 refine E4 (κ:=.new) ?_
 refine aK (κ:=.aE) kN hr (by decide) ?_ (ao (ao aO))
 walk_at"%+%(&:'4('"
 refine dz (aA:=.aE) jA ?_
 refine cQ fu rfl T.n6 mz ?_
 walk_at"-"
 refine aK (κ:=.aE) kM hr (by decide) ?_ (ao (ao aO))
 walk_at"%+%(&&/"
theorem dZ:bA ["all_leaps","layer","found","standing","count","leap","behind"] ["all_leaps","layer"] (az gE):=⟨rfl,rfl,rfl,by decide +kernel,rfl,by decide +kernel,by decide +kernel⟩
theorem wX(T:Txt K mg t)(n9:FD P w K mg base (aV t.aD) 3 "steps_from" ["all_leaps","standing"] 2 (eY t) true):FD P w K mg base (aV t.aD) 4 "next_counts" ["all_leaps","layer"] 2 (fz t) true:=
 fm (Γ:=[.par,.par,.own true,.par,.par,.par,.par]) T.qO dZ rfl (fun i h=>by match i,h with | 0,_=>rfl | 1,_=>rfl) fun f f9 A outer s H E hr=>
 by
 walk_at")"
 refine bG (i:=2) (k:=(.own true)) (κ:=.new) ?_ ?_
 exact dZ.nd
 exact E9
 walk_at")"
 refine LO (bg ⟨rfl,rfl⟩) rfl ?_ (tw rfl (fj (bT (i:=3) (by exact dZ.nd) rfl (Or.inl rfl)) (fj (bT (i:=4) (by exact dZ.nd) rfl (Or.inl rfl)) qf))) (qj (i:=3) (j:=4) (k:=.par) (k':=.par))   ?_
 refine IW (κ:=.old) ?_ (fun _=>rfl)
 walk_at"+*"
 refine cK (κ:=.new) (bg ⟨rfl,rfl⟩) rfl ?_ rfl (tw rfl (fj (bT (i:=5) (by exact dZ.nd) rfl (Or.inl rfl)) (fj (bT (i:=6) (by exact dZ.nd) rfl (Or.inl rfl)) qf))) (qj (i:=5) (j:=6) (k:=.par) (k':=.par))   ?_
 refine aK (κ:=.aE) n9 hr (by decide) ?_ (ao (ao aO))
 walk_at"%(%6&*"
 refine Ed (i:=2) (κ:=.new) (κ':=.old) (tY hr.units) (pv 2) ?_ ?_ rfl
 exact ah 6 (pv 6)
 refine bx (aA:=.new) (bC:=.old) dG cI ?_ ?_
 refine Eb (κo:=.lN) (aA:=.old) (bC:=.new) (tY hr.units) ?_ ?_ ?_
 exact eV 2 (pv 2)
 exact ah 6 (pv 6)
 walk_at"!=*"
 refine cS (κ:=.lN) ?_
 exact eV 2 (pv 2)
theorem iD:bA ["board","pegs","others","all_leaps","layer","leaps_done"] ["board","pegs","others"] (az iY):=⟨rfl,rfl,rfl,by decide +kernel,rfl,by decide +kernel,by decide +kernel⟩
theorem zV(T:Txt K mg t)(jw:FD P w K mg base (aV t.aD) 2 "check_pegs" ["board","pegs"] 2 (dB t) true)(zW:FD P w K mg base (aV t.aD) 2 "leaps" ["board"] 1 (sW t) true)(kO:FD P w K mg base (aV t.aD) 4 "next_counts" ["all_leaps","layer"] 2 (fz t) true):FD P w K mg base (aV t.aD) 5 "row_count" ["board","pegs","others"] 3 (gQ t) true:=
 fm (Γ:=[.par,.par,.par,.par,.loc,.par]) T.uK iD rfl (fun i h=>by match i,h with | 0,_=>rfl | 1,_=>rfl | 2,_=>rfl) fun f f9 A outer s H E hr=>
 by
 walk_at")"
 refine E5 (κ:=.new) ?_
 refine aK (κ:=.aE) jw hr (by decide) ?_ (ao (ao aO))
 walk_at"%(%+&)"
 refine E5 (κ:=.new) ?_
 refine aK (κ:=.aE) jw hr (by decide) ?_ (ao (ao aO))
 walk_at"%(%5&)L"
 exact iD.nd
 refine aK (κ:=.aE) zW hr (by decide) ?_ (ao aO)
 walk_at"%(&)"
 refine bG (i:=4) (k:=.loc) (κ:=.new) ?_ ?_
 exact iD.nd
 refine LR (κk:=.new) (Qv hr.units) ?_ ?_
 refine dz (aA:=.aE) jA ?_
 refine cQ fu rfl T.n6 mz ?_
 walk_at"%+&!)"
 refine mW (κ:=.aE) (bg ⟨rfl,rfl⟩) rfl T.vt ?_ (bT (i:=5) (by exact iD.nd) rfl (Or.inl rfl)) (eT (i:=5) (k:=.par))   ?_
 walk_at"-"
 refine bx (aA:=.new) (bC:=.new) qU mU ?_ ?_
 walk_at"CB%+&CB%5&&*"
 refine bG (i:=4) (k:=.loc) (κ:=.new) ?_ ?_
 exact iD.nd
 refine aK (κ:=.aE) kO hr (by decide) ?_ (ao (ao aO))
 walk_at"%6"
 refine af (κ:=.aE) (aA:=.loc) ?_ ?_
 exact iU 4 (pv 4)
 walk_at"&*8"
 refine Eb (κo:=.loc) (aA:=.new) (bC:=.new) (tY hr.units) ?_ ?_ ?_
 exact iU 4 (pv 4)
 refine dz (aA:=.aE) jA ?_
 refine cQ fu rfl T.n6 mz ?_
 walk_at"%5&!"
theorem uW:bA ["script","k"] ["script","k"] (az fJ):=⟨rfl,rfl,rfl,by decide +kernel,rfl,by decide +kernel,by decide +kernel⟩
theorem uX(T:Txt K mg t):FD P w K mg base (aV t.aD) 1 "_law_cell_at" ["script","k"] 2 (aN t) true:=
 fm (Γ:=[.par,.par]) T.oS uW rfl (fun i h=>by match i,h with | 0,_=>rfl | 1,_=>rfl) fun f f9 A outer s H E hr=>
 by
 walk_at")<"
 refine dH (aA:=.old) (bC:=.new) NC Ig ?_ ?_ (gm _)
 walk_at"+CB%(&*84"
 refine bH (aA:=.old) (bC:=.old) ?_ ?_ (fun _ _=>rfl)
 walk_at"(+*8!"
theorem kF:bA ["cell","k","many","some","number"] ["cell","k","many"] (az jQ):=⟨rfl,rfl,rfl,by decide +kernel,rfl,by decide +kernel,by decide +kernel⟩
theorem Bw(T:Txt K mg t):FD P w K mg base (aV t.aD) 1 "_law_mix" ["cell","k","many"] 3 (aP t) true:=
 fm (Γ:=[.par,.par,.par,.par,.par]) T.wQ kF rfl (fun i h=>by match i,h with | 0,_=>rfl | 1,_=>rfl | 2,_=>rfl) fun f f9 A outer s H E hr=>
 by
 walk_at")L"
 exact kF.nd
 walk_at";'!'!'!'!'!'!'!'!'!'!'!'!'!/)"
 refine bG (i:=4) (k:=.par) (κ:=.new) ?_ ?_
 exact kF.nd
 refine bx (aA:=.new) (bC:=.old) vL sA ?_ ?_
 walk_at"HM(!!36M+!)"
 refine bG (i:=4) (k:=.par) (κ:=.new) ?_ ?_
 exact kF.nd
 walk_at"H"
 refine bx (aA:=.old) (bC:=.new) vL sA ?_ ?_
 walk_at"=H"
 refine bx (aA:=.new) (bC:=.new) vL sA ?_ ?_
 exact av
 refine bx (aA:=.old) (bC:=.new) jl jr ?_ ?_
 walk_at"+!!"
 refine bx (aA:=.new) (bC:=.old) vL sA ?_ ?_
 walk_at"!+*8"
 refine bx (aA:=.new) (bC:=.old) jF ie ?_ ?_
 walk_at"KM=!!5"
theorem xY:bA ["found"] ["found"] (az iy):=⟨rfl,rfl,rfl,by decide +kernel,rfl,by decide +kernel,by decide +kernel⟩
theorem xZ(T:Txt K mg t):FD P w K mg base (aV t.aD) 1 "_law_whole" ["found"] 1 (fW t) true:=
 fm (Γ:=[.par]) T.sQ xY rfl (fun i h=>by match i,h with | 0,_=>rfl) fun f f9 A outer s H E hr=>
 by
 walk_at"*8"
 refine tR (aA:=.new) ?_ ?_
 refine IK (aA:=.old) (T:="int") CS T.n5 T.J8 (by decide +kernel) ?_
 walk_at"("
 refine zE ?_
 refine Qg (aA:=.new) ?_
 refine IK (aA:=.old) (T:="bool") Bv T.n5 T.J7 (by decide +kernel) ?_
 walk_at"("
theorem bU:bA ["script","most","cell","height","width","down","across","some","k"] ["script","most"] (az fq):=⟨rfl,rfl,rfl,by decide +kernel,rfl,by decide +kernel,by decide +kernel⟩
theorem u5(T:Txt K mg t)(bR:FD P w K mg base (aV t.aD) 1 "_law_cell_at" ["script","k"] 2 (aN t) true)(bV:FD P w K mg base (aV t.aD) 1 "_law_mix" ["cell","k","many"] 3 (aP t) true):FD P w K mg base (aV t.aD) 2 "_law_cells_by" ["script","most"] 2 (cU t) true:=
 fm (Γ:=[.par,.par,.par,.par,.par,.par,.par,.own true,.par]) T.oz bU rfl (fun i h=>by match i,h with | 0,_=>rfl | 1,_=>rfl) fun f f9 A outer s H E hr=>
 by
 walk_at")N"
 exact bU.nd
 walk_at"G%(-!&)"
 refine Iz (i:=3) (j:=4) (k:=.par) (k':=.par) rfl ?_ ?_ (by decide)
 exact bU.nd
 walk_at"'H!@%5-!-!&'H!@%5-!-!&/)<"
 refine dH (aA:=.new) (bC:=.new) (mP hr.units) jM ?_ ?_ (gm _)
 walk_at"M5!!*"
 refine Ly (κ:=.new) ?_ rfl (tw rfl (fj (bT (i:=3) (by exact bU.nd) rfl (Or.inl rfl)) (fj (bT (i:=4) (by exact bU.nd) rfl (Or.inl rfl)) qf))) (qj (i:=3) (j:=4) (k:=.par) (k':=.par))
 walk_at"4"
 refine bH (aA:=.new) (bC:=.new) ?_ ?_ (fun _ _=>rfl)
 walk_at";':'H!M6!'!/':'!'H!M=!//"
 refine bx (aA:=.new) (bC:=.new) jF ie ?_ ?_
 refine bx (aA:=.old) (bC:=.new) jl jr ?_ ?_
 walk_at"5!!)"
 refine Iz (i:=5) (j:=6) (k:=.par) (k':=.par) rfl ?_ ?_ (by decide)
 exact bU.nd
 walk_at"'@%5-!-"
 refine bx (aA:=.new) (bC:=.old) qU mU ?_ ?_
 walk_at"!6&'@%5-!-"
 refine bx (aA:=.new) (bC:=.old) qU mU ?_ ?_
 walk_at"!=&/)"
 refine bG (i:=7) (k:=(.own true)) (κ:=.new) ?_ ?_
 exact bU.nd
 walk_at";/)"
 refine mW (κ:=.aE) (bg ⟨rfl,rfl⟩) rfl T.vt ?_ (bT (i:=8) (by exact bU.nd) rfl (Or.inl rfl)) (eT (i:=8) (k:=.par))   ?_
 walk_at"-"
 refine bx (aA:=.old) (bC:=.old) vL sA ?_ ?_
 walk_at"6=&*<"
 refine dH (aA:=.new) (bC:=.new) GI CC ?_ ?_ (gm _)
 walk_at"@-G%(-!&%"
 exact ah 8 (pv 8)
 walk_at"-!&!*"
 refine tT (i:=7) (κ:=.new) (to:=qT 7) ?_ rfl
 refine yj PySem.F.plainAttrs_list PySem.F.slot_list_append PySem.F.type_list_append iN (pv 7) ?_
 refine eN ?_ iM
 walk_at":'E"
 exact ah 5 (pv 5)
 refine bx (aA:=.old) (bC:=.old) jl jr ?_ ?_
 exact ah 8 (pv 8)
 walk_at"='E"
 exact ah 6 (pv 6)
 refine bx (aA:=.old) (bC:=.old) jF ie ?_ ?_
 exact ah 8 (pv 8)
 walk_at"=/)<"
 refine dH (aA:=.new) (bC:=.new) (mP hr.units) jM ?_ ?_ (gm _)
 walk_at"CB"
 refine af (κ:=.aE) (aA:=.lN) ?_ ?_
 exact eV 7 (pv 7)
 walk_at"&!*"
 refine bG (i:=7) (k:=(.own true)) (κ:=.new) ?_ ?_
 exact bU.nd
 walk_at";':'4"
 exact ah 5 (pv 5)
 walk_at"'4"
 exact ah 6 (pv 6)
 walk_at"//*8"
 refine wA (aA:=.lN) ?_ zF ?_
 exact eV 7 (pv 7)
 refine zG (κ:=.old) ?_
 walk_at"+"
theorem j9:bA ["cell","cells","way","gone"] ["cell","cells"] (az fK):=⟨rfl,rfl,rfl,by decide +kernel,rfl,by decide +kernel,by decide +kernel⟩
theorem uY(T:Txt K mg t)(bV:FD P w K mg base (aV t.aD) 1 "_law_mix" ["cell","k","many"] 3 (aP t) true):FD P w K mg base (aV t.aD) 2 "_law_pegs_by" ["cell","cells"] 2 (cX t) true:=
 fm (Γ:=[.par,.par,.par,.par]) T.oU j9 rfl (fun i h=>by match i,h with | 0,_=>rfl | 1,_=>rfl) fun f f9 A outer s H E hr=>
 by
 walk_at")N"
 exact j9.nd
 walk_at"@%(-!-!&)<"
 refine dH (aA:=.old) (bC:=.new) (mP hr.units) jM ?_ ?_ (gm _)
 walk_at"5!)L"
 exact j9.nd
 walk_at"@%(-!-CB%+&&*8"
 refine bx (aA:=.new) (bC:=.new) zH zJ ?_ ?_
 refine wA (aA:=.old) ?_ zF ?_
 walk_at"+"
 refine zG (κ:=.old) ?_
 walk_at"6"
 refine wA (aA:=.old) ?_ ?_ zF
 walk_at"+"
 refine zG (κ:=.new) ?_
 walk_at"E6!*8"
 refine sH (n:=true) (z:=true) (gy:=["k","one"]) (caps:=[(0,"cell"),(2,"way")]) ?_ (LB.mk (vp:=.new) (n:=true) (z:=true) (gy:=["k","one"]) (caps:=[(0,"cell"),(2,"way")]) rfl rfl (by decide +kernel) ?_ ?_ (by with_unfolding_all rfl) (by decide +kernel) ?_ (fun _ p hp=>by simp only[aC6,aF1,or_false] at hp;rcases hp with rfl | rfl <;> first | exact Or.inl rfl | exact Or.inr rfl) (qj (i:=0) (j:=1) (k:=.par) (k':=.par)) (fun fp s0 H0 L=>tw rfl (fj (bT (i:=0) (by exact(show List.Nodup (["k","one","cell","way"]:List Str) from by decide +kernel)) rfl (Or.inl rfl) (Or.inr rfl)) (fj (bT (i:=1) (by exact(show List.Nodup (["k","one","cell","way"]:List Str) from by decide +kernel)) rfl (Or.inl rfl) (Or.inr rfl)) qf))) (fun fp s0 H0 L=>qk ?_) (fun fp s0 H0 L=>?_) (fun _=>rfl) (fun h=>nomatch h))
 refine LN (κ:=.old) T.uN ?_ (fun _=>rfl)
 walk_at"+"
 exact wK (by intro p hp;simp only[aC6,aF1,or_false] at hp;rcases hp with rfl | rfl <;> rfl)
 exact sG (by rfl)
 exact⟨⟨rfl,rfl,rfl,rfl⟩,⟨⟨rfl,rfl,rfl,rfl⟩,trivial⟩⟩
 refine dH (aA:=.new) (bC:=.new) GI CC ?_ ?_ (gm _)
 walk_at"@%5%(%"
 refine bH (aA:=.new) (bC:=.old) ?_ ?_ (fun _ _=>rfl)
 walk_at";'!'!'!'!/6&!4+"
theorem uZ:bA ["leap"] ["leap"] (az fL):=⟨rfl,rfl,rfl,by decide +kernel,rfl,by decide +kernel,by decide +kernel⟩
theorem v5(T:Txt K mg t):FD P w K mg base (aV t.aD) 1 "_law_between" ["leap"] 1 (b8 t) true:=
 fm (Γ:=[.par]) T.oV uZ rfl (fun i h=>by match i,h with | 0,_=>rfl) fun f f9 A outer s H E hr=>
 by
 walk_at"*8:'K"
 refine bx (aA:=.old) (bC:=.old) dG cI ?_ ?_
 walk_at"33(!!33(!!!'K"
 refine bx (aA:=.old) (bC:=.old) dG cI ?_ ?_
 walk_at"33(!!33(!!!/"
theorem gI:bA ["cells","found","one","two","apart"] ["cells"] (az iz):=⟨rfl,rfl,rfl,by decide +kernel,rfl,by decide +kernel,by decide +kernel⟩
theorem y9(T:Txt K mg t)(cA:FD P w K mg base (aV t.aD) 1 "_law_between" ["leap"] 1 (b8 t) true):FD P w K mg base (aV t.aD) 2 "_law_leaps" ["cells"] 1 (fY t) true:=
 fm (Γ:=[.par,.own true,.par,.par,.par]) T.sR gI rfl (fun i h=>by match i,h with | 0,_=>rfl) fun f f9 A outer s H E hr=>
 by
 walk_at")"
 refine bG (i:=1) (k:=(.own true)) (κ:=.new) ?_ ?_
 exact gI.nd
 walk_at";/)"
 refine cK (κ:=.old) (bg ⟨rfl,rfl⟩) rfl ?_ rfl (bT (i:=2) (by exact gI.nd) rfl (Or.inl rfl)) (eT (i:=2) (k:=.par))   ?_
 walk_at"(*"
 refine cK (κ:=.old) (bg ⟨rfl,rfl⟩) rfl ?_ rfl (bT (i:=3) (by exact gI.nd) rfl (Or.inl rfl)) (eT (i:=3) (k:=.par))   ?_
 walk_at"()"
 refine bG (i:=4) (k:=.par) (κ:=.new) ?_ ?_
 exact gI.nd
 refine dz (aA:=.aE) qm ?_
 refine bZ (jq hr.units) rfl T.jR jy ?_
 walk_at"-;'"
 refine dz (aA:=.aE) E8 ?_
 refine bZ AA rfl T.J6 IP ?_
 walk_at"-"
 refine bx (aA:=.old) (bC:=.old) qU mU ?_ ?_
 walk_at"35!36!&'"
 refine dz (aA:=.aE) E8 ?_
 refine bZ AA rfl T.J6 IP ?_
 walk_at"-"
 refine bx (aA:=.old) (bC:=.old) qU mU ?_ ?_
 walk_at"35!36!&/&*<"
 refine PW.pt ?_
 refine wu ?_ ?_
 refine dH (aA:=.old) (bC:=.new) (mP hr.units) jM ?_ ?_ (gm _)
 walk_at"=;'!'!/"
 refine vn ?_
 walk_at"S"
 refine aK (κ:=.aE) cA hr (by decide) ?_ (ao aO)
 walk_at"-:'45'46/&(*"
 refine tT (i:=1) (κ:=.new) (to:=qT 1) ?_ rfl
 walk_at"]"
 refine eN ?_ iM
 walk_at":'45'46/*8"
 refine dz (aA:=.aE) qm ?_
 refine bZ (jq hr.units) rfl T.jR jy ?_
 refine af (κ:=.aE) (aA:=.lN) ?_ ?_
 exact eV 1 (pv 1)
 walk_at"&"
theorem jx:bA ["cells","pegs","found","one","two"] ["cells","pegs"] (az iZ):=⟨rfl,rfl,rfl,by decide +kernel,rfl,by decide +kernel,by decide +kernel⟩
theorem zZ(T:Txt K mg t)(nc:FD P w K mg base (aV t.aD) 2 "_law_leaps" ["cells"] 1 (fY t) true)(cA:FD P w K mg base (aV t.aD) 1 "_law_between" ["leap"] 1 (b8 t) true):FD P w K mg base (aV t.aD) 3 "_law_open" ["cells","pegs"] 2 (bQ t) true:=
 fm (Γ:=[.par,.par,.own true,.par,.par]) T.uL jx rfl (fun i h=>by match i,h with | 0,_=>rfl | 1,_=>rfl) fun f f9 A outer s H E hr=>
 by
 walk_at")"
 refine bG (i:=2) (k:=(.own true)) (κ:=.new) ?_ ?_
 exact jx.nd
 walk_at";/)"
 refine cK (κ:=.new) (bg ⟨rfl,rfl⟩) rfl ?_ rfl (tw rfl (fj (bT (i:=3) (by exact jx.nd) rfl (Or.inl rfl)) (fj (bT (i:=4) (by exact jx.nd) rfl (Or.inl rfl)) qf))) (qj (i:=3) (j:=4) (k:=.par) (k':=.par))   ?_
 refine aK (κ:=.aE) nc hr (by decide) ?_ (ao aO)
 walk_at"%(&*<"
 refine PW.pt ?_
 refine wu ?_ ?_
 refine dH (aA:=.old) (bC:=.old) (qZ hr.units) j8 ?_ ?_ (by with_unfolding_all rfl)
 walk_at"6+"
 refine wu ?_ ?_
 walk_at"S"
 refine aK (κ:=.aE) cA hr (by decide) ?_ (ao aO)
 walk_at"-:'46'4=/&+"
 refine vn ?_
 walk_at"R=+*"
 refine tT (i:=2) (κ:=.new) (to:=qT 2) ?_ rfl
 walk_at"^"
 refine eN ?_ iM
 walk_at":'46'4=/*"
 refine cS (κ:=.lN) ?_
 exact eV 2 (pv 2)
theorem p8:bA ["pegs","leap","left"] ["pegs","leap"] (az gF):=⟨rfl,rfl,rfl,by decide +kernel,rfl,by decide +kernel,by decide +kernel⟩
theorem wY(T:Txt K mg t)(cA:FD P w K mg base (aV t.aD) 1 "_law_between" ["leap"] 1 (b8 t) true):FD P w K mg base (aV t.aD) 2 "_law_behind" ["pegs","leap"] 2 (bw t) true:=
 fm (Γ:=[.par,.par,.par]) T.qP p8 rfl (fun i h=>by match i,h with | 0,_=>rfl | 1,_=>rfl) fun f f9 A outer s H E hr=>
 by
 walk_at")"
 refine IM (i:=2) (k:=.par) (n:=true) (z:=true) (gy:=["one"]) (caps:=[(1,"leap")]) ?_ ?_ (LB.mk (vp:=.new) (n:=true) (z:=true) (gy:=["one"]) (caps:=[(1,"leap")]) rfl rfl (by decide +kernel) ?_ ?_ (by with_unfolding_all rfl) (by decide +kernel) ?_ (fun _ p hp=>by simp only[aC6,aF1,or_false] at hp;rcases hp with rfl <;> first | exact Or.inl rfl | exact Or.inr rfl) (eT (i:=0) (k:=.par)) (fun fp s0 H0 L=>bT (i:=0) (by exact(show List.Nodup (["one","leap"]:List Str) from by decide +kernel)) rfl (Or.inl rfl) (Or.inr rfl)) (fun fp s0 H0 L=>qk ?_) (fun fp s0 H0 L=>?_) (fun _=>rfl) (fun h=>nomatch h))
 exact p8.nd
 refine zL (κ:=.old) ?_ (fun _=>rfl)
 walk_at"("
 exact wK (by intro p hp;simp only[aC6,aF1,or_false] at hp;rcases hp with rfl <;> rfl)
 exact sG (by rfl)
 exact⟨⟨rfl,rfl,rfl,rfl⟩,trivial⟩
 refine PW.pt ?_
 refine wu ?_ ?_
 refine dH (aA:=.old) (bC:=.old) (HU hr.units) jM ?_ ?_ (gm _)
 walk_at"(3+!"
 refine vn ?_
 refine dH (aA:=.old) (bC:=.new) (HU hr.units) jM ?_ ?_ (gm _)
 walk_at"("
 refine aK (κ:=.aE) cA hr (by decide) ?_ (ao aO)
 walk_at"%+&4(*8"
 refine dz (aA:=.aE) qm ?_
 refine bZ (jq hr.units) rfl T.jR jy ?_
 walk_at"-"
 refine bx (aA:=.old) (bC:=.new) zH zJ ?_ ?_
 walk_at"5;'43+!/&"
theorem eZ:bA ["cells","pegs","cell","most","row","here","k","some","leap"] ["cells","pegs","cell","most"] (az j0):=⟨rfl,rfl,rfl,by decide +kernel,rfl,by decide +kernel,by decide +kernel⟩
theorem A0(T:Txt K mg t)(bV:FD P w K mg base (aV t.aD) 1 "_law_mix" ["cell","k","many"] 3 (aP t) true)(dD:FD P w K mg base (aV t.aD) 3 "_law_open" ["cells","pegs"] 2 (bQ t) true)(cJ:FD P w K mg base (aV t.aD) 2 "_law_behind" ["pegs","leap"] 2 (bw t) true):FD P w K mg base (aV t.aD) 4 "_law_gone" ["cells","pegs","cell","most"] 4 (gR t) true:=
 fm (Γ:=[.par,.par,.par,.par,.own true,.loc,.par,.par,.par]) T.uM eZ rfl (fun i h=>by match i,h with | 0,_=>rfl | 1,_=>rfl | 2,_=>rfl | 3,_=>rfl) fun f f9 A outer s H E hr=>
 by
 walk_at")"
 refine bG (i:=4) (k:=(.own true)) (κ:=.new) ?_ ?_
 exact eZ.nd
 walk_at";/)"
 refine bG (i:=5) (k:=.loc) (κ:=.new) ?_ ?_
 exact eZ.nd
 refine dz (aA:=.aE) m8 ?_
 refine cQ fT rfl T.rm qt ?_
 walk_at"%+&)"
 refine mW (κ:=.aE) (bg ⟨rfl,rfl⟩) rfl T.vt ?_ (bT (i:=6) (by exact eZ.nd) rfl (Or.inl rfl)) (eT (i:=6) (k:=.par))   ?_
 walk_at"-@%5-!-E6!&&)"
 refine bG (i:=7) (k:=.par) (κ:=.new) ?_ ?_
 exact eZ.nd
 refine aK (κ:=.aE) dD hr (by decide) ?_ (ao (ao aO))
 walk_at"%("
 refine af (κ:=.aE) (aA:=.loc) ?_ ?_
 exact iU 5 (pv 5)
 walk_at"&*<"
 refine dH (aA:=.new) (bC:=.new) GI CC ?_ ?_ (gm _)
 walk_at"CB%"
 exact ah 7 (pv 7)
 walk_at"&!)"
 refine bG (i:=8) (k:=.par) (κ:=.new) ?_ ?_
 exact eZ.nd
 walk_at"43"
 exact ah 7 (pv 7)
 walk_at"@%5-"
 refine bx (aA:=.new) (bC:=.old) dG cI ?_ ?_
 exact av
 exact ah 6 (pv 6)
 walk_at"-CB%"
 exact ah 7 (pv 7)
 walk_at"&&)"
 refine tT (i:=4) (κ:=.new) (to:=qT 4) ?_ rfl
 refine yj PySem.F.plainAttrs_list PySem.F.slot_list_append PySem.F.type_list_append iN (pv 4) ?_
 refine eN ?_ iM
 walk_at"4"
 exact ah 8 (pv 8)
 walk_at"*"
 refine bG (i:=5) (k:=.loc) (κ:=.new) ?_ ?_
 exact eZ.nd
 refine aK (κ:=.aE) cJ hr (by decide) ?_ (ao (ao aO))
 refine af (κ:=.aE) (aA:=.loc) ?_ ?_
 exact iU 5 (pv 5)
 walk_at"%"
 exact ah 8 (pv 8)
 walk_at"&*"
 refine cS (κ:=.lN) ?_
 walk_at":"
 refine af (κ:=.lN) (aA:=.lN) ?_ ?_
 exact eV 4 (pv 4)
 refine af (κ:=.lN) (aA:=.loc) ?_ ?_
 exact iU 5 (pv 5)
 exact ay (κ:=.lN)
theorem fB:bA ["cells","pegs","found","at","leap","behind"] ["cells","pegs"] (az iA):=⟨rfl,rfl,rfl,by decide +kernel,rfl,by decide +kernel,by decide +kernel⟩
theorem ya(T:Txt K mg t)(dD:FD P w K mg base (aV t.aD) 3 "_law_open" ["cells","pegs"] 2 (bQ t) true)(cJ:FD P w K mg base (aV t.aD) 2 "_law_behind" ["pegs","leap"] 2 (bw t) true):FD P w K mg base (aV t.aD) 4 "_law_reach" ["cells","pegs"] 2 (gf t) true:=
 fm (Γ:=[.par,.par,.own true,.par,.par,.loc]) T.sS fB rfl (fun i h=>by match i,h with | 0,_=>rfl | 1,_=>rfl) fun f f9 A outer s H E hr=>
 by
 walk_at")"
 refine bG (i:=2) (k:=(.own true)) (κ:=.new) ?_ ?_
 exact fB.nd
 walk_at";'"
 refine dz (aA:=.aE) m8 ?_
 refine cQ fT rfl T.rm qt ?_
 walk_at"%+&/)L"
 exact fB.nd
 walk_at"!)"
 refine IU 5000 (bg ⟨rfl,rfl⟩) ?_   ?_
 refine dH (aA:=.old) (bC:=.new) NC Ig ?_ ?_ (gm _)
 walk_at"6CB"
 refine af (κ:=.aE) (aA:=.lN) ?_ ?_
 exact eV 2 (pv 2)
 walk_at"&)"
 refine cK (κ:=.new) (bg ⟨rfl,rfl⟩) rfl ?_ rfl (bT (i:=4) (by exact fB.nd) rfl (Or.inl rfl)) (eT (i:=4) (k:=.par))   ?_
 refine aK (κ:=.aE) dD hr (by decide) ?_ (ao (ao aO))
 walk_at"%("
 refine af (κ:=.aE) (aA:=.aE) ?_ ?_
 refine IL (aA:=.lN) (bC:=.old) ?_ ?_ (fun _ _=>rfl)
 exact eV 2 (pv 2)
 walk_at"6&)"
 refine bG (i:=5) (k:=.loc) (κ:=.new) ?_ ?_
 exact fB.nd
 refine aK (κ:=.aE) cJ hr (by decide) ?_ (ao (ao aO))
 refine af (κ:=.aE) (aA:=.aE) ?_ ?_
 refine IL (aA:=.lN) (bC:=.old) ?_ ?_ (fun _ _=>rfl)
 exact eV 2 (pv 2)
 walk_at"6%=&*<"
 refine dH (aA:=.loc) (bC:=.lN) (lZ hr.units) j8 ?_ ?_ (by with_unfolding_all rfl)
 exact iU 5 (pv 5)
 exact eV 2 (pv 2)
 walk_at"*"
 refine tT (i:=2) (κ:=.loc) (to:=qT 2) ?_ rfl
 walk_at"^"
 refine eN ?_ iM
 exact iU 5 (pv 5)
 walk_at"*L"
 exact fB.nd
 walk_at"E6!*"
 refine cS (κ:=.lN) ?_
 exact eV 2 (pv 2)
theorem cW:bA ["cells","pegs","others","some","ways","many","standing","total","leap"] ["cells","pegs","others"] (az iC):=⟨rfl,rfl,rfl,by decide +kernel,rfl,by decide +kernel,by decide +kernel⟩
theorem yb(T:Txt K mg t)(ng:FD P w K mg base (aV t.aD) 4 "_law_reach" ["cells","pegs"] 2 (gf t) true)(dD:FD P w K mg base (aV t.aD) 3 "_law_open" ["cells","pegs"] 2 (bQ t) true)(cJ:FD P w K mg base (aV t.aD) 2 "_law_behind" ["pegs","leap"] 2 (bw t) true):FD P w K mg base (aV t.aD) 5 "_law_count" ["cells","pegs","others"] 3 (gh t) true:=
 fm (Γ:=[.par,.par,.par,.par,.own true,.par,.par,.par,.par]) T.sU cW rfl (fun i h=>by match i,h with | 0,_=>rfl | 1,_=>rfl | 2,_=>rfl) fun f f9 A outer s H E hr=>
 by
 walk_at")"
 refine bG (i:=3) (k:=.par) (κ:=.old) ?_ ?_
 exact cW.nd
 refine J4 ?_
 refine bZ (zQ hr.units) rfl T.jR jy ?_
 refine af (κ:=.old) (aA:=.uF) ?_ ?_
 refine sH (n:=false) (z:=true) (gy:=["standing"]) (caps:=[]) ?_ (LB.mk (vp:=.old) (n:=false) (z:=true) (gy:=["standing"]) (caps:=[]) rfl rfl (by decide +kernel) ?_ ?_ (by with_unfolding_all rfl) (by decide +kernel) ?_ (fun _ p hp=>by cases hp) (eT (i:=0) (k:=.par)) (fun fp s0 H0 L=>bT (i:=0) (by exact(show List.Nodup (["standing"]:List Str) from by decide +kernel)) rfl (Or.inl rfl) (Or.inr rfl)) (fun fp s0 H0 L=>FF (ft:=dC (.bl true))) (fun fp s0 H0 L=>?_) (fun h=>nomatch h) (fun _=>rfl))
 refine zL (κ:=.new) ?_ (fun _=>rfl)
 refine aK (κ:=.aE) ng hr (by decide) ?_ (ao (ao aO))
 walk_at"%(%+&"
 exact wK (by intro p hp;cases hp)
 exact sG (by rfl)
 exact trivial
 walk_at":"
 refine af (κ:=.old) (aA:=.new) ?_ ?_
 walk_at"CB%(&"
 refine af (κ:=.old) (aA:=.old) ?_ ?_
 walk_at"("
 exact ay (κ:=.old)
 exact ay (κ:=.old)
 walk_at")"
 refine bG (i:=4) (k:=(.own true)) (κ:=.new) ?_ ?_
 exact cW.nd
 exact E9
 walk_at")"
 refine cK (κ:=.old) (bg ⟨rfl,rfl⟩) rfl ?_ rfl (tw rfl (fj (bT (i:=5) (by exact cW.nd) rfl (Or.inl rfl)) (fj (bT (i:=6) (by exact cW.nd) rfl (Or.inl rfl)) qf))) (qj (i:=5) (j:=6) (k:=.par) (k':=.par))   ?_
 walk_at"6)"
 refine bG (i:=7) (k:=.par) (κ:=.new) ?_ ?_
 exact cW.nd
 refine dz (aA:=.aE) LV ?_
 refine cQ G1 rfl T.J8 Qy ?_
 walk_at"-"
 refine r8 (aA:=.old) (bC:=.old) (mP hr.units) jM ?_ ?_ (gm _)
 exact ah 6 (pv 6)
 walk_at"5&)"
 refine cK (κ:=.new) (bg ⟨rfl,rfl⟩) rfl ?_ rfl (bT (i:=8) (by exact cW.nd) rfl (Or.inl rfl)) (eT (i:=8) (k:=.par))   ?_
 refine aK (κ:=.aE) dD hr (by decide) ?_ (ao (ao aO))
 walk_at"%(%"
 exact ah 6 (pv 6)
 walk_at"&*"
 refine bG (i:=7) (k:=.par) (κ:=.new) ?_ ?_
 exact cW.nd
 walk_at"E"
 exact ah 7 (pv 7)
 refine Ef (aA:=.lN) (bC:=.new) (tY hr.units) ?_ ?_ (fun _ _=>rfl)
 exact eV 4 (pv 4)
 refine dz (aA:=.aE) jA ?_
 refine cQ fu rfl T.n6 mz ?_
 walk_at"-"
 refine aK (κ:=.aE) cJ hr (by decide) ?_ (ao (ao aO))
 walk_at"%"
 exact ah 6 (pv 6)
 walk_at"%"
 exact ah 8 (pv 8)
 walk_at"&&*"
 refine Ed (i:=4) (κ:=.new) (κ':=.new) (tY hr.units) (pv 4) ?_ ?_ rfl
 refine dz (aA:=.aE) jA ?_
 refine cQ fu rfl T.n6 mz ?_
 walk_at"%"
 exact ah 6 (pv 6)
 walk_at"&4"
 exact ah 7 (pv 7)
 walk_at"*8"
 refine Ef (aA:=.lN) (bC:=.new) (tY hr.units) ?_ ?_ (fun _ _=>rfl)
 exact eV 4 (pv 4)
 refine dz (aA:=.aE) jA ?_
 refine cQ fu rfl T.n6 mz ?_
 walk_at"%+&"
theorem p9:bA ["script","cells","board","pegs","others","handed","found"] ["script"] (az Bt):=⟨rfl,rfl,rfl,by decide +kernel,rfl,by decide +kernel,by decide +kernel⟩
theorem QC(T:Txt K mg t)(bR:FD P w K mg base (aV t.aD) 1 "_law_cell_at" ["script","k"] 2 (aN t) true)(ja:FD P w K mg base (aV t.aD) 2 "_law_cells_by" ["script","most"] 2 (cU t) true){fiB:Addr}{fdB:FuncData}(QD:Mk K t.aD fiB)(bB:Binds K fdB ["self","cells"] [])(A7:j7 P w K mg base (qg P w) 3 fiB fdB ["self","cells"] (zN K t.aD (bJ t)))(iE:FD P w K mg base (aV t.aD) 2 "_law_pegs_by" ["cell","cells"] 2 (cX t) true)(pB:FD P w K mg base (aV t.aD) 4 "_law_gone" ["cells","pegs","cell","most"] 4 (gR t) true)(pC:FD P w K mg base (aV t.aD) 5 "row_count" ["board","pegs","others"] 3 (gQ t) true)(nh:FD P w K mg base (aV t.aD) 1 "_law_whole" ["found"] 1 (fW t) true)(nj:FD P w K mg base (aV t.aD) 5 "_law_count" ["cells","pegs","others"] 3 (gh t) true):FD P w K mg base (aV t.aD) 6 "law" ["script"] 1 (yN t) true:=
 fm (Γ:=[.par,.par,.par,.par,.par,.loc,.par]) T.J5 p9 rfl (fun i h=>by match i,h with | 0,_=>rfl) fun f f9 A outer s H E hr=>
 by
 walk_at")"
 refine bG (i:=1) (k:=.par) (κ:=.new) ?_ ?_
 exact p9.nd
 refine aK (κ:=.aE) ja hr (by decide) ?_ (ao (ao aO))
 walk_at"%(%"
 refine bH (aA:=.new) (bC:=.new) ?_ ?_ (fun _ _=>rfl)
 walk_at";'!'!'!'!/"
 refine bx (aA:=.new) (bC:=.new) jF ie ?_ ?_
 walk_at"KG%(-!&!!&)N"
 exact p9.nd
 refine II (κ:=.aE) QD A7 (hr.mono (by decide)) T.qq bB ?_
 walk_at"-"
 refine dz (aA:=.aE) m8 ?_
 refine cQ fT rfl T.rm qt ?_
 walk_at"%+&&)L"
 exact p9.nd
 refine aK (κ:=.aE) iE hr (by decide) ?_ (ao (ao aO))
 walk_at"-G%(-!&%+&)"
 refine bG (i:=4) (k:=.par) (κ:=.old) ?_ ?_
 exact p9.nd
 refine bH (aA:=.new) (bC:=.new) ?_ ?_ (fun _ _=>rfl)
 refine aK (κ:=.aE) pB hr (by decide) ?_ (ao (ao (ao (ao aO))))
 walk_at"%+%6-G%(-!&-!&!)<"
 refine dH (aA:=.new) (bC:=.new) (mP hr.units) jM ?_ ?_ (gm _)
 refine bx (aA:=.new) (bC:=.new) jF ie ?_ ?_
 walk_at"G%(-!&!!*"
 refine bG (i:=4) (k:=.par) (κ:=.new) ?_ ?_
 exact p9.nd
 refine aK (κ:=.aE) iE hr (by decide) ?_ (ao (ao aO))
 walk_at"-G%(-!&%+&)"
 refine bG (i:=5) (k:=.loc) (κ:=.new) ?_ ?_
 exact p9.nd
 walk_at";'"
 refine dz (aA:=.aE) m8 ?_
 refine cQ fT rfl T.rm qt ?_
 walk_at"%6&'"
 refine dz (aA:=.aE) m8 ?_
 refine cQ fT rfl T.rm qt ?_
 walk_at"%=&/)"
 refine bG (i:=6) (k:=.par) (κ:=.new) ?_ ?_
 exact p9.nd
 refine aK (κ:=.aE) pC hr (by decide) ?_ (ao (ao (ao aO)))
 walk_at"%5%"
 refine bH (aA:=.loc) (bC:=.new) ?_ ?_ (fun _ _=>rfl)
 exact iU 5 (pv 5)
 walk_at"!%"
 refine bH (aA:=.loc) (bC:=.new) ?_ ?_ (fun _ _=>rfl)
 exact iU 5 (pv 5)
 walk_at"!&*8"
 refine tR (aA:=.new) ?_ ?_
 refine aK (κ:=.aE) nh hr (by decide) ?_ (ao aO)
 walk_at"%"
 exact ah 6 (pv 6)
 walk_at"&"
 refine tR (aA:=.new) ?_ ?_
 refine r8 (aA:=.old) (bC:=.new) (mP hr.units) jM ?_ ?_ (gm _)
 exact ah 6 (pv 6)
 refine aK (κ:=.aE) nj hr (by decide) ?_ (ao (ao (ao aO)))
 walk_at"%+%6%=&"
 refine zE ?_
 refine r8 (aA:=.loc) (bC:=.old) (mP hr.units) jM ?_ ?_ (gm _)
 exact iU 5 (pv 5)
 walk_at";"
 refine af (κ:=.old) (aA:=.old) ?_ ?_
 walk_at"6"
 refine af (κ:=.old) (aA:=.old) ?_ ?_
 walk_at"="
 exact ay (κ:=.old)
theorem Ja:bA ["self","cells"] ["self","cells"] (az kC):=⟨rfl,rfl,rfl,by decide +kernel,rfl,by decide +kernel,by decide +kernel⟩
theorem Jb(T:Txt K mg t){fi:Addr}{fd:FuncData}(F:GW K "__init__" "Board.__init__" kC fi fd)(kP:FD P w K mg base (aV t.aD) 2 "check_cells" ["cells"] 1 (bJ t) true):j7 P w K mg base (qg P w) 3 fi fd ["self","cells"] (zN K t.aD (bJ t)):=
 LJ (κ:=.new) F Ja T.RX T.Kl fun f9 A outer s H E hr=>by
 refine Aw ?_ ?_
 ·refine yY ?_
  refine aK (κ:=.aE) kP hr (by decide) ?_ (ao aO)
  walk_at"%"
  ·walk_at"+"
  ·walk_at"&"
 ·refine Dr ?_
  refine OX (pv 0) ?_ rfl
  refine dz (aA:=.aE) m8 ?_
  refine cQ fT rfl T.rm qt ?_
  walk_at"%"
  ·walk_at"+"
  ·walk_at"&"
theorem QE(T:Txt K mg t):FD P w K mg base (aV t.aD) 6 "law" ["script"] 1 (yN t) true:=by
 obtain ⟨fiB,fdB,FuB,QD,bB⟩:=T.iB
 have gS:=zT (P:=P) (w:=w) (base:=base) T
 have u0:=CU (P:=P) (w:=w) (base:=base) T
 have kP:=wR (P:=P) (w:=w) (base:=base) T gS u0
 have A7:=Jb (P:=P) (w:=w) (base:=base) T FuB kP
 have jw:=xV (P:=P) (w:=w) (base:=base) T gS
 have oZ:=zU (P:=P) (w:=w) (base:=base) T
 have gk:=CW (P:=P) (w:=w) (base:=base) T
 have zW:=J9 (P:=P) (w:=w) (base:=base) T oZ gk
 have kN:=wV (P:=P) (w:=w) (base:=base) T gk
 have kM:=wW (P:=P) (w:=w) (base:=base) T gk
 have n9:=xX (P:=P) (w:=w) (base:=base) T kM kN
 have kO:=wX (P:=P) (w:=w) (base:=base) T n9
 have pC:=zV (P:=P) (w:=w) (base:=base) T jw zW kO
 have bR:=uX (P:=P) (w:=w) (base:=base) T
 have bV:=Bw (P:=P) (w:=w) (base:=base) T
 have nh:=xZ (P:=P) (w:=w) (base:=base) T
 have ja:=u5 (P:=P) (w:=w) (base:=base) T bR bV
 have iE:=uY (P:=P) (w:=w) (base:=base) T bV
 have cA:=v5 (P:=P) (w:=w) (base:=base) T
 have nc:=y9 (P:=P) (w:=w) (base:=base) T cA
 have dD:=zZ (P:=P) (w:=w) (base:=base) T nc cA
 have cJ:=wY (P:=P) (w:=w) (base:=base) T cA
 have pB:=A0 (P:=P) (w:=w) (base:=base) T bV dD cJ
 have ng:=ya (P:=P) (w:=w) (base:=base) T dD cJ
 have nj:=yb (P:=P) (w:=w) (base:=base) T ng dD cJ
 have Wr:=QC (P:=P) (w:=w) (base:=base) T bR ja QD bB A7 iE pB pC nh nj
 exact Wr
def Bx(K:Frag):Sp:=fun vs H Q _=>∃(a:Addr) (ns:List Int),vs=[.ref a]/\ko K H a (ns.map V.int)/\ns.length<=63/\∀H',Q (.bl true) H'
theorem QF(T:Txt K mg t)(Jc:∀ns:List Int,ns.length<=63->yN t [.lst (ns.map D.int)] = .ok (.bl true)):∃a fd,j7 P w K mg base (qg P w) 40 a fd ["script"] (Bx K)/\mg "law" =some (.ref a)/\∃o,K.lookup a=some o/\o.data = .func fd:=by
 obtain ⟨a,fd,h1,h2,_,_,h4⟩:=(QE (P:=P) (w:=w) (base:=base) T).ex
 refine⟨a,fd,(h1.mono (by decide)).imp fun vs H Q E jg=>?_,h2,h4⟩
 obtain ⟨p,ns,e,hs,hl,q⟩:=jg
 subst e
 refine⟨[.lst (ns.map D.int)],rfl,.cons (by rw[Rep];exact⟨p,_,rfl,hs,aH.ints ns⟩) .nil,?_⟩
 rw[Jc ns hl]
 intro v H' _ r
 have r':=r.1
 rw[Rep] at r'
 subst r'
 exact q H'
end
theorem QG{K:Frag}{h:Heap}{mg:Str->Option Value}(X:K.In h)(G:h.Ns mainGlobals mg)
  {a0:Addr} {od0 an0:Option Addr} {sl0:Array (Option Value)} {oc0 kV0 dc0 pm0 cd0 ct0:Value} {a1:Addr} {od1 an1:Option Addr} {sl1:Array (Option Value)} {oc1 kV1 dc1 pm1 cd1 ct1:Value} {a2:Addr} {od2 an2:Option Addr} {NU:Array (Option Value)} {oc2 kV2 dc2 XI cd2 ct2:Value} {a3:Addr} {od3 an3:Option Addr} {sl3:Array (Option Value)} {oc3 kV3 dc3 XJ cd3 ct3:Value} {a4:Addr} {od4 an4:Option Addr} {sl4:Array (Option Value)} {oc4 kV4 dc4 pm4 cd4 ct4:Value} {a5:Addr} {od5 an5:Option Addr} {sl5:Array (Option Value)} {oc5 kV5 dc5 pm5 cd5 ct5:Value} {a6:Addr} {od6 an6:Option Addr} {sl6:Array (Option Value)} {oc6 kV6 dc6 pm6 cd6 ct6:Value} {a7:Addr} {od7 an7:Option Addr} {sl7:Array (Option Value)} {oc7 kV7 dc7 pm7 cd7 ct7:Value} {a8:Addr} {od8 an8:Option Addr} {sl8:Array (Option Value)} {oc8 kV8 dc8 pm8 cd8 ct8:Value} {a9:Addr} {od9 an9:Option Addr} {sl9:Array (Option Value)} {oc9 kV9 dc9 pm9 cd9 ct9:Value} {a10:Addr} {aj3 aj4:Option Addr} {aj5:Array (Option Value)} {aj6 aj7 aj8 aj9 Ws ak0:Value} {a11:Addr} {ak1 ak2:Option Addr} {ak3:Array (Option Value)} {ak4 ak5 ak6 ak7 Wu ak8:Value} {a12:Addr} {ak9 al0:Option Addr} {al1:Array (Option Value)} {al2 al3 al4 al5 Wv al6:Value} {a13:Addr} {al7 al8:Option Addr} {al9:Array (Option Value)} {am0 am1 am2 am3 Ww am4:Value} {a14:Addr} {am5 am6:Option Addr} {am7:Array (Option Value)} {am8 am9 ao0 ao1 Wx ao2:Value} {a15:Addr} {ao3 ao4:Option Addr} {ao5:Array (Option Value)} {ao6 ao7 ao8 ao9 Wy ap0:Value} {a16:Addr} {ap1 ap2:Option Addr} {ap3:Array (Option Value)} {ap4 ap5 ap6 ap7 Wz ap8:Value} {a17:Addr} {ap9 aq0:Option Addr} {aq1:Array (Option Value)} {aq2 aq3 aq4 aq5 WA aq6:Value} {a18:Addr} {aq7 aq8:Option Addr} {aq9:Array (Option Value)} {ar0 ar1 ar2 ar3 WB ar4:Value} {a19:Addr} {ar5 ar6:Option Addr} {ar7:Array (Option Value)} {ar8 ar9 as1 as2 WC as3:Value} {a20:Addr} {as4 as5:Option Addr} {as6:Array (Option Value)} {as7 as8 as9 at0 WD at1:Value} {a21:Addr} {at3 at4:Option Addr} {at5:Array (Option Value)} {at6 at7 at8 at9 WE au0:Value} {a22:Addr} {au1 au2:Option Addr} {au3:Array (Option Value)} {au4 au5 au6 au7 WG au8:Value} {a23:Addr} {au9 av0:Option Addr} {av1:Array (Option Value)} {av2 av3 av4 av5 WH av6:Value} {a24:Addr} {av7 av8:Option Addr} {av9:Array (Option Value)} {aw0 aw1 aw2 aw3 WI aw4:Value} {wZ rq u6 iV:Addr} {Jd:Tok} {t6:Tok} {aI:Addr} {odI anI:Option Addr} {slI:Array (Option Value)} {ocI kVI dcI pmI cdI ctI:Value}
  (pD:nsIn K mainGlobals "is_rising" =some (some (.ref a0)))
  (pF:K.lookup a0=some ⟨oc0,od0,.func (fnOf "is_rising" "is_rising" (bz iW) (b9 iW) (az iW) .none kV0 dc0 pm0 an0 cd0 ct0),sl0⟩)
  (pH:codeIn K cd0 "is_rising" =true)
  (pI:keepIn K (.ref a0)=true)
  (u7:nsIn K mainGlobals "is_cell" =some (some (.ref a1)))
  (u9:K.lookup a1=some ⟨oc1,od1,.func (fnOf "is_cell" "is_cell" (bz mD) (b9 mD) (az mD) .none kV1 dc1 pm1 an1 cd1 ct1),sl1⟩)
  (ua:codeIn K cd1 "is_cell" =true)
  (uc:keepIn K (.ref a1)=true)
  (kQ:nsIn K mainGlobals "check_cells" =some (some (.ref a2)))
  (kR:K.lookup a2=some ⟨oc2,od2,.func (fnOf "check_cells" "check_cells" (bz gz) (b9 gz) (az gz) .none kV2 dc2 XI an2 cd2 ct2),NU⟩)
  (kT:codeIn K cd2 "check_cells" =true)
  (kU:keepIn K (.ref a2)=true)
  (nt:nsIn K mainGlobals "check_pegs" =some (some (.ref a3)))
  (nu:K.lookup a3=some ⟨oc3,od3,.func (fnOf "check_pegs" "check_pegs" (bz iu) (b9 iu) (az iu) .none kV3 dc3 XJ an3 cd3 ct3),sl3⟩)
  (nv:codeIn K cd3 "check_pegs" =true)
  (ny:keepIn K (.ref a3)=true)
  (pJ:nsIn K mainGlobals "two_apart" =some (some (.ref a4)))
  (pK:K.lookup a4=some ⟨oc4,od4,.func (fnOf "two_apart" "two_apart" (bz iX) (b9 iX) (az iX) .none kV4 dc4 pm4 an4 cd4 ct4),sl4⟩)
  (pM:codeIn K cd4 "two_apart" =true)
  (pN:keepIn K (.ref a4)=true)
  (ud:nsIn K mainGlobals "between" =some (some (.ref a5)))
  (uf:K.lookup a5=some ⟨oc5,od5,.func (fnOf "between" "between" (bz mE) (b9 mE) (az mE) .none kV5 dc5 pm5 an5 cd5 ct5),sl5⟩)
  (ug:codeIn K cd5 "between" =true)
  (uh:keepIn K (.ref a5)=true)
  (A8:nsIn K mainGlobals "leaps" =some (some (.ref a6)))
  (A9:K.lookup a6=some ⟨oc6,od6,.func (fnOf "leaps" "leaps" (bz sN) (b9 sN) (az sN) .none kV6 dc6 pm6 an6 cd6 ct6),sl6⟩)
  (Aa:codeIn K cd6 "leaps" =true)
  (Ab:keepIn K (.ref a6)=true)
  (kW:nsIn K mainGlobals "can_be_done" =some (some (.ref a7)))
  (kX:K.lookup a7=some ⟨oc7,od7,.func (fnOf "can_be_done" "can_be_done" (bz gC) (b9 gC) (az gC) .none kV7 dc7 pm7 an7 cd7 ct7),sl7⟩)
  (kY:codeIn K cd7 "can_be_done" =true)
  (kZ:keepIn K (.ref a7)=true)
  (l0:nsIn K mainGlobals "pegs_behind" =some (some (.ref a8)))
  (l6:K.lookup a8=some ⟨oc8,od8,.func (fnOf "pegs_behind" "pegs_behind" (bz gD) (b9 gD) (az gD) .none kV8 dc8 pm8 an8 cd8 ct8),sl8⟩)
  (l7:codeIn K cd8 "pegs_behind" =true)
  (l8:keepIn K (.ref a8)=true)
  (nB:nsIn K mainGlobals "steps_from" =some (some (.ref a9)))
  (nC:K.lookup a9=some ⟨oc9,od9,.func (fnOf "steps_from" "steps_from" (bz iw) (b9 iw) (az iw) .none kV9 dc9 pm9 an9 cd9 ct9),sl9⟩)
  (nD:codeIn K cd9 "steps_from" =true)
  (nE:keepIn K (.ref a9)=true)
  (l9:nsIn K mainGlobals "next_counts" =some (some (.ref a10)))
  (lq:K.lookup a10=some ⟨aj6,aj3,.func (fnOf "next_counts" "next_counts" (bz gE) (b9 gE) (az gE) .none aj7 aj8 aj9 aj4 Ws ak0),aj5⟩)
  (lB:codeIn K Ws "next_counts" =true)
  (lC:keepIn K (.ref a10)=true)
  (pO:nsIn K mainGlobals "row_count" =some (some (.ref a11)))
  (pP:K.lookup a11=some ⟨ak4,ak1,.func (fnOf "row_count" "row_count" (bz iY) (b9 iY) (az iY) .none ak5 ak6 ak7 ak2 Wu ak8),ak3⟩)
  (pQ:codeIn K Wu "row_count" =true)
  (pR:keepIn K (.ref a11)=true)
  (jT:nsIn K mainGlobals "_law_cell_at" =some (some (.ref a12)))
  (jU:K.lookup a12=some ⟨al2,ak9,.func (fnOf "_law_cell_at" "_law_cell_at" (bz fJ) (b9 fJ) (az fJ) .none al3 al4 al5 al0 Wv al6),al1⟩)
  (jV:codeIn K Wv "_law_cell_at" =true)
  (jW:keepIn K (.ref a12)=true)
  (rA:nsIn K mainGlobals "_law_mix" =some (some (.ref a13)))
  (rB:K.lookup a13=some ⟨am0,al7,.func (fnOf "_law_mix" "_law_mix" (bz jQ) (b9 jQ) (az jQ) .none am1 am2 am3 al8 Ww am4),al9⟩)
  (rC:codeIn K Ww "_law_mix" =true)
  (rD:keepIn K (.ref a13)=true)
  (nF:nsIn K mainGlobals "_law_whole" =some (some (.ref a14)))
  (nH:K.lookup a14=some ⟨am8,am5,.func (fnOf "_law_whole" "_law_whole" (bz iy) (b9 iy) (az iy) .none am9 ao0 ao1 am6 Wx ao2),am7⟩)
  (nI:codeIn K Wx "_law_whole" =true)
  (nJ:keepIn K (.ref a14)=true)
  (jb:nsIn K mainGlobals "_law_cells_by" =some (some (.ref a15)))
  (jc:K.lookup a15=some ⟨ao6,ao3,.func (fnOf "_law_cells_by" "_law_cells_by" (bz fq) (b9 fq) (az fq) .none ao7 ao8 ao9 ao4 Wy ap0),ao5⟩)
  (jd:codeIn K Wy "_law_cells_by" =true)
  (je:keepIn K (.ref a15)=true)
  (jX:nsIn K mainGlobals "_law_pegs_by" =some (some (.ref a16)))
  (jY:K.lookup a16=some ⟨ap4,ap1,.func (fnOf "_law_pegs_by" "_law_pegs_by" (bz fK) (b9 fK) (az fK) .none ap5 ap6 ap7 ap2 Wz ap8),ap3⟩)
  (jZ:codeIn K Wz "_law_pegs_by" =true)
  (k6:keepIn K (.ref a16)=true)
  (k7:nsIn K mainGlobals "_law_between" =some (some (.ref a17)))
  (k8:K.lookup a17=some ⟨aq2,ap9,.func (fnOf "_law_between" "_law_between" (bz fL) (b9 fL) (az fL) .none aq3 aq4 aq5 aq0 WA aq6),aq1⟩)
  (k9:codeIn K WA "_law_between" =true)
  (kj:keepIn K (.ref a17)=true)
  (nK:nsIn K mainGlobals "_law_leaps" =some (some (.ref a18)))
  (nM:K.lookup a18=some ⟨ar0,aq7,.func (fnOf "_law_leaps" "_law_leaps" (bz iz) (b9 iz) (az iz) .none ar1 ar2 ar3 aq8 WB ar4),aq9⟩)
  (nN:codeIn K WB "_law_leaps" =true)
  (nO:keepIn K (.ref a18)=true)
  (pS:nsIn K mainGlobals "_law_open" =some (some (.ref a19)))
  (pT:K.lookup a19=some ⟨ar8,ar5,.func (fnOf "_law_open" "_law_open" (bz iZ) (b9 iZ) (az iZ) .none ar9 as1 as2 ar6 WC as3),ar7⟩)
  (pU:codeIn K WC "_law_open" =true)
  (pV:keepIn K (.ref a19)=true)
  (lE:nsIn K mainGlobals "_law_behind" =some (some (.ref a20)))
  (lH:K.lookup a20=some ⟨as7,as4,.func (fnOf "_law_behind" "_law_behind" (bz gF) (b9 gF) (az gF) .none as8 as9 at0 as5 WD at1),as6⟩)
  (lI:codeIn K WD "_law_behind" =true)
  (lJ:keepIn K (.ref a20)=true)
  (pW:nsIn K mainGlobals "_law_gone" =some (some (.ref a21)))
  (pX:K.lookup a21=some ⟨at6,at3,.func (fnOf "_law_gone" "_law_gone" (bz j0) (b9 j0) (az j0) .none at7 at8 at9 at4 WE au0),at5⟩)
  (pY:codeIn K WE "_law_gone" =true)
  (pZ:keepIn K (.ref a21)=true)
  (nP:nsIn K mainGlobals "_law_reach" =some (some (.ref a22)))
  (nQ:K.lookup a22=some ⟨au4,au1,.func (fnOf "_law_reach" "_law_reach" (bz iA) (b9 iA) (az iA) .none au5 au6 au7 au2 WG au8),au3⟩)
  (nR:codeIn K WG "_law_reach" =true)
  (nS:keepIn K (.ref a22)=true)
  (nU:nsIn K mainGlobals "_law_count" =some (some (.ref a23)))
  (nV:K.lookup a23=some ⟨av2,au9,.func (fnOf "_law_count" "_law_count" (bz iC) (b9 iC) (az iC) .none av3 av4 av5 av0 WH av6),av1⟩)
  (nW:codeIn K WH "_law_count" =true)
  (nX:keepIn K (.ref a23)=true)
  (Je:nsIn K mainGlobals "law" =some (some (.ref a24)))
  (Jf:K.lookup a24=some ⟨aw0,av7,.func (fnOf "law" "law" (bz Bt) (b9 Bt) (az Bt) .none aw1 aw2 aw3 av8 WI aw4),av9⟩)
  (Jg:codeIn K WI "law" =true)
  (Jh:keepIn K (.ref a24)=true)
  (jS:nsIn K mainGlobals "PegError" =some (some (.ref wZ)))
  (fM:nsIn K mainGlobals "BadBoard" =some (some (.ref rq)))
  (iP:nsIn K mainGlobals "BadPegs" =some (some (.ref u6)))
  (qq:nsIn K mainGlobals "Board" =some (some (.ref iV)))
  (fP:NN K rq [.type "ValueError",.type "Exception",.type "BaseException",.type "object"] "ValueError.__new__" =true)
  (iQ:NN K u6 [.type "ValueError",.type "Exception",.type "BaseException",.type "object"] "ValueError.__new__" =true)
  (Ji:nsIn K mainGlobals "abs" =some none)
  (CY:nsIn K mainGlobals "bool" =some none)
  (q8:nsIn K mainGlobals "enumerate" =some none)
  (Jj:nsIn K mainGlobals "int" =some none)
  (nY:nsIn K mainGlobals "isinstance" =some none)
  (Jk:nsIn K mainGlobals "len" =some none)
  (CZ:nsIn K mainGlobals "list" =some none)
  (Ac:nsIn K mainGlobals "range" =some none)
  (Jl:nsIn K mainGlobals "set" =some none)
  (x6:nsIn K mainGlobals "sorted" =some none)
  (Ad:nsIn K mainGlobals "tuple" =some none)
  (oX:nsIn K mainGlobals "LAST" =some (some (.int (7) Jd)))
  (eX:nsIn K mainGlobals "MOST_CELLS" =some (some (.int (24) t6)))
  (aI_:findIn K (.ref iV) "__init__" =some (some (.ref aI)))
  (iI_:isFn K (.ref aI)=true)
  (Yb:K.lookup aI=some ⟨ocI,odI,.func (fnOf "__init__" "Board.__init__" (bz kC) (b9 kC) (az kC) .none kVI dcI pmI anI cdI ctI),slI⟩)
  (Yc:codeIn K cdI "Board.__init__" =true)
  (Yd:keepIn K (.ref aI)=true)
  (pgB:plainGet K iV Str.empty=true)
  (hdB:hasDictIn K iV=true)
  (poB:plainOver K iV=true)
  (saB:findIn K (.ref iV) "__setattr__" =some (some (.builtin "object.__setattr__")))
  (QD:makesIn K iV=true)
  (kcB:keepIn K (.ref iV)=true)
  (Kl:findIn K (.ref iV) "cells" =some none) :
  ∃t,Txt K mg t:=by
 let t:kE:=⟨wZ,rq,u6,iV,Jd,t6⟩
 refine⟨t,?_⟩
 exact {
  uI:=cT X G pD pF pH pI fun _ _ _ _ _ _ _=>rfl
  yL:=cT X G u7 u9 ua uc fun _ _ _ _ _ _ _=>rfl
  qL:=cT X G kQ kR kT kU fun _ _ _ _ _ _ _=>rfl
  sO:=cT X G nt nu nv ny fun _ _ _ _ _ _ _ _=>rfl
  uJ:=cT X G pJ pK pM pN fun _ _ _ _ _ _ _=>rfl
  yM:=cT X G ud uf ug uh fun _ _ _ _ _ _ _ _=>rfl
  Eh:=cT X G A8 A9 Aa Ab fun _ _ _ _ _ _ _=>rfl
  qM:=cT X G kW kX kY kZ fun _ _ _ _ _ _ _ _=>rfl
  qN:=cT X G l0 l6 l7 l8 fun _ _ _ _ _ _ _ _=>rfl
  sP:=cT X G nB nC nD nE fun _ _ _ _ _ _ _ _=>rfl
  qO:=cT X G l9 lq lB lC fun _ _ _ _ _ _ _ _=>rfl
  uK:=cT X G pO pP pQ pR fun _ _ _ _ _ _ _ _ _=>rfl
  oS:=cT X G jT jU jV jW fun _ _ _ _ _ _ _ _=>rfl
  wQ:=cT X G rA rB rC rD fun _ _ _ _ _ _ _ _ _=>rfl
  sQ:=cT X G nF nH nI nJ fun _ _ _ _ _ _ _=>rfl
  oz:=cT X G jb jc jd je fun _ _ _ _ _ _ _ _=>rfl
  oU:=cT X G jX jY jZ k6 fun _ _ _ _ _ _ _ _=>rfl
  oV:=cT X G k7 k8 k9 kj fun _ _ _ _ _ _ _=>rfl
  sR:=cT X G nK nM nN nO fun _ _ _ _ _ _ _=>rfl
  uL:=cT X G pS pT pU pV fun _ _ _ _ _ _ _ _=>rfl
  qP:=cT X G lE lH lI lJ fun _ _ _ _ _ _ _ _=>rfl
  uM:=cT X G pW pX pY pZ fun _ _ _ _ _ _ _ _ _ _=>rfl
  sS:=cT X G nP nQ nR nS fun _ _ _ _ _ _ _ _=>rfl
  sU:=cT X G nU nV nW nX fun _ _ _ _ _ _ _ _ _=>rfl
  J5:=cT X G Je Jf Jg Jh fun _ _ _ _ _ _ _=>rfl
  J6:=mg_none_of X G Ji
  J7:=mg_none_of X G CY
  uN:=mg_none_of X G q8
  J8:=mg_none_of X G Jj
  n5:=mg_none_of X G nY
  oW:=mg_none_of X G Jk
  rm:=mg_none_of X G CZ
  vt:=mg_none_of X G Ac
  Oc:=mg_none_of X G Jl
  jR:=mg_none_of X G x6
  n6:=mg_none_of X G Ad
  oX:=mg_of X G oX
  eX:=mg_of X G eX
  jS:=mg_of X G jS
  fM:=mg_of X G fM
  iP:=mg_of X G iP
  qq:=mg_of X G qq
  fP:=fP
  iQ:=iQ
  RX:=⟨pgB,hdB,poB,saB⟩
  Kl:=Kl
  iB:=⟨_,_,z7 (st:=kC) Yb Yc Yd,⟨QD,aI_,iI_,kcB⟩,yG (z7 (st:=kC) Yb Yc Yd) fun _ _ _ _ _ _ _ _=>rfl⟩ }
theorem WJ{l:OpenLaw}{w:World}{K:Frag}{h:Heap}{mg:Str->Option Value}{fa:Addr}(hfa:mg "law" =some (.ref fa))(T:∃t,Txt K mg t)(Jc:∀(t:kE) (ns:List Int),ns.length<=63->yN t [.lst (ns.map D.int)] = .ok (.bl true)) :
  ∃fd:FuncData,(∀(s:Shared) (v:Value),BindsTo s fd ⟨[v],[]⟩ [("script",v)])/\∀base:Heap,K.In base->base.Ns mainGlobals mg->j7 l.prog w K mg base (qg l.prog w) 40 fa fd ["script"] (Bx K):=by
 obtain ⟨t,T⟩:=T
 obtain ⟨a,fd,Fu,hm,hb⟩:=T.J5
 obtain rfl:a=fa:=by rw[hm] at hfa;cases hfa;rfl
 refine⟨fd,fun s v=>?_,fun base hk hn=>?_⟩
 ·obtain ⟨oc,od,kV,doc,pm,an,f9,ct,Gg,rfl,lk,EF⟩:=Fu.ex
  exact .of_eq rfl
 ·obtain ⟨a',fd',h1,h2,h3⟩:=QF (P:=l.prog) (w:=w) (base:=base) T (Jc t)
  rw[hm] at h2
  cases h2
  obtain ⟨o,l1,d1⟩:=h3
  obtain ⟨o',l2,d2⟩:=Bm Fu
  rw[l1] at l2
  cases l2
  rw[d1] at d2
  cases d2
  exact h1
theorem walk{l:OpenLaw}{q:Program}{loose:List Str}{XP:(Str->Option Value)->Heap->Prop}{YP:World->Heap->Prop}{d:DefRec}{K:Params->Frag}(hn:l.most=some 63)(P9:d.params.defaults=[])
  (hY:∀(w:World) (h:Heap),YP w h->(K w.params).In h)
  (F:∀(w:World) (mg:Str->Option Value) (fa:Addr) (h:Heap),(K w.params).In h->h.Ns mainGlobals mg->mg d.name=some (.ref fa)->
   ∃fd:FuncData,(∀(s:Shared) (u:Value),BindsTo s fd ⟨[u],[]⟩ [("script",u)])/\∀base:Heap,(K w.params).In base->base.Ns mainGlobals mg->j7 l.prog w (K w.params) mg base (qg l.prog w) 40 fa fd ["script"] (Bx (K w.params))) :
  WalkO q loose XP YP l.row.toRowW d [] (fun f vs=>PySem.call f vs):=
 L2.KU (n:=63) (k:=40) (x:="script") (CX:=fun w=>qg l.prog w) (sp:=fun w=>Bx (K w.params)) hn (by decide) P9 ⟨rfl,by decide,by decide⟩ hY F (fun _ _ a ns hl _ hS=>⟨a,ns,rfl,hS,hl,fun _=>rfl⟩) fun w H s e s' oG=>oG.elim fun _ ux=>ux.elim fun _ Dv=>Dv.elim fun _ EZ=>EZ.elim fun _ Gh=>Gh.elim fun _ BY=>BY.elim fun _ Dq=>Dq.elim fun _ Hh=>Hh.elim fun _ yX=>yX.elim fun _ Cf=>Cf.elim fun _ xF=>xF.elim fun _ Cg=>Cg.elim fun _ Hj=>Hj.elim fun z _=>z
theorem WK{l:OpenLaw}{q:Program}{loose:List Str}{XP:(Str->Option Value)->Heap->Prop}{d:DefRec}{K:Params->Frag}{as:List Addr}(hn:l.most=some 63)(P9:d.params.defaults=[])(e:∀P,as=(K P).map (·.1))
  (F:∀(w:World) (mg:Str->Option Value) (fa:Addr) (h:Heap),(K w.params).In h->h.Ns mainGlobals mg->mg d.name=some (.ref fa)->
   ∃fd:FuncData,(∀(s:Shared) (u:Value),BindsTo s fd ⟨[u],[]⟩ [("script",u)])/\∀base:Heap,(K w.params).In base->base.Ns mainGlobals mg->j7 l.prog w (K w.params) mg base (qg l.prog w) 40 fa fd ["script"] (Bx (K w.params))) :
  WalkX q loose XP (fun s:Shared=>as.map s.heap.get?) (fun w=>(K w.params).map fun p=>some p.2) l.row.toRowW d [] (fun f vs=>PySem.call f vs):=
 fun w gW cV mg mb G y a o pm cd doc dV kV h1 h2 h3 h4 h5 h6 args vals as' L h7 h8 h9 h10 h11=>walk (YP:=fun w h=>(K w.params).In h) hn P9 (fun _ _ h=>h) F w gW cV mg mb G (InK.keeps w gW.heap cV.heap (InK.of e w gW y) L.keeps) a o pm cd doc dV kV h1 h2 h3 h4 h5 h6 args vals as' h7 h8 h9 h10 h11
end Pk
end Wq
section WL
namespace Dm
open L2 HT
section
variable {f fa fb fc g:DF}{fs:DA}{F G:DS}{st st':dX}{d a b:D}{ds:List D}{i j:Nat}
@[simp] theorem Ye {α β:Type} (a:α) (f:α->R β):R.bind (.ok a) f=f a:=rfl
@[simp] theorem WM {α β:Type} (f:α->R β):R.bind (.bad:R α) f = .bad:=rfl
@[simp] theorem Yg {α β:Type} (c:PySem.Addr) (p:Option Int) (f:α->R β):R.bind (.ex c p:R α) f = .ex c p:=rfl
@[simp] theorem ay8 (st:dX):bD F G st=match F st with | .nx st'=>G st' | o=>o:=rfl
@[simp] theorem aw5 (st:dX):cC st = .nx st:=rfl
@[simp] theorem ay9 (st:dX):bP i f st=match f st with | .ok d=>.nx (st.set i (some d)) | .ex c p=>.ex c p st | .bad=>.bad:=rfl
@[simp] theorem aw6 (st:dX):yx f st=match f st with | .ok _=>.nx st | .ex c p=>.ex c p st | .bad=>.bad:=rfl
@[simp] theorem az0 (st:dX):gO f st=match f st with | .ok d=>.rt d | .ex c p=>.ex c p st | .bad=>.bad:=rfl
@[simp] theorem az1 (st:dX):Dm.eG fc F G st=match fc st with | .ok (.bl true)=>F st | .ok (.bl false)=>G st | .ok _=>.bad | .ex c p=>.ex c p st | .bad=>.bad:=rfl
@[simp] theorem WN {c:PySem.Addr} (st:dX):gM c st = .ex c none st:=rfl
@[simp] theorem az2 (st:dX):ak i st=match st[i]? with | some (some d)=>.ok d | _=>.bad:=rfl
@[simp] theorem dC_ (st:dX):dC d st = .ok d:=rfl
@[simp] theorem aw7 (st:dX):aZ f st=(f st).bind fun d=>if fR d=true then .ok d else .bad:=rfl
@[simp] theorem aB3 {g:D->D->R D} (st:dX):aQ g fa fb st=(fa st).bind fun a=>(fb st).bind fun b=>g a b:=rfl
@[simp] theorem aB4 {g:D->R D} (st:dX):vj g fa st=(fa st).bind g:=rfl
@[simp] theorem WO (st:dX):au st = .ok []:=rfl
@[simp] theorem QH (st:dX):aa f fs st=(f st).bind fun d=>(fs st).bind fun ds=>.ok (d::ds):=rfl
@[simp] theorem aw8 (i:Int) (ds:List D):oQ (.tup (.int i::ds))=true:=rfl
@[simp] theorem aw9 (es ds:List D):oQ (.tup (.tup es::ds))=true:=rfl
@[simp] theorem ax0 (es ds:List D):oQ (.tup (.lst es::ds))=true:=rfl
@[simp] theorem ax1 (b:Bool) (ds:List D):oQ (.tup (.bl b::ds))=true:=rfl
@[simp] theorem az3 {n:Nat} (st:dX):bX n fs st=(fs st).bind fun ds=>if ds.length<=n/\oQ (.tup ds)=true then .ok (.tup ds) else .bad:=rfl
@[simp] theorem az4 {n:Nat} (st:dX):cB n fs st=(fs st).bind fun ds=>if ds.length<=n then .ok (.lst ds) else .bad:=rfl
@[simp] theorem aB5 {g:List D->R D} (st:dX):br g fs st=(fs st).bind g:=rfl
@[simp] theorem az5 (st:dX):ic fa fb st=(fa st).bind fun a=>match a with | .bl true=>fb st | .bl false=>.ok (.bl false) | _=>.bad:=rfl
@[simp] theorem az6 (st:dX):tP fa st=(fa st).bind fun a=>match a with | .bl b=>.ok (.bl (!b)) | _=>.bad:=rfl
@[simp] theorem Yh {g g':D->D->R D} (st:dX):mX g g' fa fb fc st=(fa st).bind fun a=>(fb st).bind fun b=>(g a b).bind fun z=>match z with
 | .bl true=>(fc st).bind fun c=>g' b c
 | .bl false=>.ok (.bl false)
 | _=>.bad:=rfl
@[simp] theorem az7 (i j:Int):eO (.int i) (.int j) = .ok (.int (i+j)):=rfl
@[simp] theorem az8 (i j:Int):jE (.int i) (.int j) = .ok (.int (i - j)):=rfl
@[simp] theorem ax2 (i j:Int):Vs (.int i) (.int j) = .ok (.bl (decide (i < j))):=rfl
@[simp] theorem aB6 (i j:Int):O7 (.int i) (.int j) = .ok (.bl (decide (i<=j))):=rfl
@[simp] theorem ax3 (i j:Int):Qc (.int i) (.int j) = .ok (.bl (decide (j < i))):=rfl
@[simp] theorem az9 (i:Int):ag6 (.int i) = .ok (.int (-i)):=rfl
@[simp] theorem D0 (ds:List D):iO [.lst ds] = .ok (.int ds.length):=rfl
@[simp] theorem ax4 (ds:List D):iO [.tup ds] = .ok (.int ds.length):=rfl
@[simp] theorem Yi (i:Int):fR (.int i)=true:=by rw[fR] <;> simp
@[simp] theorem ax5 (i:Bool):fR (.bl i)=true:=by rw[fR] <;> simp
@[simp] theorem By {gi:DI} {bind:DB} (st:dX):dP gi bind F st=match gi st with | .ok ds=>dY bind F ds st | .ex c p=>.ex c p st | .bad=>.bad:=rfl
@[simp] theorem aA0 (st:dX):eK f st=match f st with | .ok (.lst ds)=>.ok ds | .ok _=>.bad | .ex c p=>.ex c p | .bad=>.bad:=rfl
theorem q9{i j:Int}(h:0 < j):gU (.int i) (.int j) = .ok (.int (i % j)):=by
 show (if decide (0 < j)=true then _ else _)=_
 rw[aC2 (aD6 h)]
theorem yO{i j:Int}(h:0 < j)(h2:j < 1073741824):m7 (.int i) (.int j) = .ok (.int (i / j)):=by
 show (if (decide (0 < j)&&decide (j < 1073741824))=true then _ else _)=_
 rw[aC2 (by rw[aD6 h,aD6 h2];rfl)]
theorem x8{i j:Int}(h : -(2 ^ 64) < i/\i < 2 ^ 64):su (.int i) (.int j) = .ok (.int (i * j)):=by
 show (if (sm i || sm j)=true then _ else _)=_
 rw[aC2]
 unfold sm
 rw[aD6 h.1,aD6 h.2];rfl
end
abbrev Cell:=Int×Int
def cD(c:Cell):D:=.tup [.int c.1,.int c.2]
@[simp] theorem ax6 (c:Cell) (ds:List D):oQ (.tup (cD c::ds))=true:=rfl
abbrev aC(l:List Cell):D:=.lst (l.map cD)
def row(c:Cell):List Int:=[c.1,c.2]
theorem LY{a b:Cell}(h:row a=row b):a=b:=by
 obtain ⟨a1,a2⟩:=a;obtain ⟨b1,b2⟩:=b
 simp[row] at h;simp[h]
@[simp] theorem QI (c:Cell):fR (cD c)=true:=by unfold cD;simp[fR,d9]
@[simp] theorem LZ (l:List Cell):d9 (l.map cD)=true:=fV fun d hd=>by obtain ⟨c,_,rfl⟩:=aC5.mp hd;exact QI c
@[simp] theorem M1 (c:Cell):flat (cD c)=true:=by unfold cD;simp[flat,bL]
@[simp] theorem BA (l:List Cell):bL (l.map cD)=true:=gv fun d hd=>by obtain ⟨c,_,rfl⟩:=aC5.mp hd;exact M1 c
@[simp] theorem Jm (c:Cell):dep (cD c)=1:=by unfold cD;simp[dep,jm]
theorem qu(l:List Cell):jm (l.map cD)<=1:=rT fun d hd=>by obtain ⟨c,_,rfl⟩:=aC5.mp hd;rw[Jm];exact aC4 _
@[simp] theorem D3 (a b:Cell):gq (cD a) (cD b)=decide (a=b):=by
 obtain ⟨a1,a2⟩:=a;obtain ⟨b1,b2⟩:=b
 unfold cD
 simp only[gq,cY,Bool.and_true]
 by_cases h:a1=b1 <;> by_cases h':a2=b2 <;> simp[h,h']
@[simp] theorem M6:∀(a b:List Cell),cY (a.map cD) (b.map cD)=decide (a=b)
 | [],[]=>by simp[cY]
 | [],_::_=>by simp[cY]
 | _::_,[]=>by simp[cY]
 | x::a,y::b=>by
  rw[aC1,aC1,cY,D3,M6 a b]
  by_cases h:x=y <;> by_cases h':a=b <;> simp[h,h']
theorem D4(neg:Bool)(a b:List Cell):lO neg (aC a) (aC b) = .ok (.bl (if neg then !decide (a=b) else decide (a=b))):=by
 unfold lO
 have h:=qu a
 rw[aC2]
 ·simp[gq]
 ·simp[flat,dep];lia
theorem nZ(neg:Bool)(i j:Int):lO neg (.int i) (.int j) = .ok (.bl (if neg then !decide (i=j) else decide (i=j))):=by
 unfold lO
 rw[aC2 (by simp[flat,dep])]
 have e:gq (.int i) (.int j)=decide (i=j):=by
  rw[gq]
  by_cases h:i=j
  ·simp[h]
  ·rw[aE4 h];exact aI1.mpr h
 rw[e]
theorem f7(neg:Bool)(c:Cell)(l:List Cell):lP neg (cD c) (aC l) = .ok (.bl (if neg then !decide (c∈l) else decide (c∈l))):=by
 unfold lP
 have h:=qu l
 dsimp only
 rw[aC2 (by simp;lia)]
 have e:(l.map cD).any (fun e=>gq e (cD c))=decide (c∈l):=by
  induction l with
  | nil=>rfl
  | cons x l ih=>
   rw[aC1,List.any_cons,D3,ih (qu l)]
   by_cases hx:x=c
   ·simp[hx]
   ·have:¬ c=x:=fun z=>hx z.symm
    simp[hx,this]
 rw[e]
theorem M7(c:Cell):Fy (cD c)=some (row c):=rfl
theorem BB:∀l:List Cell,yz (l.map cD)=some (l.map row)
 | []=>rfl
 | c::l=>by
  have ih:=BB l
  unfold yz at ih ⊢
  rw[aC1,List.mapM_cons,M7,ih]
  rfl
theorem M8:∀l:List Cell,mh (l.map row)=true
 | []=>rfl
 | c::l=>by
  unfold mh
  rw[aC1]
  simp[row]
def uO(a b:Cell):Prop:=a.1 < b.1\/(a.1=b.1/\a.2 < b.2)
instance (a b:Cell):Decidable (uO a b):=inferInstanceAs (Decidable (_\/_))
def bq(l:List Cell):Prop:=l.Pairwise uO
theorem WQ(a b:Cell):lexLt (row a) (row b)=decide (uO a b):=by
 obtain ⟨a1,a2⟩:=a;obtain ⟨b1,b2⟩:=b
 unfold row uO
 rw[cj]
 by_cases h2:a1=b1
 ·subst h2
  rw[aC2 rfl,cj]
  by_cases h3:a2=b2
  ·subst h3;rw[aC2 rfl];simp[rZ]
  ·rw[aC3 h3];simp
 ·rw[aC3 h2];simp[h2]
theorem Jo(c:Cell):fl (cD c)=row c:=by unfold cD row;simp[fl,j4]
theorem Jp(a b:Cell):rH (fl (cD a)) (fl (cD b)) = !decide (uO b a):=by rw[Jo,Jo];unfold rH;rw[WQ]
theorem Ei(a b:Cell):uO a b\/a=b\/uO b a:=by
 obtain ⟨a1,a2⟩:=a;obtain ⟨b1,b2⟩:=b
 unfold uO
 by_cases h1:a1 < b1
 ·exact .inl (.inl h1)
 ·by_cases h2:b1 < a1
  ·exact .inr (.inr (.inl h2))
  ·have:a1=b1:=by lia
   subst this
   by_cases h3:a2 < b2
   ·exact .inl (.inr ⟨rfl,h3⟩)
   ·by_cases h4:b2 < a2
    ·exact .inr (.inr (.inr ⟨rfl,h4⟩))
    ·have:a2=b2:=by lia
     subst this;exact .inr (.inl rfl)
theorem oh(a:Cell):¬ uO a a:=by unfold uO;lia
theorem yP{a b c:Cell}(h:uO a b)(h':uO b c):uO a c:=by unfold uO at *;lia
theorem t7{a b:Cell}(h:uO a b):¬ uO b a:=fun h'=>oh a (yP h h')
theorem bq.nodup{l:List Cell}(h:bq l):l.Nodup:=h.imp fun {a b} uy e=>by subst e;exact oh _ uy
def toC:D->Cell
 | .tup [.int a,.int b]=>(a,b)
 | _=>(0,0)
theorem toC_cD(c:Cell):toC (cD c)=c:=rfl
theorem Od{α:Type}[DecidableEq α]:∀{l:List α},l.Nodup->dd l=l
 | [],_=>rfl
 | x::l,h=>by
  rw[aH4] at h
  rw[dd,aC3 h.1,Od h.2]
theorem G5{l:List Cell}(h:l.Nodup):(l.map row).Nodup:=by
 rw[aI5] at h ⊢
 exact List.Pairwise.map row (fun a b uy e=>uy (LY e)) h
theorem M9{l:List Cell}(h:bq l):dm (l.map cD)=l.map cD:=by
 symm
 refine i7 (fun a ha b hb=>?_) (.refl _) ?_
 ·refine aM (aC5.mp ha) fun x _ aR=>?_
  walk_at"#"
  refine aM (aC5.mp hb) fun y _ aR=>?_
  walk_at"#"
  unfold cD;simp[fG,dS]
 ·refine List.Pairwise.map cD (fun a b uy=>?_) h
  rw[Jp,aE4 (t7 uy)];rfl
theorem Ma(l:List Cell):(l.map row).map qA=l.map cD:=by rw[aG9];rfl
theorem D5(l:List Cell)(hl:l.length<=50):∃m:List Cell,jO (aC l) = .ok (aC m)/\(l=m↔bq l):=by
 let ys:=dm ((dd (l.map row)).map qA)
 have hp:ys.Perm ((dd (l.map row)).map qA):=cG _
 have hy:∀y∈ys,∃c∈l,y=cD c:=fun y h=>by
  refine aM (aC5.mp (hp.mem_iff.mp h)) fun r hr aR=>?_
  walk_at"#"
  refine aM (aC5.mp (tV.mp hr)) fun c hc aR=>?_
  walk_at"#"
  exact⟨c,hc,rfl⟩
 have hm:ys=(ys.map toC).map cD:=by
  rw[aG9]
  conv=>lhs;rw[<- List.map_id ys]
  refine aI7 fun y h=>?_
  refine aM (hy y h) fun c _ aR=>?_
  walk_at"#"
  rfl
 refine⟨ys.map toC,?_,?_⟩
 ·unfold jO
  dsimp only
  rw[BB]
  dsimp only
  rw[aC2 (by rw[M8,Bool.true_and,aC8];exact aD6 hl)]
  show R.ok (D.lst ys)=_
  exact congrArg (fun z=>R.ok (D.lst z)) hm
 ·constructor
  ·intro e
   have Y6:ys=l.map cD:=by rw[hm,<- e]
   have Yj:ys.Nodup:=by
    refine hp.nodup_iff.mpr ?_
    have:=sD (l.map row)
    rw[aI5] at this ⊢
    refine List.Pairwise.map qA (fun a b uy e=>uy ?_) this
    unfold qA at e
    have e':a.map D.int=b.map D.int:=by injection e
    exact List.map_inj_right (fun x y h=>by injection h) |>.mp e'
   have Yk:=lV ((dd (l.map row)).map qA)
   change List.Pairwise _ ys at Yk
   rw[Y6] at Yj Yk
   rw[aI5] at Yj
   rw[List.pairwise_map] at Yj Yk
   refine(Yj.and Yk).imp fun {a b} jg=>?_
   obtain ⟨h1,h2⟩:=jg
   rw[Jp] at h2
   rcases Ei a b with h | h | h
   ·exact h
   ·subst h;exact absurd rfl h1
   ·rw[aD6 h] at h2;cases h2
  ·intro h
   have e1:dd (l.map row)=l.map row:=Od (G5 h.nodup)
   have e2:ys=l.map cD:=by
    show dm _=_
    rw[e1,Ma,M9 h]
   rw[e2,aG9]
   conv=>lhs;rw[<- List.map_id l]
   exact aI7 fun c _=>(toC_cD c).symm
end Dm
end WL
section QJ
namespace Dm
open L2 HT
theorem aY{F G:DS}{st st':dX}(h:F st = .nx st'):bD F G st=G st':=by simp[h]
theorem QK{F G:DS}{st:dX}{d:D}(h:F st = .rt d):bD F G st = .rt d:=by simp[h]
theorem QL{F G:DS}{st s:dX}{c:PySem.Addr}{p:Option Int}(h:F st = .ex c p s):bD F G st = .ex c p s:=by simp[h]
theorem dJ{f:DF}{st:dX}{i:Nat}{d:D}(h:f st = .ok d):bP i f st = .nx (st.set i (some d)):=by simp[h]
theorem iR{f:DF}{st:dX}{d:D}(h:f st = .ok d):gO f st = .rt d:=by simp[h]
theorem Ej{f:DF}{st:dX}{d:D}(h:f st = .ok d):yx f st = .nx st:=by simp[h]
theorem BC{fc:DF}{F G:DS}{st:dX}(h:fc st = .ok (.bl true)):Dm.eG fc F G st=F st:=by simp[h]
theorem v7{fc:DF}{F G:DS}{st:dX}(h:fc st = .ok (.bl false)):Dm.eG fc F G st=G st:=by simp[h]
theorem dQ{n:Nat}{F:DS}{ds:List D}{d:D}(st:dX)(h:F st = .rt d)(e:ds.map some++List.replicate (n - ds.length) none=st:=by rfl):bS n F ds = .ok d:=by
 subst e;unfold bS;rw[h]
theorem D6{g:List D->R D}{f1:DF}{st:dX}{a:D}{r:R D}(h1:f1 st = .ok a)(h:g [a]=r):br g (aa f1 au) st=r:=by simp[h1,h]
theorem Ek{g:List D->R D}{f1 f2:DF}{st:dX}{a b:D}{r:R D}(h1:f1 st = .ok a)(h2:f2 st = .ok b)(h:g [a,b]=r):br g (aa f1 (aa f2 au)) st=r:=by simp[h1,h2,h]
theorem XY{g:List D->R D}{f1 f2 f3:DF}{st:dX}{a b c:D}{r:R D}(h1:f1 st = .ok a)(h2:f2 st = .ok b)(h3:f3 st = .ok c)(h:g [a,b,c]=r):br g (aa f1 (aa f2 (aa f3 au))) st=r:=by simp[h1,h2,h3,h]
theorem j6{g:D->D->R D}{f1 f2:DF}{st:dX}{a b:D}{r:R D}(h1:f1 st = .ok a)(h2:f2 st = .ok b)(h:g a b=r):aQ g f1 f2 st=r:=by simp[h1,h2,h]
theorem WR{f:DF}{st:dX}{d:D}(h:f st = .ok d)(n:fR d=true):aZ f st = .ok d:=by simp[h,n]
theorem jf{f g:DF}{st:dX}{r:R D}(h:f st = .ok (.bl true))(h2:g st=r):ic f g st=r:=by simp[h,h2]
theorem x9{f g:DF}{st:dX}(h:f st = .ok (.bl false)):ic f g st = .ok (.bl false):=by simp[h]
theorem mH{α:Type}{bind:DB}{ft fe:DF}{f:α->D}{p:α->Bool}{g:α->D}{S:α->dX}{P:dX->Prop}:∀(xs:List α) (hS:∀x∈xs,P (S x)) (hb:∀x∈xs,∀st,P st->bind (f x) st=some (S x)) (ht:∀x∈xs,ft (S x) = .ok (.bl (p x))) (he:∀x∈xs,p x=true->fe (S x) = .ok (g x)) (st:dX),P st->ig bind ft fe (xs.map f) st = .ok ((xs.filter p).map g)
 | [],_,_,_,_,_,_=>rfl
 | x::xs,hS,hb,ht,he,st,h=>by
  have ih:=mH xs (fun y hy=>hS y (.tail _ hy)) (fun y hy=>hb y (.tail _ hy)) (fun y hy=>ht y (.tail _ hy)) (fun y hy=>he y (.tail _ hy)) (S x) (hS x (.head _))
  rw[aC1,ig,hb x (.head _) st h]
  dsimp only
  rw[ht x (.head _)]
  cases hp:p x with
  | true=>
   dsimp only
   rw[he x (.head _) hp,List.filter_cons_of_pos hp,aC1,ih]
  | false=>
   dsimp only
   rw[List.filter_cons_of_neg (by rw[hp];exact aF8),ih]
theorem t8{gi:DI}{k:Nat}{fr:List Nat}{bind:DB}{ft fe:DF}{st:dX}{ds es:List D}(h1:gi st = .ok ds)(hl:ds.length<=5000)(h2:ig bind ft fe ds (oR k fr st) = .ok es):jk gi k fr bind ft fe st = .ok (.lst es):=by
 unfold jk
 rw[h1]
 dsimp only
 rw[aC2 hl,h2]
theorem iS{α:Type}{bind:DB}{F:DS}{f:α->D}{Q:List α->dX->Prop}:∀(xs pre:List α) (st:dX),(∀p x r,pre++xs=p++x::r->∀st,Q p st->∃jh lR,bind (f x) st=some jh/\F jh = .nx lR/\Q (p++[x]) lR)->Q pre st->∃st',dY bind F (xs.map f) st = .nx st'/\Q (pre++xs) st'
 | [],pre,st,_,q=>⟨st,rfl,by simpa using q⟩
 | x::xs,pre,st,h,q=>by
  refine b6 (h pre x xs rfl st q) fun jh lR h1 h2 q2=>?_
  refine aM (iS xs (pre++[x]) lR (fun p y r e=>h p y r (by simpa using e)) q2) fun st' h3 q3=>?_
  refine⟨st',?_,by simpa using q3⟩
  rw[aC1,dY,h1]
  dsimp only
  rw[h2]
  exact h3
def Stop(o:Out):Prop:=match o with | .rt _=>True | .ex _ _ _=>True | _=>False
theorem El{α:Type}{bind:DB}{F:DS}{f:α->D}{Q:dX->Prop}{p:α->Prop}{S:Out->Prop}(hS:∀o,S o->Stop o):∀(xs:List α) (st:dX),(∀x∈xs,∀st,Q st->∃jh,bind (f x) st=some jh/\(p x->∃lR,F jh = .nx lR/\Q lR)/\(¬ p x->S (F jh)))->Q st->
  ((∀x∈xs,p x)->∃st',dY bind F (xs.map f) st = .nx st'/\Q st')/\(¬ (∀x∈xs,p x)->S (dY bind F (xs.map f) st))
 | [],st,_,q=>⟨fun _=>⟨st,rfl,q⟩,fun h=>absurd (fun x hx=>by cases hx) h⟩
 | x::xs,st,h,q=>by
  refine bM (h x (.head _) st q) fun jh h1 h2 h3=>?_
  rw[aC1,dY,h1]
  dsimp only
  by_cases hp:p x
  ·refine aM (h2 hp) fun lR e2 q2=>?_
   obtain ⟨i1,i2⟩:=El hS xs lR (fun y hy=>h y (.tail _ hy)) q2
   rw[e2]
   dsimp only
   refine⟨fun z=>i1 fun y hy=>z y (.tail _ hy),fun z=>i2 fun z'=>z fun y hy=>?_⟩
   rcases aC6.mp hy with rfl | hy
   ·exact hp
   ·exact z' y hy
  ·have s:=h3 hp
   refine⟨fun z=>absurd (z x (.head _)) hp,fun _=>?_⟩
   cases hf:F jh with
   | rt d=>rw[hf] at s;exact s
   | ex c p st=>rw[hf] at s;exact s
   | _=>rw[hf] at s;exact absurd (hS _ s) (by simp[Stop])
theorem Mb{α:Type}(f:α->D)(l:List α):VU (l.map f)=l.zipIdx.map fun p=>.tup [.int (p.2:Nat),f p.1]:=by
 unfold VU
 refine List.ext_getElem? fun i=>?_
 rw[List.getElem?_mapIdx,aE3,aE3,List.getElem?_zipIdx]
 cases l[i]? <;> simp
theorem vA{ds:List D}{n:Nat}{d:D}(h:ds[n]?=some d):cZ (.lst ds) (.int n) = .ok d:=by
 have hl:=(aD7.mp h).1
 have e:AG ds (n:Int)=some d:=by
  unfold AG K8
  rw[aC2 (Int.natCast_nonneg n),aC2 (by lia)]
  simpa using h
 unfold cZ
 dsimp only
 rw[e]
theorem xg(ds:List D)(m:Nat):cutD ds none (some (m:Int))=ds.take m:=by
 unfold cutD HT.yi
 simp only[List.drop_zero,Nat.sub_zero]
 rw[aC3 (by lia)]
 simp only[aI8]
 by_cases h:m<=ds.length
 ·rw[Nat.min_eq_left h]
 ·rw[Nat.min_eq_right (by lia),List.take_length,List.take_of_length_le (by lia)]
theorem Jq(ds:List D)(m:Nat):cutD ds (some (m:Int)) none=ds.drop m:=by
 unfold cutD HT.yi
 dsimp only
 rw[aC3 (by lia)]
 simp only[aI8]
 by_cases h:m<=ds.length
 ·rw[Nat.min_eq_left h,List.take_of_length_le (by simp)]
 ·rw[Nat.min_eq_right (by lia),List.drop_length,List.drop_of_length_le (by lia)];simp
theorem WS{f g:DF}{st:dX}{l:List Cell}{a:Nat}(h1:f st = .ok (aC l))(h2:g st = .ok (.int (a:Int))):Gn f none (some g) st = .ok (aC (l.take a)):=by
 simp[Gn,qH,h1,h2,xg]
theorem Mc{f g:DF}{st:dX}{l:List Cell}{a:Nat}(h1:f st = .ok (aC l))(h2:g st = .ok (.int (a:Int))):Gn f (some g) none st = .ok (aC (l.drop a)):=by
 simp[Gn,qH,h1,h2,Jq]
theorem D7{l m:List Cell}(h:l.length+m.length<=5000):zI (aC l) (aC m) = .ok (aC (l++m)):=by
 unfold zI
 dsimp only
 rw[aC2 (by simp;lia)]
 simp
theorem D8(a b:Cell):fG (cD a) (cD b)=true:=by unfold cD;simp[fG,dS]
theorem Jr(a:Cell):nl (cD a)=true:=by unfold cD;simp[nl,Cr]
theorem Js{l:List Cell}(h:l.length < 64):qJ (l.map cD)=true:=by
 unfold qJ
 simp only[aD4,Bool.or_eq_true,aG0,aI0,aC8]
 refine⟨⟨⟨⟨h,LZ l⟩,fun d hd=>?_⟩,fun a ha b hb=>?_⟩,.inl (.inr fun d hd=>?_)⟩
 ·refine aM (aC5.mp hd) fun c _ aR=>?_
  walk_at"#"
  exact⟨Jr c,by rw[Jm];decide⟩
 ·refine aM (aC5.mp ha) fun c _ aR=>?_
  walk_at"#"
  refine aM (aC5.mp hb) fun c' _ aR=>?_
  walk_at"#"
  exact D8 c c'
 ·refine aM (aC5.mp hd) fun c _ aR=>?_
  walk_at"#"
  rfl
theorem um{l m:List Cell}(hp:m.Perm l)(hs:m.Pairwise (fun a b=>¬ uO b a))(hn:l.Nodup):bq m:=by
 have yW:m.Nodup:=hp.nodup_iff.mpr hn
 rw[aI5] at yW
 refine(yW.and hs).imp fun {a b} jg=>?_
 obtain ⟨h1,h2⟩:=jg
 rcases Ei a b with h | h | h
 ·exact h
 ·exact absurd h h1
 ·exact absurd h h2
theorem D9{l m:List Cell}(hl:bq l)(hm:bq m)(h:∀c,c∈l↔c∈m):l=m:=by
 have hp:l.Perm m:=(List.perm_ext_iff_of_nodup hl.nodup hm.nodup).mpr h
 exact hp.eq_of_pairwise (fun a b _ _ h1 h2=>absurd h2 (t7 h1)) hl hm
@[simp] theorem Yl (l:List Cell):dc (.cu 0 (l.map cD)) = .ok (aC l):=by simp[dc]
@[simp] theorem WT (l:List Cell):jN [aC l] = .ok (aC l):=by simp[jN]
end Dm
end QJ
section QM
namespace Dm
open L2 HT
abbrev bY:=Cell×Cell
def lD(p:bY):D:=.tup [cD p.1,cD p.2]
abbrev eL(l:List bY):D:=.lst (l.map lD)
def mid(a b:Cell):Cell:=((a.1+b.1) / 2,(a.2+b.2) / 2)
def four(c:Cell):List Cell:=[(c.1 - 2,c.2),(c.1,c.2 - 2),(c.1,c.2+2),(c.1+2,c.2)]
def BU(cells:List Cell)(a:Cell):List Cell:=(four a).filter fun b=>decide (b∈cells)&&decide (mid a b∈cells)
def aW(cells:List Cell):List bY:=cells.flatMap fun a=>(BU cells a).map fun b=>(a,b)
theorem rE{cells:List Cell}{p:bY}:p∈aW cells↔p.1∈cells/\p.2∈four p.1/\p.2∈cells/\mid p.1 p.2∈cells:=by
 unfold aW BU
 simp only[List.mem_flatMap,aC5,List.mem_filter,aD4,aG0]
 constructor
 ·rintro ⟨a,h1,b,⟨h2,h3,h4⟩,rfl⟩;exact⟨h1,h2,h3,h4⟩
 ·rintro ⟨h1,h2,h3,h4⟩;exact⟨p.1,h1,p.2,⟨h2,h3,h4⟩,rfl⟩
@[simp] theorem Jt (p:bY):fR (lD p)=true:=by unfold lD;simp[fR,d9]
@[simp] theorem Me (l:List bY):d9 (l.map lD)=true:=fV fun d hd=>by obtain ⟨c,_,rfl⟩:=aC5.mp hd;exact Jt c
@[simp] theorem Mf (p:bY):flat (lD p)=true:=by unfold lD;simp[flat,bL]
@[simp] theorem WU (l:List bY):bL (l.map lD)=true:=gv fun d hd=>by obtain ⟨c,_,rfl⟩:=aC5.mp hd;exact Mf c
@[simp] theorem QN (p:bY):dep (lD p)=2:=by unfold lD;simp[dep,jm]
@[simp] theorem QO (a b:bY):gq (lD a) (lD b)=decide (a=b):=by
 obtain ⟨a1,a2⟩:=a;obtain ⟨b1,b2⟩:=b
 unfold lD
 simp only[gq,cY,Bool.and_true,D3]
 by_cases h:a1=b1 <;> by_cases h':a2=b2 <;> simp[h,h']
@[simp] theorem Mg:∀(a b:List bY),cY (a.map lD) (b.map lD)=decide (a=b)
 | [],[]=>by simp[cY]
 | [],_::_=>by simp[cY]
 | _::_,[]=>by simp[cY]
 | x::a,y::b=>by
  rw[aC1,aC1,cY,QO,Mg a b]
  by_cases h:x=y <;> by_cases h':a=b <;> simp[h,h']
@[simp] theorem lx0 (p:bY):cZ (lD p) (.int 0) = .ok (cD p.1):=rfl
@[simp] theorem lx1 (p:bY):cZ (lD p) (.int 1) = .ok (cD p.2):=rfl
def Oe(p q:bY):Prop:=uO p.1 q.1\/(p.1=q.1/\uO p.2 q.2)
theorem Of(p:bY):fl (lD p)=row p.1++row p.2:=by unfold lD;simp[fl,j4,Jo]
theorem Ju(a b:Cell)(u v:List Int):lexLt (row a++u) (row b++v)=if a=b then lexLt u v else decide (uO a b):=by
 obtain ⟨a1,a2⟩:=a;obtain ⟨b1,b2⟩:=b
 unfold row uO
 simp only[List.cons_append,aE7]
 rw[cj]
 by_cases h2:a1=b1
 ·subst h2
  rw[aC2 rfl,cj]
  by_cases h3:a2=b2
  ·subst h3;rw[aC2 rfl,aC2 rfl]
  ·rw[aC3 h3,aC3 (by simpa using h3)];simp
 ·rw[aC3 h2,aC3 (by simp[h2])];simp[h2]
theorem WV(p q:bY):rH (fl (lD p)) (fl (lD q))=true↔¬ Oe q p:=by
 rw[Of,Of]
 unfold rH Oe
 rw[Ju]
 by_cases h:q.1=p.1
 ·rw[aC2 h,WQ]
  have:=oh p.1
  rw[h]
  simp[this]
 ·rw[aC3 h];simp[h]
theorem BD{p q:bY}(h:Oe p q):¬ Oe q p:=by
 unfold Oe at *
 rintro (h' | ⟨e,h'⟩)
 ·rcases h with h | ⟨e,h⟩
  ·exact t7 h h'
  ·rw[e] at h';exact oh _ h'
 ·rcases h with h | ⟨e',h⟩
  ·rw[e] at h;exact oh _ h
  ·exact t7 h h'
theorem Jv(a b:bY):fG (lD a) (lD b)=true:=by unfold lD;simp[fG,dS,D8]
theorem WW(a:bY):nl (lD a)=true:=by unfold lD;simp[nl,Cr,Jr]
theorem Mh{l:List bY}(h:l.Pairwise Oe):dm (l.map lD)=l.map lD:=by
 symm
 refine i7 (fun a ha b hb=>?_) (.refl _) ?_
 ·refine aM (aC5.mp ha) fun x _ aR=>?_
  walk_at"#"
  refine aM (aC5.mp hb) fun y _ aR=>?_
  walk_at"#"
  exact Jv x y
 ·refine List.Pairwise.map lD (fun a b uy=>?_) h
  rw[WV];exact BD uy
theorem Jw{l:List bY}(h:l.length < 64):qJ (l.map lD)=true:=by
 unfold qJ
 simp only[aD4,Bool.or_eq_true,aG0,aI0,aC8]
 refine⟨⟨⟨⟨h,Me l⟩,fun d hd=>?_⟩,fun a ha b hb=>?_⟩,.inr fun d hd=>?_⟩
 ·refine aM (aC5.mp hd) fun c _ aR=>?_
  walk_at"#"
  exact⟨WW c,by rw[QN];decide⟩
 ·refine aM (aC5.mp ha) fun c _ aR=>?_
  walk_at"#"
  refine aM (aC5.mp hb) fun c' _ aR=>?_
  walk_at"#"
  exact Jv c c'
 ·refine aM (aC5.mp hd) fun c _ aR=>?_
  walk_at"#"
  rfl
theorem Jx{l:List bY}(h:l.Pairwise Oe)(hl:l.length < 64):eW [eL l] = .ok (eL l):=by
 unfold eW
 dsimp only
 rw[aC2 (Jw hl),Mh h]
theorem uP(a:Cell):bq (four a):=by
 unfold four bq uO
 walk_at"U"
 refine⟨?_,?_,?_,?_⟩ <;> intro b hb
 ·rcases hb with rfl | rfl | rfl <;> first | (simp;done) | (simp;lia)
 ·rcases hb with rfl | rfl <;> first | (simp;done) | (simp;lia)
 ·obtain rfl:=hb;first | (simp;done) | (simp;lia)
 ·exact hb.elim
theorem BE{cells:List Cell}(up:bq cells):(aW cells).Pairwise Oe:=by
 unfold aW
 rw[List.pairwise_flatMap]
 refine⟨fun a _=>?_,up.imp fun {a b} uy x hx y hy=>?_⟩
 ·refine List.Pairwise.map (R:=uO) _ (fun x y h=>.inr ⟨rfl,h⟩) ?_
  exact(uP a).sublist List.filter_sublist
 ·refine aM (aC5.mp hx) fun _ _ aR=>?_
  walk_at"#"
  refine aM (aC5.mp hy) fun _ _ aR=>?_
  walk_at"#"
  exact .inl uy
theorem BF{cells:List Cell}(up:bq cells):(aW cells).Nodup:=(BE up).imp fun {a b} h e=>by subst e;exact BD h h
theorem yQ{α:Type}[DecidableEq α]:∀{l m:List α},l.Nodup->(∀x∈l,x∈m)->l.length<=m.length
 | [],_,_,_=>aI2 _
 | x::l,m,hn,h=>by
  rw[aH4] at hn
  have hx:=h x (.head _)
  have ih:=yQ (m:=m.erase x) hn.2 fun y hy=>(List.mem_erase_of_ne (fun e=>hn.1 (by rw[<- e];exact hy))).mpr (h y (.tail _ hy))
  have:=List.length_erase_of_mem hx
  have:=List.length_pos_of_mem hx
  rw[aD1];lia
def xh(h w:Nat):List Cell:=(List.range (h * w)).map fun k=>(((k / w:Nat):Int),((k % w:Nat):Int))
theorem Jy{h w:Nat}{c:Cell}(h1:0<=c.1)(h2:c.1 < h)(h3:0<=c.2)(h4:c.2 < w):c∈xh h w:=by
 obtain ⟨a,ha⟩:=Int.eq_ofNat_of_zero_le h1
 obtain ⟨b,hb⟩:=Int.eq_ofNat_of_zero_le h3
 have qi:b < w:=by lia
 have Ke:a < h:=by lia
 have hw:0 < w:=by lia
 have e1:(a * w+b) / w=a:=by rw[Nat.add_comm,Nat.add_mul_div_right _ _ hw,Nat.div_eq_of_lt qi];lia
 have e2:(a * w+b) % w=b:=by rw[Nat.add_comm,Nat.add_mul_mod_self_right,Nat.mod_eq_of_lt qi]
 refine aC5.mpr ⟨a * w+b,List.mem_range.mpr ?_,?_⟩
 ·calc a * w+b < a * w+w:=by lia
   _=(a+1) * w:=by rw[Nat.succ_mul]
   _<=h * w:=Nat.mul_le_mul_right w Ke
 ·show ((((a * w+b) / w:Nat):Int),(((a * w+b) % w:Nat):Int))=c
  rw[e1,e2]
  exact Prod.ext ha.symm hb.symm
def Box(l:List Cell)(h w:Nat):Prop:=∃dn ac:Int,∀c∈l,dn<=c.1/\c.1 < dn+h/\ac<=c.2/\c.2 < ac+w
theorem Mi(a b:Cell)(x y:Int)(h:b∈four a):(b.1 - x,b.2 - y)∈four (a.1 - x,a.2 - y):=by
 unfold four at *
 simp only[aC6,aF1,or_false] at *
 rcases h with rfl | rfl | rfl | rfl
 ·exact .inl (Prod.ext (by simp only;lia) rfl)
 ·exact .inr (.inl (Prod.ext rfl (by simp only;lia)))
 ·exact .inr (.inr (.inl (Prod.ext rfl (by simp only;lia))))
 ·exact .inr (.inr (.inr (Prod.ext (by simp only;lia) rfl)))
theorem G6{l:List Cell}{h w:Nat}(up:bq l)(b:Box l h w):(aW l).length<=(aW (xh h w)).length:=by
 refine qS b fun dn ac hb=>?_
 clear b
 have key:∀c∈l,(c.1 - dn,c.2 - ac)∈xh h w:=fun c hc=>by
  refine BV (hb c hc) fun h1 h2 h3 h4=>?_
  exact Jy (by simp only;lia) (by simp only;lia) (by simp only;lia) (by simp only;lia)
 have:=yQ (l:=(aW l).map fun p=>(((p.1.1 - dn,p.1.2 - ac),(p.2.1 - dn,p.2.2 - ac)):bY)) (m:=aW (xh h w)) (by
  have hn:=BF up
  rw[aI5] at hn ⊢
  refine List.Pairwise.map _ (fun p q V7 e=>V7 ?_) hn
  simp only[Prod.mk.injEq] at e
  refine vD e fun Uv e3 e4=>?_
  clear e
  obtain ⟨e1,e2⟩:=Uv
  exact Prod.ext (Prod.ext (by lia) (by lia)) (Prod.ext (by lia) (by lia))) (fun p hp=>by
  refine aM (aC5.mp hp) fun q hq aR=>?_
  walk_at"#"
  refine BV (rE.mp hq) fun h1 h2 h3 h4=>?_
  refine rE.mpr ⟨key _ h1,Mi _ _ _ _ h2,key _ h3,?_⟩
  have e:mid (q.1.1 - dn,q.1.2 - ac) (q.2.1 - dn,q.2.2 - ac)=((mid q.1 q.2).1 - dn,(mid q.1 q.2).2 - ac):=by
   unfold mid
   exact Prod.ext (by simp only;lia) (by simp only;lia)
  show mid (q.1.1 - dn,q.1.2 - ac) (q.2.1 - dn,q.2.2 - ac)∈xh h w
  rw[e];exact key _ h4)
 rwa [aC8] at this
def small(h w:Nat):Prop:=(h<=4/\w<=6)\/(h<=3/\w=8)\/(h=8/\w<=3)
theorem xj:(∀h,h<=4->∀w,w<=6->(aW (xh h w)).length<=56)/\(∀h,h<=3->(aW (xh h 8)).length<=56)/\(∀w,w<=3->(aW (xh 8 w)).length<=56):=by
 refine⟨fun h hh w hw=>?_,fun h hh=>?_,fun w hw=>?_⟩
 ·have a:∀h:Fin 5,∀w:Fin 7,(aW (xh h.1 w.1)).length<=56:=by decide +kernel
  exact a ⟨h,by lia⟩ ⟨w,by lia⟩
 ·have a:∀h:Fin 4,(aW (xh h.1 8)).length<=56:=by decide +kernel
  exact a ⟨h,by lia⟩
 ·have a:∀w:Fin 4,(aW (xh 8 w.1)).length<=56:=by decide +kernel
  exact a ⟨w,by lia⟩
theorem G7{l:List Cell}{h w:Nat}(up:bq l)(b:Box l h w)(s:small h w):(aW l).length<=56:=by
 refine aD5 (G6 up b) ?_
 rcases s with ⟨h1,h2⟩ | ⟨h1,rfl⟩ | ⟨rfl,h2⟩
 ·exact xj.1 h h1 w h2
 ·exact xj.2.1 h h1
 ·exact xj.2.2 w h2
theorem Jz(x y:Int):∃u v:Int,eW [.lst [.int x,.int y]] = .ok (.lst [.int u,.int v])/\((u=0/\v=2)↔(x=0/\y=2\/x=2/\y=0)):=by
 have hb:qJ [.int x,.int y]=true:=by
  unfold qJ;simp[d9,nl,dep,fG,isI]
 have g:eW [.lst [.int x,.int y]] = .ok (.lst (dm [.int x,.int y])):=by
  unfold eW;dsimp only;rw[if_pos hb]
 have fi:∀i:Int,fl (.int i)=[i]:=fun i=>by simp[fl]
 have le:∀i j:Int,i<=j->rH (fl (.int i)) (fl (.int j))=true:=fun i j h=>by
  rw[fi,fi];unfold rH;rw[zq];simp;lia
 by_cases h:x<=y
 ·refine⟨x,y,?_,by lia⟩
  rw[g]
  congr 2
  symm
  refine i7 (fun a ha b hb=>?_) (.refl _) ?_
  ·simp only[aC6,aF1,or_false] at ha hb
   rcases ha with rfl | rfl <;> rcases hb with rfl | rfl <;> simp[fG]
  ·walk_at"U"
   exact⟨fun b hb=>by subst hb;exact le _ _ h,fun b hb=>hb.elim⟩
 ·refine⟨y,x,?_,by lia⟩
  rw[g]
  congr 2
  symm
  refine i7 (fun a ha b hb=>?_) (.swap _ _ _) ?_
  ·simp only[aC6,aF1,or_false] at ha hb
   rcases ha with rfl | rfl <;> rcases hb with rfl | rfl <;> simp[fG]
  ·walk_at"U"
   exact⟨fun b hb=>by subst hb;exact le _ _ (by lia),fun b hb=>hb.elim⟩
def JA(i:Int):Int:=if i < 0 then -i else i
def ap(a b:Cell):Bool:=(decide (JA (a.1 - b.1)=0)&&decide (JA (a.2 - b.2)=2)) || (decide (JA (a.1 - b.1)=2)&&decide (JA (a.2 - b.2)=0))
theorem ax7{i:Int}:JA i=0↔i=0:=by unfold JA;split <;> lia
theorem ax8{i:Int}:JA i=2↔i=2\/i = -2:=by unfold JA;split <;> lia
theorem Mj(a b:Cell):ap a b=true↔b∈four a:=by
 unfold ap four
 obtain ⟨a1,a2⟩:=a;obtain ⟨b1,b2⟩:=b
 simp only[Bool.or_eq_true,aD4,aG0,aC6,aF1,or_false,Prod.mk.injEq,ax7,ax8]
 constructor
 ·rintro (⟨h1,h2 | h2⟩ | ⟨h1 | h1,h2⟩)
  ·exact .inr (.inl (by lia))
  ·exact .inr (.inr (.inl (by lia)))
  ·exact .inl (by lia)
  ·exact .inr (.inr (.inr (by lia)))
 ·rintro (⟨h1,h2⟩ | ⟨h1,h2⟩ | ⟨h1,h2⟩ | ⟨h1,h2⟩)
  ·exact .inr ⟨.inl (by lia),by lia⟩
  ·exact .inl ⟨by lia,.inl (by lia)⟩
  ·exact .inl ⟨by lia,.inr (by lia)⟩
  ·exact .inr ⟨.inr (by lia),by lia⟩
theorem Ml{cells:List Cell}(up:bq cells)(a:Cell):(cells.filter fun b=>ap a b&&decide (mid a b∈cells))=BU cells a:=by
 unfold BU
 refine D9 (up.sublist List.filter_sublist) ((uP a).sublist List.filter_sublist) fun b=>?_
 simp only[List.mem_filter,aD4,aG0,Mj]
 constructor
 ·rintro ⟨h1,h2,h3⟩;exact⟨h2,h1,h3⟩
 ·rintro ⟨h1,h2,h3⟩;exact⟨h2,h1,h3⟩
def qc(aq:List Cell)(p:bY):Bool:=decide (p.1∈aq)&&(!decide (p.2∈aq)&&decide (mid p.1 p.2∈aq))
def xm(cells aq:List Cell):List bY:=(aW cells).filter (qc aq)
end Dm
end QM
section QS
namespace Pk
open L2 Dm
variable (t:kE)
theorem BG{l:List Cell}(hl:l.length<=50):(bq l->cM t [aC l] = .ok (.bl true))/\(¬ bq l->cM t [aC l] = .ok (.bl false)):=by
 obtain ⟨m,h1,h2⟩:=D5 l hl
 constructor
 ·intro h
  have e:=h2.mpr h
  subst e
  simp[cM,bS,h1,D4]
 ·intro h
  have:¬ l=m:=fun z=>h (h2.mp z)
  simp[cM,bS,h1,D4,this]
def inR(c:Cell):Prop:=0<=c.1/\c.1<=7/\0<=c.2/\c.2<=7
instance (c:Cell):Decidable (inR c):=inferInstanceAs (Decidable (_/\_))
@[simp] theorem ix0 (c:Cell):cZ (cD c) (.int 0) = .ok (.int c.1):=rfl
@[simp] theorem ix1 (c:Cell):cZ (cD c) (.int 1) = .ok (.int c.2):=rfl
theorem QT(c:Cell):jB t [cD c] = .ok (.bl (decide (inR c))):=by
 unfold inR
 by_cases h1:0<=c.1 <;> by_cases h2:c.1<=7 <;> by_cases h3:0<=c.2 <;> by_cases h4:c.2<=7 <;> simp[jB,bS,h1,h2,h3,h4]
def Valid(l:List Cell):Prop:=(1<=l.length/\l.length<=24)/\bq l/\∀c∈l,inR c
theorem xo{F:DS}(hF:∀(x:D) (c:Cell),F [some x,some (cD c)]=if inR c then .nx [some x,some (cD c)] else .ex t.dI none [some x,some (cD c)])(x:D):∀(l:List Cell) (y:Option D),((∀c∈l,inR c)->∃y',dY (bW 1) F (l.map cD) [some x,y] = .nx [some x,y'])/\(¬ (∀c∈l,inR c)->∃s,dY (bW 1) F (l.map cD) [some x,y] = .ex t.dI none s)
 | [],y=>⟨fun _=>⟨y,rfl⟩,fun h=>absurd (fun c hc=>by cases hc) h⟩
 | c::l,y=>by
  obtain ⟨i1,i2⟩:=xo hF x l (some (cD c))
  have e:bW 1 (cD c) [some x,y]=some [some x,some (cD c)]:=rfl
  by_cases hc:inR c
  ·constructor
   ·intro h
    obtain ⟨y',h'⟩:=i1 fun d hd=>h d (.tail _ hd)
    refine⟨y',?_⟩
    rw[aC1,dY,e]
    dsimp only
    rw[hF,aC2 hc]
    exact h'
   ·intro h
    obtain ⟨s,h'⟩:=i2 fun z=>h fun d hd=>by
     rcases aC6.mp hd with rfl | hd
     ·exact hc
     ·exact z d hd
    refine⟨s,?_⟩
    rw[aC1,dY,e]
    dsimp only
    rw[hF,aC2 hc]
    exact h'
  ·constructor
   ·intro h;exact absurd (h c (.head _)) hc
   ·intro h
    refine⟨[some x,some (cD c)],?_⟩
    rw[aC1,dY,e]
    dsimp only
    rw[hF,aC3 hc]
theorem Mm{l:List Cell}(hl:l.length<=50):(Valid l->bJ t [aC l] = .ok .cF)/\(¬ Valid l->bJ t [aC l] = .ex t.dI none):=by
 have hF:∀(x:D) (c:Cell),Dm.eG (tP (br (jB t) (aa (ak 1) au))) (gM t.dI) cC [some x,some (cD c)]=if inR c then .nx [some x,some (cD c)] else .ex t.dI none [some x,some (cD c)]:=fun x c=>by
  by_cases h:inR c <;> simp[QT,h]
 obtain ⟨i1,i2⟩:=xo t hF (aC l) l none
 obtain ⟨r1,r2⟩:=BG t hl
 have c1:((l.map cD).length:Int)=l.length:=by simp
 by_cases h0:1<=l.length
 ·by_cases h1:l.length<=24
  ·by_cases h2:bq l
   ·by_cases h3:∀c∈l,inR c
    ·obtain ⟨y,h4⟩:=i1 h3
     refine⟨fun _=>?_,fun h=>absurd ⟨⟨h0,h1⟩,h2,h3⟩ h⟩
     have a1:(1:Int)<=l.length:=by lia
     have a2:(l.length:Int)<=24:=by lia
     simp[bJ,bS,a1,a2,r1 h2,h4]
    ·obtain ⟨y,h4⟩:=i2 h3
     refine⟨fun h=>absurd h.2.2 h3,fun _=>?_⟩
     have a1:(1:Int)<=l.length:=by lia
     have a2:(l.length:Int)<=24:=by lia
     simp[bJ,bS,a1,a2,r1 h2,h4]
   ·refine⟨fun h=>absurd h.2.1 h2,fun _=>?_⟩
    have a1:(1:Int)<=l.length:=by lia
    have a2:(l.length:Int)<=24:=by lia
    simp[bJ,bS,a1,a2,r2 h2]
  ·refine⟨fun h=>absurd h.1.2 h1,fun _=>?_⟩
   have a1:(1:Int)<=l.length:=by lia
   have a2:¬ (l.length:Int)<=24:=by lia
   simp[bJ,bS,a1,a2]
 ·refine⟨fun h=>absurd h.1.1 h0,fun _=>?_⟩
  have a1:¬ (1:Int)<=l.length:=by lia
  simp[bJ,bS,a1]
def JB(ns:List Int)(n:Nat):Int:=(ns[n]?).getD 0
abbrev iL(ns:List Int):D:=.lst (ns.map D.int)
theorem JC(ns:List Int)(n:Nat):aN t [iL ns,.int n] = .ok (.int (JB ns n)):=by
 unfold JB
 by_cases h:n < ns.length
 ·have e:cZ (iL ns) (.int n) = .ok (.int ((ns[n]?).getD 0)):=vA (by rw[aE3,aD2 h];simp)
  have h':(n:Int) < ns.length:=by lia
  simp[aN,bS,h',e]
 ·have h':¬ (n:Int) < ns.length:=by lia
  rw[List.getElem?_eq_none (Nat.le_of_not_lt h)]
  simp[aN,bS,h']
abbrev Mn:List Int:=[48271,69621,16807,39373,30269,40014,40692,50021,61687,71993,83869,95561,30307]
theorem QU(k:Int):∃v:Int,0<=v/\v<=95561/\cZ (.lst [.int 48271,.int 69621,.int 16807,.int 39373,.int 30269,.int 40014,.int 40692,.int 50021,.int 61687,.int 71993,.int 83869,.int 95561,.int 30307]) (.int (k % 13)) = .ok (.int v):=by
 obtain ⟨n,hn,e⟩:∃n:Nat,n < Mn.length/\k % 13=n:=⟨(k % 13).toNat,by show _ < 13;lia,by lia⟩
 rw[e]
 have hL:∀x∈Mn,0<=x/\x<=95561:=by decide
 exact⟨Mn[n],(hL _ (List.getElem_mem hn)).1,(hL _ (List.getElem_mem hn)).2,vA (ds:=Mn.map D.int) (by rw[aE3,aD2 hn];rfl)⟩
theorem qR(c k m:Int)(hm:0 < m):∃r:Int,0<=r/\r < m/\aP t [.int c,.int k,.int m] = .ok (.int r):=by
 obtain ⟨v,v0,v1,hv⟩:=QU k
 have e1:gU (.int c) (.int 2147483647) = .ok (.int (c % 2147483647)):=q9 (by decide)
 have e2:gU (.int k) (.int 13) = .ok (.int (k % 13)):=q9 (by decide)
 have e3:m7 (.int k) (.int 13) = .ok (.int (k / 13)):=yO (by decide) (by decide)
 have b0:0<=c % 2147483647+12345:=by lia
 have b1:c % 2147483647+12345<=2147495991:=by lia
 have b2:0<=(c % 2147483647+12345) * v:=Int.mul_nonneg b0 v0
 have b3:(c % 2147483647+12345) * v<=2147495991 * 95561:=Int.mul_le_mul b1 v1 v0 (by decide)
 have e4:su (.int (c % 2147483647+12345)) (.int v) = .ok (.int ((c % 2147483647+12345) * v)):=x8 (by constructor <;> lia)
 have e5:su (.int 2) (.int (k / 13)) = .ok (.int (2 * (k / 13))):=x8 (by decide)
 have e6:su (.int ((c % 2147483647+12345) * v)) (.int (2 * (k / 13)+1)) = .ok (.int ((c % 2147483647+12345) * v * (2 * (k / 13)+1))):=x8 (by constructor <;> lia)
 have e7:su (.int 977) (.int k) = .ok (.int (977 * k)):=x8 (by decide)
 have e8:∀x:Int,gU (.int x) (.int 1000000007) = .ok (.int (x % 1000000007)):=fun x=>q9 (by decide)
 have e9:∀x:Int,m7 (.int x) (.int 7) = .ok (.int (x / 7)):=fun x=>yO (by decide) (by decide)
 have e10:∀x:Int,gU (.int x) (.int m) = .ok (.int (x % m)):=fun x=>q9 hm
 refine⟨(((c % 2147483647+12345) * v * (2 * (k / 13)+1)+977 * k) % 1000000007 / 7) % m,Int.emod_nonneg _ (by lia),Int.emod_lt_of_pos _ hm,?_⟩
 simp[aP,bS,e1,e2,e3,hv,e4,e5,e6,e7,e8,e9,e10]
def pk(c:Int)(k:Nat):Bool:=match aP t [.int c,.int k,.int 7] with | .ok (.int r)=>decide (0 < r) | _=>false
def uo(dn ac w:Int)(k:Nat):Cell:=(dn+k / w,ac+k % w)
abbrev Em:DS:=Dm.eG (aQ Qc (br (aP t) (aa (br (aN t) (aa (ak 0) (aa (dC (.int 1)) au))) (aa (ak 8) (aa (dC (.int 7)) au)))) (dC (.int 0)))
 (jt 7 (bX 100 (aa (aQ eO (ak 5) (aQ m7 (ak 8) (ak 4))) (aa (aQ eO (ak 6) (aQ gU (ak 8) (ak 4))) au))))
 cC
theorem rF(ns:List Int)(most c h w dn ac:Int)(hw:0 < w)(hw2:w < 100):∀(ks:List Nat) (acc:List Cell) (y:Option D),acc.length+ks.length<=5000->
  ∃y',dY (bW 8) (Em t) (ks.map fun i=>.int (i:Nat)) [some (iL ns),some (.int most),some (.int c),some (.int h),some (.int w),some (.int dn),some (.int ac),some (aC acc),y]=
   .nx [some (iL ns),some (.int most),some (.int c),some (.int h),some (.int w),some (.int dn),some (.int ac),some (aC (acc++(ks.filter (pk t (JB ns 1))).map (uo dn ac w))),y']
 | [],acc,y,_=>⟨y,by simp[dY]⟩
 | k::ks,acc,y,hl=>by
  obtain ⟨r,r0,r1,hr⟩:=qR t (JB ns 1) k 7 (by decide)
  have RY:=JC t ns 1
  have hp:pk t (JB ns 1) k=decide (0 < r):=by unfold pk;rw[hr]
  have e1:m7 (.int (k:Int)) (.int w) = .ok (.int ((k:Int) / w)):=yO hw (by lia)
  have e2:gU (.int (k:Int)) (.int w) = .ok (.int ((k:Int) % w)):=q9 hw
  have hb:bW 8 (.int (k:Int)) [some (iL ns),some (.int most),some (.int c),some (.int h),some (.int w),some (.int dn),some (.int ac),some (aC acc),y]=some [some (iL ns),some (.int most),some (.int c),some (.int h),some (.int w),some (.int dn),some (.int ac),some (aC acc),some (.int (k:Int))]:=rfl
  rw[aD1] at hl
  rw[aC1,dY,hb]
  dsimp only
  by_cases hc:0 < r
  ·have hF:Em t [some (iL ns),some (.int most),some (.int c),some (.int h),some (.int w),some (.int dn),some (.int ac),some (aC acc),some (.int (k:Int))] = .nx [some (iL ns),some (.int most),some (.int c),some (.int h),some (.int w),some (.int dn),some (.int ac),some (aC (acc++[uo dn ac w k])),some (.int (k:Int))]:=by
    have CG:acc.length<=5000:=by lia
    have QV:aN t [iL ns,.int 1] = .ok (.int (JB ns 1)):=RY
    have Ip:aP t [.int (JB ns 1),.int (k:Int),.int 7] = .ok (.int r):=hr
    simp[QV,Ip,hc,jt,e1,e2,uo,cD,CG]
   rw[hF]
   dsimp only
   obtain ⟨y',ih⟩:=rF ns most c h w dn ac hw hw2 ks (acc++[uo dn ac w k]) (some (.int (k:Int))) (by simp;lia)
   refine⟨y',ih.trans ?_⟩
   rw[List.filter_cons_of_pos (by rw[hp];exact aD6 hc),aC1,aF3]
   rfl
  ·have hF:Em t [some (iL ns),some (.int most),some (.int c),some (.int h),some (.int w),some (.int dn),some (.int ac),some (aC acc),some (.int (k:Int))] = .nx [some (iL ns),some (.int most),some (.int c),some (.int h),some (.int w),some (.int dn),some (.int ac),some (aC acc),some (.int (k:Int))]:=by
    have QV:aN t [iL ns,.int 1] = .ok (.int (JB ns 1)):=RY
    have Ip:aP t [.int (JB ns 1),.int (k:Int),.int 7] = .ok (.int r):=hr
    simp[QV,Ip,hc]
   rw[hF]
   dsimp only
   obtain ⟨y',ih⟩:=rF ns most c h w dn ac hw hw2 ks acc (some (.int (k:Int))) (by lia)
   refine⟨y',ih.trans ?_⟩
   rw[List.filter_cons_of_neg (by rw[hp,aE4 hc];decide)]
theorem Mp{dn ac w:Int}(hw:0 < w){j k:Nat}(h:j < k):uO (uo dn ac w j) (uo dn ac w k):=by
 unfold uO uo
 dsimp only
 have h1:(j:Int) / w<=(k:Int) / w:=Int.ediv_le_ediv hw (by lia)
 rcases Int.lt_or_eq_of_le h1 with h2 | h2
 ·exact .inl (by lia)
 ·refine .inr ⟨by lia,?_⟩
  have e1:=Int.mul_ediv_add_emod (j:Int) w
  have e2:=Int.mul_ediv_add_emod (k:Int) w
  rw[h2] at e1
  lia
theorem Mq{dn ac w h:Int}(hw:0 < w)(hh:0 < h)(d0:0<=dn)(d1:dn<=8 - h)(a0:0<=ac)(a1:ac<=8 - w){k:Nat}(hk:(k:Int) < h * w):inR (uo dn ac w k):=by
 unfold inR uo
 dsimp only
 have h1:0<=(k:Int) / w:=Int.ediv_nonneg (by lia) (by lia)
 have h2:(k:Int) / w < h:=Int.ediv_lt_of_lt_mul hw hk
 have h3:0<=(k:Int) % w:=Int.emod_nonneg _ (by lia)
 have h4:(k:Int) % w < w:=Int.emod_lt_of_pos _ hw
 lia
theorem Ae{dn ac w:Int}(hw:0 < w)(p:Nat->Bool)(n:Nat):bq (((List.range n).filter p).map (uo dn ac w)):=by
 unfold bq
 refine List.Pairwise.map (R:=fun a b=>a < b) (uo dn ac w) (fun a b h=>Mp hw h) ?_
 exact List.Pairwise.sublist List.filter_sublist List.pairwise_lt_range
structure Drawn(l:List Cell)(most:Nat):Prop where
 pos:1<=l.length
 le:l.length<=most
 up:bq l
 inr:∀c∈l,inR c
 box:∃h w,Box l h w/\small h w
theorem Mr(ns:List Int)(most:Nat)(hm:1<=most):∃l,cU t [iL ns,.int most] = .ok (aC l)/\Drawn l most:=by
 obtain ⟨c,RY⟩:∃c:Int,aN t [iL ns,.int 0] = .ok (.int c):=⟨_,JC t ns 0⟩
 obtain ⟨r1,p1,q1,h1⟩:=qR t c 1 4 (by decide)
 obtain ⟨r2,p2,q2,h2⟩:=qR t c 2 6 (by decide)
 have e4:gU (.int c) (.int 4) = .ok (.int (c % 4)):=q9 (by decide)
 obtain ⟨h,w,a1,a2,b1,b2,hw,sm,e3⟩:∃h w:Int,1<=h/\h<=8/\1<=w/\w<=8/\h * w<=64/\((h<=4/\w<=6)\/(h<=3/\w=8)\/(h=8/\w<=3))/\Dm.eG (aQ (lO false) (aQ gU (ak 2) (dC (.int 4))) (dC (.int 1)))
   (yC (iK 3 4) (aZ (aQ cZ (cB 100 (aa (bX 100 (aa (aQ eO (dC (.int 1)) (aQ gU (ak 3) (dC (.int 3)))) (aa (dC (.int 8)) au))) (aa (bX 100 (aa (dC (.int 8)) (aa (aQ eO (dC (.int 1)) (aQ gU (ak 4) (dC (.int 3)))) au))) au))) (aQ gU (aQ m7 (ak 2) (dC (.int 4))) (dC (.int 2))))))
   cC [some (iL ns),some (.int most),some (.int c),some (.int (1+r1)),some (.int (1+r2)),none,none,none,none] = .nx [some (iL ns),some (.int most),some (.int c),some (.int h),some (.int w),none,none,none,none]:=by
  by_cases hc:c % 4=1
  ·have m1:gU (.int (1+r1)) (.int 3) = .ok (.int ((1+r1) % 3)):=q9 (by decide)
   have m2:gU (.int (1+r2)) (.int 3) = .ok (.int ((1+r2) % 3)):=q9 (by decide)
   have m3:m7 (.int c) (.int 4) = .ok (.int (c / 4)):=yO (by decide) (by decide)
   have m4:gU (.int (c / 4)) (.int 2) = .ok (.int (c / 4 % 2)):=q9 (by decide)
   have hz:c / 4 % 2=0\/c / 4 % 2=1:=by lia
   rcases hz with hz | hz
   ·refine⟨1+(1+r1) % 3,8,by lia,by lia,by lia,by lia,by lia,by lia,?_⟩
    have ix:cZ (.lst [.tup [.int (1+(1+r1) % 3),.int 8],.tup [.int 8,.int (1+(1+r2) % 3)]]) (.int 0) = .ok (.tup [.int (1+(1+r1) % 3),.int 8]):=rfl
    simp[e4,nZ,hc,m1,m2,m3,m4,hz,ix,yC,fR,d9,iK]
   ·refine⟨8,1+(1+r2) % 3,by lia,by lia,by lia,by lia,by lia,by lia,?_⟩
    have ix:cZ (.lst [.tup [.int (1+(1+r1) % 3),.int 8],.tup [.int 8,.int (1+(1+r2) % 3)]]) (.int 1) = .ok (.tup [.int 8,.int (1+(1+r2) % 3)]):=rfl
    simp[e4,nZ,hc,m1,m2,m3,m4,hz,ix,yC,fR,d9,iK]
  ·have hb:(1+r1) * (1+r2)<=4 * 6:=Int.mul_le_mul (by lia) (by lia) (by lia) (by lia)
   refine⟨1+r1,1+r2,by lia,by lia,by lia,by lia,by lia,by lia,?_⟩
   simp[e4,nZ,hc]
 obtain ⟨dn,d0,d1,hd⟩:=qR t c 3 (9 - h) (by lia)
 obtain ⟨ac,s0,s1,hs⟩:=qR t c 4 (9 - w) (by lia)
 have em:su (.int h) (.int w) = .ok (.int (h * w)):=x8 (by constructor <;> lia)
 have hn0:0<=h * w:=Int.mul_nonneg (by lia) (by lia)
 obtain ⟨y',hl⟩:=rF t ns most c h w dn ac (by lia) (by lia) (List.range (h * w).toNat) [] none (by simp;lia)
 rw[aE7] at hl
 have up:=Ae (dn:=dn) (ac:=ac) (w:=w) (by lia) (pk t (JB ns 1)) (h * w).toNat
 have Ou:sC (aa (aQ su (ak 3) (ak 4)) au) [some (iL ns),some (.int most),some (.int c),some (.int h),some (.int w),some (.int dn),some (.int ac),some (.lst []),none] = .ok ((List.range (h * w).toNat).map fun i=>.int (i:Nat)):=by
  unfold sC
  simp[em]
  lia
 obtain ⟨L,hLd⟩:∃L,L=((List.range (h * w).toNat).filter (pk t (JB ns 1))).map (uo dn ac w):=⟨_,rfl⟩
 rw[<- hLd] at hl up
 have RZ:∀x∈L,inR x:=fun x hx=>by
  rw[hLd] at hx
  obtain ⟨k,hk,rfl⟩:=aC5.mp hx
  have:=List.mem_range.mp (List.mem_filter.mp hk).1
  exact Mq (h:=h) (by lia) (by lia) d0 (by lia) s0 (by lia) (by lia)
 have hbx:∀x∈L,dn<=x.1/\x.1 < dn+(h.toNat:Int)/\ac<=x.2/\x.2 < ac+(w.toNat:Int):=fun x hx=>by
  rw[hLd] at hx
  obtain ⟨k,hk,rfl⟩:=aC5.mp hx
  have hk':=List.mem_range.mp (List.mem_filter.mp hk).1
  have q1:0<=(k:Int) / w:=Int.ediv_nonneg (by lia) (by lia)
  have q2:(k:Int) / w < h:=Int.ediv_lt_of_lt_mul (by lia) (by lia)
  have q3:0<=(k:Int) % w:=Int.emod_nonneg _ (by lia)
  have q4:(k:Int) % w < w:=Int.emod_lt_of_pos _ (by lia)
  unfold uo
  dsimp only
  lia
 have sm':small h.toNat w.toNat:=by unfold small;lia
 have f1:bP 2 (br (aN t) (aa (ak 0) (aa (dC (.int 0)) au))) [some (iL ns),some (.int most),none,none,none,none,none,none,none] = .nx [some (iL ns),some (.int most),some (.int c),none,none,none,none,none,none]:=by simp[RY]
 have f2:Bf 3 4 (aa (aQ eO (dC (.int 1)) (br (aP t) (aa (ak 2) (aa (dC (.int 1)) (aa (dC (.int 4)) au))))) (aa (aQ eO (dC (.int 1)) (br (aP t) (aa (ak 2) (aa (dC (.int 2)) (aa (dC (.int 6)) au))))) au)) [some (iL ns),some (.int most),some (.int c),none,none,none,none,none,none] = .nx [some (iL ns),some (.int most),some (.int c),some (.int (1+r1)),some (.int (1+r2)),none,none,none,none]:=by simp[Bf,h1,h2]
 have f4:Bf 5 6 (aa (br (aP t) (aa (ak 2) (aa (dC (.int 3)) (aa (aQ jE (dC (.int 9)) (ak 3)) au)))) (aa (br (aP t) (aa (ak 2) (aa (dC (.int 4)) (aa (aQ jE (dC (.int 9)) (ak 4)) au)))) au)) [some (iL ns),some (.int most),some (.int c),some (.int h),some (.int w),none,none,none,none] = .nx [some (iL ns),some (.int most),some (.int c),some (.int h),some (.int w),some (.int dn),some (.int ac),none,none]:=by simp[Bf,hd,hs]
 have f5:bP 7 (cB 100 au) [some (iL ns),some (.int most),some (.int c),some (.int h),some (.int w),some (.int dn),some (.int ac),none,none] = .nx [some (iL ns),some (.int most),some (.int c),some (.int h),some (.int w),some (.int dn),some (.int ac),some (.lst []),none]:=by simp
 have f6:dP (sC (aa (aQ su (ak 3) (ak 4)) au)) (bW 8) (Em t) [some (iL ns),some (.int most),some (.int c),some (.int h),some (.int w),some (.int dn),some (.int ac),some (.lst []),none] = .nx [some (iL ns),some (.int most),some (.int c),some (.int h),some (.int w),some (.int dn),some (.int ac),some (aC L),y']:=by
  rw[By,Ou]
  exact hl
 have fin:∀l:List Cell,Drawn l most->(bD (Dm.eG (aQ (lO false) (br iO (aa (ak 7) au)) (dC (.int 0)))
   (bP 7 (cB 100 (aa (bX 100 (aa (aZ (ak 5)) (aa (aZ (ak 6)) au))) au)))
   cC)
   (gO (Gn (ak 7) none (some (ak 1))))) [some (iL ns),some (.int most),some (.int c),some (.int h),some (.int w),some (.int dn),some (.int ac),some (aC L),y'] = .rt (aC l)->∃l,cU t [iL ns,.int most] = .ok (aC l)/\Drawn l most:=fun l dl e=>by
  refine⟨l,?_,dl⟩
  have e0:cU t [iL ns,.int most]=match (.rt (aC l):Out) with | .rt d=>.ok d | .nx _=>.ok .cF | .ex c p _=>.ex c p | _=>.bad:=by
   unfold cU bS
   show (match (bD _ _ [some (iL ns),some (.int most),none,none,none,none,none,none,none]) with | .rt d=>R.ok d | .nx _=>.ok .cF | .ex c p _=>.ex c p | _=>.bad)=_
   rw[aY f1,aY f2,aY e3,aY f4,aY f5,aY f6,e]
  rw[e0]
 by_cases hL:L=[]
 ·refine fin [(dn,ac)] ⟨by simp,by simpa using hm,by simp[bq],fun x hx=>?_,?_⟩ ?_
  ·obtain rfl:x=(dn,ac):=by simpa using hx
   unfold inR;dsimp only;lia
  ·refine⟨h.toNat,w.toNat,⟨dn,ac,fun x hx=>?_⟩,sm'⟩
   obtain rfl:x=(dn,ac):=by simpa using hx
   dsimp only
   lia
  ·subst hL
   have g1:Dm.eG (aQ (lO false) (br iO (aa (ak 7) au)) (dC (.int 0)))
    (bP 7 (cB 100 (aa (bX 100 (aa (aZ (ak 5)) (aa (aZ (ak 6)) au))) au)))
    cC [some (iL ns),some (.int most),some (.int c),some (.int h),some (.int w),some (.int dn),some (.int ac),some (aC []),y'] = .nx [some (iL ns),some (.int most),some (.int c),some (.int h),some (.int w),some (.int dn),some (.int ac),some (aC [(dn,ac)]),y']:=by simp[nZ,cD]
   rw[aY g1]
   have:(([(dn,ac)]:List Cell).map cD).take most=([(dn,ac)]:List Cell).map cD:=List.take_of_length_le (by simpa using hm)
   simp[Gn,qH,xg,this]
   simp[cD,fR,d9]
   exact this
 ·refine fin (L.take most) ⟨?_,by simp;lia,up.sublist (List.take_sublist _ _),fun x hx=>RZ x (aJ2 hx),⟨h.toNat,w.toNat,⟨dn,ac,fun x hx=>hbx x (aJ2 hx)⟩,sm'⟩⟩ ?_
  ·cases hc:L with
   | nil=>exact absurd hc hL
   | cons x r=>simp;lia
  ·have hL0:¬ (L.length:Int)=0:=by
    intro z
    exact hL (List.length_eq_zero_iff.mp (by lia))
   have g1:Dm.eG (aQ (lO false) (br iO (aa (ak 7) au)) (dC (.int 0)))
    (bP 7 (cB 100 (aa (bX 100 (aa (aZ (ak 5)) (aa (aZ (ak 6)) au))) au)))
    cC [some (iL ns),some (.int most),some (.int c),some (.int h),some (.int w),some (.int dn),some (.int ac),some (aC L),y'] = .nx [some (iL ns),some (.int most),some (.int c),some (.int h),some (.int w),some (.int dn),some (.int ac),some (aC L),y']:=by simp[nZ,hL]
   rw[aY g1]
   simp[Gn,qH,xg]
end Pk
end QS
section QW
namespace Pk
open L2 Dm
variable (t:kE)
def Ms(c m:Int)(k:Nat):Bool:=match aP t [.int c,.int k,.int m] with | .ok (.int r)=>decide (0 < r) | _=>false
theorem JD(c:Int){l:List Cell}(h1:1<=l.length)(h2:l.length<=500):∃p,cX t [.int c,aC l] = .ok (aC p)/\p.Sublist l:=by
 obtain ⟨r,r0,r1,hr⟩:=qR t c 40 4 (by decide)
 have f1:bP 2 (br (aP t) (aa (ak 0) (aa (dC (.int 40)) (aa (dC (.int 4)) au)))) [some (.int c),some (aC l),none,none] = .nx [some (.int c),some (aC l),some (.int r),none]:=by simp[hr]
 by_cases hz:r=0
 ·subst hz
  obtain ⟨g,g0,g1,hg⟩:=qR t c 41 l.length (by lia)
  obtain ⟨n,rfl⟩:=Int.eq_ofNat_of_zero_le g0
  have hn:n < l.length:=by lia
  refine⟨l.take n++l.drop (n+1),?_,by rw[<- List.eraseIdx_eq_take_drop_succ];exact List.eraseIdx_sublist l n⟩
  unfold cX
  refine dQ [some (.int c),some (aC l),none,none] ?_
  rw[aY f1]
  refine QK ?_
  rw[BC (by simp[nZ])]
  have f2:bP 3 (br (aP t) (aa (ak 0) (aa (dC (.int 41)) (aa (br iO (aa (ak 1) au)) au)))) [some (.int c),some (aC l),some (.int 0),none] = .nx [some (.int c),some (aC l),some (.int 0),some (.int (n:Int))]:=by simp[hg]
  rw[aY f2]
  refine iR (j6 (a:=aC (l.take n)) (b:=aC (l.drop (n+1))) (WS rfl rfl) (Mc rfl rfl) (D7 ?_))
  simp;lia
 ·obtain ⟨m,hm,hix⟩:∃m:Int,0 < m/\cZ (.lst [.int 0,.int 2,.int 3,.int 4]) (.int r) = .ok (.int m):=by
   have:r=1\/r=2\/r=3:=by lia
   rcases this with rfl | rfl | rfl
   ·exact⟨2,by decide,rfl⟩
   ·exact⟨3,by decide,rfl⟩
   ·exact⟨4,by decide,rfl⟩
  refine⟨(l.zipIdx.filter fun x=>Ms t c m x.2).map (·.1),?_,?_⟩
  ·unfold cX
   refine dQ [some (.int c),some (aC l),none,none] ?_
   rw[aY f1,aY (st':=[some (.int c),some (aC l),some (.int r),none]) (by rw[v7 (by simp[nZ,hz])];rfl)]
   refine iR ?_
   show _=R.ok (D.lst (List.map cD (List.map _ _)))
   rw[aG9]
   refine t8 (ds:=l.zipIdx.map fun p=>.tup [.int (p.2:Nat),cD p.1]) ?_ (by simp;lia) ?_
   ·simp[LM,Mb]
   ·refine mH (S:=fun x=>[some (.int (x.2:Nat)),some (cD x.1),some (.int c),some (.int r)]) (P:=fun st=>∃y z,st=[y,z,some (.int c),some (.int r)]) l.zipIdx (fun x _=>⟨_,_,rfl⟩) (fun x _ st jg=>by obtain ⟨y,z,e⟩:=jg;subst e;rfl) (fun x _=>?_) (fun x _ _=>by simp) _ ⟨none,none,rfl⟩
    obtain ⟨v,v0,v1,hv⟩:=qR t c x.2 m hm
    have e:Ms t c m x.2=decide (0 < v):=by unfold Ms;rw[hv]
    simp[hix,hv,e]
  ·have:=(List.filter_sublist (p:=fun x:Cell×Nat=>Ms t c m x.2) (l:=l.zipIdx)).map Prod.fst
   rwa [List.zipIdx_map_fst] at this
def d7(cells aq:List Cell):Prop:=bq aq/\∀c∈aq,c∈cells
theorem BH{cells aq:List Cell}(hl:aq.length<=50):(d7 cells aq->dB t [.cu 0 (cells.map cD),aC aq] = .ok .cF)/\(¬ d7 cells aq->dB t [.cu 0 (cells.map cD),aC aq] = .ex t.dg none):=by
 obtain ⟨r1,r2⟩:=BG t hl
 have loop:=El (bind:=bW 2) (F:=Dm.eG (aQ (lP true) (ak 2) (vj dc (ak 0))) (gM t.dg) cC) (f:=cD) (Q:=fun st=>∃y,st=[some (.cu 0 (cells.map cD)),some (aC aq),y]) (p:=fun c=>c∈cells) (S:=fun o=>∃s,o = .ex t.dg none s) (fun o oG=>by obtain ⟨s,e⟩:=oG;subst e;trivial) aq [some (.cu 0 (cells.map cD)),some (aC aq),none] (fun c _ st ux=>by
  obtain ⟨y,e⟩:=ux
  subst e
  refine⟨[some (.cu 0 (cells.map cD)),some (aC aq),some (cD c)],rfl,fun h=>⟨_,?_,some (cD c),rfl⟩,fun h=>⟨[some (.cu 0 (cells.map cD)),some (aC aq),some (cD c)],?_⟩⟩
  ·rw[v7 (by simp[f7,h])];rfl
  ·rw[BC (by simp[f7,h])];rfl) ⟨none,rfl⟩
 have key:∀o:Out,(bD (Dm.eG (tP (br (cM t) (aa (ak 1) au))) (gM t.dg) cC) (dP (eK (ak 1)) (bW 2) (Dm.eG (aQ (lP true) (ak 2) (vj dc (ak 0))) (gM t.dg) cC))) [some (.cu 0 (cells.map cD)),some (aC aq),none]=o->dB t [.cu 0 (cells.map cD),aC aq]=match o with | .rt d=>.ok d | .nx _=>.ok .cF | .ex c p _=>.ex c p | _=>.bad:=fun o h=>by
  unfold dB bS
  subst h;rfl
 by_cases hr:bq aq
 ·have s1:Dm.eG (tP (br (cM t) (aa (ak 1) au))) (gM t.dg) cC [some (.cu 0 (cells.map cD)),some (aC aq),none] = .nx [some (.cu 0 (cells.map cD)),some (aC aq),none]:=by simp[r1 hr]
  rw[aY s1] at key
  refine⟨fun h=>?_,fun h=>?_⟩
  ·obtain ⟨st',h1,_⟩:=loop.1 h.2
   exact key (.nx st') (by simp[h1])
  ·obtain ⟨s,h1⟩:=loop.2 fun z=>h ⟨hr,z⟩
   exact key (.ex t.dg none s) (by simp[h1])
 ·refine⟨fun h=>absurd h.1 hr,fun _=>key (.ex t.dg none [some (.cu 0 (cells.map cD)),some (aC aq),none]) (QL ?_)⟩
  simp[r2 hr]
theorem d7.sub{cells aq:List Cell}(h:bq cells)(hs:aq.Sublist cells):d7 cells aq:=⟨h.sublist hs,fun c hc=>hs.subset hc⟩
theorem Mt{l:List Cell}(d:Drawn l 24):rg (bJ t) [aC l] = .ok (.cu 0 (l.map cD)):=by
 have h:=(Mm t (l:=l) (by have:=d.le;lia)).1 ⟨⟨d.pos,d.le⟩,d.up,d.inr⟩
 simp[rg,h]
theorem Drawn.mono{l:List Cell}{m n:Nat}(d:Drawn l m)(h:m<=n):Drawn l n:=⟨d.pos,aD5 d.le h,d.up,d.inr,d.box⟩
end Pk
end QW
section QX
namespace Pk
open L2 Dm
abbrev bB(cells:List Cell):D:=.cu 0 (cells.map cD)
variable (t:kE)
@[simp] theorem aB7 (x:Int):m7 (.int x) (.int 2) = .ok (.int (x / 2)):=yO (by decide) (by decide)
theorem vB(f:Cell->List bY)(k:Nat):∀l:List Cell,(∀a∈l,(f a).length<=k)->(l.flatMap f).length<=l.length * k
 | [],_=>by simp
 | a::l,h=>by
  rw[List.flatMap_cons,aD0,aD1,Nat.succ_mul]
  have:=vB f k l fun x hx=>h x (.tail _ hx)
  have:=h a (.head _)
  lia
theorem JE{bind:DB}{F:DS}{S:List bY->Option D->dX}{a:Cell}{p:Cell->Bool}(xs:List Cell)(acc:List bY)(y:Option D)(hl:acc.length+xs.length<=5000)
  (hb:∀acc y b,bind (cD b) (S acc y)=some (S acc (some (cD b)))) (hF:∀acc b,b∈xs->acc.length<=5000->∃y,F (S acc (some (cD b))) = .nx (S (acc++if p b=true then [(a,b)] else []) y)) :
  ∃y',dY bind F (xs.map cD) (S acc y) = .nx (S (acc++(xs.filter p).map fun b=>(a,b)) y'):=by
 obtain ⟨st',h1,y',h2,_⟩:=iS (bind:=bind) (F:=F) (f:=cD) (Q:=fun pre st=>∃y,st=S (acc++(pre.filter p).map fun b=>(a,b)) y/\pre.length<=xs.length) xs [] (S acc y) (fun q x r e st jg=>by
  obtain ⟨y,hy,hq⟩:=jg
  subst hy
  rw[aE7] at e
  have hlen:q.length+1<=xs.length:=by rw[e];simp
  have hf:(q.filter p).length<=q.length:=aI9 ..
  obtain ⟨y2,h2⟩:=hF (acc++(q.filter p).map fun b=>(a,b)) x (by rw[e];simp) (by simp;lia)
  refine⟨_,_,hb _ _ _,h2,y2,?_,by simpa using hlen⟩
  rw[List.filter_append,aH8,<- aF3]
  cases hp:p x <;> simp[hp]) ⟨y,by simp,by simp⟩
 exact⟨y',by rw[h1,h2,aE7]⟩
theorem Dc(p:bY):b8 t [lD p] = .ok (cD (mid p.1 p.2)):=by
 simp[b8,bS,mid,cD,lD,cZ,AG,K8]
theorem WX(i:Int):tX [.int i] = .ok (.int (JA i)):=rfl
theorem JF{cells:List Cell}(up:bq cells)(hl:cells.length<=30)(mJ:(aW cells).length < 64):fY t [aC cells] = .ok (eL (aW cells)):=by
 have inner:∀(acc:List bY) (a:Cell) (y z:Option D),acc.length<=900->∃y' z',(dP (eK (ak 0)) (bW 3)
   (bD (bP 4 (br eW (aa (cB 100 (aa (br tX (aa (aQ jE (aQ cZ (ak 2) (dC (.int 0))) (aQ cZ (ak 3) (dC (.int 0)))) au)) (aa (br tX (aa (aQ jE (aQ cZ (ak 2) (dC (.int 1))) (aQ cZ (ak 3) (dC (.int 1)))) au)) au))) au)))
   (Dm.eG (ic (aQ (lO false) (ak 4) (cB 100 (aa (dC (.int 0)) (aa (dC (.int 2)) au)))) (aQ (lP false) (br (b8 t) (aa (bX 100 (aa (aZ (ak 2)) (aa (aZ (ak 3)) au))) au)) (ak 0)))
   (jt 1 (bX 100 (aa (aZ (ak 2)) (aa (aZ (ak 3)) au))))
   cC))) [some (aC cells),some (eL acc),some (cD a),y,z] = .nx [some (aC cells),some (eL (acc++(BU cells a).map fun b=>(a,b))),some (cD a),y',z']:=fun acc a y z ha=>by
  obtain ⟨st',h1,y',z',h2,_⟩:=iS (bind:=bW 3) (F:=bD (bP 4 (br eW (aa (cB 100 (aa (br tX (aa (aQ jE (aQ cZ (ak 2) (dC (.int 0))) (aQ cZ (ak 3) (dC (.int 0)))) au)) (aa (br tX (aa (aQ jE (aQ cZ (ak 2) (dC (.int 1))) (aQ cZ (ak 3) (dC (.int 1)))) au)) au))) au)))
   (Dm.eG (ic (aQ (lO false) (ak 4) (cB 100 (aa (dC (.int 0)) (aa (dC (.int 2)) au)))) (aQ (lP false) (br (b8 t) (aa (bX 100 (aa (aZ (ak 2)) (aa (aZ (ak 3)) au))) au)) (ak 0)))
   (jt 1 (bX 100 (aa (aZ (ak 2)) (aa (aZ (ak 3)) au))))
   cC)) (f:=cD) (Q:=fun pre st=>∃y z,st=[some (aC cells),some (eL (acc++(pre.filter fun b=>ap a b&&decide (mid a b∈cells)).map fun b=>(a,b))),some (cD a),y,z]/\pre.length<=cells.length) cells [] [some (aC cells),some (eL acc),some (cD a),y,z] (fun q b r e st oG=>by
   obtain ⟨y,z,hy,hq⟩:=oG
   subst hy
   rw[aE7] at e
   have hlen:q.length+1<=cells.length:=by rw[e];simp
   have hf:(q.filter fun b=>ap a b&&decide (mid a b∈cells)).length<=q.length:=aI9 ..
   obtain ⟨u,v,hs,huv⟩:=Jz (JA (a.1 - b.1)) (JA (a.2 - b.2))
   have hap:ap a b=decide (u=0/\v=2):=by
    unfold ap
    rw[Bool.eq_iff_iff]
    simp only[Bool.or_eq_true,aD4,aG0]
    exact huv.symm
   generalize hA:acc++(q.filter fun b=>ap a b&&decide (mid a b∈cells)).map (fun b=>(a,b))=A
   have lA:A.length<=5000:=by rw[<- hA];simp;lia
   have s1:bP 4 (br eW (aa (cB 100 (aa (br tX (aa (aQ jE (aQ cZ (ak 2) (dC (.int 0))) (aQ cZ (ak 3) (dC (.int 0)))) au)) (aa (br tX (aa (aQ jE (aQ cZ (ak 2) (dC (.int 1))) (aQ cZ (ak 3) (dC (.int 1)))) au)) au))) au)) [some (aC cells),some (eL A),some (cD a),some (cD b),z] = .nx [some (aC cells),some (eL A),some (cD a),some (cD b),some (.lst [.int u,.int v])]:=by
    simp[WX,hs]
   have ge:lO false (.lst [.int u,.int v]) (.lst [.int 0,.int 2]) = .ok (.bl (decide (u=0/\v=2))):=by
    unfold lO
    rw[aC2 (by simp[flat,bL,dep,jm])]
    simp only[gq,cY,Bool.and_true,aE0,if_false]
    by_cases h:u=0 <;> by_cases h':v=2 <;> simp[h,h']
   have gb:(br (b8 t) (aa (bX 100 (aa (aZ (ak 2)) (aa (aZ (ak 3)) au))) au)) [some (aC cells),some (eL A),some (cD a),some (cD b),some (.lst [.int u,.int v])] = .ok (cD (mid a b)):=by
    have:=Dc t (a,b)
    unfold lD at this
    simp[this]
   refine⟨[some (aC cells),some (eL A),some (cD a),some (cD b),z],[some (aC cells),some (eL (A++if (ap a b&&decide (mid a b∈cells))=true then [(a,b)] else [])),some (cD a),some (cD b),some (.lst [.int u,.int v])],rfl,?_,some (cD b),some (.lst [.int u,.int v]),?_,by simpa using hlen⟩
   ·rw[aY s1]
    by_cases h1:u=0/\v=2
    ·by_cases h2:mid a b∈cells
     ·rw[BC (jf (j6 (a:=.lst [.int u,.int v]) (b:=.lst [.int 0,.int 2]) rfl (by simp) (by rw[ge];simp[h1])) (j6 gb rfl (by rw[f7];simp[h2])))]
      rw[hap]
      simp[jt,lA,h1,h2,lD]
     ·rw[v7 (jf (j6 (a:=.lst [.int u,.int v]) (b:=.lst [.int 0,.int 2]) rfl (by simp) (by rw[ge];simp[h1])) (j6 gb rfl (by rw[f7];simp[h2])))]
      simp[h2]
    ·rw[v7 (x9 (j6 (a:=.lst [.int u,.int v]) (b:=.lst [.int 0,.int 2]) rfl (by simp) (by rw[ge];simp[h1])))]
     rw[hap]
     simp[h1]
   ·rw[<- hA,List.filter_append,aH8,<- aF3]
    cases hp:(ap a b&&decide (mid a b∈cells)) <;> simp[hp]) ⟨y,z,by simp,by simp⟩
  refine⟨y',z',?_⟩
  rw[aE7,Ml up] at h2
  subst h2
  simp
  exact h1
 obtain ⟨st',h1,y,z,x,h2⟩:=iS (bind:=bW 2) (F:=dP (eK (ak 0)) (bW 3)
   (bD (bP 4 (br eW (aa (cB 100 (aa (br tX (aa (aQ jE (aQ cZ (ak 2) (dC (.int 0))) (aQ cZ (ak 3) (dC (.int 0)))) au)) (aa (br tX (aa (aQ jE (aQ cZ (ak 2) (dC (.int 1))) (aQ cZ (ak 3) (dC (.int 1)))) au)) au))) au)))
   (Dm.eG (ic (aQ (lO false) (ak 4) (cB 100 (aa (dC (.int 0)) (aa (dC (.int 2)) au)))) (aQ (lP false) (br (b8 t) (aa (bX 100 (aa (aZ (ak 2)) (aa (aZ (ak 3)) au))) au)) (ak 0)))
   (jt 1 (bX 100 (aa (aZ (ak 2)) (aa (aZ (ak 3)) au))))
   cC))) (f:=cD) (Q:=fun pre st=>∃y z x,st=[some (aC cells),some (eL (pre.flatMap fun a=>(BU cells a).map fun b=>(a,b))),y,z,x]) cells [] [some (aC cells),some (eL []),none,none,none] (fun q a r e st ux=>by
  obtain ⟨y,z,x,hy⟩:=ux
  subst hy
  rw[aE7] at e
  have hq:q.length<=30:=by rw[e] at hl;simp at hl;lia
  have h4:∀a,((BU cells a).map fun b=>(a,b)).length<=4:=fun a=>by
   rw[aC8];exact aD5 (aI9 ..) (by simp[four])
  have:=vB (fun a=>(BU cells a).map fun b=>(a,b)) 4 q fun a _=>h4 a
  obtain ⟨z',x',h⟩:=inner (q.flatMap fun a=>(BU cells a).map fun b=>(a,b)) a z x (by lia)
  exact⟨_,_,rfl,h,some (cD a),z',x',by rw[List.flatMap_append];simp⟩) ⟨none,none,none,rfl⟩
 subst h2
 unfold fY
 refine dQ [some (aC cells),none,none,none,none] ?_
 rw[aY (st':=[some (aC cells),some (eL []),none,none,none]) (by simp),aY (st':=[some (aC cells),some (eL (aW cells)),y,z,x]) ?_]
 ·exact iR (D6 (a:=eL (aW cells)) rfl (Jx (BE up) mJ))
 ·rw[By]
  have:eK (ak 0) [some (aC cells),some (eL []),none,none,none] = .ok (cells.map cD):=by simp
  rw[this]
  exact h1
theorem Drawn.mJ{l:List Cell}{m:Nat}(d:Drawn l m):(aW l).length < 64:=by
 obtain ⟨h,w,b,s⟩:=d.box
 have:=G7 d.up b s
 lia
end Pk
end QX
section QY
namespace Pk
open L2 Dm
variable (t:kE)
theorem WY(c:Cell):fQ t [cD c] = .ok (aC (four c)):=by
 simp[fQ,bS,four,cD,cZ,AG,K8]
theorem En(a b:Cell):dh t [cD a,cD b] = .ok (cD (mid a b)):=by
 simp[dh,bS,mid,cD,cZ,AG,K8]
theorem Mu{cells:List Cell}(hl:cells.length<=200):sW t [bB cells] = .ok (eL (aW cells)):=by
 have inner:∀(acc:List bY) (a:Cell) (y:Option D),acc.length<=900->∃y',(dP (eK (br (fQ t) (aa (ak 2) au))) (bW 3)
   (Dm.eG (ic (aQ (lP false) (ak 3) (vj dc (ak 0))) (aQ (lP false) (br (dh t) (aa (ak 2) (aa (ak 3) au))) (vj dc (ak 0))))
   (jt 1 (bX 100 (aa (aZ (ak 2)) (aa (aZ (ak 3)) au))))
   cC)) [some (bB cells),some (eL acc),some (cD a),y] = .nx [some (bB cells),some (eL (acc++(BU cells a).map fun b=>(a,b))),some (cD a),y']:=fun acc a y ha=>by
  obtain ⟨y',h⟩:=JE (bind:=bW 3) (F:=Dm.eG (ic (aQ (lP false) (ak 3) (vj dc (ak 0))) (aQ (lP false) (br (dh t) (aa (ak 2) (aa (ak 3) au))) (vj dc (ak 0))))
   (jt 1 (bX 100 (aa (aZ (ak 2)) (aa (aZ (ak 3)) au))))
   cC) (S:=fun acc y=>[some (bB cells),some (eL acc),some (cD a),y]) (a:=a) (p:=fun b=>decide (b∈cells)&&decide (mid a b∈cells)) (four a) acc y (by simp[four];lia) (fun acc y b=>rfl) (fun acc b _ CG=>⟨some (cD b),by
    by_cases h1:b∈cells
    ·by_cases h2:mid a b∈cells
     ·rw[BC (jf (j6 (a:=cD b) (b:=aC cells) rfl (by simp) (by rw[f7];simp[h1])) (j6 (a:=cD (mid a b)) (b:=aC cells) (by simp[En]) (by simp) (by rw[f7];simp[h2])))]
      simp[jt,CG,h1,h2,lD]
     ·rw[v7 (jf (j6 (a:=cD b) (b:=aC cells) rfl (by simp) (by rw[f7];simp[h1])) (j6 (a:=cD (mid a b)) (b:=aC cells) (by simp[En]) (by simp) (by rw[f7];simp[h2])))]
      simp[h2]
    ·rw[v7 (x9 (j6 (a:=cD b) (b:=aC cells) rfl (by simp) (by rw[f7];simp[h1])))]
     simp[h1]⟩)
  exact⟨y',by simp[WY];exact h⟩
 obtain ⟨st',h1,y,z,h2⟩:=iS (bind:=bW 2) (F:=dP (eK (br (fQ t) (aa (ak 2) au))) (bW 3)
   (Dm.eG (ic (aQ (lP false) (ak 3) (vj dc (ak 0))) (aQ (lP false) (br (dh t) (aa (ak 2) (aa (ak 3) au))) (vj dc (ak 0))))
   (jt 1 (bX 100 (aa (aZ (ak 2)) (aa (aZ (ak 3)) au))))
   cC)) (f:=cD) (Q:=fun pre st=>∃y z,st=[some (bB cells),some (eL (pre.flatMap fun a=>(BU cells a).map fun b=>(a,b))),y,z]) cells [] [some (bB cells),some (eL []),none,none] (fun q a r e st jg=>by
  obtain ⟨y,z,hy⟩:=jg
  subst hy
  rw[aE7] at e
  have hq:q.length<=200:=by rw[e] at hl;simp at hl;lia
  have h4:∀a,((BU cells a).map fun b=>(a,b)).length<=4:=fun a=>by
   rw[aC8];exact aD5 (aI9 ..) (by simp[four])
  have:=vB (fun a=>(BU cells a).map fun b=>(a,b)) 4 q fun a _=>h4 a
  obtain ⟨z',h⟩:=inner (q.flatMap fun a=>(BU cells a).map fun b=>(a,b)) a z (by lia)
  exact⟨_,_,rfl,h,some (cD a),z',by rw[List.flatMap_append];simp⟩) ⟨none,none,rfl⟩
 subst h2
 unfold sW
 refine dQ [some (bB cells),none,none,none] ?_
 rw[aY (st':=[some (bB cells),some (eL []),none,none]) (by simp),aY (st':=[some (bB cells),some (eL (aW cells)),y,z]) ?_]
 ·rfl
 ·rw[By]
  have:eK (vj dc (ak 0)) [some (bB cells),some (eL []),none,none] = .ok (cells.map cD):=by simp
  rw[this]
  exact h1
end Pk
end QY
section QZ
namespace Pk
open L2 Dm
variable (t:kE)
theorem Af{cells aq:List Cell}(up:bq cells)(hl:cells.length<=30)(mJ:(aW cells).length < 64):bQ t [aC cells,aC aq] = .ok (eL (xm cells aq)):=by
 have hL:=JF t up hl mJ
 obtain ⟨st',h1,y,z,h2,_⟩:=iS (bind:=iK 3 4) (F:=Dm.eG (ic (aQ (lP false) (ak 3) (ak 1)) (ic (aQ (lP false) (br (b8 t) (aa (bX 100 (aa (aZ (ak 3)) (aa (aZ (ak 4)) au))) au)) (ak 1)) (aQ (lP true) (ak 4) (ak 1))))
   (jt 2 (bX 100 (aa (aZ (ak 3)) (aa (aZ (ak 4)) au))))
   cC) (f:=lD) (Q:=fun pre st=>∃y z,st=[some (aC cells),some (aC aq),some (eL (pre.filter (qc aq))),y,z]/\pre.length<=64) (aW cells) [] [some (aC cells),some (aC aq),some (eL []),none,none] (fun q p r e st jg=>by
  obtain ⟨y,z,hy,hq⟩:=jg
  subst hy
  rw[aE7] at e
  have hlen:q.length+1<=64:=by rw[e] at mJ;simp at mJ;lia
  have hf:(q.filter (qc aq)).length<=q.length:=aI9 ..
  generalize hA:q.filter (qc aq)=A at hf
  have lA:A.length<=5000:=by lia
  have gb:(br (b8 t) (aa (bX 100 (aa (aZ (ak 3)) (aa (aZ (ak 4)) au))) au)) [some (aC cells),some (aC aq),some (eL A),some (cD p.1),some (cD p.2)] = .ok (cD (mid p.1 p.2)):=by
   have:=Dc t p
   unfold lD at this
   simp[this]
  refine⟨[some (aC cells),some (aC aq),some (eL A),some (cD p.1),some (cD p.2)],[some (aC cells),some (aC aq),some (eL (A++if qc aq p=true then [p] else [])),some (cD p.1),some (cD p.2)],rfl,?_,some (cD p.1),some (cD p.2),?_,by simpa using hlen⟩
  ·unfold qc
   by_cases h1:p.1∈aq
   ·by_cases h3:mid p.1 p.2∈aq
    ·by_cases h2:p.2∈aq
     ·rw[v7 (jf (j6 (a:=cD p.1) (b:=aC aq) rfl rfl (by rw[f7];simp[h1])) (jf (j6 gb rfl (by rw[f7];simp[h3])) (j6 (a:=cD p.2) (b:=aC aq) rfl rfl (by rw[f7];simp[h2]))))]
      simp[h2]
     ·rw[BC (jf (j6 (a:=cD p.1) (b:=aC aq) rfl rfl (by rw[f7];simp[h1])) (jf (j6 gb rfl (by rw[f7];simp[h3])) (j6 (a:=cD p.2) (b:=aC aq) rfl rfl (by rw[f7];simp[h2]))))]
      simp[jt,lA,h1,h2,h3,lD]
    ·rw[v7 (jf (j6 (a:=cD p.1) (b:=aC aq) rfl rfl (by rw[f7];simp[h1])) (x9 (j6 gb rfl (by rw[f7];simp[h3]))))]
     simp[h3]
   ·rw[v7 (x9 (j6 (a:=cD p.1) (b:=aC aq) rfl rfl (by rw[f7];simp[h1])))]
    simp[h1]
  ·rw[<- hA,List.filter_append]
   cases hp:qc aq p <;> simp[hp]) ⟨none,none,rfl,by simp⟩
 rw[aE7] at h2
 subst h2
 unfold bQ
 refine dQ [some (aC cells),some (aC aq),none,none,none] ?_
 rw[aY (st':=[some (aC cells),some (aC aq),some (eL []),none,none]) (by simp),aY (st':=[some (aC cells),some (aC aq),some (eL (xm cells aq)),y,z]) ?_]
 ·rfl
 ·rw[By]
  have:eK (br (fY t) (aa (ak 0) au)) [some (aC cells),some (aC aq),some (eL []),none,none] = .ok ((aW cells).map lD):=by simp[hL]
  rw[this]
  exact h1
end Pk
end QZ
section R4
namespace Dm
open L2 HT
def xq(l:List Cell):List Cell:=(dm (l.map cD)).map toC
theorem BI(l:List Cell):dm (l.map cD)=(xq l).map cD:=by
 have hp:=cG (l.map cD)
 unfold xq
 rw[aG9]
 conv=>lhs;rw[<- List.map_id (dm (l.map cD))]
 refine aI7 fun y hy=>?_
 refine aM (aC5.mp (hp.mem_iff.mp hy)) fun c _ aR=>?_
 walk_at"#"
 rfl
theorem oj(l:List Cell):(xq l).Perm l:=by
 have:=(cG (l.map cD)).map toC
 rw[aG9] at this
 have e:l.map (toC∘cD)=l:=by
  conv=>rhs;rw[<- List.map_id l]
  exact aI7 fun c _=>toC_cD c
 rw[e] at this
 exact this
theorem JG(l:List Cell):(xq l).Pairwise (fun a b=>¬ uO b a):=by
 have pw:=lV (l.map cD)
 rw[BI,List.pairwise_map] at pw
 refine pw.imp fun {a b} h=>?_
 rw[Jp] at h
 simpa using h
theorem Eo{l:List Cell}(h:l.length < 64):eW [aC l] = .ok (aC (xq l)):=by
 unfold eW
 dsimp only
 rw[aC2 (Js h),BI]
theorem JH(neg:Bool)(a b:Cell):lO neg (cD a) (cD b) = .ok (.bl (if neg then !decide (a=b) else decide (a=b))):=by
 unfold lO;rw[aC2 (by simp)];simp
theorem JI{l:List Cell}(h:l.Nodup):bq (xq l):=um (oj l) (JG l) h
def left(aq:List Cell)(p:bY):List Cell:=aq.filter fun c=>!decide (c=p.1) && !decide (c=mid p.1 p.2)
def aT(aq:List Cell)(p:bY):List Cell:=xq (left aq p++[p.2])
theorem qd{aq:List Cell}{p:bY}{c:Cell}:c∈left aq p↔c∈aq/\c≠p.1/\c≠mid p.1 p.2:=by
 unfold left;simp
theorem Dd{aq:List Cell}{p:bY}{c:Cell}:c∈aT aq p↔(c∈aq/\c≠p.1/\c≠mid p.1 p.2)\/c=p.2:=by
 unfold aT
 rw[(oj _).mem_iff,aF9,qd];simp
theorem BJ{aq:List Cell}{p:bY}:qc aq p=true↔p.1∈aq/\p.2∉aq/\mid p.1 p.2∈aq:=by
 unfold qc;simp
theorem G8{aq:List Cell}{p:bY}(up:bq aq)(h:p.2∉aq):bq (aT aq p):=by
 refine JI ?_
 rw[List.nodup_append]
 refine⟨up.nodup.sublist List.filter_sublist,by simp,fun a ha b hb e=>?_⟩
 rw[aF2] at hb
 subst hb;subst e
 exact h (qd.mp ha).1
theorem R5{p:bY}(h:p.2∈four p.1):mid p.1 p.2≠p.1:=by
 obtain ⟨⟨a1,a2⟩,b1,b2⟩:=p
 unfold four at h;unfold mid
 simp only[aC6,aF1,or_false,Prod.mk.injEq] at h
 intro e
 simp only[Prod.mk.injEq] at e
 lia
theorem xr{aq:List Cell}{p:bY}(nd:aq.Nodup)(h:qc aq p=true)(hf:p.2∈four p.1):aq.Perm (p.1::mid p.1 p.2::left aq p):=by
 refine vD (BJ.mp h) fun h1 h2 h3=>?_
 have XN:=R5 hf
 refine(List.perm_ext_iff_of_nodup nd ?_).mpr fun c=>?_
 ·rw[aH4,aH4]
  refine⟨?_,?_,nd.sublist List.filter_sublist⟩
  ·rw[aC6,qd]
   rintro (e | e)
   ·exact XN e.symm
   ·exact e.2.1 rfl
  ·rw[qd];exact fun e=>e.2.2 rfl
 ·rw[aC6,aC6,qd]
  by_cases e1:c=p.1
  ·subst e1;simp[h1]
  ·by_cases e2:c=mid p.1 p.2
   ·subst e2;simp[h3]
   ·simp[e1,e2]
theorem De{aq:List Cell}{p:bY}(nd:aq.Nodup)(h:qc aq p=true)(hf:p.2∈four p.1):(aT aq p).length+1=aq.length:=by
 have:=(xr nd h hf).length_eq
 have:=(oj (left aq p++[p.2])).length_eq
 unfold aT
 simp at *
 lia
theorem Mv{cells aq:List Cell}{p:bY}(h:p∈xm cells aq):p.1∈cells/\p.2∈four p.1/\p.2∈cells/\mid p.1 p.2∈cells/\qc aq p=true:=by
 unfold xm at h
 rw[List.mem_filter,rE] at h
 exact⟨h.1.1,h.1.2.1,h.1.2.2.1,h.1.2.2.2,h.2⟩
def uQ(cells:List Cell):List Cell->List bY->Prop
 | _,[]=>True
 | aq,p::r=>p∈xm cells aq/\uQ cells (aT aq p) r
def iF(aq:List Cell)(row:List bY):List Cell:=row.foldl aT aq
theorem yR(aq:List Cell)(row:List bY)(p:bY):iF aq (row++[p])=aT (iF aq row) p:=by
 unfold iF;rw[List.foldl_append];rfl
theorem Ag{cells:List Cell}:∀{aq:List Cell} {row:List bY} {p:bY},uQ cells aq row->p∈xm cells (iF aq row)->uQ cells aq (row++[p])
 | aq,[],p,_,h=>⟨h,trivial⟩
 | aq,q::r,p,h,hp=>⟨h.1,Ag h.2 hp⟩
def kS(c:Cell):Int:=(c.1+c.2) % 3
def kD(c:Cell):Int:=(c.1 - c.2) % 3
def par(f:Cell->Bool)(l:List Cell):Int:=((l.filter f).length:Int) % 2
def f1(c:Cell):Bool:=decide (kS c < 2)
def f2(c:Cell):Bool:=decide (0 < kS c)
def f3(c:Cell):Bool:=decide (kD c < 2)
def f4(c:Cell):Bool:=decide (0 < kD c)
def JJ(l:List Cell):List Int:=[par f1 l,par f2 l,par f3 l,par f4 l]
def bi(b:Bool):Nat:=if b then 1 else 0
theorem Ep(f:Cell->Bool)(l:List Cell):par f l=((l.countP f:Nat):Int) % 2:=by unfold par;rw[List.countP_eq_length_filter]
theorem om{f:Cell->Bool}{aq:List Cell}{p:bY}(nd:aq.Nodup)(h:qc aq p=true)(hf:p.2∈four p.1)(he:(bi (f p.1)+bi (f (mid p.1 p.2))+bi (f p.2))=2):par f (aT aq p)=par f aq:=by
 have e1:=(xr nd h hf).countP_eq f
 have e2:=(oj (left aq p++[p.2])).countP_eq f
 rw[Ep,Ep]
 unfold aT
 simp only[e2,e1,List.countP_append,List.countP_cons,List.countP_nil]
 unfold bi at he
 lia
theorem Mw(P:Prop)[Decidable P]:bi (decide P)=if P then 1 else 0:=by unfold bi;simp
theorem JK(c:Cell):bi (f1 c)=if (c.1+c.2) % 3 < 2 then 1 else 0:=Mw _
theorem JL(c:Cell):bi (f2 c)=if 0 < (c.1+c.2) % 3 then 1 else 0:=Mw _
theorem JM(c:Cell):bi (f3 c)=if (c.1 - c.2) % 3 < 2 then 1 else 0:=Mw _
theorem JN(c:Cell):bi (f4 c)=if 0 < (c.1 - c.2) % 3 then 1 else 0:=Mw _
theorem JO(s e:Int)(h:e=1\/e = -1):(if s % 3 < 2 then 1 else 0)+(if (s+e) % 3 < 2 then 1 else 0)+(if (s+2 * e) % 3 < 2 then 1 else 0)=2:=by
 have h3:s % 3=0\/s % 3=1\/s % 3=2:=by lia
 rcases h with rfl | rfl <;> rcases h3 with h | h | h
 ·walk_at"P"
 ·rw[h,aC2 (by decide),aC3 (by lia),aC2 (by lia)]
 ·rw[h,aC3 (by decide),aC2 (by lia),aC2 (by lia)]
 ·rw[h,aC2 (by decide),aC3 (by lia),aC2 (by lia)]
 ·walk_at"P"
 ·rw[h,aC3 (by decide),aC2 (by lia),aC2 (by lia)]
theorem JP(s e:Int)(h:e=1\/e = -1):(if 0 < s % 3 then 1 else 0)+(if 0 < (s+e) % 3 then 1 else 0)+(if 0 < (s+2 * e) % 3 then 1 else 0)=2:=by
 have h3:s % 3=0\/s % 3=1\/s % 3=2:=by lia
 rcases h with rfl | rfl <;> rcases h3 with h | h | h
 ·rw[h,aC3 (by decide),aC2 (by lia),aC2 (by lia)]
 ·walk_at"P"
 ·rw[h,aC2 (by decide),aC3 (by lia),aC2 (by lia)]
 ·rw[h,aC3 (by decide),aC2 (by lia),aC2 (by lia)]
 ·rw[h,aC2 (by decide),aC3 (by lia),aC2 (by lia)]
 ·walk_at"P"
theorem JQ{p:bY}(hf:p.2∈four p.1):∃e f:Int,(e=1\/e = -1)/\(f=1\/f = -1)/\(mid p.1 p.2).1+(mid p.1 p.2).2=p.1.1+p.1.2+e/\p.2.1+p.2.2=p.1.1+p.1.2+2 * e/\(mid p.1 p.2).1 - (mid p.1 p.2).2=p.1.1 - p.1.2+f/\p.2.1 - p.2.2=p.1.1 - p.1.2+2 * f:=by
 obtain ⟨⟨a1,a2⟩,b1,b2⟩:=p
 unfold four at hf;unfold mid
 simp only[aC6,aF1,or_false,Prod.mk.injEq] at hf ⊢
 rcases hf with ⟨rfl,rfl⟩ | ⟨rfl,rfl⟩ | ⟨rfl,rfl⟩ | ⟨rfl,rfl⟩
 ·exact⟨-1,-1,.inr rfl,.inr rfl,by lia,by lia,by lia,by lia⟩
 ·exact⟨-1,1,.inr rfl,.inl rfl,by lia,by lia,by lia,by lia⟩
 ·exact⟨1,-1,.inl rfl,.inr rfl,by lia,by lia,by lia,by lia⟩
 ·exact⟨1,1,.inl rfl,.inl rfl,by lia,by lia,by lia,by lia⟩
theorem Df{aq:List Cell}{p:bY}(nd:aq.Nodup)(h:qc aq p=true)(hf:p.2∈four p.1):JJ (aT aq p)=JJ aq:=by
 refine Oi (JQ hf) fun e f he hf' s1 s2 d1 d2=>?_
 unfold JJ
 rw[om nd h hf (f:=f1) (by rw[JK,JK,JK,s1,s2];exact JO _ e he),om nd h hf (f:=f2) (by rw[JL,JL,JL,s1,s2];exact JP _ e he),
  om nd h hf (f:=f3) (by rw[JM,JM,JM,d1,d2];exact JO _ f hf'),om nd h hf (f:=f4) (by rw[JN,JN,JN,d1,d2];exact JP _ f hf')]
theorem qe{cells:List Cell}:∀{row:List bY} {aq:List Cell},bq aq->(∀c∈aq,c∈cells)->uQ cells aq row->bq (iF aq row)/\(∀c∈iF aq row,c∈cells)/\JJ (iF aq row)=JJ aq/\(iF aq row).length+row.length=aq.length
 | [],aq,u,s,_=>⟨u,s,rfl,rfl⟩
 | p::r,aq,u,s,h=>by
  refine Kn (Mv h.1) fun m1 m2 m3 m4 m5=>?_
  have c1:=Df u.nodup m5 m2
  have l1:=De u.nodup m5 m2
  obtain ⟨i1,i2,i3,i4⟩:=qe (row:=r) (aq:=aT aq p) (G8 u (BJ.mp m5).2.1) (fun c hc=>by
   rcases Dd.mp hc with h | h
   ·exact s c h.1
   ·rw[h];exact m3) h.2
  refine⟨i1,i2,i3.trans c1,?_⟩
  rw[aD1,<- l1,<- i4]
  show (iF (aT aq p) r).length+(r.length+1)=(iF (aT aq p) r).length+r.length+1
  lia
end Dm
end R4
section R6
namespace Pk
open L2 Dm
variable (t:kE)
theorem uq{aq:List Cell}(p:bY)(hl:aq.length<=60):bw t [aC aq,lD p] = .ok (aC (aT aq p)):=by
 have hb:=Dc t p
 have g1:(jk (eK (ak 0)) 1 [1] (bW 0) (ic (aQ (lO true) (ak 0) (aQ cZ (ak 1) (dC (.int 0)))) (aQ (lO true) (ak 0) (br (b8 t) (aa (ak 1) au)))) (aZ (ak 0))) [some (aC aq),some (lD p),none] = .ok (aC (left aq p)):=by
  refine t8 (ds:=aq.map cD) (by simp) (by simp;lia) ?_
  exact mH (S:=fun x=>[some (cD x),some (lD p)]) (P:=fun st=>∃y,st=[y,some (lD p)]) aq (fun x _=>⟨_,rfl⟩) (fun x _ st jg=>by obtain ⟨y,e⟩:=jg;subst e;rfl) (fun x _=>by
   by_cases h1:x=p.1
   ·exact(x9 (j6 (a:=cD x) (b:=cD p.1) rfl (by simp) (by rw[JH];simp[h1]))).trans (by simp[h1])
   ·exact(jf (j6 (a:=cD x) (b:=cD p.1) rfl (by simp) (by rw[JH];simp[h1])) (j6 (a:=cD x) (b:=cD (mid p.1 p.2)) rfl (by simp[hb]) (JH ..))).trans (by simp[h1])) (fun x _ _=>by simp) _ ⟨none,rfl⟩
 have hle:(left aq p).length<=aq.length:=aI9 ..
 unfold bw
 refine dQ [some (aC aq),some (lD p),none] ?_
 rw[aY (st':=[some (aC aq),some (lD p),some (aC (left aq p))]) (dJ g1)]
 refine iR (D6 (a:=aC (left aq p++[p.2])) (j6 (a:=aC (left aq p)) (b:=aC [p.2]) rfl (by simp) (D7 (by simp;lia))) ?_)
 exact Eo (by simp;lia)
theorem d7.row{cells aq:List Cell}{row:List bY}(S:d7 cells aq)(h:uQ cells aq row):d7 cells (iF aq row):=by
 obtain ⟨h1,h2,_⟩:=qe S.1 S.2 h
 exact⟨h1,h2⟩
theorem R7{l:List bY}{a:Nat}(h:a < l.length):cZ (eL l) (.int (a:Int)) = .ok (lD l[a]):=vA (by rw[aE3,aD2 h];rfl)
theorem R8{cells aq:List Cell}(c:Int){most:Nat}(hm:most<=900)(S:d7 cells aq)(lp:aq.length<=50)(up:bq cells)(hl:cells.length<=30)(mJ:(aW cells).length < 64) :
  ∃row,uQ cells aq row/\row.length<=most/\gR t [aC cells,aC aq,.int c,.int most] = .ok (.tup [eL row,aC (iF aq row)]):=by
 obtain ⟨n,n0,n1,hn⟩:=qR t c 60 (most+1) (by lia)
 obtain ⟨n,rfl⟩:=Int.eq_ofNat_of_zero_le n0
 have Ou:sC (aa (br (aP t) (aa (ak 2) (aa (dC (.int 60)) (aa (aQ eO (ak 3) (dC (.int 1))) au)))) au) [some (aC cells),some (aC aq),some (.int c),some (.int most),some (eL []),some (aC aq),none,none,none] = .ok ((List.range n).map fun i=>.int (i:Nat)):=by
  unfold sC
  have:(aa (br (aP t) (aa (ak 2) (aa (dC (.int 60)) (aa (aQ eO (ak 3) (dC (.int 1))) au)))) au) [some (aC cells),some (aC aq),some (.int c),some (.int most),some (eL []),some (aC aq),none,none,none] = .ok [.int n]:=by
   simp[hn]
  rw[this]
  dsimp only
  rw[aC2 (by simp;lia)]
  rfl
 obtain ⟨st',h1,row,x,y,z,ok,lr,h2⟩:=iS (bind:=bW 6) (F:=bD (bP 7 (br (bQ t) (aa (ak 0) (aa (ak 5) au))))
  (Dm.eG (aQ Qc (br iO (aa (ak 7) au)) (dC (.int 0)))
  (bD (bP 8 (aZ (aQ cZ (ak 7) (br (aP t) (aa (ak 2) (aa (aQ eO (dC (.int 61)) (ak 6)) (aa (br iO (aa (ak 7) au)) au)))))))
  (bD (jt 4 (aZ (ak 8)))
  (bP 5 (br (bw t) (aa (ak 5) (aa (ak 8) au))))))
  cC)) (f:=fun i:Nat=>D.int (i:Nat)) (Q:=fun pre st=>∃row x y z,uQ cells aq row/\row.length<=pre.length/\st=[some (aC cells),some (aC aq),some (.int c),some (.int most),some (eL row),some (aC (iF aq row)),x,y,z]) (List.range n) [] [some (aC cells),some (aC aq),some (.int c),some (.int most),some (eL []),some (aC aq),none,none,none] (fun q k r e st oG=>by
  obtain ⟨row,x,y,z,ok,lr,hy⟩:=oG
  subst hy
  rw[aE7] at e
  have hq:q.length<=900:=by
   have:=congrArg List.length e
   simp at this;lia
  have hw:=qe S.1 S.2 ok
  have lw:(iF aq row).length<=50:=by lia
  generalize hW:iF aq row=W at hw lw
  have ho:=Af t (aq:=W) up hl mJ
  generalize hO:xm cells W=O at ho
  have s1:bP 7 (br (bQ t) (aa (ak 0) (aa (ak 5) au))) [some (aC cells),some (aC aq),some (.int c),some (.int most),some (eL row),some (aC W),some (.int (k:Nat)),y,z] = .nx [some (aC cells),some (aC aq),some (.int c),some (.int most),some (eL row),some (aC W),some (.int (k:Nat)),some (eL O),z]:=by simp[ho]
  by_cases hO0:0 < O.length
  ·obtain ⟨m,m0,m1,hmx⟩:=qR t c (61+k) O.length (by lia)
   obtain ⟨m,rfl⟩:=Int.eq_ofNat_of_zero_le m0
   have xJ:m < O.length:=by lia
   have hix:=R7 xJ
   have zx:O[m]∈xm cells W:=by rw[hO];exact List.getElem_mem xJ
   have hbh:=uq t (aq:=W) O[m] (by lia)
   refine⟨[some (aC cells),some (aC aq),some (.int c),some (.int most),some (eL row),some (aC W),some (.int (k:Nat)),y,z],[some (aC cells),some (aC aq),some (.int c),some (.int most),some (eL (row++[O[m]])),some (aC (aT W O[m])),some (.int (k:Nat)),some (eL O),some (lD O[m])],rfl,?_,row++[O[m]],_,_,_,Ag ok (by rw[hW];exact zx),by simpa using lr,by rw[yR,hW]⟩
   rw[aY s1,BC (by simp;lia)]
   rw[aY (st':=[some (aC cells),some (aC aq),some (.int c),some (.int most),some (eL row),some (aC W),some (.int (k:Nat)),some (eL O),some (lD O[m])]) (dJ (WR (j6 (a:=eL O) (b:=.int (m:Int)) rfl (by simpa using hmx) hix) (Jt _)))]
   rw[aY (st':=[some (aC cells),some (aC aq),some (.int c),some (.int most),some (eL (row++[O[m]])),some (aC W),some (.int (k:Nat)),some (eL O),some (lD O[m])]) (by
    have:row.length<=5000:=by lia
    simp[jt,this])]
   exact dJ (Ek (a:=aC W) (b:=lD O[m]) rfl rfl hbh)
  ·refine⟨[some (aC cells),some (aC aq),some (.int c),some (.int most),some (eL row),some (aC W),some (.int (k:Nat)),y,z],[some (aC cells),some (aC aq),some (.int c),some (.int most),some (eL row),some (aC W),some (.int (k:Nat)),some (eL O),z],rfl,?_,row,_,_,_,ok,by simp;lia,by rw[hW]⟩
   rw[aY s1,v7 (j6 (a:=.int (O.length:Nat)) (b:=.int 0) (by simp) rfl (by rw[ax3,aE4 (by lia)]))];rfl) ⟨[],_,_,_,trivial,by simp,rfl⟩
 subst h2
 refine⟨row,ok,by simp at lr;lia,?_⟩
 unfold gR
 refine dQ [some (aC cells),some (aC aq),some (.int c),some (.int most),none,none,none,none,none] ?_
 rw[aY (st':=[some (aC cells),some (aC aq),some (.int c),some (.int most),some (eL []),none,none,none,none]) (by simp),
  aY (st':=[some (aC cells),some (aC aq),some (.int c),some (.int most),some (eL []),some (aC aq),none,none,none]) (by simp),
  aY (by rw[By,Ou];exact h1)]
 simp
end Pk
end R6
section ax9
namespace Cn
variable {S L:Type}[DecidableEq S]
def N(step:S->List (L×S))(u:S):Nat->S->Int
 | 0,s=>if s=u then 1 else 0
 | n+1,s=>((step s).map fun q=>N step u n q.2).sum
def val(d:List (S×Int))(k:S):Int:=match d.find? (fun z=>decide (z.1=k)) with | some z=>z.2 | none=>0
def ups(d:List (S×Int))(k:S)(v:Int):List (S×Int):=if d.any (fun z=>decide (z.1=k))=true then d.map (fun z=>(z.1,if z.1=k then v else z.2)) else d++[(k,v)]
def add(d:List (S×Int))(k:S)(c:Int):List (S×Int):=ups d k (val d k+c)
def PS(f:S->Int)(d:List (S×Int)):Int:=(d.map fun z=>z.2 * f z.1).sum
theorem kG(f:S->Int)(z:S×Int)(d:List (S×Int)):PS f (z::d)=z.2 * f z.1+PS f d:=by simp[PS]
theorem BK{k:S}{v:Int}:∀{d:List (S×Int)},(∀z∈d,z.1≠k)->d.map (fun z=>(z.1,if z.1=k then v else z.2))=d
 | [],_=>rfl
 | z::d,h=>by rw[aC1,BK fun y m=>h y (.tail _ m),aC3 (h z (.head _))]
theorem Ah{d:List (S×Int)}{k:S}:d.any (fun z=>decide (z.1=k))=true↔k∈d.map (·.1):=
 ⟨fun h=>let ⟨z,m,e⟩:=List.any_eq_true.mp h;aC5.mpr ⟨z,m,aG8 e⟩,fun h=>let ⟨z,m,e⟩:=aC5.mp h;List.any_eq_true.mpr ⟨z,m,aD6 e⟩⟩
theorem JR{d:List (S×Int)}{k:S}(h:k∉d.map (·.1)):val d k=0:=by
 unfold val
 rw[List.find?_eq_none.mpr fun z m e=>h (aC5.mpr ⟨z,m,aG8 e⟩)]
theorem JS(f:S->Int)(k:S)(v:Int):∀{d:List (S×Int)},(d.map (·.1)).Nodup->PS f (ups d k v)=PS f d+(v - val d k) * f k
 | [],_=>by simp[ups,PS,val]
 | z::d,nd=>by
  rw[aC1,aH4] at nd
  have ih:=JS f k v nd.2
  unfold ups at ih ⊢
  by_cases e:z.1=k
  ·have hn:∀y∈d,y.1≠k:=fun y m c=>nd.1 (by rw[e,<- c];exact aC5.mpr ⟨y,m,rfl⟩)
   have hv:val (z::d) k=z.2:=by simp[val,e]
   rw[aC2 (by simp[e]),aC1,BK hn,aC2 e,kG,kG,hv,e]
   simp only[Int.sub_mul];omega
  ·have hv:val (z::d) k=val d k:=by simp[val,e]
   rw[hv]
   by_cases c:d.any (fun z=>decide (z.1=k))=true
   ·rw[aC2 c] at ih
    rw[aC2 (by simp[e];simpa using c),aC1,aC3 e,kG,kG,ih]
    simp only;omega
   ·rw[aC3 c] at ih
    rw[aC3 (by simp[e];simpa using c),List.cons_append,kG,kG,ih]
    omega
theorem R9(f:S->Int)(k:S)(c:Int){d:List (S×Int)}(nd:(d.map (·.1)).Nodup):PS f (add d k c)=PS f d+c * f k:=by
 unfold add
 rw[JS f k _ nd,show val d k+c - val d k=c by omega]
theorem BL(d:List (S×Int))(k:S)(v:Int):(ups d k v).map (·.1)=if k∈d.map (·.1) then d.map (·.1) else d.map (·.1)++[k]:=by
 unfold ups
 by_cases c:k∈d.map (·.1)
 ·rw[aC2 (Ah.mpr c),aC2 c,aG9];rfl
 ·rw[aC3 (fun z=>c (Ah.mp z)),aC3 c,aH8];rfl
theorem JT{d:List (S×Int)}{k:S}{v:Int}(nd:(d.map (·.1)).Nodup):((ups d k v).map (·.1)).Nodup:=by
 rw[BL]
 split
 ·exact nd
 ·rename_i c
  rw[List.nodup_append]
  exact⟨nd,by simp,fun a ha b hb e=>by obtain rfl:=aF2.mp hb;subst e;exact c ha⟩
theorem Mz{d:List (S×Int)}{k:S}{v:Int}{s:S}(h:s∈(ups d k v).map (·.1)):s∈d.map (·.1)\/s=k:=by
 rw[BL] at h
 split at h
 ·exact .inl h
 ·rcases aF9.mp h with h | h
  ·exact .inl h
  ·exact .inr (aF2.mp h)
theorem JU{u:S}:∀{d:List (S×Int)},(d.map (·.1)).Nodup->PS (fun s=>if s=u then 1 else 0) d=val d u
 | [],_=>rfl
 | z::d,nd=>by
  rw[aC1,aH4] at nd
  rw[kG,JU nd.2]
  by_cases e:z.1=u
  ·rw[aC2 e,JR (fun m=>nd.1 (by rw[e];exact m))]
   simp[val,e]
  ·rw[aC3 e]
   simp[val,e]
def more(c:Int)(acc:List (S×Int))(qs:List (L×S)):List (S×Int):=qs.foldl (fun a q=>add a q.2 c) acc
def next(step:S->List (L×S))(acc d:List (S×Int)):List (S×Int):=d.foldl (fun a z=>more z.2 a (step z.1)) acc
theorem Er(f:S->Int)(c:Int):∀(qs:List (L×S)) {acc:List (S×Int)},(acc.map (·.1)).Nodup->((more c acc qs).map (·.1)).Nodup/\PS f (more c acc qs)=PS f acc+c * (qs.map fun q=>f q.2).sum
 | [],acc,nd=>⟨nd,by simp[more]⟩
 | q::qs,acc,nd=>by
  obtain ⟨h1,h2⟩:=Er f c qs (acc:=add acc q.2 c) (JT nd)
  refine⟨h1,?_⟩
  show PS f (more c (add acc q.2 c) qs)=_
  rw[h2,R9 f _ _ nd,aC1,List.sum_cons,Int.mul_add]
  omega
theorem Es(step:S->List (L×S))(f:S->Int):∀(d:List (S×Int)) {acc:List (S×Int)},(acc.map (·.1)).Nodup->((next step acc d).map (·.1)).Nodup/\PS f (next step acc d)=PS f acc+PS (fun s=>((step s).map fun q=>f q.2).sum) d
 | [],acc,nd=>⟨nd,by simp[next,PS]⟩
 | z::d,acc,nd=>by
  obtain ⟨h1,h2⟩:=Er f z.2 (step z.1) nd
  obtain ⟨h3,h4⟩:=Es step f d h1
  refine⟨h3,?_⟩
  show PS f (next step (more z.2 acc (step z.1)) d)=_
  rw[h4,h2,kG]
  omega
def lay(step:S->List (L×S))(d:List (S×Int)):Nat->List (S×Int)
 | 0=>d
 | n+1=>next step [] (lay step d n)
theorem JV(step:S->List (L×S))(u:S){d:List (S×Int)}(nd:(d.map (·.1)).Nodup):∀n k,((lay step d n).map (·.1)).Nodup/\PS (N step u k) (lay step d n)=PS (N step u (k+n)) d
 | 0,k=>⟨nd,rfl⟩
 | n+1,k=>by
  have h:=Es step (N step u k) (lay step d n) (acc:=[]) List.nodup_nil
  refine⟨h.1,?_⟩
  show PS (N step u k) (next step [] (lay step d n))=_
  rw[h.2,show k+(n+1)=k+1+n by omega,<- (JV step u nd n (k+1)).2]
  simp only[PS,List.map_nil,List.sum_nil,Int.zero_add]
  rfl
theorem MA(step:S->List (L×S))(s u:S)(n:Nat):val (lay step [(s,1)] n) u=N step u n s:=by
 have h:=JV step u (d:=[(s,(1:Int))]) (by simp) n 0
 rw[<- JU h.1]
 have e:(fun s=>if s=u then (1:Int) else 0)=N step u 0:=by funext x;rfl
 rw[e,h.2,Nat.zero_add]
 simp[PS]
def Z(step:S->List (L×S))(len:S->Nat)(u s:S):Int:=if len u<=len s then N step u (len s - len u) s else 0
theorem xu{α:Type}(f:α->Int):∀(l:List α),(∀x∈l,f x=0)->(l.map f).sum=0
 | [],_=>rfl
 | x::l,h=>by rw[aC1,List.sum_cons,h x (.head _),xu f l fun y m=>h y (.tail _ m)];rfl
theorem ay0{step:S->List (L×S)}{len:S->Nat}{u s:S}(h:∀q∈step s,len q.2+1=len s):Z step len u s=(if s=u then 1 else 0)+((step s).map fun q=>Z step len u q.2).sum:=by
 unfold Z
 by_cases c:len u<=len s
 ·rw[aC2 c]
  cases hk:len s - len u with
  | zero=>
   rw[xu _ _ fun q m=>by have:=h q m;rw[aC3 (by omega)]]
   show (if s=u then (1:Int) else 0)=_
   omega
  | succ k=>
   rw[aC3 (fun e=>by subst e;omega),Int.zero_add]
   show ((step s).map fun q=>N step u k q.2).sum=_
   congr 1
   refine aI7 fun q m=>?_
   have:=h q m
   rw[aC2 (by omega),show len q.2 - len u=k by omega]
 ·rw[aC3 c,xu _ _ fun q m=>by have:=h q m;rw[aC3 (by omega)],aC3 (fun e=>by subst e;omega)]
  rfl
theorem N_Z{step:S->List (L×S)}{len:S->Nat}{u s:S}:N step u (len s - len u) s=Z step len u s:=by
 unfold Z
 split
 ·rfl
 ·rw[show len s - len u=0 by omega]
  show (if s=u then (1:Int) else 0)=0
  rw[aC3 (fun e=>by subst e;omega)]
end Cn
end ax9
section Ra
namespace Pk
open L2 Dm
variable (t:kE)
def tS(l:List Cell):D:=.tup (l.map cD)
theorem Dg(neg:Bool)(c:Cell)(l:List Cell):lP neg (cD c) (tS l) = .ok (.bl (if neg then !decide (c∈l) else decide (c∈l))):=by
 have h:=f7 neg c l
 unfold lP aC at h
 unfold lP tS
 exact h
theorem Rb(aq:List Cell)(p:bY):gG t [tS aq,lD p] = .ok (.bl (qc aq p)):=by
 unfold gG qc
 refine dQ [some (tS aq),some (lD p)] (iR ?_)
 have g1:=Dg false p.1 aq
 have g2:=Dg true p.2 aq
 have g3:=Dg false (mid p.1 p.2) aq
 by_cases h1:p.1∈aq <;> by_cases h2:p.2∈aq <;> simp[En,g1,g2,g3,h1,h2]
theorem JW(neg:Bool)(x a b:Cell):lP neg (cD x) (.tup [cD a,cD b]) = .ok (.bl (if neg then !(decide (a=x) || decide (b=x)) else (decide (a=x) || decide (b=x)))):=by
 unfold lP
 dsimp only
 rw[aC2 (by simp[bL,jm])]
 simp
theorem G9{aq:List Cell}(p:bY)(hl:aq.length<=60):gH t [tS aq,lD p] = .ok (aC (aT aq p)):=by
 have hb:=En t p.1 p.2
 have g1:(jk (Y5 (ak 0)) 1 [2] (bW 0) (aQ (lP true) (ak 0) (ak 1)) (aZ (ak 0))) [some (tS aq),some (lD p),some (.tup [cD p.1,cD (mid p.1 p.2)])] = .ok (aC (left aq p)):=by
  refine t8 (ds:=aq.map cD) rfl (by simp;lia) ?_
  refine mH (S:=fun x=>[some (cD x),some (.tup [cD p.1,cD (mid p.1 p.2)])]) (P:=fun st=>∃y,st=[y,some (.tup [cD p.1,cD (mid p.1 p.2)])]) aq (fun x _=>⟨_,rfl⟩) (fun x _ st ⟨y,e⟩=>by subst e;rfl) (fun x _=>?_) (fun x _ _=>by simp) _ ⟨none,rfl⟩
  refine j6 (a:=cD x) (b:=.tup [cD p.1,cD (mid p.1 p.2)]) rfl rfl ?_
  rw[JW]
  have e1:decide (p.1=x)=decide (x=p.1):=by rw[Bool.eq_iff_iff];simp[eq_comm]
  have e2:decide (mid p.1 p.2=x)=decide (x=mid p.1 p.2):=by rw[Bool.eq_iff_iff];simp[eq_comm]
  rw[e1,e2]
  cases decide (x=p.1) <;> cases decide (x=mid p.1 p.2) <;> rfl
 have hle:(left aq p).length<=aq.length:=aI9 ..
 unfold gH
 refine dQ [some (tS aq),some (lD p),none] ?_
 rw[aY (st':=[some (tS aq),some (lD p),some (.tup [cD p.1,cD (mid p.1 p.2)])]) (by simp[hb])]
 refine iR (D6 (a:=aC (left aq p++[p.2])) (j6 (a:=aC (left aq p)) (b:=aC [p.2]) g1 (by simp) (D7 (by simp;lia))) ?_)
 exact Eo (by simp;lia)
def d8(cells:List Cell)(s:List Cell):List (bY×List Cell):=(xm cells s).map fun p=>(p,aT s p)
theorem JX(cells:List Cell):(aW cells).length<=4 * cells.length:=by
 have h4:∀a,((BU cells a).map fun b=>(a,b)).length<=4:=fun a=>by
  rw[aC8];exact aD5 (aI9 ..) (by simp[four])
 have:=vB (fun a=>(BU cells a).map fun b=>(a,b)) 4 cells fun a _=>h4 a
 unfold aW
 lia
theorem jC(l:List Cell):ir [aC l] = .ok (tS l):=by
 unfold ir aC tS
 dsimp only
 rw[aC2 (fV fun d hd=>by obtain ⟨c,_,rfl⟩:=aC5.mp hd;unfold cD;simp[fR,d9])]
theorem MB{cells s:List Cell}(hl:cells.length<=200)(ls:s.length<=60):eY t [eL (aW cells),tS s] = .ok (.lst ((d8 cells s).map fun q=>.tup [lD q.1,tS q.2])):=by
 have e:(d8 cells s).map (fun q=>D.tup [lD q.1,tS q.2])=((aW cells).filter (qc s)).map fun p=>D.tup [lD p,tS (aT s p)]:=by
  unfold d8 xm
  rw[aG9];rfl
 rw[e]
 unfold eY
 refine dQ [some (eL (aW cells)),some (tS s)] (iR (t8 (ds:=(aW cells).map lD) rfl ?_ ?_))
 ·rw[aC8];have:=JX cells;lia
 ·exact mH (S:=fun x=>[some (lD x),some (tS s)]) (P:=fun st=>∃y,st=[y,some (tS s)]) (aW cells) (fun x _=>⟨_,rfl⟩) (fun x _ st ⟨y,e⟩=>by subst e;rfl) (fun x _=>by simp[Rb]) (fun x _ _=>by
   have n1:fR (lD x)=true:=by unfold lD cD;simp[fR,d9]
   have n2:∀ds,oQ (.tup (lD x::ds))=true:=fun _=>rfl
   simp[G9 t x ls,jC,n1,n2]) _ ⟨none,rfl⟩
def kS(s:List Cell):List (List Int):=s.map fun c=>[c.1,c.2]
theorem Dh:∀{a b:List Cell},kS a=kS b->a=b
 | [],[],_=>rfl
 | [],_::_,h=>by cases h
 | _::_,[],h=>by cases h
 | x::a,y::b,h=>by
  unfold kS at h
  rw[aC1,aC1] at h
  injection h with h1 h2
  injection h1 with h3 h4
  injection h4 with h5 _
  rw[Dh (a:=a) (b:=b) h2]
  obtain ⟨x1,x2⟩:=x
  obtain ⟨y1,y2⟩:=y
  dsimp only at h3 h5
  rw[h3,h5]
theorem BN:∀(s:List Cell),kK (s.map cD)=some (kS s)
 | []=>rfl
 | c::s=>by
  rw[aC1,kK,BN s]
  rfl
theorem qv(s:List Cell):qC (tS s)=some (kS s):=BN s
end Pk
end Ra
section Rc
namespace Pk
open L2 Dm
theorem qw:∀{cells s:List Cell},bq cells->bq s->(∀c∈s,c∈cells)->s.Sublist cells
 | _,[],_,_,_=>List.nil_sublist _
 | [],a::s,_,_,h=>by cases h a (.head _)
 | x::r,a::s,hc,hs,h=>by
  have uT:=List.pairwise_cons.mp hc
  have Kh:=List.pairwise_cons.mp hs
  by_cases e:a=x
  ·subst e
   refine List.Sublist.cons_cons a (qw uT.2 Kh.2 fun c m=>?_)
   rcases aC6.mp (h c (.tail _ m)) with rfl | m'
   ·exact absurd (Kh.1 _ m) (oh _)
   ·exact m'
  ·have ha:a∈r:=(aC6.mp (h a (.head _))).resolve_left e
   refine List.Sublist.cons x (qw uT.2 hs fun c m=>?_)
   rcases aC6.mp (h c m) with rfl | m'
   ·rcases aC6.mp m with z | m2
    ·exact absurd z.symm e
    ·exact absurd (yP (uT.1 _ ha) (Kh.1 _ m2)) (oh _)
   ·exact m'
def subs:List Cell->List (List Cell)
 | []=>[[]]
 | c::l=>(subs l).map (c :: ·)++subs l
theorem BO:∀l,(subs l).length=2 ^ l.length
 | []=>rfl
 | c::l=>by rw[subs,aD0,aC8,BO l,aD1,Nat.pow_succ];lia
theorem xw:∀{l s:List Cell},s.Sublist l->s∈subs l
 | _,_,.slnil=>by simp[subs]
 | _,_,.cons c h=>by rw[subs];exact aF7 _ (xw h)
 | _,_,.cons_cons c h=>by rw[subs];exact List.mem_append_left _ (aC5.mpr ⟨_,xw h,rfl⟩)
theorem len_sub:∀{l m:List (List Cell)},l.Nodup->(∀x∈l,x∈m)->l.length<=m.length
 | [],_,_,_=>aI2 _
 | a::l,m,hn,h=>by
  have yW:=aH4.mp hn
  have ha:a∈m:=h a (.head _)
  have:=len_sub (l:=l) (m:=m.erase a) yW.2 fun x hx=>(List.mem_erase_of_ne fun e=>yW.1 (by rw[<- e];exact hx)).mpr (h x (.tail _ hx))
  rw[List.length_erase_of_mem ha] at this
  have pos:0 < m.length:=List.length_pos_of_mem ha
  rw[aD1]
  lia
end Pk
end Rc
section Rf
namespace Pk
open L2 Dm
theorem xx:∀(a b:List Cell),cY (a.map cD) (b.map cD)=decide (a=b)
 | [],[]=>by simp[cY]
 | [],_::_=>by simp[cY]
 | _::_,[]=>by simp[cY]
 | x::a,y::b=>by
  rw[aC1,aC1,cY,xx a b]
  have:gq (cD x) (cD y)=decide (x=y):=by
   obtain ⟨x1,x2⟩:=x
   obtain ⟨y1,y2⟩:=y
   unfold cD
   simp only[gq,cY,Bool.and_true]
   rw[Bool.eq_iff_iff]
   simp
  rw[this,Bool.eq_iff_iff]
  simp
theorem Ai(a b:List Cell):gq (aC a) (aC b)=decide (a=b):=by unfold aC;rw[gq];exact xx a b
def lK(F:List (List Cell)):D:=.lst (F.map aC)
theorem MC(neg:Bool)(s:List Cell)(F:List (List Cell)):lP neg (aC s) (lK F) = .ok (.bl (if neg then !decide (s∈F) else decide (s∈F))):=by
 have fl:∀a:List Cell,flat (aC a)=true:=fun a=>by
  unfold aC;rw[flat]
  exact gv fun d hd=>by obtain ⟨c,_,rfl⟩:=aC5.mp hd;unfold cD;simp[flat,bL]
 have dp:∀a:List Cell,dep (aC a)<=2:=fun a=>by
  have:=qu a
  unfold aC;rw[dep];lia
 unfold lP lK
 dsimp only
 rw[aC2 (by
  simp only[aD4,aG0]
  refine⟨⟨fl s,gv fun d hd=>by obtain ⟨c,_,rfl⟩:=aC5.mp hd;exact fl c⟩,aD5 (rT (n:=2) fun d hd=>by obtain ⟨c,_,rfl⟩:=aC5.mp hd;exact dp c) (by decide)⟩)]
 have e:(F.map aC).any (fun e=>gq e (aC s))=decide (s∈F):=by
  rw[List.any_map,Bool.eq_iff_iff,List.any_eq_true,decide_eq_true_iff]
  constructor
  ·rintro ⟨x,hx,h⟩
   have h:gq (aC x) (aC s)=true:=h
   rw[Ai,decide_eq_true_iff] at h
   exact h▸hx
  ·intro h
   exact⟨s,h,by show gq (aC s) (aC s)=true;rw[Ai];simp⟩
 rw[e]
end Pk
end Rf
section Rg
namespace Pk
open L2 Dm
variable (t:kE)
def Og(cells s u:List Cell):Prop:=∃row,uQ cells s row/\iF s row=u
theorem Og.oN{cells s u:List Cell}(S:d7 cells s)(h:Og cells s u):d7 cells u:=by
 obtain ⟨row,ok,e⟩:=h
 rw[<- e];exact S.row ok
theorem Og.snoc{cells s u:List Cell}(h:Og cells s u){p:bY}(hp:p∈xm cells u):Og cells s (aT u p):=by
 obtain ⟨row,ok,e⟩:=h
 subst e
 exact⟨row++[p],Ag ok hp,yR ..⟩
def WZ(cells:List Cell):Prop:=∀F:List (List Cell),F.Nodup->(∀s∈F,d7 cells s)->F.length<=4096
theorem vC{cells:List Cell}(up:bq cells)(hl:cells.length<=12):WZ cells:=fun F nd h=>by
 have h1:=len_sub nd fun s m=>xw (qw up (h s m).1 (h s m).2)
 rw[BO] at h1
 have h2:2 ^ cells.length<=2 ^ 12:=Nat.pow_le_pow_right (by decide) hl
 have:(2:Nat) ^ 12=4096:=rfl
 lia
structure Ga(cells aq:List Cell)(F:List (List Cell)):Prop where
 nd:F.Nodup
 S4:∀s∈F,Og cells aq s
 hd:aq∈F
def BP(t:kE):DS:=(bD (bP 5 (br (bw t) (aa (aQ cZ (ak 2) (ak 3)) (aa (ak 4) au))))
 (Dm.eG (aQ (lP true) (ak 5) (ak 2))
 (jt 2 (ak 5))
 cC))
theorem Et{F:List (List Cell)}{a:Nat}{s:List Cell}(h:F[a]?=some s):cZ (lK F) (.int (a:Int)) = .ok (aC s):=vA (by rw[aE3,h];rfl)
theorem BQ{cells aq s:List Cell}(mn:WZ cells)(S:d7 cells aq)(ls:s.length<=60){a:Nat}(ps:List bY)(hp:∀p∈ps,p∈xm cells s){F:List (List Cell)}(hs:F[a]?=some s)(I:Ga cells aq F)(y z:Option D) :
  ∃F' y' z',dY (bW 4) (BP t) (ps.map lD) [some (aC cells),some (aC aq),some (lK F),some (.int (a:Nat)),y,z]=
   .nx [some (aC cells),some (aC aq),some (lK F'),some (.int (a:Nat)),y',z']/\Ga cells aq F'/\F <+: F'/\∀p∈ps,aT s p∈F':=by
 obtain ⟨st',h1,F',y',z',h2,h3,h4,h5⟩:=iS (bind:=bW 4) (F:=BP t) (f:=lD)
  (Q:=fun pre st=>∃F' y z,st=[some (aC cells),some (aC aq),some (lK F'),some (.int (a:Nat)),y,z]/\Ga cells aq F'/\F <+: F'/\∀p∈pre,aT s p∈F') ps [] [some (aC cells),some (aC aq),some (lK F),some (.int (a:Nat)),y,z] (fun pre x r e st ⟨M,y,z,hy,hI,AH,qz⟩=>by
  subst hy
  rw[aE7] at e
  have mx:x∈ps:=by rw[e];simp
  have hM:M[a]?=some s:=by
   obtain ⟨T,rfl⟩:=AH
   rw[aG3 (aD7.mp hs).1];exact hs
  have hb:(br (bw t) (aa (aQ cZ (ak 2) (ak 3)) (aa (ak 4) au))) [some (aC cells),some (aC aq),some (lK M),some (.int (a:Nat)),some (lD x),z] = .ok (aC (aT s x)):=
   Ek (a:=aC s) (b:=lD x) (j6 (a:=lK M) (b:=.int (a:Nat)) rfl rfl (Et hM)) rfl (uq t x ls)
  refine⟨[some (aC cells),some (aC aq),some (lK M),some (.int (a:Nat)),some (lD x),z],?_⟩
  have g:=MC true (aT s x) M
  by_cases RZ:aT s x∈M
  ·refine⟨[some (aC cells),some (aC aq),some (lK M),some (.int (a:Nat)),some (lD x),some (aC (aT s x))],rfl,?_,M,_,_,rfl,hI,AH,fun p m=>?_⟩
   ·unfold BP
    rw[aY (dJ hb)]
    rw[aD6 RZ] at g
    rw[v7 (j6 (a:=aC (aT s x)) (b:=lK M) rfl rfl g)]
    rfl
   ·rcases aF9.mp m with m | m
    ·exact qz p m
    ·obtain rfl:=aF2.mp m;exact RZ
  ·have Kh:s∈M:=aG7 hM
   have hR:Og cells aq (aT s x):=(hI.S4 s Kh).snoc (hp x mx)
   refine⟨[some (aC cells),some (aC aq),some (lK (M++[aT s x])),some (.int (a:Nat)),some (lD x),some (aC (aT s x))],rfl,?_,M++[aT s x],_,_,rfl,⟨?_,fun u m=>?_,List.mem_append_left _ hI.hd⟩,?_,fun p m=>?_⟩
   ·unfold BP
    rw[aY (dJ hb)]
    rw[aE4 RZ] at g
    rw[BC (j6 (a:=aC (aT s x)) (b:=lK M) rfl rfl g)]
    have hlen:=mn M hI.nd fun u m=>(hI.S4 u m).oN S
    unfold jt lK
    show (if (M.map aC).length<=5000 then _ else _)=_
    rw[aC2 (by rw[aC8];lia),aH8]
    rfl
   ·rw[List.nodup_append]
    exact⟨hI.nd,by simp,fun u hu v hv e=>by obtain rfl:=aF2.mp hv;subst e;exact RZ hu⟩
   ·rcases aF9.mp m with m | m
    ·exact hI.S4 u m
    ·obtain rfl:=aF2.mp m;exact hR
   ·exact AH.trans (List.prefix_append ..)
   ·rcases aF9.mp m with m | m
    ·exact List.mem_append_left _ (qz p m)
    ·obtain rfl:=aF2.mp m;exact aF7 _ (.head _)) ⟨F,y,z,rfl,I,List.prefix_refl _,fun p m=>nomatch m⟩
 rw[aE7] at h5
 subst h2
 exact⟨F',y',z',h1,h3,h4,h5⟩
def JY:DF:=aQ Vs (ak 3) (br iO (aa (ak 2) au))
def MD(t:kE):DS:=(bD (dP (eK (br (bQ t) (aa (ak 0) (aa (aQ cZ (ak 2) (ak 3)) au)))) (bW 4) (BP t)) (bP 3 (aQ eO (ak 3) (dC (.int 1)))))
theorem xy{cells aq:List Cell}(up:bq cells)(hl:cells.length<=12)(mJ:(aW cells).length < 64)(S:d7 cells aq)(lp:aq.length<=60):∀(fuel a:Nat) (F:List (List Cell)) (y z:Option D),Ga cells aq F->a<=F.length->4096 < a+fuel->(∀j s,j < a->F[j]?=some s->∀p∈xm cells s,aT s p∈F)->
  ∃F' x y' z',uV JY (MD t) fuel [some (aC cells),some (aC aq),some (lK F),some (.int (a:Nat)),y,z] = .nx [some (aC cells),some (aC aq),some (lK F'),x,y',z']/\Ga cells aq F'/\∀s∈F',∀p∈xm cells s,aT s p∈F'
 | 0,a,F,y,z,I,ha,hf,_=>by
  have:=vC up hl F I.nd fun u m=>(I.S4 u m).oN S
  lia
 | fuel+1,a,F,y,z,I,ha,hf,hd=>by
  have ht:JY [some (aC cells),some (aC aq),some (lK F),some (.int (a:Nat)),y,z] = .ok (.bl (decide (a < F.length))):=by
   refine(j6 (a:=.int (a:Nat)) (b:=.int (F.length:Nat)) rfl (D6 (a:=lK F) rfl ?_) rfl).trans ?_
   ·unfold lK;rw[D0,aC8]
   ·have:decide (((a:Nat):Int) < ((F.length:Nat):Int))=decide (a < F.length):=by rw[Bool.eq_iff_iff];simp
    rw[ax2,this]
  rw[uV,ht]
  by_cases iI:a < F.length
  ·rw[aD6 iI]
   dsimp only
   have hs:F[a]?=some F[a]:=aD2 iI
   generalize F[a]=s at hs
   have hR:Og cells aq s:=I.S4 s (aG7 hs)
   have Ss:=hR.oN S
   have ls:s.length<=60:=by
    obtain ⟨row,ok,e⟩:=hR
    have:=(qe S.1 S.2 ok).2.2.2
    rw[e] at this
    lia
   obtain ⟨F',y',z',h1,h2,h3,h4⟩:=BQ t (vC up hl) S ls (xm cells s) (fun p m=>m) hs I y z
   have hi:eK (br (bQ t) (aa (ak 0) (aa (aQ cZ (ak 2) (ak 3)) au))) [some (aC cells),some (aC aq),some (lK F),some (.int (a:Nat)),y,z] = .ok ((xm cells s).map lD):=by
    unfold eK
    rw[Ek (a:=aC cells) (b:=aC s) rfl (j6 (a:=lK F) (b:=.int (a:Nat)) rfl rfl (Et hs)) (Af t up (by lia) mJ)]
   have hb:MD t [some (aC cells),some (aC aq),some (lK F),some (.int (a:Nat)),y,z] = .nx [some (aC cells),some (aC aq),some (lK F'),some (.int ((a+1:Nat))),y',z']:=by
    unfold MD
    rw[aY (F:=dP _ _ _) (by unfold dP;rw[hi];exact h1)]
    exact dJ rfl
   rw[hb]
   dsimp only
   have vM:=h3.length_le
   refine xy up hl mJ S lp fuel (a+1) F' y' z' h2 (by lia) (by lia) fun j u hj hu p hp=>?_
   have hu':F[j]?=some u:=by
    obtain ⟨T,rfl⟩:=h3
    rw[aG3 (by lia)] at hu;exact hu
   by_cases e:j=a
   ·subst e
    rw[hs] at hu';cases hu'
    exact h4 p hp
   ·exact h3.subset (hd j u (by lia) hu' p hp)
  ·rw[aE4 iI]
   refine⟨F,_,_,_,rfl,I,fun s m p hp=>?_⟩
   obtain ⟨j,hj,e⟩:=List.getElem_of_mem m
   exact hd j s (by lia) (by rw[aD2 hj,e]) p hp
theorem ME{cells aq:List Cell}(up:bq cells)(hl:cells.length<=12)(mJ:(aW cells).length < 64)(S:d7 cells aq)(lp:aq.length<=60):∃F,gf t [aC cells,aC aq] = .ok (lK F)/\Ga cells aq F/\∀s∈F,∀p∈xm cells s,aT s p∈F:=by
 obtain ⟨F,x,y,z,h1,h2,h3⟩:=xy t up hl mJ S lp 5000 0 [aq] none none ⟨by simp,fun s m=>by obtain rfl:=aF2.mp m;exact⟨[],trivial,rfl⟩,.head _⟩ (by simp) (by decide) (fun j s hj=>by lia)
 refine⟨F,?_,h2,h3⟩
 unfold gf
 refine dQ [some (aC cells),some (aC aq),none,none,none,none] ?_
 rw[aY (st':=[some (aC cells),some (aC aq),some (lK [aq]),none,none,none]) (dJ (by simp[lK])),
  aY (st':=[some (aC cells),some (aC aq),some (lK [aq]),some (.int (0:Nat)),none,none]) (dJ rfl)]
 show bD (uV JY (MD t) 5000) _ _=_
 rw[aY h1]
 exact iR rfl
end Pk
end Rg
section Rh
namespace Pk
open L2 Dm
variable (t:kE)
def dN(L:List (List Cell×Int)):List D:=L.flatMap fun z=>[tS z.1,.int z.2]
def JZ(L:List (List Cell×Int)):List (List (List Int)×D×D):=L.map fun z=>(kS z.1,tS z.1,.int z.2)
theorem Aj(z:List Cell×Int)(L:List (List Cell×Int)):dN (z::L)=tS z.1 :: .int z.2::dN L:=rfl
theorem xA:∀(L:List (List Cell×Int)),fD (dN L)=some (JZ L)
 | []=>rfl
 | z::L=>by rw[Aj,fD,qv,xA L];rfl
theorem Di{a b:List Cell}:kS a=kS b↔a=b:=⟨Dh,fun e=>by rw[e]⟩
theorem MF(L:List (List Cell×Int))(b:List Cell):((JZ L).map (·.1)).any (fun k=>decide (k=kS b))=L.any (fun z=>decide (z.1=b)):=by
 unfold JZ
 rw[aG9,List.any_map]
 congr 1
 funext z
 simp[Di]
theorem ur(L:List (List Cell×Int)):jP (some (some (.cu 2 (dN L))))=some (dN L,JZ L):=wN rfl (xA L)
theorem xB(b:List Cell):∀(L:List (List Cell×Int)),(JZ L).find? (fun z=>decide (z.1=kS b))=(L.find? (fun z=>decide (z.1=b))).map fun z=>(kS z.1,tS z.1,.int z.2)
 | []=>rfl
 | z::L=>by
  show ((kS z.1,tS z.1,D.int z.2)::JZ L).find? _=_
  rw[List.find?_cons,List.find?_cons]
  by_cases e:z.1=b
  ·rw[aD6 (Di.mpr e),aD6 e];rfl
  ·rw[aE4 (fun c=>e (Di.mp c)),aE4 e];exact xB b L
theorem Ri(L:List (List Cell×Int))(b:List Cell):LU (JZ L) (kS b) (.int 0) = .int (Cn.val L b):=by
 unfold LU Cn.val
 rw[xB]
 cases L.find? (fun z=>decide (z.1=b)) <;> rfl
theorem K1{f1 f2 f3:DF}{st:dX}{L:List (List Cell×Int)}{b:List Cell}(h1:f1 st = .ok (.cu 2 (dN L)))(h2:f2 st = .ok (tS b))(h3:f3 st = .ok (.int 0)):sJ f1 f2 f3 st = .ok (.int (Cn.val L b)):=by
 unfold sJ
 rw[h1,h2,h3]
 dsimp only
 rw[ur]
 dsimp only
 unfold wO
 rw[qv]
 dsimp only
 rw[Ri]
 rfl
theorem K2(b:List Cell)(v:Int):∀(L:List (List Cell×Int)),FZ (kS b) (.int v) (dN L)=dN (L.map fun z=>(z.1,if z.1=b then v else z.2))
 | []=>rfl
 | z::L=>by
  rw[Aj,FZ,K2 b v L,qv,aC1,Aj]
  by_cases e:z.1=b
  ·rw[aC2 (by rw[e]),aC2 e]
  ·rw[aC3 (fun c=>e (Dh (aE1 c))),aC3 e]
theorem Rj(L:List (List Cell×Int))(b:List Cell)(v:Int):putD (dN L) (JZ L) (kS b) (tS b) (.int v)=dN (Cn.ups L b v):=by
 unfold putD Cn.ups
 rw[MF]
 split
 ·exact K2 b v L
 ·unfold dN;rw[List.flatMap_append];rfl
theorem Eu{i:Nat}{fk f:DF}{st:dX}{L:List (List Cell×Int)}{b:List Cell}{v:Int}(hi:st[i]?=some (some (.cu 2 (dN L))))(hk:fk st = .ok (tS b))(hf:f st = .ok (.int v))(hl:L.length<=5000):qK i fk f st = .nx (st.set i (some (.cu 2 (dN (Cn.ups L b v))))):=by
 unfold qK
 rw[hf,hi]
 dsimp only
 rw[ur,hk]
 dsimp only
 unfold IZ
 rw[qv]
 dsimp only
 rw[aC2 ⟨by unfold JZ;rw[aC8];exact hl,rfl⟩,Rj]
theorem Ew{L:List (List Cell×Int)}{b:List Cell}{v:Int}(h:L.find? (fun z=>decide (z.1=b))=some (b,v)):mC (.cu 2 (dN L)) (tS b) = .ok (.int v):=by
 have e:yK (.cu 2 (dN L)) (tS b) = .ok (.int v):=by
  unfold yK
  rw[qv]
  simp only[xA,xB,h]
  rfl
 unfold mC
 rw[e]
 rfl
def KN(cells:List Cell)(L:List (List Cell×Int)):Prop:=(L.map (·.1)).Nodup/\∀s∈L.map (·.1),d7 cells s
theorem KN.len{cells:List Cell}(up:bq cells)(hl:cells.length<=12){L:List (List Cell×Int)}(h:KN cells L):L.length<=4096:=by
 have:=vC up hl _ h.1 h.2
 rwa [aC8] at this
theorem KN.ups{cells:List Cell}{L:List (List Cell×Int)}(h:KN cells L){k:List Cell}{v:Int}(S:d7 cells k):KN cells (Cn.ups L k v):=
 ⟨Cn.JT h.1,fun s m=>by
  rcases Cn.Mz m with m | rfl
  ·exact h.2 s m
  ·exact S⟩
theorem Gb{cells:List Cell}(up:bq cells)(hl:cells.length<=12)(a b c:D){n:Int}(qs:List (bY×List Cell))(hq:∀q∈qs,d7 cells q.2)(acc:List (List Cell×Int))(ok:KN cells acc)(y z:Option D) :
  ∃y' z',dY (iK 5 6) (qK 2 (ak 6) (aQ eO (sJ (ak 2) (ak 6) (dC (.int 0))) (ak 4))) (qs.map fun q=>D.tup [lD q.1,tS q.2]) [some a,some b,some (.cu 2 (dN acc)),some c,some (.int n),y,z]=
   .nx [some a,some b,some (.cu 2 (dN (Cn.more n acc qs))),some c,some (.int n),y',z']/\KN cells (Cn.more n acc qs):=by
 obtain ⟨st',h1,y',z',h2,h3⟩:=iS (bind:=iK 5 6) (F:=qK 2 (ak 6) (aQ eO (sJ (ak 2) (ak 6) (dC (.int 0))) (ak 4))) (f:=fun q:bY×List Cell=>D.tup [lD q.1,tS q.2])
  (Q:=fun pre st=>∃y z,st=[some a,some b,some (.cu 2 (dN (Cn.more n acc pre))),some c,some (.int n),y,z]/\KN cells (Cn.more n acc pre)) qs [] [some a,some b,some (.cu 2 (dN acc)),some c,some (.int n),y,z] (fun p x r e st ⟨y,z,hy,hk⟩=>by
  subst hy
  rw[aE7] at e
  have mx:x∈qs:=by rw[e];simp
  have X0:Cn.more n acc (p++[x])=Cn.add (Cn.more n acc p) x.2 n:=by unfold Cn.more;rw[List.foldl_append];rfl
  rw[X0]
  generalize Cn.more n acc p=M at hk ⊢
  have lM:=hk.len up hl
  refine⟨[some a,some b,some (.cu 2 (dN M)),some c,some (.int n),some (lD x.1),some (tS x.2)],[some a,some b,some (.cu 2 (dN (Cn.add M x.2 n))),some c,some (.int n),some (lD x.1),some (tS x.2)],rfl,?_,_,_,rfl,hk.ups (hq x mx)⟩
  rw[Eu (L:=M) (b:=x.2) (v:=Cn.val M x.2+n) rfl rfl (j6 (a:=.int (Cn.val M x.2)) (b:=.int n) (K1 (L:=M) (b:=x.2) rfl rfl rfl) rfl rfl) (by lia)]
  rfl) ⟨y,z,rfl,ok⟩
 rw[aE7] at h2 h3
 subst h2
 exact⟨y',z',h1,h3⟩
theorem Dj{cells s:List Cell}(S:d7 cells s):∀q∈d8 cells s,d7 cells q.2:=fun q m=>by
 unfold d8 at m
 obtain ⟨p,hp,rfl⟩:=aC5.mp m
 exact S.row (row:=[p]) ⟨hp,trivial⟩
theorem BR{cells s:List Cell}(S:d7 cells s):∀q∈d8 cells s,q.2.length+1=s.length:=fun q m=>by
 unfold d8 at m
 obtain ⟨p,hp,rfl⟩:=aC5.mp m
 exact(qe S.1 S.2 (row:=[p]) ⟨hp,trivial⟩).2.2.2
theorem jD{cells s:List Cell}(up:bq cells)(S:d7 cells s):s.length<=cells.length:=(qw up S.1 S.2).length_le
theorem MG{cells:List Cell}(up:bq cells)(hl:cells.length<=12){L:List (List Cell×Int)}(hS:KN cells L) :
  fz t [eL (aW cells),.cu 2 (dN L)] = .ok (.cu 2 (dN (Cn.next (d8 cells) [] L)))/\KN cells (Cn.next (d8 cells) [] L):=by
 obtain ⟨st',h1,y,z,u,v,h2,h3⟩:=iS (bind:=iK 3 4) (F:=dP (eK (br (eY t) (aa (ak 0) (aa (ak 3) au)))) (iK 5 6) (qK 2 (ak 6) (aQ eO (sJ (ak 2) (ak 6) (dC (.int 0))) (ak 4)))) (f:=fun z:List Cell×Int=>D.tup [tS z.1,.int z.2])
  (Q:=fun pre st=>∃y z u v,st=[some (eL (aW cells)),some (.cu 2 (dN L)),some (.cu 2 (dN (Cn.next (d8 cells) [] pre))),y,z,u,v]/\KN cells (Cn.next (d8 cells) [] pre)) L [] [some (eL (aW cells)),some (.cu 2 (dN L)),some (.cu 2 (dN [])),none,none,none,none] (fun p x r e st ⟨y,z,u,v,hy,hk⟩=>by
  subst hy
  rw[aE7] at e
  have Sx:d7 cells x.1:=hS.2 _ (aC5.mpr ⟨x,by rw[e];simp,rfl⟩)
  have lx:=jD up Sx
  have hs:=MB t (cells:=cells) (s:=x.1) (by lia) (by lia)
  obtain ⟨y',z',g1,g2⟩:=Gb up hl (eL (aW cells)) (.cu 2 (dN L)) (tS x.1) (n:=x.2) (d8 cells x.1) (Dj Sx) _ hk u v
  have ee:Cn.next (d8 cells) [] (p++[x])=Cn.more x.2 (Cn.next (d8 cells) [] p) (d8 cells x.1):=by unfold Cn.next;rw[List.foldl_append];rfl
  rw[ee]
  refine⟨[some (eL (aW cells)),some (.cu 2 (dN L)),some (.cu 2 (dN (Cn.next (d8 cells) [] p))),some (tS x.1),some (.int x.2),u,v],_,rfl,?_,some (tS x.1),some (.int x.2),y',z',rfl,g2⟩
  have hi:eK (br (eY t) (aa (ak 0) (aa (ak 3) au))) [some (eL (aW cells)),some (.cu 2 (dN L)),some (.cu 2 (dN (Cn.next (d8 cells) [] p))),some (tS x.1),some (.int x.2),u,v] = .ok ((d8 cells x.1).map fun q=>D.tup [lD q.1,tS q.2]):=by
   unfold eK
   rw[Ek (a:=eL (aW cells)) (b:=tS x.1) rfl rfl hs]
  unfold dP
  rw[hi]
  exact g1) ⟨none,none,none,none,rfl,⟨List.nodup_nil,fun z m=>nomatch m⟩⟩
 rw[aE7] at h2 h3
 subst h2
 refine⟨?_,h3⟩
 unfold fz
 refine dQ [some (eL (aW cells)),some (.cu 2 (dN L)),none,none,none,none,none] ?_
 rw[aY (st':=[some (eL (aW cells)),some (.cu 2 (dN L)),some (.cu 2 (dN [])),none,none,none,none]) (dJ rfl)]
 have hi:FY (ak 1) [some (eL (aW cells)),some (.cu 2 (dN L)),some (.cu 2 (dN [])),none,none,none,none] = .ok (L.map fun z=>D.tup [tS z.1,.int z.2]):=by
  unfold FY
  show (match jP (some (some (.cu 2 (dN L)))) with | some y=>_ | none=>_)=_
  rw[ur]
  show R.ok ((JZ L).map fun t=>D.tup [t.2.1,t.2.2])=_
  unfold JZ
  rw[aG9];rfl
 rw[aY (F:=dP (FY (ak 1)) (iK 3 4) _) (by unfold dP;rw[hi];exact h1)]
 exact iR rfl
theorem MH{cells aq others:List Cell}(up:bq cells)(hl:cells.length<=12)(S:d7 cells aq)(So:d7 cells others) :
  gQ t [bB cells,aC aq,aC others] = .ok (.int (Cn.N (d8 cells) others (aq.length - others.length) aq)):=by
 have lp:=jD up S
 have lo:=jD up So
 have k1:=(BH t (cells:=cells) (aq:=aq) (by lia)).1 S
 have k2:=(BH t (cells:=cells) (aq:=others) (by lia)).1 So
 have kl:=Mu t (cells:=cells) (by lia)
 unfold gQ
 refine dQ [some (bB cells),some (aC aq),some (aC others),none,none,none] ?_
 rw[aY (st':=[some (bB cells),some (aC aq),some (aC others),none,none,none]) (Ej (Ek (a:=bB cells) (b:=aC aq) rfl rfl k1)),
  aY (st':=[some (bB cells),some (aC aq),some (aC others),none,none,none]) (Ej (Ek (a:=bB cells) (b:=aC others) rfl rfl k2)),
  aY (st':=[some (bB cells),some (aC aq),some (aC others),some (eL (aW cells)),none,none]) (dJ (D6 (a:=bB cells) rfl kl)),
  aY (st':=[some (bB cells),some (aC aq),some (aC others),some (eL (aW cells)),some (.cu 2 (dN [(aq,1)])),none]) (dJ (by
   unfold Ea
   rw[D6 (a:=aC aq) (r:=.ok (tS aq)) rfl (jC aq)]
   show (match qC (tS aq) with | some _=>_ | none=>_)=_
   rw[qv];rfl))]
 obtain ⟨st',h1,y,h2,h3⟩:=iS (bind:=bW 5) (F:=bP 4 (br (fz t) (aa (ak 3) (aa (ak 4) au)))) (f:=fun i:Nat=>D.int (i:Nat))
  (Q:=fun pre st=>∃y,st=[some (bB cells),some (aC aq),some (aC others),some (eL (aW cells)),some (.cu 2 (dN (Cn.lay (d8 cells) [(aq,1)] pre.length))),y]/\KN cells (Cn.lay (d8 cells) [(aq,1)] pre.length)) (List.range (aq.length - others.length)) [] [some (bB cells),some (aC aq),some (aC others),some (eL (aW cells)),some (.cu 2 (dN [(aq,1)])),none] (fun p x r e st ⟨y,hy,hk⟩=>by
  subst hy
  obtain ⟨g1,g2⟩:=MG t up hl hk
  refine⟨[some (bB cells),some (aC aq),some (aC others),some (eL (aW cells)),some (.cu 2 (dN (Cn.lay (d8 cells) [(aq,1)] p.length))),some (.int (x:Nat))],_,rfl,dJ (Ek (a:=eL (aW cells)) (b:=.cu 2 (dN (Cn.lay (d8 cells) [(aq,1)] p.length))) rfl rfl g1),some (.int (x:Nat)),?_,?_⟩
  ·rw[aD0];rfl
  ·rw[aD0];exact g2) ⟨none,rfl,aH4.mpr ⟨aF1,List.nodup_nil⟩,fun s m=>by obtain rfl:=aF2.mp m;exact S⟩
 rw[aE7,List.length_range] at h2
 subst h2
 have hi:sC (aa (aQ jE (br iO (aa (ak 1) au)) (br iO (aa (ak 2) au))) au) [some (bB cells),some (aC aq),some (aC others),some (eL (aW cells)),some (.cu 2 (dN [(aq,1)])),none] = .ok ((List.range (aq.length - others.length)).map fun i:Nat=>D.int (i:Nat)):=by
  have e:(aQ jE (br iO (aa (ak 1) au)) (br iO (aa (ak 2) au))) [some (bB cells),some (aC aq),some (aC others),some (eL (aW cells)),some (.cu 2 (dN [(aq,1)])),none] = .ok (.int ((aq.length:Int) - others.length)):=
   j6 (a:=.int aq.length) (b:=.int others.length) (D6 (a:=aC aq) rfl (by unfold aC;rw[D0,aC8])) (D6 (a:=aC others) rfl (by unfold aC;rw[D0,aC8])) rfl
  unfold sC
  simp only[QH,WO,e,R.bind]
  rw[aC2 (by simp;lia),show ((aq.length:Int) - others.length).toNat=aq.length - others.length by lia]
 rw[aY (F:=dP _ _ _) (by unfold dP;rw[hi];exact h1)]
 refine iR ?_
 rw[K1 (L:=Cn.lay (d8 cells) [(aq,1)] (aq.length - others.length)) (b:=others) rfl (D6 (a:=aC others) rfl (jC others)) rfl,Cn.MA]
end Pk
end Rh
section Rk
namespace Pk
open L2 Dm
variable (t:kE)
def pr(s:List Cell):D:=.tup [.int (s.length:Nat),aC s]
theorem Ey:∀{a b:List Cell},a.length=b.length->dS (a.map cD) (b.map cD)=true
 | [],[],_=>rfl
 | [],_::_,h=>by cases h
 | _::_,[],h=>by cases h
 | a::l,b::m,h=>by rw[aC1,aC1,dS,D8,Ey (by simpa using h)];rfl
theorem K3:∀(l:List Cell),Cr (l.map cD)=true
 | []=>rfl
 | a::l=>by rw[aC1,Cr,Jr,K3 l];rfl
theorem Rl(F:List (List Cell)):Wo (F.map pr)=true:=by
 unfold Wo
 refine aI0.mpr fun a ha=>aI0.mpr fun b hb=>?_
 obtain ⟨x,_,rfl⟩:=aC5.mp ha
 obtain ⟨y,_,rfl⟩:=aC5.mp hb
 have d:=qu x
 show (Cr (x.map cD)&&bL (x.map cD)&&decide (jm (x.map cD)<=50)&&(decide (((x.length:Nat):Int)≠(y.length:Nat)) || dS (x.map cD) (y.map cD)))=true
 rw[K3,BA,aD6 (by lia:jm (x.map cD)<=50)]
 by_cases e:x.length=y.length
 ·rw[Ey e];simp
 ·rw[aD6 (by lia:((x.length:Nat):Int)≠(y.length:Nat))];rfl
def S5:D->List Cell
 | .tup [_,.lst ds]=>ds.map fun d=>match d with | .tup [.int r,.int c]=>(r,c) | _=>(0,0)
 | _=>[]
theorem K4(s:List Cell):S5 (pr s)=s:=by
 show (s.map cD).map _=s
 rw[aG9]
 exact(aI7 fun c _=>rfl).trans (List.map_id s)
theorem MJ(F:List (List Cell)):∃G:List (List Cell),G.Perm F/\G.Pairwise (fun a b=>a.length<=b.length)/\rj [.lst (F.map pr)] = .ok (.lst (G.map pr)):=by
 have hp:=cG (F.map pr)
 have e:dm (F.map pr)=((dm (F.map pr)).map S5).map pr:=by
  rw[aG9]
  refine((aI7 fun x m=>?_).trans (List.map_id _)).symm
  obtain ⟨s,_,rfl⟩:=aC5.mp (hp.mem_iff.mp m)
  show pr (S5 (pr s))=pr s
  rw[K4]
 refine⟨(dm (F.map pr)).map S5,?_,?_,?_⟩
 ·have:=hp.map S5
  rw[aG9] at this
  exact this.trans (by rw[show F.map (S5∘pr)=F from (aI7 fun s _=>K4 s).trans (List.map_id F)])
 ·have:=lV (F.map pr)
  rw[e,List.pairwise_map] at this
  refine this.imp fun {a b} h=>?_
  unfold rH pr at h
  rw[aC,aC,qp,qp,HT.cj] at h
  by_cases c:((b.length:Nat):Int)=(a.length:Nat)
  ·lia
  ·rw[aC3 c] at h
   simp at h
   lia
 ·unfold rj
  dsimp only
  rw[aC2 (Rl F),<- e]
def Zc(cells others:List Cell)(s:List Cell):Int:=Cn.Z (d8 cells) List.length others s
def wy(cells others:List Cell)(G:List (List Cell)):List (List Cell×Int):=G.map fun s=>(s,Zc cells others s)
theorem Ak{cells others b:List Cell}:∀{G:List (List Cell)},b∈G->(wy cells others G).find? (fun z=>decide (z.1=b))=some (b,Zc cells others b)
 | a::G,h=>by
  show ((a,Zc cells others a)::wy cells others G).find? _=_
  rw[List.find?_cons]
  by_cases e:a=b
  ·subst e;rw[aD6 rfl]
  ·rw[aE4 e]
   exact Ak ((aC6.mp h).resolve_left fun c=>e c.symm)
theorem Rm{cells others s:List Cell}{G:List (List Cell)}(h:s∉G):Cn.ups (wy cells others G) s (Zc cells others s)=wy cells others (G++[s]):=by
 unfold Cn.ups
 rw[aC3 (fun c=>h ?_)]
 ·unfold wy;rw[aH8];rfl
 ·have:=Cn.Ah.mp c
  unfold wy at this
  rw[aG9] at this
  obtain ⟨x,hx,e⟩:=aC5.mp this
  rw[<- show x=s from e];exact hx
theorem MK{cells others s:List Cell}{G:List (List Cell)}(ls:s.length<=60)(hG:∀p∈xm cells s,aT s p∈G)(a b c d e:D)(n:Int)(y:Option D)(ps:List bY)(hp:∀p∈ps,p∈xm cells s) :
  ∃y',dY (bW 8) (bP 7 (aQ eO (ak 7) (aQ mC (ak 4) (br ir (aa (br (bw t) (aa (ak 6) (aa (ak 8) au))) au))))) (ps.map lD) [some a,some b,some c,some d,some (.cu 2 (dN (wy cells others G))),some e,some (aC s),some (.int n),y]=
   .nx [some a,some b,some c,some d,some (.cu 2 (dN (wy cells others G))),some e,some (aC s),some (.int (n+(ps.map fun p=>Zc cells others (aT s p)).sum)),y']:=by
 obtain ⟨st',h1,y',h2⟩:=iS (bind:=bW 8) (F:=bP 7 (aQ eO (ak 7) (aQ mC (ak 4) (br ir (aa (br (bw t) (aa (ak 6) (aa (ak 8) au))) au))))) (f:=lD)
  (Q:=fun pre st=>∃y,st=[some a,some b,some c,some d,some (.cu 2 (dN (wy cells others G))),some e,some (aC s),some (.int (n+(pre.map fun p=>Zc cells others (aT s p)).sum)),y]) ps [] [some a,some b,some c,some d,some (.cu 2 (dN (wy cells others G))),some e,some (aC s),some (.int n),y] (fun p x r e' st ⟨y,hy⟩=>by
  subst hy
  rw[aE7] at e'
  have mx:x∈ps:=by rw[e'];simp
  refine⟨[some a,some b,some c,some d,some (.cu 2 (dN (wy cells others G))),some e,some (aC s),some (.int (n+(p.map fun p=>Zc cells others (aT s p)).sum)),some (lD x)],_,rfl,dJ (j6 (a:=.int (n+(p.map fun p=>Zc cells others (aT s p)).sum)) (b:=.int (Zc cells others (aT s x))) rfl (j6 (a:=.cu 2 (dN (wy cells others G))) (b:=tS (aT s x)) rfl (D6 (a:=aC (aT s x)) (Ek (a:=aC s) (b:=lD x) rfl rfl (uq t x ls)) (jC _)) (Ew (Ak (hG x (hp x mx))))) rfl),some (lD x),?_⟩
  rw[aH8,List.sum_append,<- Int.add_assoc]
  simp) ⟨y,by simp⟩
 rw[aE7] at h2
 subst h2
 exact⟨y',h1⟩
theorem ML(cells others:List Cell)(G:List (List Cell)):(wy cells others G).length=G.length:=by unfold wy;rw[aC8]
theorem K5{cells aq others:List Cell}(up:bq cells)(hl:cells.length<=12)(mJ:(aW cells).length < 64)(S:d7 cells aq):gh t [aC cells,aC aq,aC others] = .ok (.int (Zc cells others aq)):=by
 have lp:=jD up S
 obtain ⟨F,hF,I,cl⟩:=ME t up hl mJ S (by lia)
 have SF:∀s∈F,d7 cells s:=fun s m=>(I.S4 s m).oN S
 have lF:=vC up hl F I.nd SF
 obtain ⟨G,pG,wG,hS⟩:=MJ F
 have lG:G.length<=4096:=by rw[pG.length_eq];exact lF
 have nG:G.Nodup:=pG.nodup_iff.mpr I.nd
 have hC:(jk (eK (br (gf t) (aa (ak 0) (aa (ak 1) au)))) 1 [] (bW 0) (dC (.bl true)) (bX 100 (aa (br iO (aa (ak 0) au)) (aa (ak 0) au)))) [some (aC cells),some (aC aq),some (aC others),none,none,none,none,none,none] = .ok (.lst (F.map pr)):=by
  refine t8 (ds:=F.map aC) (by unfold eK;rw[Ek (a:=aC cells) (b:=aC aq) rfl rfl hF];rfl) (by rw[aC8];lia) ?_
  have:=mH (bind:=bW 0) (ft:=dC (.bl true)) (fe:=bX 100 (aa (br iO (aa (ak 0) au)) (aa (ak 0) au))) (f:=aC) (p:=fun _=>true) (g:=pr) (S:=fun x=>[some (aC x)]) (P:=fun st=>∃y,st=[y]) F (fun x _=>⟨_,rfl⟩) (fun x _ st ⟨y,e⟩=>by subst e;rfl) (fun x _=>rfl) (fun x _ _=>by
   have n:oQ (.tup [.int (x.length:Nat),aC x])=true:=rfl
   simp[pr,aC,n]) [none] ⟨none,rfl⟩
  rwa [List.filter_eq_self.mpr (fun _ _=>rfl)] at this
 have ay1:∀s∈F,Zc cells others s=(if s=others then 1 else 0)+((xm cells s).map fun p=>Zc cells others (aT s p)).sum:=fun s m=>by
  have h:=Cn.ay0 (step:=d8 cells) (len:=List.length) (u:=others) (s:=s) (BR (SF s m))
  unfold Zc
  rw[h]
  congr 1
  show ((d8 cells s).map _).sum=_
  unfold d8
  rw[aG9]
  rfl
 obtain ⟨st',h1,y5,y6,y7,y8,h2⟩:=iS (bind:=iK 5 6) (F:=bD (bP 7 (br J2 (aa (aQ (lO false) (ak 6) (ak 2)) au))) (bD (dP (eK (br (bQ t) (aa (ak 0) (aa (ak 6) au)))) (bW 8) (bP 7 (aQ eO (ak 7) (aQ mC (ak 4) (br ir (aa (br (bw t) (aa (ak 6) (aa (ak 8) au))) au)))))) (qK 4 (br ir (aa (ak 6) au)) (aZ (ak 7))))) (f:=pr)
  (Q:=fun pre st=>∃y5 y6 y7 y8,st=[some (aC cells),some (aC aq),some (aC others),some (.lst (G.map pr)),some (.cu 2 (dN (wy cells others pre))),y5,y6,y7,y8]) G [] [some (aC cells),some (aC aq),some (aC others),some (.lst (G.map pr)),some (.cu 2 (dN [])),none,none,none,none] (fun p x r e st ⟨y5,y6,y7,y8,hy⟩=>by
  subst hy
  rw[aE7] at e
  have mG:x∈G:=by rw[e];simp
  have mF:x∈F:=pG.mem_iff.mp mG
  have Sx:=SF x mF
  have lx:=jD up Sx
  have hb:∀q∈xm cells x,aT x q∈p:=fun q hq=>by
   have mb:aT x q∈G:=pG.mem_iff.mpr (cl x mF q hq)
   have lb:=BR Sx (q,aT x q) (by unfold d8;exact aC5.mpr ⟨q,hq,rfl⟩)
   rw[e] at mb wG
   rcases aF9.mp mb with m | m
   ·exact m
   ·have w2:=(List.pairwise_append.mp wG).2.1
    rcases aC6.mp m with m | m
    ·rw[m] at lb;simp at lb
    ·have:=(List.pairwise_cons.mp w2).1 _ m
     dsimp only at lb
     lia
  have nx:x∉p:=fun m=>by
   rw[e] at nG
   exact(List.nodup_append.mp nG).2.2 x m x (.head _) rfl
  have lpG:p.length<=4096:=by rw[e] at lG;simp at lG;lia
  have e1:(br J2 (aa (aQ (lO false) (ak 6) (ak 2)) au)) [some (aC cells),some (aC aq),some (aC others),some (.lst (G.map pr)),some (.cu 2 (dN (wy cells others p))),some (.int (x.length:Nat)),some (aC x),y7,y8] = .ok (.int (if x=others then 1 else 0)):=by
   refine D6 (a:=.bl (decide (x=others))) (j6 (a:=aC x) (b:=aC others) rfl rfl (by rw[D4];simp)) ?_
   show R.ok (D.int (if decide (x=others)=true then 1 else 0))=_
   simp
  obtain ⟨y',g⟩:=MK t (cells:=cells) (others:=others) (G:=p) (s:=x) (by lia) hb (aC cells) (aC aq) (aC others) (.lst (G.map pr)) (.int (x.length:Nat)) (if x=others then 1 else 0) y8 (xm cells x) (fun q m=>m)
  rw[<- ay1 x mF] at g
  have hi:eK (br (bQ t) (aa (ak 0) (aa (ak 6) au))) [some (aC cells),some (aC aq),some (aC others),some (.lst (G.map pr)),some (.cu 2 (dN (wy cells others p))),some (.int (x.length:Nat)),some (aC x),some (.int (if x=others then 1 else 0)),y8] = .ok ((xm cells x).map lD):=by
   unfold eK
   rw[Ek (a:=aC cells) (b:=aC x) rfl rfl (Af t up (by lia) mJ)]
  refine⟨[some (aC cells),some (aC aq),some (aC others),some (.lst (G.map pr)),some (.cu 2 (dN (wy cells others p))),some (.int (x.length:Nat)),some (aC x),y7,y8],_,rfl,?_,some (.int (x.length:Nat)),some (aC x),some (.int (Zc cells others x)),y',rfl⟩
  rw[aY (st':=[some (aC cells),some (aC aq),some (aC others),some (.lst (G.map pr)),some (.cu 2 (dN (wy cells others p))),some (.int (x.length:Nat)),some (aC x),some (.int (if x=others then 1 else 0)),y8]) (dJ e1)]
  rw[aY (F:=dP _ _ _) (by unfold dP;rw[hi];exact g),Eu (L:=wy cells others p) (b:=x) (v:=Zc cells others x) rfl (D6 (a:=aC x) rfl (jC x)) (by simp[fR]) (by rw[ML];lia),Rm nx]
  rfl) ⟨none,none,none,none,rfl⟩
 rw[aE7] at h2
 subst h2
 unfold gh
 refine dQ [some (aC cells),some (aC aq),some (aC others),none,none,none,none,none,none] ?_
 rw[aY (st':=[some (aC cells),some (aC aq),some (aC others),some (.lst (G.map pr)),none,none,none,none,none]) (dJ (D6 (a:=.lst (F.map pr)) hC hS)),
  aY (st':=[some (aC cells),some (aC aq),some (aC others),some (.lst (G.map pr)),some (.cu 2 (dN [])),none,none,none,none]) (dJ rfl)]
 have hi:eK (ak 3) [some (aC cells),some (aC aq),some (aC others),some (.lst (G.map pr)),some (.cu 2 (dN [])),none,none,none,none] = .ok (G.map pr):=rfl
 rw[aY (F:=dP _ _ _) (by unfold dP;rw[hi];exact h1)]
 exact iR (j6 (a:=.cu 2 (dN (wy cells others G))) (b:=tS aq) rfl (D6 (a:=aC aq) rfl (jC aq)) (Ew (Ak (pG.mem_iff.mpr I.hd))))
end Pk
end Rk
section X3
namespace Pk
open L2 Dm
variable (t:kE)
theorem Ez:∀F:List (List Cell),cY (F.map aC) (F.map aC)=true
 | []=>by simp[cY]
 | a::F=>by rw[aC1,cY,Ai,aD6 rfl,Bool.true_and];exact Ez F
theorem MM(neg:Bool)(F:List (List Cell)):lO neg (lK F) (lK F) = .ok (.bl (!neg)):=by
 have fl:∀a:List Cell,flat (aC a)=true:=fun a=>by unfold aC;rw[flat];exact BA a
 have dp:∀a:List Cell,dep (aC a)<=2:=fun a=>by
  have:=qu a
  unfold aC;rw[dep];lia
 have fF:flat (lK F)=true:=by
  unfold lK;rw[flat]
  exact gv fun d hd=>by obtain ⟨c,_,rfl⟩:=aC5.mp hd;exact fl c
 have dF:dep (lK F)<=60:=by
  have:=rT (n:=2) (ds:=F.map aC) fun d hd=>by obtain ⟨c,_,rfl⟩:=aC5.mp hd;exact dp c
  unfold lK;rw[dep];lia
 have eF:gq (lK F) (lK F)=true:=by unfold lK;rw[gq];exact Ez F
 unfold lO
 rw[fF,aC2 (by simp[dF]),eF]
 cases neg <;> rfl
theorem MN(n:Int):fW t [.int n] = .ok (.bl true):=by
 unfold fW
 exact dQ [some (.int n)] (iR (by simp[IJ,VQ,vz,sV]))
theorem Rn(c:Int)(st:dX)(f:DF)(h:f st = .ok (.int c)):∃m:Nat,(m=8\/m=12)/\(aQ cZ (cB 100 (aa (dC (.int 8)) (aa (dC (.int 8)) (aa (dC (.int 8)) (aa (dC (.int 12)) au))))) (aQ gU (aQ m7 f (dC (.int 4))) (dC (.int 4)))) st = .ok (.int (m:Nat)):=by
 have e1:(aQ gU (aQ m7 f (dC (.int 4))) (dC (.int 4))) st = .ok (.int (c / 4 % 4)):=j6 (a:=.int (c / 4)) (b:=.int 4) (j6 (a:=.int c) (b:=.int 4) h rfl (yO (by decide) (by decide))) rfl (q9 (by decide))
 have e2:(cB 100 (aa (dC (.int 8)) (aa (dC (.int 8)) (aa (dC (.int 8)) (aa (dC (.int 12)) au))))) st = .ok (.lst [.int 8,.int 8,.int 8,.int 12]):=rfl
 have h0:0<=c / 4 % 4:=by lia
 have h4:c / 4 % 4 < 4:=by lia
 generalize c / 4 % 4=j at e1 h0 h4
 have:j=0\/j=1\/j=2\/j=3:=by lia
 rcases this with rfl | rfl | rfl | rfl
 ·exact⟨8,.inl rfl,j6 e2 e1 rfl⟩
 ·exact⟨8,.inl rfl,j6 e2 e1 rfl⟩
 ·exact⟨8,.inl rfl,j6 e2 e1 rfl⟩
 ·exact⟨12,.inr rfl,j6 e2 e1 rfl⟩
theorem X4(ns:List Int):yN t [iL ns] = .ok (.bl true):=by
 obtain ⟨c,RY⟩:∃c:Int,aN t [iL ns,.int 2] = .ok (.int c):=⟨_,JC t ns 2⟩
 obtain ⟨c3,X5⟩:∃c:Int,aN t [iL ns,.int 3] = .ok (.int c):=⟨_,JC t ns 3⟩
 obtain ⟨c4,Ro⟩:∃c:Int,aN t [iL ns,.int 4] = .ok (.int c):=⟨_,JC t ns 4⟩
 obtain ⟨m,hm,e0⟩:=Rn c4 [some (iL ns),none,none,none,none,none,none] (br (aN t) (aa (ak 0) (aa (dC (.int 4)) au))) (Ek (a:=iL ns) (b:=.int 4) rfl rfl Ro)
 obtain ⟨l,hl,dl⟩:=Mr t ns m (by lia)
 have ll:=dl.le
 have l12:l.length<=12:=by lia
 obtain ⟨g,hg,sub⟩:=JD t c (l:=l) dl.pos (by lia)
 have Sg:d7 l g:=.sub dl.up sub
 have lg:=jD dl.up Sg
 have hB:=Mt t (dl.mono (by lia:m<=24))
 obtain ⟨row,ok,lr,m9⟩:=R8 t c3 (most:=8) (by decide) Sg (by lia) dl.up (by lia) dl.mJ
 have m9:gR t [aC l,aC g,.int c3,.int 8] = .ok (.tup [eL row,aC (iF g row)]):=m9
 have S1:d7 l (iF g row):=Sg.row ok
 obtain ⟨w,hw,ay2⟩:=JD t c3 (l:=l) dl.pos (by lia)
 have S2:d7 l w:=.sub dl.up ay2
 generalize iF g row=W at m9 S1
 have e4:gU (.int c4) (.int 4) = .ok (.int (c4 % 4)):=q9 (by decide)
 have fin:∀(u:List Cell),d7 l u->(bD (bP 5 (cB 100 (aa (br jN (aa (ak 3) au)) (aa (br jN (aa (ak 4) au)) au))))
   (bD (bP 6 (br (gQ t) (aa (ak 2) (aa (aQ cZ (ak 5) (dC (.int 0))) (aa (aQ cZ (ak 5) (dC (.int 1))) au)))))
   (gO (ic (br (fW t) (aa (ak 6) au)) (ic (aQ (lO false) (ak 6) (br (gh t) (aa (ak 1) (aa (ak 3) (aa (ak 4) au))))) (aQ (lO false) (ak 5) (cB 100 (aa (ak 3) (aa (ak 4) au)))))))))
   [some (iL ns),some (aC l),some (bB l),some (aC g),some (aC u),none,none] = .rt (.bl true):=fun u Su=>by
  have hc:=MH t dl.up l12 Sg Su
  have hz:=K5 t (others:=u) dl.up l12 dl.mJ Sg
  rw[show Cn.N (d8 l) u (g.length - u.length) g=Zc l u g from Cn.N_Z (len:=List.length)] at hc
  generalize Zc l u g=z at hc hz
  have ez:lO false (.int z) (.int z) = .ok (.bl true):=by simp[lO,flat,dep,gq]
  rw[aY (st':=[some (iL ns),some (aC l),some (bB l),some (aC g),some (aC u),some (lK [g,u]),none]) (dJ (by simp[lK])),
   aY (st':=[some (iL ns),some (aC l),some (bB l),some (aC g),some (aC u),some (lK [g,u]),some (.int z)]) (dJ (XY (a:=bB l) (b:=aC g) (c:=aC u) rfl rfl rfl hc))]
  refine iR (jf (D6 (a:=.int z) rfl (MN t z)) (jf (j6 (a:=.int z) (b:=.int z) rfl (XY (a:=aC l) (b:=aC g) (c:=aC u) rfl rfl rfl hz) ez) (j6 (a:=lK [g,u]) (b:=lK [g,u]) rfl (by simp[lK]) (by rw[MM];rfl))))
 unfold yN
 refine dQ [some (iL ns),none,none,none,none,none,none] ?_
 rw[aY (st':=[some (iL ns),some (aC l),none,none,none,none,none]) (dJ (Ek (a:=iL ns) (b:=.int (m:Nat)) rfl e0 hl)),
  aY (st':=[some (iL ns),some (aC l),some (bB l),none,none,none,none]) (by simp[hB]),
  aY (st':=[some (iL ns),some (aC l),some (bB l),some (aC g),none,none,none]) (by simp[RY,hg]),
  aY (st':=[some (iL ns),some (aC l),some (bB l),some (aC g),some (aC W),none,none]) (dJ (j6 (a:=.tup [eL row,aC W]) (b:=.int 1) (by simp[X5,m9]) rfl rfl))]
 by_cases hc:c4 % 4=1
 ·rw[aY (st':=[some (iL ns),some (aC l),some (bB l),some (aC g),some (aC w),none,none]) (by
   rw[BC (j6 (a:=.int (c4 % 4)) (b:=.int 1) (j6 (a:=.int c4) (b:=.int 4) (Ek (a:=iL ns) (b:=.int 4) rfl rfl Ro) rfl e4) rfl (by rw[hc];simp[lO,flat,dep,gq]))]
   exact dJ (by simp[X5,hw]))]
  exact fin w S2
 ·rw[aY (st':=[some (iL ns),some (aC l),some (bB l),some (aC g),some (aC W),none,none]) (by
   rw[v7 (j6 (a:=.int (c4 % 4)) (b:=.int 1) (j6 (a:=.int c4) (b:=.int 4) (Ek (a:=iL ns) (b:=.int 4) rfl rfl Ro) rfl e4) rfl (by simp[lO,flat,dep,gq,hc]))]
   rfl)]
  exact fin W S1
end Pk
end X3
section Rp
noncomputable section
namespace Hd
open PySem PySem.W PySem.Calls PyProof.Rows
abbrev pq:Program:=PySem.Challenge.pw_pegleap_k12_rows_counted
def nth:List Stmt → Nat → Stmt
  | [],_=> .Pass ⟨0,0,0,0⟩
  | s::_,0=>s
  | _::r,n+1=>nth r n
def tk:Nat → List Stmt → List Stmt
  | 0,_=>[]
  | _,[]=>[]
  | n+1,s::r=>s::tk n r
def dr:Nat → List Stmt → List Stmt
  | 0,l=>l
  | _,[]=>[]
  | n+1,_::r=>dr n r
def st(i:Nat):Stmt:=nth pq.main.body i
def sc(i j:Nat):Stmt:=match st i with | .ClassDef _ _ _ b _ _ _ _ _ _ _=>nth b j | s=>s
def fN:Stmt → Str | .FunctionDef n _ _ _ _ _ _ _ _ _=>n | _=>default
def fX(s:Stmt)(q:Str)(g:Addr)(cl:List (Str×Addr))(dv kv doc pm:Value)(an:Option Addr)(cd ct:Value)(bi:Addr):PySem.Data:=match s with | .FunctionDef n a b _ _ _ sc _ _ _=> .func ⟨n,q,a,.stmts b,sc,g,cl,dv,kv,doc,pm,an,cd,ct,bi⟩ | _=> .plain
def en(P:Params)(x:Str)(t:Tok)(v:Value):DictEntry:=⟨PyData.keyHash P x,.str x t,v⟩
theorem MO{tb:String → Option Builtin}{p:Program}{w:World}{n:Nat}{a:Option Value}{N:Nat}{s r:Shared}{env:Env}{c:Code}{pos:Pos}{B:List Frame}{b b':List Stmt}(e:b=b')(k:topRun tb p w n a N s (restOf b' env c pos B)=some r):topRun tb p w n a N s (restOf b env c pos B)=some r:=e▸k
def cO(n q:Str)(t:Tok)(L a k:Int)(r:Addr)(b:Bool)(c:Addr)(x y z:Value)(u:Nat):Obj:=⟨.type "code",none,.fields #[.str n t,.str q (t+1),.str "/claim/cut.py" (t+2),.int L 0,.int a 0,.int 0 0,.int 0 0,.int k 0,.ref r,.bool b,.int 181 0,.ref c,.none,x,y,z,.int u 0,.int L 0,.str "/claim/cut.py" (u+1)],#[]⟩
def fO(s:Stmt)(g:Addr)(m:Str)(t:Tok)(c:Addr):Obj:=⟨.type "function",none,fX s (fN s) g [] .none .none .none (.str m t) none (.ref c) .none 0,#[]⟩
def fZ(s:Stmt):Obj:=⟨.none,none,fX s (fN s) 0 [] .none .none .none .none none .none .none 0,#[]⟩
abbrev nd(o:Obj)(l r:BT):BT:= .node o l r
abbrev ly(o:Obj):BT:= .node o .nil .nil
def o0:Obj:=⟨.type "tuple",none,(.seq #[] 0),#[]⟩
def o1:Obj:=⟨.none,none,(.fields #[]),#[]⟩
def o2:Obj:=cO "<module>" "<module>" 182 1 0 0 11 false 12 .none .none .none 185
def o3:Obj:=⟨.type "frame",none,.plain,#[(some (.ref 13)),(some (.ref 3)),(some (.ref 3)),none,(some (.str "__main__" 164)),none,(some (.ref 0))]⟩
def S6:Life:={ }
def Ha(P:Params):Heap:=⟨⟨[boot_o_0 P,boot_o_1 P,boot_o_2 P,boot_o_3 P,boot_o_4 P,boot_o_5 P,boot_o_6 P,boot_o_7 P,boot_o_8 P,boot_o_9 P,boot_o_10 P,o0,o1,o2,o3]⟩,S6⟩
def T0(P:Params):BT:=(nd (boot_o_0 P) (nd (boot_o_1 P) (nd (boot_o_3 P) (ly (boot_o_7 P)) (ly o0)) (nd (boot_o_5 P) (ly (boot_o_9 P)) (ly o2))) (nd (boot_o_2 P) (nd (boot_o_4 P) (ly (boot_o_8 P)) (ly o1)) (nd (boot_o_6 P) (ly (boot_o_10 P)) (ly o3))))
def S0(w:World)(os:OsState):SharedT:=⟨T0 w.params,15,S6,#[],⟨0,0,0,0⟩,187,os⟩
def o4(P:Params):Obj:=⟨.type "dict",none,(.dict #[en P "__name__" 165 (.str "pegleap.boards" 239),en P "__doc__" 166 .none,en P "__package__" 167 .none,en P "__loader__" 168 (.builtin "__main__.__loader__#opaque"),en P "__spec__" 169 .none,en P "__annotations__" 170 (.ref 6),en P "__builtins__" 171 (.ref 4),en P "__file__" 173 (.str "/claim/cut.py" 172),en P "__cached__" 174 .none,en P "PegError" 206 (.ref 24),en P "BadBoard" 222 (.ref 37),en P "BadPegs" 238 (.ref 49),en P "LAST" 242 (.int 7 241),en P "MOST_CELLS" 244 (.int 24 243),en P "is_rising" 251 (.ref 58),en P "is_cell" 258 (.ref 65),en P "check_cells" 266 (.ref 72)] 17),#[]⟩
def o5:Obj:=⟨.none,none,(.fields #[.int 2 0,.int 0 0,.ref 20,.int 4 0,.int 0 0,.ref 33,.int 6 0,.int 0 0,.ref 45,.int 11 0,.int 0 0,.ref 57,.int 13 0,.int 0 0,.ref 64,.int 15 0,.int 0 0,.ref 71]),#[]⟩
def o6:Obj:=⟨.type "tuple",none,(.seq #[.type "ValueError"] 0),#[]⟩
def o7:Obj:=⟨.type "builtin_function_or_method",none,(.fields #[.builtin "type.__prepare__",.type "type"]),#[]⟩
def o8(P:Params):Obj:=⟨.type "dict",none,(.dict #[en P "__module__" 196 (.str "pegleap.errors" 187),en P "__qualname__" 198 (.str "PegError" 197),en P "__firstlineno__" 200 (.int 2 199),en P "__static_attributes__" 201 (.ref 22)] 4),#[]⟩
def o9:Obj:=cO "PegError" "PegError" 191 2 0 0 18 false 19 .none .none .none 194
def Ym:Obj:=⟨.type "frame",none,.plain,#[(some (.ref 20)),(some (.ref 3)),(some (.ref 17)),none,(some (.str "pegleap.errors" 187)),none,(some (.ref 0))]⟩
def X6(P:Params):Obj:=⟨.type "dict",none,(.dict #[en P "__module__" 196 (.str "pegleap.errors" 187),en P "__firstlineno__" 200 (.int 2 199),en P "__static_attributes__" 201 (.ref 22),en P "__weakref__" 203 (.ref 25),en P "__doc__" 204 .none] 3),#[]⟩
def X7:Obj:=⟨.type "type",none,(.cls ⟨"PegError",[.type "ValueError"],[.ref 24,.type "ValueError",.type "Exception",.type "BaseException",.type "object"],23,"PegError",true,[],[.ref 37,.ref 49],false,none,false⟩),#[(some (.ref 15)),none,(some (.str "PegError" 189)),(some (.str "PegError" 197)),(some (.builtin "ValueError.__new__")),(some (.bool true))]⟩
def X8:Obj:=⟨.type "getset_descriptor",none,(.fields #[.str "__weakref__" 202,.ref 24,.builtin "ExceptionGroup.__weakref__",.none]),#[]⟩
def Yn:Obj:=⟨.type "super",none,(.fields #[.ref 24,.ref 24,.ref 24]),#[]⟩
def Yo:Obj:=⟨.type "builtin_function_or_method",none,(.fields #[.builtin "object.__init_subclass__",.ref 24]),#[]⟩
def Km:Obj:=⟨.type "tuple",none,(.seq #[.ref 24] 0),#[]⟩
def Yp(P:Params):Obj:=⟨.type "dict",none,(.dict #[en P "__module__" 214 (.str "pegleap.errors" 187),en P "__qualname__" 216 (.str "BadBoard" 215),en P "__firstlineno__" 218 (.int 4 217),en P "__static_attributes__" 219 (.ref 35)] 4),#[]⟩
def Yq:Obj:=cO "BadBoard" "BadBoard" 209 4 0 0 31 false 32 .none .none .none 212
def Yr:Obj:=⟨.type "frame",none,.plain,#[(some (.ref 33)),(some (.ref 3)),(some (.ref 30)),none,(some (.str "pegleap.errors" 187)),none,(some (.ref 0))]⟩
def X9(P:Params):Obj:=⟨.type "dict",none,(.dict #[en P "__module__" 214 (.str "pegleap.errors" 187),en P "__firstlineno__" 218 (.int 4 217),en P "__static_attributes__" 219 (.ref 35),en P "__doc__" 220 .none] 2),#[]⟩
def Xa:Obj:=⟨.type "type",none,(.cls ⟨"BadBoard",[.ref 24],[.ref 37,.ref 24,.type "ValueError",.type "Exception",.type "BaseException",.type "object"],36,"BadBoard",true,[],[],false,none,false⟩),#[(some (.ref 28)),none,(some (.str "BadBoard" 207)),(some (.str "BadBoard" 215)),(some (.builtin "ValueError.__new__")),(some (.bool true))]⟩
def Ys:Obj:=⟨.type "super",none,(.fields #[.ref 37,.ref 37,.ref 37]),#[]⟩
def Yt:Obj:=⟨.type "builtin_function_or_method",none,(.fields #[.builtin "object.__init_subclass__",.ref 37]),#[]⟩
def Yu(P:Params):Obj:=⟨.type "dict",none,(.dict #[en P "__module__" 230 (.str "pegleap.errors" 187),en P "__qualname__" 232 (.str "BadPegs" 231),en P "__firstlineno__" 234 (.int 6 233),en P "__static_attributes__" 235 (.ref 47)] 4),#[]⟩
def Yv:Obj:=cO "BadPegs" "BadPegs" 225 6 0 0 43 false 44 .none .none .none 228
def Yw:Obj:=⟨.type "frame",none,.plain,#[(some (.ref 45)),(some (.ref 3)),(some (.ref 42)),none,(some (.str "pegleap.errors" 187)),none,(some (.ref 0))]⟩
def Xb(P:Params):Obj:=⟨.type "dict",none,(.dict #[en P "__module__" 230 (.str "pegleap.errors" 187),en P "__firstlineno__" 234 (.int 6 233),en P "__static_attributes__" 235 (.ref 47),en P "__doc__" 236 .none] 2),#[]⟩
def Xc:Obj:=⟨.type "type",none,(.cls ⟨"BadPegs",[.ref 24],[.ref 49,.ref 24,.type "ValueError",.type "Exception",.type "BaseException",.type "object"],48,"BadPegs",true,[],[],false,none,false⟩),#[(some (.ref 40)),none,(some (.str "BadPegs" 223)),(some (.str "BadPegs" 231)),(some (.builtin "ValueError.__new__")),(some (.bool true))]⟩
def Yx:Obj:=⟨.type "super",none,(.fields #[.ref 49,.ref 49,.ref 49]),#[]⟩
def Yy:Obj:=⟨.type "builtin_function_or_method",none,(.fields #[.builtin "object.__init_subclass__",.ref 49]),#[]⟩
def Xd:Obj:=⟨.type "tuple",none,(.seq #[.str "cells" 248] 0),#[]⟩
def Xe:Obj:=fZ (st 7)
def Xf:Obj:=cO "is_rising" "is_rising" 245 11 1 3 52 true 53 (.ref 54) (.ref 55) (.ref 56) 249
def Xg:Obj:=fO (st 7) 3 "pegleap.boards" 239 57
def Xh:Obj:=⟨.type "tuple",none,(.seq #[.str "cell" 255] 0),#[]⟩
def Xi:Obj:=fZ (st 8)
def Xj:Obj:=cO "is_cell" "is_cell" 252 13 1 3 59 true 60 (.ref 61) (.ref 62) (.ref 63) 256
def Xk:Obj:=fO (st 8) 3 "pegleap.boards" 239 64
def Xl:Obj:=⟨.type "tuple",none,(.seq #[.str "cells" 262,.str "cell" 263] 0),#[]⟩
def Xm:Obj:=fZ (st 9)
def Xn:Obj:=cO "check_cells" "check_cells" 259 15 1 3 66 true 67 (.ref 68) (.ref 69) (.ref 70) 264
def Xo:Obj:=fO (st 9) 3 "pegleap.boards" 239 71
def T1(P:Params):BT:=(nd (boot_o_0 P) (nd (boot_o_1 P) (nd (o4 P) (nd (boot_o_7 P) (nd o6 (nd o0 (ly Xi) .nil) (ly o0)) (nd (X6 P) (nd Yt (ly Xn) .nil) (ly o0))) (nd o0 (nd o1 (nd o0 (ly o1) .nil) (ly Yy)) (nd Yo (ly o0) (ly o0)))) (nd (boot_o_5 P) (nd (boot_o_9 P) (nd (o8 P) (nd Yq (ly Xk) .nil) (ly Xc)) (nd X8 (ly o7) (ly Xf))) (nd o2 (nd Ym (nd Xa (ly o0) .nil) (ly o1)) (nd o7 (ly Yv) (ly Xh))))) (nd (boot_o_2 P) (nd (boot_o_4 P) (nd (boot_o_8 P) (nd o7 (nd o1 (ly Xj) .nil) (ly (Xb P))) (nd X7 (nd Km (ly Xo) .nil) (ly Xe))) (nd o5 (nd o9 (nd (X9 P) (ly Xl) .nil) (ly o0)) (nd Km (ly o1) (ly o1)))) (nd (boot_o_6 P) (nd (boot_o_10 P) (nd o0 (nd Yr (ly o0) .nil) (ly Yx)) (nd Yn (ly (Yu P)) (ly Xg))) (nd o3 (nd o0 (nd Ys (ly Xm) .nil) (ly Xd)) (nd (Yp P) (ly Yw) (ly o0))))))
def S1(w:World)(os:OsState):SharedT:=⟨T1 w.params,73,S6,#[],⟨0,0,0,0⟩,267,os⟩
def o43(P:Params):Obj:=⟨.type "dict",none,(.dict #[en P "__name__" 165 (.str "law_pegleap_k12_rows_counted" 381),en P "__doc__" 166 .none,en P "__package__" 167 .none,en P "__loader__" 168 (.builtin "__main__.__loader__#opaque"),en P "__spec__" 169 .none,en P "__annotations__" 170 (.ref 6),en P "__builtins__" 171 (.ref 4),en P "__file__" 173 (.str "/claim/cut.py" 172),en P "__cached__" 174 .none,en P "PegError" 206 (.ref 24),en P "BadBoard" 222 (.ref 37),en P "BadPegs" 238 (.ref 49),en P "LAST" 242 (.int 7 241),en P "MOST_CELLS" 244 (.int 24 243),en P "is_rising" 251 (.ref 58),en P "is_cell" 258 (.ref 65),en P "check_cells" 266 (.ref 72),en P "Board" 295 (.ref 89),en P "check_pegs" 304 (.ref 100),en P "two_apart" 313 (.ref 107),en P "between" 321 (.ref 114),en P "leaps" 331 (.ref 121),en P "can_be_done" 341 (.ref 128),en P "pegs_behind" 347 (.ref 133),en P "steps_from" 355 (.ref 138),en P "next_counts" 368 (.ref 145),en P "row_count" 380 (.ref 152),en P "_law_cell_at" 390 (.ref 159),en P "_law_mix" 401 (.ref 166),en P "_law_whole" 408 (.ref 173),en P "_law_cells_by" 423 (.ref 180),en P "_law_pegs_by" 429 (.ref 185),en P "_law_between" 436 (.ref 192),en P "_law_leaps" 447 (.ref 199),en P "_law_open" 458 (.ref 206),en P "_law_behind" 464 (.ref 211),en P "_law_gone" 479 (.ref 218),en P "_law_reach" 491 (.ref 225),en P "_law_count" 497 (.ref 230)] 39),#[]⟩
def o44:Obj:=⟨.none,none,(.fields #[.int 2 0,.int 0 0,.ref 20,.int 4 0,.int 0 0,.ref 33,.int 6 0,.int 0 0,.ref 45,.int 11 0,.int 0 0,.ref 57,.int 13 0,.int 0 0,.ref 64,.int 15 0,.int 0 0,.ref 71,.int 23 0,.int 0 0,.ref 78,.int 28 0,.int 0 0,.ref 99,.int 34 0,.int 0 0,.ref 106,.int 38 0,.int 0 0,.ref 113,.int 40 0,.int 0 0,.ref 120,.int 48 0,.int 0 0,.ref 127,.int 50 0,.int 0 0,.ref 132,.int 54 0,.int 0 0,.ref 137,.int 56 0,.int 0 0,.ref 144,.int 62 0,.int 0 0,.ref 151,.int 71 0,.int 0 0,.ref 158,.int 75 0,.int 0 0,.ref 165,.int 80 0,.int 0 0,.ref 172,.int 82 0,.int 0 0,.ref 179,.int 95 0,.int 0 0,.ref 184,.int 101 0,.int 0 0,.ref 191,.int 103 0,.int 0 0,.ref 198,.int 111 0,.int 0 0,.ref 205,.int 117 0,.int 0 0,.ref 210,.int 120 0,.int 0 0,.ref 217,.int 130 0,.int 0 0,.ref 224,.int 140 0,.int 0 0,.ref 229]),#[]⟩
def o45(P:Params):Obj:=⟨.type "dict",none,(.dict #[en P "__module__" 274 (.str "pegleap.boards" 239),en P "__qualname__" 276 (.str "Board" 275),en P "__firstlineno__" 278 (.int 23 277),en P "__init__" 286 (.ref 86),en P "__static_attributes__" 288 (.ref 87)] 5),#[]⟩
def o46:Obj:=⟨.none,none,(.fields #[.int 25 0,.int 4 0,.ref 85]),#[]⟩
def o47:Obj:=cO "Board" "Board" 269 23 0 0 76 false 77 .none .none .none 272
def o48:Obj:=⟨.type "frame",none,.plain,#[(some (.ref 78)),(some (.ref 3)),(some (.ref 75)),none,(some (.str "pegleap.boards" 239)),none,(some (.ref 0))]⟩
def Yz:Obj:=⟨.type "tuple",none,(.seq #[.str "self" 282,.str "cells" 283] 0),#[]⟩
def YA:Obj:=⟨.none,none,(fX (sc 10 0) "Board.__init__" 0 [] .none .none .none .none none .none .none 0),#[]⟩
def YB:Obj:=cO "__init__" "Board.__init__" 279 25 2 3 80 true 81 (.ref 82) (.ref 83) (.ref 84) 284
def YC:Obj:=⟨.type "function",none,(fX (sc 10 0) "Board.__init__" 3 [] .none .none .none (.str "pegleap.boards" 239) none (.ref 85) .none 0),#[]⟩
def YD:Obj:=⟨.type "tuple",none,(.seq #[.str "cells" 287] 0),#[]⟩
def YE(P:Params):Obj:=⟨.type "dict",none,(.dict #[en P "__module__" 274 (.str "pegleap.boards" 239),en P "__firstlineno__" 278 (.int 23 277),en P "__init__" 286 (.ref 86),en P "__static_attributes__" 288 (.ref 87),en P "__dict__" 290 (.ref 90),en P "__weakref__" 292 (.ref 91),en P "__doc__" 293 .none] 4),#[]⟩
def YF:Obj:=⟨.type "type",none,(.cls ⟨"Board",[.type "object"],[.ref 89,.type "object"],88,"Board",true,[],[],false,none,false⟩),#[none,none,(some (.str "Board" 267)),(some (.str "Board" 275)),(some (.builtin "object.__new__")),(some (.bool true))]⟩
def YG:Obj:=⟨.type "getset_descriptor",none,(.fields #[.str "__dict__" 289,.ref 89,.builtin "function.__dict__",.builtin "function.__dict__#set"]),#[]⟩
def YH:Obj:=⟨.type "getset_descriptor",none,(.fields #[.str "__weakref__" 291,.ref 89,.builtin "ExceptionGroup.__weakref__",.none]),#[]⟩
def o58:Obj:=⟨.type "super",none,(.fields #[.ref 89,.ref 89,.ref 89]),#[]⟩
def o59:Obj:=⟨.type "builtin_function_or_method",none,(.fields #[.builtin "object.__init_subclass__",.ref 89]),#[]⟩
def YI:Obj:=⟨.type "tuple",none,(.seq #[.str "board" 299,.str "pegs" 300,.str "cell" 301] 0),#[]⟩
def YJ:Obj:=fZ (st 11)
def YK:Obj:=cO "check_pegs" "check_pegs" 296 28 2 3 94 true 95 (.ref 96) (.ref 97) (.ref 98) 302
def YL:Obj:=fO (st 11) 3 "pegleap.boards" 239 99
def YM:Obj:=⟨.type "tuple",none,(.seq #[.str "cell" 308,.str "row" 309,.str "column" 310] 0),#[]⟩
def YN:Obj:=fZ (st 12)
def YO:Obj:=cO "two_apart" "two_apart" 305 34 1 3 101 true 102 (.ref 103) (.ref 104) (.ref 105) 311
def YQ:Obj:=fO (st 12) 3 "pegleap.boards" 239 106
def YR:Obj:=⟨.type "tuple",none,(.seq #[.str "cell" 317,.str "other" 318] 0),#[]⟩
def YS:Obj:=fZ (st 13)
def YT:Obj:=cO "between" "between" 314 38 2 3 108 true 109 (.ref 110) (.ref 111) (.ref 112) 319
def YU:Obj:=fO (st 13) 3 "pegleap.boards" 239 113
def YV:Obj:=⟨.type "tuple",none,(.seq #[.str "board" 325,.str "found" 326,.str "first" 327,.str "second" 328] 0),#[]⟩
def YW:Obj:=fZ (st 14)
def YX:Obj:=cO "leaps" "leaps" 322 40 1 3 115 true 116 (.ref 117) (.ref 118) (.ref 119) 329
def YY:Obj:=fO (st 14) 3 "pegleap.boards" 239 120
def YZ:Obj:=⟨.type "tuple",none,(.seq #[.str "pegs" 337,.str "leap" 338] 0),#[]⟩
def Z0:Obj:=fZ (st 16)
def Z1:Obj:=cO "can_be_done" "can_be_done" 334 48 2 3 122 true 123 (.ref 124) (.ref 125) (.ref 126) 339
def Z2:Obj:=fO (st 16) 3 "pegleap.standings" 332 127
def Z3:Obj:=fZ (st 17)
def Z4:Obj:=cO "pegs_behind" "pegs_behind" 342 50 2 3 129 true 130 .none .none (.ref 131) 345
def Z5:Obj:=fO (st 17) 3 "pegleap.standings" 332 132
def Z6:Obj:=fZ (st 19)
def Z7:Obj:=cO "steps_from" "steps_from" 350 54 2 3 134 true 135 .none .none (.ref 136) 353
def Z8:Obj:=fO (st 19) 3 "pegleap.search" 348 137
def Z9:Obj:=⟨.type "tuple",none,(.seq #[.str "all_leaps" 359,.str "layer" 360,.str "found" 361,.str "standing" 362,.str "count" 363,.str "leap" 364,.str "behind" 365] 0),#[]⟩
def Za:Obj:=fZ (st 20)
def Zb:Obj:=cO "next_counts" "next_counts" 356 56 2 3 139 true 140 (.ref 141) (.ref 142) (.ref 143) 366
def Zd:Obj:=fO (st 20) 3 "pegleap.search" 348 144
def Ze:Obj:=⟨.type "tuple",none,(.seq #[.str "board" 372,.str "pegs" 373,.str "others" 374,.str "all_leaps" 375,.str "layer" 376,.str "leaps_done" 377] 0),#[]⟩
def Zf:Obj:=fZ (st 21)
def Zg:Obj:=cO "row_count" "row_count" 369 62 3 3 146 true 147 (.ref 148) (.ref 149) (.ref 150) 378
def Zh:Obj:=fO (st 21) 3 "pegleap.search" 348 151
def Zi:Obj:=⟨.type "tuple",none,(.seq #[.str "script" 386,.str "k" 387] 0),#[]⟩
def Zj:Obj:=fZ (st 23)
def Zk:Obj:=cO "_law_cell_at" "_law_cell_at" 383 71 2 3 153 true 154 (.ref 155) (.ref 156) (.ref 157) 388
def Zl:Obj:=fO (st 23) 3 "law_pegleap_k12_rows_counted" 381 158
def Zm:Obj:=⟨.type "tuple",none,(.seq #[.str "cell" 394,.str "k" 395,.str "many" 396,.str "some" 397,.str "number" 398] 0),#[]⟩
def Zn:Obj:=fZ (st 24)
def MP:Obj:=cO "_law_mix" "_law_mix" 391 75 3 3 160 true 161 (.ref 162) (.ref 163) (.ref 164) 399
def MQ:Obj:=fO (st 24) 3 "law_pegleap_k12_rows_counted" 381 165
def MR:Obj:=⟨.type "tuple",none,(.seq #[.str "found" 405] 0),#[]⟩
def MS:Obj:=fZ (st 25)
def MT:Obj:=cO "_law_whole" "_law_whole" 402 80 1 3 167 true 168 (.ref 169) (.ref 170) (.ref 171) 406
def MU:Obj:=fO (st 25) 3 "law_pegleap_k12_rows_counted" 381 172
def MV:Obj:=⟨.type "tuple",none,(.seq #[.str "script" 412,.str "most" 413,.str "cell" 414,.str "height" 415,.str "width" 416,.str "down" 417,.str "across" 418,.str "some" 419,.str "k" 420] 0),#[]⟩
def MW:Obj:=fZ (st 26)
def MX:Obj:=cO "_law_cells_by" "_law_cells_by" 409 82 2 3 174 true 175 (.ref 176) (.ref 177) (.ref 178) 421
def MY:Obj:=fO (st 26) 3 "law_pegleap_k12_rows_counted" 381 179
def MZ:Obj:=fZ (st 27)
def N1:Obj:=cO "_law_pegs_by" "_law_pegs_by" 424 95 2 3 181 true 182 .none .none (.ref 183) 427
def N2:Obj:=fO (st 27) 3 "law_pegleap_k12_rows_counted" 381 184
def N3:Obj:=⟨.type "tuple",none,(.seq #[.str "leap" 433] 0),#[]⟩
def N4:Obj:=fZ (st 28)
def N5:Obj:=cO "_law_between" "_law_between" 430 101 1 3 186 true 187 (.ref 188) (.ref 189) (.ref 190) 434
def N6:Obj:=fO (st 28) 3 "law_pegleap_k12_rows_counted" 381 191
def N7:Obj:=⟨.type "tuple",none,(.seq #[.str "cells" 440,.str "found" 441,.str "one" 442,.str "two" 443,.str "apart" 444] 0),#[]⟩
def N8:Obj:=fZ (st 29)
def N9:Obj:=cO "_law_leaps" "_law_leaps" 437 103 1 3 193 true 194 (.ref 195) (.ref 196) (.ref 197) 445
def Na:Obj:=fO (st 29) 3 "law_pegleap_k12_rows_counted" 381 198
def Nb:Obj:=⟨.type "tuple",none,(.seq #[.str "cells" 451,.str "pegs" 452,.str "found" 453,.str "one" 454,.str "two" 455] 0),#[]⟩
def Nc:Obj:=fZ (st 30)
def Nd:Obj:=cO "_law_open" "_law_open" 448 111 2 3 200 true 201 (.ref 202) (.ref 203) (.ref 204) 456
def Nf:Obj:=fO (st 30) 3 "law_pegleap_k12_rows_counted" 381 205
def Ng:Obj:=fZ (st 31)
def Nh:Obj:=cO "_law_behind" "_law_behind" 459 117 2 3 207 true 208 .none .none (.ref 209) 462
def Ni:Obj:=fO (st 31) 3 "law_pegleap_k12_rows_counted" 381 210
def Nj:Obj:=⟨.type "tuple",none,(.seq #[.str "cells" 468,.str "pegs" 469,.str "cell" 470,.str "most" 471,.str "row" 472,.str "here" 473,.str "k" 474,.str "some" 475,.str "leap" 476] 0),#[]⟩
def Nk:Obj:=fZ (st 32)
def Nl:Obj:=cO "_law_gone" "_law_gone" 465 120 4 3 212 true 213 (.ref 214) (.ref 215) (.ref 216) 477
def Nm:Obj:=fO (st 32) 3 "law_pegleap_k12_rows_counted" 381 217
def Nn:Obj:=⟨.type "tuple",none,(.seq #[.str "cells" 483,.str "pegs" 484,.str "found" 485,.str "at" 486,.str "leap" 487,.str "behind" 488] 0),#[]⟩
def Np:Obj:=fZ (st 33)
def Nq:Obj:=cO "_law_reach" "_law_reach" 480 130 2 3 219 true 220 (.ref 221) (.ref 222) (.ref 223) 489
def Nr:Obj:=fO (st 33) 3 "law_pegleap_k12_rows_counted" 381 224
def Nt:Obj:=fZ (st 34)
def Nu:Obj:=cO "_law_count" "_law_count" 492 140 3 3 226 true 227 .none .none (.ref 228) 495
def Nv:Obj:=fO (st 34) 3 "law_pegleap_k12_rows_counted" 381 229
def T2(P:Params):BT:=(nd (boot_o_0 P) (nd (boot_o_1 P) (nd (o43 P) (nd (boot_o_7 P) (nd o6 (nd o0 (nd Xi (ly Z1) (ly N5)) (nd o1 (ly Zl) (ly Np))) (nd o0 (nd o48 (ly Za) (ly o0)) (nd o0 (ly o1) .nil))) (nd (X6 P) (nd Yt (nd Xn (ly o1) (ly Na)) (nd YM (ly o0) .nil)) (nd o0 (nd YD (ly Zg) (ly o0)) (nd YW (ly MZ) .nil)))) (nd o0 (nd o1 (nd o0 (nd o1 (ly Z3) (ly N7)) (nd YK (ly o0) (ly o1))) (nd Yy (nd o0 (ly o1) (ly Ni)) (nd o0 (ly MX) .nil))) (nd Yo (nd o0 (nd (o45 P) (ly o0) (ly o0)) (nd YQ (ly MS) .nil)) (nd o0 (nd YH (ly Zi) (ly o0)) (nd o1 (ly o1) .nil))))) (nd (boot_o_5 P) (nd (boot_o_9 P) (nd (o8 P) (nd Yq (nd Xk (ly o0) (ly o0)) (nd o0 (ly o1) (ly Nr))) (nd Xc (nd o1 (ly Zd) (ly Ng)) (nd YT (ly o0) .nil))) (nd X8 (nd o7 (nd o0 (ly Z7) (ly o1)) (nd YN (ly MR) .nil)) (nd Xf (nd YF (ly o0) (ly Nl)) (nd YY (ly N2) .nil)))) (nd o2 (nd Ym (nd Xa (nd o0 (ly Z5) (ly N8)) (nd o0 (ly MP) (ly Nu))) (nd o1 (nd YB (ly o0) (ly o1)) (nd YV (ly o0) .nil))) (nd o7 (nd Yv (nd o46 (ly Z9) (ly Nd)) (nd o1 (ly MU) .nil)) (nd Xh (nd o59 (ly Zj) (ly Nn)) (nd o0 (ly o0) .nil)))))) (nd (boot_o_2 P) (nd (boot_o_4 P) (nd (boot_o_8 P) (nd o7 (nd o1 (nd Xj (ly Z2) (ly N6)) (nd YI (ly o0) (ly Nq))) (nd (Xb P) (nd o0 (ly Zb) (ly o1)) (nd YS (ly MV) .nil))) (nd X7 (nd Km (nd Xo (ly Z6) (ly o0)) (nd o0 (ly o1) .nil)) (nd Xe (nd (YE P) (ly Zh) (ly Nk)) (nd YX (ly N1) .nil)))) (nd o44 (nd o9 (nd (X9 P) (nd Xl (ly Z4) (ly o0)) (nd YL (ly Zn) (ly Nt))) (nd o0 (nd YA (ly Ze) (ly o0)) (nd o1 (ly MY) .nil))) (nd Km (nd o1 (nd o0 (ly o1) (ly Nc)) (nd o0 (ly MT) .nil)) (nd o1 (nd o58 (ly o0) (ly o1)) (nd YZ (ly N3) .nil))))) (nd (boot_o_6 P) (nd (boot_o_10 P) (nd o0 (nd Yr (nd o0 (ly o1) (ly o1)) (nd YJ (ly Zm) (ly o0))) (nd Yx (nd Yz (ly o0) (ly Nh)) (nd YU (ly MW) .nil))) (nd Yn (nd (Yu P) (nd o7 (ly Z8) (ly Nb)) (nd YO (ly o0) .nil)) (nd Xg (nd YG (ly o1) (ly Nm)) (nd o0 (ly o0) .nil)))) (nd o3 (nd o0 (nd Ys (nd Xm (ly o0) (ly N9)) (nd o1 (ly MQ) (ly Nv))) (nd Xd (nd YC (ly Zf) (ly Nj)) (nd o0 (ly o1) .nil))) (nd (Yp P) (nd Yw (nd o47 (ly o0) (ly Nf)) (nd YR (ly o0) .nil)) (nd o0 (nd o0 (ly Zk) (ly o0)) (nd Z0 (ly N4) .nil)))))))
def S2(w:World)(os:OsState):SharedT:=⟨T2 w.params,231,S6,#[],⟨0,0,0,0⟩,498,os⟩
def Rq(P:Params):Obj:=⟨.type "dict",none,(.dict #[en P "__name__" 165 (.str "law_pegleap_k12_rows_counted" 381),en P "__doc__" 166 .none,en P "__package__" 167 .none,en P "__loader__" 168 (.builtin "__main__.__loader__#opaque"),en P "__spec__" 169 .none,en P "__annotations__" 170 (.ref 6),en P "__builtins__" 171 (.ref 4),en P "__file__" 173 (.str "/claim/cut.py" 172),en P "__cached__" 174 .none,en P "PegError" 206 (.ref 24),en P "BadBoard" 222 (.ref 37),en P "BadPegs" 238 (.ref 49),en P "LAST" 242 (.int 7 241),en P "MOST_CELLS" 244 (.int 24 243),en P "is_rising" 251 (.ref 58),en P "is_cell" 258 (.ref 65),en P "check_cells" 266 (.ref 72),en P "Board" 295 (.ref 89),en P "check_pegs" 304 (.ref 100),en P "two_apart" 313 (.ref 107),en P "between" 321 (.ref 114),en P "leaps" 331 (.ref 121),en P "can_be_done" 341 (.ref 128),en P "pegs_behind" 347 (.ref 133),en P "steps_from" 355 (.ref 138),en P "next_counts" 368 (.ref 145),en P "row_count" 380 (.ref 152),en P "_law_cell_at" 390 (.ref 159),en P "_law_mix" 401 (.ref 166),en P "_law_whole" 408 (.ref 173),en P "_law_cells_by" 423 (.ref 180),en P "_law_pegs_by" 429 (.ref 185),en P "_law_between" 436 (.ref 192),en P "_law_leaps" 447 (.ref 199),en P "_law_open" 458 (.ref 206),en P "_law_behind" 464 (.ref 211),en P "_law_gone" 479 (.ref 218),en P "_law_reach" 491 (.ref 225),en P "_law_count" 497 (.ref 230),en P "law" 510 (.ref 237)] 40),#[]⟩
def Rt:Obj:=⟨.none,none,(.fields #[.int 2 0,.int 0 0,.ref 20,.int 4 0,.int 0 0,.ref 33,.int 6 0,.int 0 0,.ref 45,.int 11 0,.int 0 0,.ref 57,.int 13 0,.int 0 0,.ref 64,.int 15 0,.int 0 0,.ref 71,.int 23 0,.int 0 0,.ref 78,.int 28 0,.int 0 0,.ref 99,.int 34 0,.int 0 0,.ref 106,.int 38 0,.int 0 0,.ref 113,.int 40 0,.int 0 0,.ref 120,.int 48 0,.int 0 0,.ref 127,.int 50 0,.int 0 0,.ref 132,.int 54 0,.int 0 0,.ref 137,.int 56 0,.int 0 0,.ref 144,.int 62 0,.int 0 0,.ref 151,.int 71 0,.int 0 0,.ref 158,.int 75 0,.int 0 0,.ref 165,.int 80 0,.int 0 0,.ref 172,.int 82 0,.int 0 0,.ref 179,.int 95 0,.int 0 0,.ref 184,.int 101 0,.int 0 0,.ref 191,.int 103 0,.int 0 0,.ref 198,.int 111 0,.int 0 0,.ref 205,.int 117 0,.int 0 0,.ref 210,.int 120 0,.int 0 0,.ref 217,.int 130 0,.int 0 0,.ref 224,.int 140 0,.int 0 0,.ref 229,.int 149 0,.int 0 0,.ref 236]),#[]⟩
def Ru:Obj:=⟨.type "tuple",none,(.seq #[.str "script" 501,.str "cells" 502,.str "board" 503,.str "pegs" 504,.str "others" 505,.str "handed" 506,.str "found" 507] 0),#[]⟩
def Rv:Obj:=fZ (st 35)
def Rw:Obj:=cO "law" "law" 498 149 1 3 231 true 232 (.ref 233) (.ref 234) (.ref 235) 508
def Rx:Obj:=fO (st 35) 3 "law_pegleap_k12_rows_counted" 381 236
def T3(P:Params):BT:=(nd (boot_o_0 P) (nd (boot_o_1 P) (nd (Rq P) (nd (boot_o_7 P) (nd o6 (nd o0 (nd Xi (ly Z1) (ly N5)) (nd o1 (ly Zl) (ly Np))) (nd o0 (nd o48 (ly Za) (ly o0)) (nd o0 (ly o1) .nil))) (nd (X6 P) (nd Yt (nd Xn (ly o1) (ly Na)) (nd YM (ly o0) (ly o0))) (nd o0 (nd YD (ly Zg) (ly o0)) (nd YW (ly MZ) .nil)))) (nd o0 (nd o1 (nd o0 (nd o1 (ly Z3) (ly N7)) (nd YK (ly o0) (ly o1))) (nd Yy (nd o0 (ly o1) (ly Ni)) (nd o0 (ly MX) .nil))) (nd Yo (nd o0 (nd (o45 P) (ly o0) (ly o0)) (nd YQ (ly MS) (ly Rv))) (nd o0 (nd YH (ly Zi) (ly o0)) (nd o1 (ly o1) .nil))))) (nd (boot_o_5 P) (nd (boot_o_9 P) (nd (o8 P) (nd Yq (nd Xk (ly o0) (ly o0)) (nd o0 (ly o1) (ly Nr))) (nd Xc (nd o1 (ly Zd) (ly Ng)) (nd YT (ly o0) .nil))) (nd X8 (nd o7 (nd o0 (ly Z7) (ly o1)) (nd YN (ly MR) (ly Ru))) (nd Xf (nd YF (ly o0) (ly Nl)) (nd YY (ly N2) .nil)))) (nd o2 (nd Ym (nd Xa (nd o0 (ly Z5) (ly N8)) (nd o0 (ly MP) (ly Nu))) (nd o1 (nd YB (ly o0) (ly o1)) (nd YV (ly o0) .nil))) (nd o7 (nd Yv (nd o46 (ly Z9) (ly Nd)) (nd o1 (ly MU) (ly Rx))) (nd Xh (nd o59 (ly Zj) (ly Nn)) (nd o0 (ly o0) .nil)))))) (nd (boot_o_2 P) (nd (boot_o_4 P) (nd (boot_o_8 P) (nd o7 (nd o1 (nd Xj (ly Z2) (ly N6)) (nd YI (ly o0) (ly Nq))) (nd (Xb P) (nd o0 (ly Zb) (ly o1)) (nd YS (ly MV) .nil))) (nd X7 (nd Km (nd Xo (ly Z6) (ly o0)) (nd o0 (ly o1) (ly o1))) (nd Xe (nd (YE P) (ly Zh) (ly Nk)) (nd YX (ly N1) .nil)))) (nd Rt (nd o9 (nd (X9 P) (nd Xl (ly Z4) (ly o0)) (nd YL (ly Zn) (ly Nt))) (nd o0 (nd YA (ly Ze) (ly o0)) (nd o1 (ly MY) .nil))) (nd Km (nd o1 (nd o0 (ly o1) (ly Nc)) (nd o0 (ly MT) (ly Rw))) (nd o1 (nd o58 (ly o0) (ly o1)) (nd YZ (ly N3) .nil))))) (nd (boot_o_6 P) (nd (boot_o_10 P) (nd o0 (nd Yr (nd o0 (ly o1) (ly o1)) (nd YJ (ly Zm) (ly o0))) (nd Yx (nd Yz (ly o0) (ly Nh)) (nd YU (ly MW) .nil))) (nd Yn (nd (Yu P) (nd o7 (ly Z8) (ly Nb)) (nd YO (ly o0) (ly o0))) (nd Xg (nd YG (ly o1) (ly Nm)) (nd o0 (ly o0) .nil)))) (nd o3 (nd o0 (nd Ys (nd Xm (ly o0) (ly N9)) (nd o1 (ly MQ) (ly Nv))) (nd Xd (nd YC (ly Zf) (ly Nj)) (nd o0 (ly o1) .nil))) (nd (Yp P) (nd Yw (nd o47 (ly o0) (ly Nf)) (nd YR (ly o0) .nil)) (nd o0 (nd o0 (ly Zk) (ly o0)) (nd Z0 (ly N4) .nil)))))))
def S3(w:World)(os:OsState):SharedT:=⟨T3 w.params,238,S6,#[],⟨0,0,0,0⟩,511,os⟩
def H1(P:Params):Heap:=⟨⟨[boot_o_0 P,boot_o_1 P,boot_o_2 P,Rq P,boot_o_4 P,boot_o_5 P,boot_o_6 P,boot_o_7 P,boot_o_8 P,boot_o_9 P,boot_o_10 P,o0,Rt,o2,o3,o6,o7,o8 P,o0,o1,o9,Ym,o0,X6 P,X7,X8,Yn,Yo,Km,o7,Yp P,o0,o1,Yq,Yr,o0,X9 P,Xa,Ys,Yt,Km,o7,Yu P,o0,o1,Yv,Yw,o0,Xb P,Xc,Yx,Yy,o0,o1,Xd,o0,Xe,Xf,Xg,o0,o1,Xh,o0,Xi,Xj,Xk,o0,o1,Xl,o0,Xm,Xn,Xo,o0,o7,o45 P,o0,o46,o47,o48,o0,o1,Yz,o0,YA,YB,YC,YD,YE P,YF,YG,YH,o58,o59,o0,o1,YI,o0,YJ,YK,YL,o0,o1,YM,o0,YN,YO,YQ,o0,o1,YR,o0,YS,YT,YU,o0,o1,YV,o0,YW,YX,YY,o0,o1,YZ,o0,Z0,Z1,Z2,o0,o1,Z3,Z4,Z5,o0,o1,Z6,Z7,Z8,o0,o1,Z9,o0,Za,Zb,Zd,o0,o1,Ze,o0,Zf,Zg,Zh,o0,o1,Zi,o0,Zj,Zk,Zl,o0,o1,Zm,o0,Zn,MP,MQ,o0,o1,MR,o0,MS,MT,MU,o0,o1,MV,o0,MW,MX,MY,o0,o1,MZ,N1,N2,o0,o1,N3,o0,N4,N5,N6,o0,o1,N7,o0,N8,N9,Na,o0,o1,Nb,o0,Nc,Nd,Nf,o0,o1,Ng,Nh,Ni,o0,o1,Nj,o0,Nk,Nl,Nm,o0,o1,Nn,o0,Np,Nq,Nr,o0,o1,Nt,Nu,Nv,o0,o1,Ru,o0,Rv,Rw,Rx]⟩,S6⟩
def env:Env:={ scope:=pq.main.scope,locals:=mainNs,globals:=mainNs,cells:=[],code:=(.ref 13),frame:=some 14 }
abbrev bE:List Stmt:=behindTheImports pq
def cE:Code:= .body bE env
abbrev fp:Pos:=⟨0,0,0,0⟩
abbrev B:List Frame:=[topFrame fp]
theorem pre(w:World)(os:OsState):topGo treeTable pq w 11 (some (.ref 6)) 12 ⟨boot_heap w.params,#[],boot_drawn,boot_toks,os⟩ (topStub pq)=some (⟨Ha w.params,#[],⟨0,0,0,0⟩,187,os⟩,⟨denote treeTable cE,cE,⟨0,0,0,0⟩,B⟩):=by kernel_rfl
theorem block(w:World)(os:OsState):segRun treeTable pq w 11 (some (.ref 6)) 1 1 ⟨Ha w.params,#[],⟨0,0,0,0⟩,187,os⟩ (blockOf bE env cE ⟨0,0,0,0⟩ B)=some (.next,(S0 w os).abs,cE,⟨0,0,0,0⟩):=by kernel_rfl
def g0:List Stmt:=tk 10 (dr 0 bE)
theorem r0(w:World)(os:OsState):segRunT treeTable pq w 11 (some (.ref 6)) 1 737 (S0 w os) (piecesOf g0 env cE ⟨0,0,0,0⟩ B)=some (.next,S1 w os,cE,⟨15,0,22,67⟩):=by kernel_rfl
def g1:List Stmt:=tk 25 (dr 10 bE)
theorem r1(w:World)(os:OsState):segRunT treeTable pq w 11 (some (.ref 6)) 1 898 (S1 w os) (piecesOf g1 env cE ⟨15,0,22,67⟩ B)=some (.next,S2 w os,cE,⟨140,0,148,28⟩):=by kernel_rfl
def g2:List Stmt:=tk 1 (dr 35 bE)
theorem r2(w:World)(os:OsState):segRunT treeTable pq w 11 (some (.ref 6)) 1 36 (S2 w os) (piecesOf g2 env cE ⟨140,0,148,28⟩ B)=some (.next,S3 w os,cE,⟨149,0,158,104⟩):=by kernel_rfl
theorem fin(w:World)(os:OsState):topRun treeTable pq w 11 (some (.ref 6)) 2 (S3 w os).abs ⟨doneF .next,cE,⟨149,0,158,104⟩,B⟩=some ⟨H1 w.params,#[],⟨0,0,0,0⟩,511,os⟩:=by kernel_rfl
theorem hb:bE=(g0++(g1++(g2++[]))):=by kernel_rfl
theorem run(w:World)(os:OsState):topRun treeTable pq w 11 (some (.ref 6)) (12+(1+(737+(898+(36+2))))) ⟨boot_heap w.params,#[],boot_drawn,boot_toks,os⟩ (topStub pq)=some ⟨H1 w.params,#[],⟨0,0,0,0⟩,511,os⟩:=
  go_top (pre w os) (piece_block (block w os) (MO hb (piece_app (segRun_of (r0 w os)) (piece_app (segRun_of (r1 w os)) (piece_app (segRun_of (r2 w os)) (piece_nil (fin w os)))))))
def K(P:Params):Frag:=(nat_lit 0,boot_o_0 P)::(nat_lit 1,boot_o_1 P)::(nat_lit 2,boot_o_2 P)::(nat_lit 3,Rq P)::(nat_lit 4,boot_o_4 P)::(nat_lit 5,boot_o_5 P)::(nat_lit 6,boot_o_6 P)::(nat_lit 7,boot_o_7 P)::(nat_lit 8,boot_o_8 P)::(nat_lit 9,boot_o_9 P)::(nat_lit 10,boot_o_10 P)::(nat_lit 11,o0)::(nat_lit 12,Rt)::(nat_lit 13,o2)::(nat_lit 14,o3)::(nat_lit 15,o6)::(nat_lit 22,o0)::(nat_lit 23,X6 P)::(nat_lit 24,X7)::(nat_lit 25,X8)::(nat_lit 28,Km)::(nat_lit 35,o0)::(nat_lit 36,X9 P)::(nat_lit 37,Xa)::(nat_lit 40,Km)::(nat_lit 47,o0)::(nat_lit 48,Xb P)::(nat_lit 49,Xc)::(nat_lit 52,o0)::(nat_lit 53,o1)::(nat_lit 54,Xd)::(nat_lit 55,o0)::(nat_lit 56,Xe)::(nat_lit 57,Xf)::(nat_lit 58,Xg)::(nat_lit 59,o0)::(nat_lit 60,o1)::(nat_lit 61,Xh)::(nat_lit 62,o0)::(nat_lit 63,Xi)::(nat_lit 64,Xj)::(nat_lit 65,Xk)::(nat_lit 66,o0)::(nat_lit 67,o1)::(nat_lit 68,Xl)::(nat_lit 69,o0)::(nat_lit 70,Xm)::(nat_lit 71,Xn)::(nat_lit 72,Xo)::(nat_lit 80,o0)::(nat_lit 81,o1)::(nat_lit 82,Yz)::(nat_lit 83,o0)::(nat_lit 84,YA)::(nat_lit 85,YB)::(nat_lit 86,YC)::(nat_lit 87,YD)::(nat_lit 88,YE P)::(nat_lit 89,YF)::(nat_lit 90,YG)::(nat_lit 91,YH)::(nat_lit 94,o0)::(nat_lit 95,o1)::(nat_lit 96,YI)::(nat_lit 97,o0)::(nat_lit 98,YJ)::(nat_lit 99,YK)::(nat_lit 100,YL)::(nat_lit 101,o0)::(nat_lit 102,o1)::(nat_lit 103,YM)::(nat_lit 104,o0)::(nat_lit 105,YN)::(nat_lit 106,YO)::(nat_lit 107,YQ)::(nat_lit 108,o0)::(nat_lit 109,o1)::(nat_lit 110,YR)::(nat_lit 111,o0)::(nat_lit 112,YS)::(nat_lit 113,YT)::(nat_lit 114,YU)::(nat_lit 115,o0)::(nat_lit 116,o1)::(nat_lit 117,YV)::(nat_lit 118,o0)::(nat_lit 119,YW)::(nat_lit 120,YX)::(nat_lit 121,YY)::(nat_lit 122,o0)::(nat_lit 123,o1)::(nat_lit 124,YZ)::(nat_lit 125,o0)::(nat_lit 126,Z0)::(nat_lit 127,Z1)::(nat_lit 128,Z2)::(nat_lit 129,o0)::(nat_lit 130,o1)::(nat_lit 131,Z3)::(nat_lit 132,Z4)::(nat_lit 133,Z5)::(nat_lit 134,o0)::(nat_lit 135,o1)::(nat_lit 136,Z6)::(nat_lit 137,Z7)::(nat_lit 138,Z8)::(nat_lit 139,o0)::(nat_lit 140,o1)::(nat_lit 141,Z9)::(nat_lit 142,o0)::(nat_lit 143,Za)::(nat_lit 144,Zb)::(nat_lit 145,Zd)::(nat_lit 146,o0)::(nat_lit 147,o1)::(nat_lit 148,Ze)::(nat_lit 149,o0)::(nat_lit 150,Zf)::(nat_lit 151,Zg)::(nat_lit 152,Zh)::(nat_lit 153,o0)::(nat_lit 154,o1)::(nat_lit 155,Zi)::(nat_lit 156,o0)::(nat_lit 157,Zj)::(nat_lit 158,Zk)::(nat_lit 159,Zl)::(nat_lit 160,o0)::(nat_lit 161,o1)::(nat_lit 162,Zm)::(nat_lit 163,o0)::(nat_lit 164,Zn)::(nat_lit 165,MP)::(nat_lit 166,MQ)::(nat_lit 167,o0)::(nat_lit 168,o1)::(nat_lit 169,MR)::(nat_lit 170,o0)::(nat_lit 171,MS)::(nat_lit 172,MT)::(nat_lit 173,MU)::(nat_lit 174,o0)::(nat_lit 175,o1)::(nat_lit 176,MV)::(nat_lit 177,o0)::(nat_lit 178,MW)::(nat_lit 179,MX)::(nat_lit 180,MY)::(nat_lit 181,o0)::(nat_lit 182,o1)::(nat_lit 183,MZ)::(nat_lit 184,N1)::(nat_lit 185,N2)::(nat_lit 186,o0)::(nat_lit 187,o1)::(nat_lit 188,N3)::(nat_lit 189,o0)::(nat_lit 190,N4)::(nat_lit 191,N5)::(nat_lit 192,N6)::(nat_lit 193,o0)::(nat_lit 194,o1)::(nat_lit 195,N7)::(nat_lit 196,o0)::(nat_lit 197,N8)::(nat_lit 198,N9)::(nat_lit 199,Na)::(nat_lit 200,o0)::(nat_lit 201,o1)::(nat_lit 202,Nb)::(nat_lit 203,o0)::(nat_lit 204,Nc)::(nat_lit 205,Nd)::(nat_lit 206,Nf)::(nat_lit 207,o0)::(nat_lit 208,o1)::(nat_lit 209,Ng)::(nat_lit 210,Nh)::(nat_lit 211,Ni)::(nat_lit 212,o0)::(nat_lit 213,o1)::(nat_lit 214,Nj)::(nat_lit 215,o0)::(nat_lit 216,Nk)::(nat_lit 217,Nl)::(nat_lit 218,Nm)::(nat_lit 219,o0)::(nat_lit 220,o1)::(nat_lit 221,Nn)::(nat_lit 222,o0)::(nat_lit 223,Np)::(nat_lit 224,Nq)::(nat_lit 225,Nr)::(nat_lit 226,o0)::(nat_lit 227,o1)::(nat_lit 228,Nt)::(nat_lit 229,Nu)::(nat_lit 230,Nv)::(nat_lit 231,o0)::(nat_lit 232,o1)::(nat_lit 233,Ru)::(nat_lit 234,o0)::(nat_lit 235,Rv)::(nat_lit 236,Rw)::(nat_lit 237,Rx)::[]
abbrev as:List Addr:=[0,1,2,3,4,5,6,7,8,9,10,11,12,13,14,15,22,23,24,25,28,35,36,37,40,47,48,49,52,53,54,55,56,57,58,59,60,61,62,63,64,65,66,67,68,69,70,71,72,80,81,82,83,84,85,86,87,88,89,90,91,94,95,96,97,98,99,100,101,102,103,104,105,106,107,108,109,110,111,112,113,114,115,116,117,118,119,120,121,122,123,124,125,126,127,128,129,130,131,132,133,134,135,136,137,138,139,140,141,142,143,144,145,146,147,148,149,150,151,152,153,154,155,156,157,158,159,160,161,162,163,164,165,166,167,168,169,170,171,172,173,174,175,176,177,178,179,180,181,182,183,184,185,186,187,188,189,190,191,192,193,194,195,196,197,198,199,200,201,202,203,204,205,206,207,208,209,210,211,212,213,214,215,216,217,218,219,220,221,222,223,224,225,226,227,228,229,230,231,232,233,234,235,236,237]
abbrev q:Program:=view PySem.Challenge.pw_pegleap_k12_rows_counted [1,2,3,5,6,7,8,9,10,11,12,13,14,16,17,19,20,21,23,24,25,26,27,28,29,30,31,32,33,34,35]
abbrev loose:List Str:=[]
abbrev lv:List (Str×WData):=[]
def dL:DefRec:=match st 35 with | .FunctionDef n a b _ _ _ sc _ _ ps=>⟨n,a,b,sc,ps⟩ | _=>⟨default,default,[],default,⟨0,0,0,0⟩⟩
theorem ws:PySem.Challenge.rw_pegleap_k12_rows_counted.wellSaid=true:=by kernel_rfl
theorem size(w:World):((boot_heap w.params).isNs mainGlobals&&(#[]:Array GenState).size==0,(boot_heap w.params).objs.size,(boot_heap w.params).nsMap mainGlobals "__annotations__")=(true,11,(some (.ref 6))):=by kernel_rfl
theorem Xp(w:World):(fun os=>((staticsOk (importedModules pq.main.body) (boot_heap w.params) (H1 w.params)&&namesBound pq (H1 w.params)&&gensDone ⟨H1 w.params,#[],⟨0,0,0,0⟩,511,os⟩&&laidKept (boot_heap w.params) (H1 w.params)),openSeen q loose (importedModules pq.main.body) (fun s=>xlAt q lv s&&recOk (RowW.records (OpenRow.toRowW (OpenLaw.row PySem.Challenge.rw_pegleap_k12_rows_counted))) s) true ⟨H1 w.params,#[],⟨0,0,0,0⟩,511,os⟩,(fun s:Shared=>as.map s.heap.get?) ⟨H1 w.params,#[],⟨0,0,0,0⟩,511,os⟩))=fun _=>(true,openGood q loose,(fun w:World=>(K w.params).map fun p=>some p.2) w):=by kernel_rfl
theorem hl:LeftO pq q loose (fun s=>xlAt q lv s&&recOk (RowW.records (OpenRow.toRowW (OpenLaw.row PySem.Challenge.rw_pegleap_k12_rows_counted))) s) (fun s:Shared=>as.map s.heap.get?) (fun w:World=>(K w.params).map fun p=>some p.2) 3462:=
  LeftO.of_pieces (boot_open (by kernel_rfl) (by kernel_rfl) (fun s=>by kernel_rfl)) size run (by kernel_rfl) Xp
end Hd
end
open PySem PySem.W PyProof.Rows
set_option maxRecDepth 100000 in
set_option maxHeartbeats 0 in
theorem PySem.Challenge.cw_pegleap_k12_rows_counted_holds : PySem.Challenge.rw_pegleap_k12_rows_counted.Holds := by
  refine holds_law Hd.ws fun ay3=> ?_
  refine holds_openX (r:=OpenLaw.row PySem.Challenge.rw_pegleap_k12_rows_counted) (d:=Hd.dL) (kwd:=[]) Hd.hl (fun s e=>xl_of s (Bool.and_eq_true_iff.mp e).1) XL.keeps (by kernel_rfl) (by kernel_rfl) (by kernel_rfl) (fun s e=>recFacts_of (Bool.and_eq_true_iff.mp e).2) (by kernel_rfl) ay3 (by kernel_rfl) ⟨rfl,rfl,rfl,rfl,rfl,by kernel_rfl⟩ ?hw ?hc
  (case hw=>w_on;w_witness2)
  k_fill
  refine Pk.WK (l:=PySem.Challenge.rw_pegleap_k12_rows_counted) (by kernel_rfl) (by kernel_rfl) (fun _=>by kernel_rfl) ?F
  case F=>
    intro w mg fa h KX G Uu
    refine Pk.WJ (h:=h) Uu ?T (fun t ns hl=>Pk.X4 t ns)
    refine' Pk.QG KX G ?pD ?pF ?pH ?pI ?u7 ?u9 ?ua ?uc ?kQ ?kR ?kT ?kU ?nt ?nu ?nv ?ny ?pJ ?pK ?pM ?pN ?ud ?uf ?ug ?uh ?A8 ?A9 ?Aa ?Ab ?kW ?kX ?kY ?kZ ?l0 ?l6 ?l7 ?l8 ?nB ?nC ?nD ?nE ?l9 ?lq ?lB ?lC ?pO ?pP ?pQ ?pR ?jT ?jU ?jV ?jW ?rA ?rB ?rC ?rD ?nF ?nH ?nI ?nJ ?jb ?jc ?jd ?je ?jX ?jY ?jZ ?k6 ?k7 ?k8 ?k9 ?kj ?nK ?nM ?nN ?nO ?pS ?pT ?pU ?pV ?lE ?lH ?lI ?lJ ?pW ?pX ?pY ?pZ ?nP ?nQ ?nR ?nS ?nU ?nV ?nW ?nX ?Je ?Jf ?Jg ?Jh ?jS ?fM ?iP ?qq ?fP ?iQ ?Ji ?CY ?q8 ?Jj ?nY ?Jk ?CZ ?Ac ?Jl ?x6 ?Ad ?oX ?eX ?aI_ ?iI_ ?Yb ?Yc ?Yd ?pgB ?hdB ?poB ?saB ?QD ?kcB ?Kl
    (case pD=>k_is)
    (case pF=>k_is)
    (case pH=>k_is)
    (case pI=>k_is)
    (case u7=>k_is)
    (case u9=>k_is)
    (case ua=>k_is)
    (case uc=>k_is)
    (case kQ=>k_is)
    (case kR=>k_is)
    (case kT=>k_is)
    (case kU=>k_is)
    (case nt=>k_is)
    (case nu=>k_is)
    (case nv=>k_is)
    (case ny=>k_is)
    (case pJ=>k_is)
    (case pK=>k_is)
    (case pM=>k_is)
    (case pN=>k_is)
    (case ud=>k_is)
    (case uf=>k_is)
    (case ug=>k_is)
    (case uh=>k_is)
    (case A8=>k_is)
    (case A9=>k_is)
    (case Aa=>k_is)
    (case Ab=>k_is)
    (case kW=>k_is)
    (case kX=>k_is)
    (case kY=>k_is)
    (case kZ=>k_is)
    (case l0=>k_is)
    (case l6=>k_is)
    (case l7=>k_is)
    (case l8=>k_is)
    (case nB=>k_is)
    (case nC=>k_is)
    (case nD=>k_is)
    (case nE=>k_is)
    (case l9=>k_is)
    (case lq=>k_is)
    (case lB=>k_is)
    (case lC=>k_is)
    (case pO=>k_is)
    (case pP=>k_is)
    (case pQ=>k_is)
    (case pR=>k_is)
    (case jT=>k_is)
    (case jU=>k_is)
    (case jV=>k_is)
    (case jW=>k_is)
    (case rA=>k_is)
    (case rB=>k_is)
    (case rC=>k_is)
    (case rD=>k_is)
    (case nF=>k_is)
    (case nH=>k_is)
    (case nI=>k_is)
    (case nJ=>k_is)
    (case jb=>k_is)
    (case jc=>k_is)
    (case jd=>k_is)
    (case je=>k_is)
    (case jX=>k_is)
    (case jY=>k_is)
    (case jZ=>k_is)
    (case k6=>k_is)
    (case k7=>k_is)
    (case k8=>k_is)
    (case k9=>k_is)
    (case kj=>k_is)
    (case nK=>k_is)
    (case nM=>k_is)
    (case nN=>k_is)
    (case nO=>k_is)
    (case pS=>k_is)
    (case pT=>k_is)
    (case pU=>k_is)
    (case pV=>k_is)
    (case lE=>k_is)
    (case lH=>k_is)
    (case lI=>k_is)
    (case lJ=>k_is)
    (case pW=>k_is)
    (case pX=>k_is)
    (case pY=>k_is)
    (case pZ=>k_is)
    (case nP=>k_is)
    (case nQ=>k_is)
    (case nR=>k_is)
    (case nS=>k_is)
    (case nU=>k_is)
    (case nV=>k_is)
    (case nW=>k_is)
    (case nX=>k_is)
    (case Je=>k_is)
    (case Jf=>k_is)
    (case Jg=>k_is)
    (case Jh=>k_is)
    (case jS=>k_is)
    (case fM=>k_is)
    (case iP=>k_is)
    (case qq=>k_is)
    (case fP=>kernel_rfl)
    (case iQ=>kernel_rfl)
    (case Ji=>k_is)
    (case CY=>k_is)
    (case q8=>k_is)
    (case Jj=>k_is)
    (case nY=>k_is)
    (case Jk=>k_is)
    (case CZ=>k_is)
    (case Ac=>k_is)
    (case Jl=>k_is)
    (case x6=>k_is)
    (case Ad=>k_is)
    (case oX=>k_is)
    (case eX=>k_is)
    (case aI_=>k_is)
    (case iI_=>k_is)
    (case Yb=>k_is)
    (case Yc=>k_is)
    (case Yd=>k_is)
    (case pgB=>k_is)
    (case hdB=>k_is)
    (case poB=>k_is)
    (case saB=>k_is)
    (case QD=>k_is)
    (case kcB=>k_is)
    (case Kl=>k_is)
end Rp
